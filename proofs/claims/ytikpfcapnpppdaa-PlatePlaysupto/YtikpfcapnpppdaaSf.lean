/- Sync of both. -/
import Derived.Test.YtikpfcapnpppdaaJs
import Derived.Test.YtikpfcapnpppdaaRn
import Derived.Test.YtikpfcapnpppdaaRo
import Derived.Test.YtikpfcapnpppdaaRp
namespace Go.Proofs.Ytikpfcapnpppdaa
open Go.RowKit

set_option maxRecDepth 100000 in
/-- The document's power fails by the plan that lies in the device. -/
theorem rfall_own (u : World) (F : Nat → Prop) (a : Nat) (r : R) (h : Rv u F a r) (hF : ∀ k, F k → k < u.heap.size) (ao : Option Addr) (kn kc : Nat) (c6 : u.cell? ⟨a, 6, none⟩ = some (.slice ao kn kc)) :
    Calls Try.prog 53 #[.pointer (some ⟨a, 0, none⟩), .agg #[.slice ao kn kc, .int .i64 r.torn, .int .i64 r.tat]] u fun e u' => e = .returned (.tuple #[]) ∧ Rv u' F a (r.fallen r.keep r.torn r.tat) ∧ Ch F u u' := by
  obtain ⟨vL, vW, vK, qs, hc, hf, hr, ha⟩ := h.c
  have c6' : u.cell? ⟨a, 6, none⟩ = some vK := hc 6
  rw [c6] at c6'
  injection c6' with c6'
  subst c6'
  obtain ⟨ao', n', c', e, e1, e2, e3⟩ := hr.ke
  injection e with e4 e5 e6
  subst e4 e5 e6
  refine rfall_at u F a r vL vW _ qs ha hr hF ao kn kc r.keep r.torn r.tat ⟨e1, by omega, ?_⟩ ?_
  · rcases e3 with e3 | ⟨g, off, g1, _, _, _, _, _, g7, g8⟩
    · exact .inl e3
    · exact .inr ⟨g, off, g1, g7, g8⟩
  · rcases e3 with e3 | ⟨g, off, g1, _, _, g4, _⟩
    · exact .inl e3
    · refine .inr fun b hb => ?_
      rw [g1] at hb
      injection hb with hb
      subst hb
      exact g4

set_option maxRecDepth 100000 in
theorem rSync_down (w : World) (F : Nat → Prop) (a : Nat) (r : R) (h : Rv w F a r) (hd : r.down = true) : Calls Try.prog 30 #[.pointer (some ⟨a, 0, none⟩)] w fun e w' => e = .returned (.int .i64 3) ∧ w' = w := by
  obtain ⟨vL, vW, vK, qs, hc, hf, hr, ha⟩ := h.c
  have c3 : w.cell? ⟨a, 3, none⟩ = some (.bool r.down) := hc 3
  rw [hd] at c3
  clear hc hf hr ha h
  go_enter Try.func30, Try.ntmps30
  go_wp2
  go_ret
  exact ⟨rfl, rfl⟩

set_option maxRecDepth 100000 in
theorem sync_both {d : D} {r : R} (F G : Nat → Prop) (pa ra t : Nat) (h : Tw d r) (ht : t < 4398046511103) (n2 : d.loose.length ≤ t) (n5 : 0 ≤ d.cs ∧ d.cs ≤ t) (n6 : d.armed = true → 0 ≤ d.left ∧ d.left ≤ 9223372036854775807) :
    ∃ (ec : Int) (d' : D) (r' : R), Tw d' r' ∧ d'.loose.length ≤ t ∧ d'.cr = d.cr ∧ d'.cw = d.cw ∧ (0 ≤ d'.cs ∧ d'.cs ≤ d.cs + 1) ∧ (d'.armed = true → 0 ≤ d'.left ∧ d'.left ≤ 9223372036854775807)
      ∧ (∀ w, Dv w F pa d → (∀ k, F k → k < w.heap.size) → Calls Try.prog 20 #[.pointer (some ⟨pa, 0, none⟩)] w fun e u => e = .returned (.int .i64 ec) ∧ Dv u F pa d' ∧ Ch F w u)
      ∧ (∀ w, Rv w G ra r → (∀ k, G k → k < w.heap.size) → Calls Try.prog 30 #[.pointer (some ⟨ra, 0, none⟩)] w fun e u => e = .returned (.int .i64 ec) ∧ Rv u G ra r' ∧ Ch G w u) := by
  obtain ⟨hc0, hc1⟩ := n5
  cases hd : d.down
  case true =>
    refine ⟨3, d, r, h, n2, rfl, rfl, ⟨hc0, by omega⟩, n6, fun w hD _ => ?_, fun w hR _ => ?_⟩
    · refine (Sync_down w F pa d hD hd).mono ?_
      rintro e u ⟨rfl, rfl⟩
      exact ⟨rfl, hD, Ch.refl _ _⟩
    · refine (rSync_down w G ra r hR (h.down.trans hd)).mono ?_
      rintro e u ⟨rfl, rfl⟩
      exact ⟨rfl, hR, Ch.refl _ _⟩
  case false =>
    have hrd : r.down = false := h.down.trans hd
    have hrc0 : 0 ≤ r.cs := by rw [h.cs]; exact hc0
    have hrc1 : r.cs < 4611686018427387904 := by rw [h.cs]; omega
    cases har : d.armed
    case false =>
      refine ⟨0, d.synced, _, h.synced, Nat.zero_le _, rfl, rfl, ⟨by show 0 ≤ d.cs + 1; omega, Int.le_refl _⟩, (fun e => by rw [show d.synced.armed = d.armed from rfl, har] at e; cases e), fun w hD _ => Sync_calm w F pa d hD hd har hc0 (by omega), fun w hR _ => ?_⟩
      exact rSync_go w G ra r hR hrd hrc0 hrc1 false { r with cs := r.cs + 1 } (fun u hu => (rfails_not u G ra _ hu (h.armed.trans har)).mono (by rintro e u' ⟨rfl, rfl⟩; exact ⟨rfl, hu, Ch.refl _ _, rfl⟩)) _ (fun _ u h1 h2 => ⟨rfl, h1, h2⟩) (fun e => by cases e)
    case true =>
      obtain ⟨l0, l1⟩ := n6 har
      have hacts : r.acts = d.left := (h.plan har).1
      by_cases hl : 0 < d.left
      · refine ⟨0, { ({ d with cs := d.cs + 1, left := d.left - 1 } : D).synced with cs := d.cs + 1 }, _, (h.less har).synced, Nat.zero_le _, rfl, rfl, ⟨by show 0 ≤ d.cs + 1; omega, Int.le_refl _⟩, fun _ => ⟨by show 0 ≤ d.left - 1; omega, by show d.left - 1 ≤ _; omega⟩, fun w hD _ => ?_, fun w hR _ => ?_⟩
        · exact Sync_go w F pa d { d with cs := d.cs + 1, left := d.left - 1 } hD hd hc0 (by omega) fun u hu => (fails_more u F pa _ hu har hl l1).mono (by rintro e u' ⟨rfl, h1, h2, _⟩; exact ⟨rfl, h1, h2⟩)
        · exact rSync_go w G ra r hR hrd hrc0 hrc1 false { r with cs := r.cs + 1, acts := r.acts - 1 } (fun u hu => rfails_more u G ra _ hu (h.armed.trans har) (by show 0 < r.acts; omega) (by show r.acts ≤ _; omega)) _ (fun _ u h1 h2 => ⟨rfl, h1, h2⟩) (fun e => by cases e)
      · have hl0 : d.left = 0 := by omega
        obtain ⟨_, p2, p3, p4⟩ := h.plan har
        have htw : Tw { d with cs := d.cs + 1 } { r with cs := r.cs + 1 } := ⟨h.page, h.pages, h.rows, h.ns, h.wild, h.all, h.nl, h.last, h.down, h.armed, h.plan, h.cr, h.cw, by show r.cs + 1 = d.cs + 1; rw [h.cs]⟩
        refine ⟨3, ({ d with cs := d.cs + 1 } : D).fallen d.keep d.torn d.tat, _, htw.fallen d.keep d.torn d.tat, Nat.zero_le _, rfl, rfl, ⟨by show 0 ≤ d.cs + 1; omega, Int.le_refl _⟩, (fun e => by cases e), fun w hD hF => Sync_fall w F pa d hD hF hd har hl0 hc0 (by omega), fun w hR hG => ?_⟩
        refine rSync_go w G ra r hR hrd hrc0 hrc1 true { r with cs := r.cs + 1 } (fun u hu => (rfails_now u G ra _ hu (h.armed.trans har) (by show r.acts = 0; omega)).mono (by rintro e u' ⟨rfl, rfl⟩; exact ⟨rfl, hu, Ch.refl _ _, rfl⟩)) _ (fun e => by cases e) (fun _ u h1 h2 h3 ao kn kc c6 => ?_)
        refine (rfall_own u G ra _ h1 (fun k hk => by rw [h3]; exact hG k hk) ao kn kc c6).mono ?_
        rintro e u' ⟨rfl, g1, g2⟩
        refine ⟨rfl, rfl, ?_, h2.trans g2 fun _ _ h => h⟩
        rw [← p2, ← p3, ← p4]
        exact g1
end Go.Proofs.Ytikpfcapnpppdaa
