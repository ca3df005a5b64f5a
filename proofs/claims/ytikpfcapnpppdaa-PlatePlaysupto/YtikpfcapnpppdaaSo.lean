/- Write of both. -/
import Derived.Test.YtikpfcapnpppdaaSf
import Derived.Test.YtikpfcapnpppdaaJh
namespace Go.Proofs.Ytikpfcapnpppdaa
open Go.RowKit

/-- The blocks F, and those that are new. -/
def Fn (F : Nat → Prop) (w u : World) (k : Nat) : Prop := F k ∨ (w.heap.size ≤ k ∧ k < u.heap.size)
/-- The bytes l lie at an address of a block that is not of F. -/
structure Src (w : World) (F : Nat → Prop) (gb ob : Nat) (l : List Int) : Prop where
  cs : ∀ j v, (By l)[j]? = some v → w.cell? ((⟨gb, ob, none⟩ : Addr).add j) = some v
  nf : ¬ F gb
  lt : gb < w.heap.size
set_option maxRecDepth 100000 in
theorem write_both {d : D} {r : R} (F G : Nat → Prop) (pa ra t : Nat) (n : Int) (l : List Int) (hwf : Wf l) (h : Tw d r) (ht : t < 4398046511103) (n2 : d.loose.length ≤ t) (n4 : 0 ≤ d.cw ∧ d.cw ≤ t) (n6 : d.armed = true → 0 ≤ d.left ∧ d.left ≤ 9223372036854775807) :
    ∃ (ec : Int) (d' : D) (r' : R), Tw d' r' ∧ d'.loose.length ≤ t + 1 ∧ d'.cr = d.cr ∧ d'.cs = d.cs ∧ (0 ≤ d'.cw ∧ d'.cw ≤ d.cw + 1) ∧ (d'.armed = true → 0 ≤ d'.left ∧ d'.left ≤ 9223372036854775807)
      ∧ (∀ w gb ob c, Dv w F pa d → (∀ k, F k → k < w.heap.size) → Src w F gb ob l → Calls Try.prog 16 #[.pointer (some ⟨pa, 0, none⟩), .int .i64 n, .slice (some ⟨gb, ob, none⟩) l.length c] w fun e u => e = .returned (.int .i64 ec) ∧ Dv u (Fn F w u) pa d' ∧ Ch F w u)
      ∧ (∀ w gb ob c, Rv w G ra r → (∀ k, G k → k < w.heap.size) → Src w G gb ob l → Calls Try.prog 29 #[.pointer (some ⟨ra, 0, none⟩), .int .i64 n, .slice (some ⟨gb, ob, none⟩) l.length c] w fun e u => e = .returned (.int .i64 ec) ∧ Rv u (Fn G w u) ra r' ∧ Ch G w u) := by
  have stay : ∀ w, Dv w F pa d → Dv w (Fn F w w) pa d := fun w hD => hD.keep (fun _ f _ => .inl f) (Nat.le_refl _) fun _ _ _ => rfl
  have rstay : ∀ w, Rv w G ra r → Rv w (Fn G w w) ra r := fun w hR => hR.keep_ (fun _ f _ => .inl f) (Nat.le_refl _) fun _ _ _ => rfl
  by_cases he : refu d n = 0
  · have hdn : d.down = false := by
      unfold refu at he
      cases hd : d.down
      · rfl
      · rw [hd] at he; simp at he
    have hn : 0 ≤ n ∧ n < d.pages := by
      unfold refu at he
      rw [hdn] at he
      simp only [Bool.false_eq_true, if_false] at he
      split at he
      · cases he
      · omega
    obtain ⟨m, rfl⟩ : ∃ m : Nat, n = (m : Int) := ⟨n.toNat, by omega⟩
    have hm : m < d.pages := by omega
    have hrd : r.down = false := h.down.trans hdn
    have hrm : m < r.L.length := by rw [h.pages]; exact hm
    by_cases hlen : l.length = d.page
    · have hlr : l.length = r.page := by rw [h.page]; exact hlen
      have hcw0 : 0 ≤ r.cw := by rw [h.cw]; exact n4.1
      have hcw1 : r.cw < 4611686018427387904 := by rw [h.cw]; omega
      have hwl : r.wild.length < 4398046511103 := by rw [h.wild]; omega
      have hw := h.wrote hm hlen
      have ll : (d.wrote m l).loose.length ≤ t + 1 := by show (d.loose ++ [_]).length ≤ _; simp; omega
      cases har : d.armed
      case false =>
        refine ⟨0, d.wrote m l, _, hw, ll, rfl, rfl, ⟨by show 0 ≤ d.cw + 1; omega, Int.le_refl _⟩, (fun e => by rw [show (d.wrote m l).armed = d.armed from rfl, har] at e; cases e), fun w gb ob c hD hF hs => ?_, fun w gb ob c hR hG hs => ?_⟩
        · rw [hlen]
          exact Write_calm w F pa d m gb ob c l hD he hm hlen hwf hs.cs hs.nf hs.lt n4.1 (by omega) (by omega) hF har
        · rw [hlr]
          exact rWrite_go w G ra r m gb ob c l hR hrd hrm hlr hwf hs.cs hs.nf hs.lt hcw0 hcw1 hwl false { r with cw := r.cw + 1 } rfl rfl rfl (fun u hu => (rfails_not u G ra _ hu (h.armed.trans har)).mono (by rintro e u' ⟨rfl, rfl⟩; exact ⟨rfl, hu, Ch.refl _ _, rfl⟩)) _ (fun _ u h1 h2 => ⟨rfl, h1, h2⟩) (fun e => by cases e)
      case true =>
        obtain ⟨l0, l1⟩ := n6 har
        have hacts : r.acts = d.left := (h.plan har).1
        by_cases hl : 0 < d.left
        · refine ⟨0, { d.wrote m l with left := (d.wrote m l).left - 1 }, _, hw.less har, ll, rfl, rfl, ⟨by show 0 ≤ d.cw + 1; omega, Int.le_refl _⟩, fun _ => ⟨by show 0 ≤ d.left - 1; omega, by show d.left - 1 ≤ _; omega⟩, fun w gb ob c hD hF hs => ?_, fun w gb ob c hR hG hs => ?_⟩
          · rw [hlen]
            refine Write_yes w F pa d m gb ob c l hD he hm hlen hwf hs.cs hs.nf hs.lt n4.1 (by omega) (by omega) hF _ fun u hu hc => ?_
            refine (fails_more u _ pa _ hu har hl l1).mono ?_
            rintro e u' ⟨rfl, g1, g2, g3⟩
            refine ⟨false, rfl, rfl, g1.keep (fun k hk _ => ?_) (Nat.le_refl _) (fun _ _ _ => rfl), hc.trans g2 fun k hk e => ?_⟩
            · rcases hk with hk | hk
              · exact .inl hk
              · exact .inr ⟨hk.1, by omega⟩
            · rcases e with e | e
              · exact e
              · omega
          · rw [hlr]
            exact rWrite_go w G ra r m gb ob c l hR hrd hrm hlr hwf hs.cs hs.nf hs.lt hcw0 hcw1 hwl false { r with cw := r.cw + 1, acts := r.acts - 1 } rfl rfl rfl (fun u hu => rfails_more u G ra _ hu (h.armed.trans har) (by show 0 < r.acts; omega) (by show r.acts ≤ _; omega)) _ (fun _ u h1 h2 => ⟨rfl, h1, h2⟩) (fun e => by cases e)
        · have hl0 : d.left = 0 := by omega
          obtain ⟨_, p2, p3, p4⟩ := h.plan har
          refine ⟨3, (d.wrote m l).fallen d.keep d.torn d.tat, _, hw.fallen d.keep d.torn d.tat, Nat.zero_le _, rfl, rfl, ⟨by show 0 ≤ d.cw + 1; omega, Int.le_refl _⟩, (fun e => by cases e), fun w gb ob c hD hF hs => ?_, fun w gb ob c hR hG hs => ?_⟩
          · rw [hlen]
            refine Write_yes w F pa d m gb ob c l hD he hm hlen hwf hs.cs hs.nf hs.lt n4.1 (by omega) (by omega) hF _ fun u hu hc => ?_
            refine (fails_now u _ pa _ hu (fun k hk => ?_) har hl0).mono ?_
            · rcases hk with hk | hk
              · exact Nat.lt_of_lt_of_le (hF k hk) hc.size
              · exact hk.2
            · rintro e u' ⟨rfl, g1, g2⟩
              refine ⟨true, rfl, rfl, g1.keep (fun k hk _ => ?_) (Nat.le_refl _) (fun _ _ _ => rfl), hc.trans g2 fun k hk e => ?_⟩
              · rcases hk with hk | hk
                · exact .inl hk
                · exact .inr ⟨hk.1, Nat.lt_of_lt_of_le hk.2 g2.size⟩
              · rcases e with e | e
                · exact e
                · omega
          · rw [hlr]
            refine rWrite_go w G ra r m gb ob c l hR hrd hrm hlr hwf hs.cs hs.nf hs.lt hcw0 hcw1 hwl true { r with cw := r.cw + 1 } rfl rfl rfl (fun u hu => (rfails_now u G ra _ hu (h.armed.trans har) (by show r.acts = 0; omega)).mono (by rintro e u' ⟨rfl, rfl⟩; exact ⟨rfl, hu, Ch.refl _ _, rfl⟩)) _ (fun e => by cases e) (fun _ u h1 h2 ao kn kc c6 => ?_)
            refine (rfall_own u _ ra _ h1 (fun k hk => ?_) ao kn kc c6).mono ?_
            · rcases hk with hk | hk
              · exact Nat.lt_of_lt_of_le (hG k hk) h2.size
              · exact hk.2
            · rintro e u' ⟨rfl, g1, g2⟩
              refine ⟨rfl, rfl, ?_, h2.trans g2 fun k hk e => ?_⟩
              · rw [← p2, ← p3, ← p4]
                refine g1.keep_ (fun k hk _ => ?_) (Nat.le_refl _) (fun _ _ _ => rfl)
                rcases hk with hk | hk
                · exact .inl hk
                · exact .inr ⟨hk.1, Nat.lt_of_lt_of_le hk.2 g2.size⟩
              · rcases e with e | e
                · exact e
                · omega
    · refine ⟨31, d, r, h, by omega, rfl, rfl, ⟨n4.1, by omega⟩, n6, fun w gb ob c hD hF hs => ?_, fun w gb ob c hR hG hs => ?_⟩
      · refine (Write_size w F pa d m _ _ c hD he hlen).mono ?_
        rintro e u ⟨rfl, rfl⟩
        exact ⟨rfl, stay _ hD, Ch.refl _ _⟩
      · refine (rWrite_size w G ra r m _ _ c hR hrd hrm (by rw [h.page]; exact hlen)).mono ?_
        rintro e u ⟨rfl, rfl⟩
        exact ⟨rfl, rstay _ hR, Ch.refl _ _⟩
  · refine ⟨refu d n, d, r, h, by omega, rfl, rfl, ⟨n4.1, by omega⟩, n6, fun w gb ob c hD hF hs => ?_, fun w gb ob c hR hG hs => ?_⟩
    · refine (Write_no w F pa d n _ _ c hD _ rfl he).mono ?_
      rintro e u ⟨rfl, rfl⟩
      exact ⟨rfl, stay _ hD, Ch.refl _ _⟩
    · refine (rWrite_no w G ra r n _ _ c hR _ (h.refu n) he).mono ?_
      rintro e u ⟨rfl, rfl⟩
      exact ⟨rfl, rstay _ hR, Ch.refl _ _⟩
end Go.Proofs.Ytikpfcapnpppdaa
