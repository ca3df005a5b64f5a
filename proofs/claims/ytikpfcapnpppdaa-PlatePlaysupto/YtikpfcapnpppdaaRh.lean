/- The document's device: Read, fails. -/
import Derived.Test.YtikpfcapnpppdaaRg
namespace Go.Proofs.Ytikpfcapnpppdaa
open Go.RowKit

set_option maxRecDepth 100000 in
theorem Rv.set9 {w : World} {F : Nat → Prop} {a : Nat} {r : R} (h : Rv w F a r) (x : Int) : Rv (w.setCell ⟨a, 9, none⟩ (.int .i64 x)) F a { r with cr := x } := by
  obtain ⟨vL, vW, vK, qs, ha, hr⟩ := h
  exact ⟨vL, vW, vK, qs, heap_setCell_self ha, hr.self (lt_of_some ha) 9 _⟩
set_option maxRecDepth 100000 in
theorem Rv.set10 {w : World} {F : Nat → Prop} {a : Nat} {r : R} (h : Rv w F a r) (x : Int) : Rv (w.setCell ⟨a, 10, none⟩ (.int .i64 x)) F a { r with cw := x } := by
  obtain ⟨vL, vW, vK, qs, ha, hr⟩ := h
  exact ⟨vL, vW, vK, qs, heap_setCell_self ha, hr.self (lt_of_some ha) 10 _⟩
set_option maxRecDepth 100000 in
theorem Rv.set11 {w : World} {F : Nat → Prop} {a : Nat} {r : R} (h : Rv w F a r) (x : Int) : Rv (w.setCell ⟨a, 11, none⟩ (.int .i64 x)) F a { r with cs := x } := by
  obtain ⟨vL, vW, vK, qs, ha, hr⟩ := h
  exact ⟨vL, vW, vK, qs, heap_setCell_self ha, hr.self (lt_of_some ha) 11 _⟩
set_option maxRecDepth 100000 in
theorem Rv.set5 {w : World} {F : Nat → Prop} {a : Nat} {r : R} (h : Rv w F a r) (x : Int) : Rv (w.setCell ⟨a, 5, none⟩ (.int .i64 x)) F a { r with acts := x } := by
  obtain ⟨vL, vW, vK, qs, ha, hr⟩ := h
  exact ⟨vL, vW, vK, qs, heap_setCell_self ha, hr.self (lt_of_some ha) 5 _⟩
set_option maxRecDepth 100000 in
theorem Rv.fa {w : World} {F : Nat → Prop} {a : Nat} {r : R} (h : Rv w F a r) : F a := by
  obtain ⟨vL, vW, vK, qs, ha, hr⟩ := h
  exact hr.fa
set_option maxRecDepth 100000 in
theorem Rv.dr {w : World} {F : Nat → Prop} {a : Nat} {r : R} (h : Rv w F a r) : Rv w.drew F a r := h.keep_ (fun _ f _ => f) (Nat.le_refl _) fun _ _ _ => rfl

set_option maxRecDepth 100000 in
theorem rfails_not (w : World) (F : Nat → Prop) (a : Nat) (r : R) (h : Rv w F a r) (hd : r.armed = false) : Calls Try.prog 52 #[.pointer (some ⟨a, 0, none⟩)] w fun e w' => e = .returned (.bool false) ∧ w' = w := by
  obtain ⟨vL, vW, vK, qs, hc, hf, hr, ha⟩ := h.c
  have c4 : w.cell? ⟨a, 4, none⟩ = some (.bool r.armed) := hc 4
  rw [hd] at c4
  clear hc hf hr ha h
  go_enter Try.func52, Try.ntmps52
  go_wp2
  go_ret
  exact ⟨rfl, rfl⟩
set_option maxRecDepth 100000 in
theorem rfails_now (w : World) (F : Nat → Prop) (a : Nat) (r : R) (h : Rv w F a r) (hd : r.armed = true) (h0 : r.acts = 0) : Calls Try.prog 52 #[.pointer (some ⟨a, 0, none⟩)] w fun e w' => e = .returned (.bool true) ∧ w' = w := by
  obtain ⟨vL, vW, vK, qs, hc, hf, hr, ha⟩ := h.c
  have c4 : w.cell? ⟨a, 4, none⟩ = some (.bool r.armed) := hc 4
  rw [hd] at c4
  have c5 : w.cell? ⟨a, 5, none⟩ = some (.int .i64 r.acts) := hc 5
  rw [h0] at c5
  clear hc hf hr ha h
  go_enter Try.func52, Try.ntmps52
  go_wp2
  go_ret
  exact ⟨rfl, rfl⟩
set_option maxRecDepth 100000 in
theorem rfails_more (w : World) (F : Nat → Prop) (a : Nat) (r : R) (h : Rv w F a r) (hd : r.armed = true) (h0 : 0 < r.acts) (h1 : r.acts ≤ 9223372036854775807) : Calls Try.prog 52 #[.pointer (some ⟨a, 0, none⟩)] w fun e w' => e = .returned (.bool false) ∧ Rv w' F a { r with acts := r.acts - 1 } ∧ Ch F w w' ∧ w'.heap.size = w.heap.size := by
  have H := hidden h
  obtain ⟨vL, vW, vK, qs, hc, hf, hr, ha⟩ := h.c
  have c4 : w.cell? ⟨a, 4, none⟩ = some (.bool r.armed) := hc 4
  rw [hd] at c4
  have c5 : w.cell? ⟨a, 5, none⟩ = some (.int .i64 r.acts) := hc 5
  have f5 := hf 5
  have hne : (r.acts == 0) = false := by simp; omega
  clear hc hf hr ha h
  generalize hA : r.acts = A at *
  go_enter Try.func52, Try.ntmps52
  go_wp2
  go_ret
  exact ⟨rfl, H.out.set5 _, Ch.setCell w H.out.fa _, by simp [World.setCell]⟩

/-- What forbids a Read or a Write. -/
def refR (r : R) (n : Int) : Int := if r.down then 3 else if n < 0 ∨ (r.L.length : Int) ≤ n then 30 else 0

set_option maxRecDepth 100000 in
theorem rRead_no (w : World) (F : Nat → Prop) (a : Nat) (r : R) (n : Int) (h : Rv w F a r) (e : Int) (he : refR r n = e) (h0 : e ≠ 0) : Calls Try.prog 25 #[.pointer (some ⟨a, 0, none⟩), .int .i64 n] w fun e' w' => e' = .returned (.tuple #[.slice none 0 0, .int .i64 e]) ∧ w' = w := by
  obtain ⟨vL, vW, vK, qs, hc, hf, hr, ha⟩ := h.c
  obtain ⟨ao, c, hv, _⟩ := own_val hr.oL
  have c3 : w.cell? ⟨a, 3, none⟩ = some (.bool r.down) := hc 3
  have c1 : w.cell? ⟨a, 1, none⟩ = some (.slice ao r.L.length c) := by rw [← hv]; exact hc 1
  clear hc hf hr ha h hv
  unfold refR at he
  generalize hD : r.down = dn at *
  generalize r.L.length = ps at *
  clear hD
  cases dn
  · simp only [Bool.false_eq_true, if_false] at he
    by_cases h1 : n < 0
    · rw [if_pos (.inl h1)] at he
      subst he
      go_enter Try.func25, Try.ntmps25
      go_wp2
      go_ret2
      exact ⟨rfl, rfl⟩
    · by_cases h2 : (ps : Int) ≤ n
      · rw [if_pos (.inr h2)] at he
        subst he
        go_enter Try.func25, Try.ntmps25
        go_wp2
        go_ret2
        exact ⟨rfl, rfl⟩
      · rw [if_neg (fun h => h.elim h1 h2)] at he
        exact absurd he.symm h0
  · simp only [if_true] at he
    subst he
    go_enter Try.func25, Try.ntmps25
    go_wp2
    go_ret2
    exact ⟨rfl, rfl⟩
set_option maxRecDepth 100000 in
theorem rRead_yes (w : World) (F : Nat → Prop) (a : Nat) (r : R) (n : Nat) (h : Rv w F a r) (hd : r.down = false) (hn : n < r.L.length) (h1 : 0 ≤ r.cr) (h2 : r.cr < 4611686018427387904) : Calls Try.prog 25 #[.pointer (some ⟨a, 0, none⟩), .int .i64 (n : Int)] w fun e' w' => ∃ ao c, e' = .returned (.tuple #[.slice ao r.page c, .int .i64 0]) ∧ Sl w' ao r.page c (rdR r n) ∧ Rv w' F a { r with cr := r.cr + 1 } ∧ Ch F w w' := by
  have H := hidden h
  obtain ⟨vL, vW, vK, qs, hc, hf, hr, ha⟩ := h.c
  obtain ⟨ao, c, hv, _⟩ := own_val hr.oL
  have c3 : w.cell? ⟨a, 3, none⟩ = some (.bool r.down) := hc 3
  rw [hd] at c3
  have c1 : w.cell? ⟨a, 1, none⟩ = some (.slice ao r.L.length c) := by rw [← hv]; exact hc 1
  have c9 : w.cell? ⟨a, 9, none⟩ = some (.int .i64 r.cr) := hc 9
  have f9 := hf 9
  have hni : ¬ ((n : Int) < 0) := by omega
  have hnl : ¬ ((r.L.length : Int) ≤ (n : Int)) := by omega
  have HN := hidden hn
  clear hc hf hr ha h hv hn
  go_enter Try.func25, Try.ntmps25
  have cR : Calls Try.prog 51 #[.pointer (some ⟨a, 0, none⟩), .int .i64 (n : Int)] (w.setCell ⟨a, 9, none⟩ (.int .i64 (r.cr + 1))) fun e w' => ∃ ao c, e = .returned (.slice ao r.page c) ∧ Sl w' ao r.page c (rdR r n) ∧ Below (w.setCell ⟨a, 9, none⟩ (.int .i64 (r.cr + 1))).heap.size (w.setCell ⟨a, 9, none⟩ (.int .i64 (r.cr + 1))) w' := Reading_any _ F a { r with cr := r.cr + 1 } n (H.out.set9 _) HN.out
  go_wp2_with (go_at_call 51; refine cR.mono ?_; rintro e w2 ⟨ao', c', rfl, hs, hb⟩; have HS := hidden hs; have HB := hidden hb; clear hs hb; refine Hid.out ?_)
  apply hidden
  clear cR
  go_wp2
  go_ret2
  exact ⟨ao', c', rfl, HS.out, (H.out.set9 _).on HB.out, (Ch.setCell w H.out.fa _).trans (Ch.of_below (F := F) HB.out) fun _ _ h => h⟩
end Go.Proofs.Ytikpfcapnpppdaa
