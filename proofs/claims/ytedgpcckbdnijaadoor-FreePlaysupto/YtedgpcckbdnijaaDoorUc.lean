/- A list of package free in memory: its block; row.set, row.least. -/
import Derived.Test.YtedgpcckbdnijaaDoorUa
import Derived.Test.YtedgpcckbdnijaaDoorUb
namespace Go.Proofs.YtedgpcckbdnijaaDoor
open Go.RowKit Go.Maps

/-- The cells of a List: the map of what is kept, 1024 words, the marks, the last mark's number. -/
def lsC (m : Nat) (W : Nat → Nat) (mv : Value) (last : Int) : List Value := .map (some m) :: ((List.range 1024).map (fun i => Value.int .u64 (W i : Int)) ++ [mv, .int .i64 last])
set_option maxRecDepth 100000 in
theorem lsC_len (m : Nat) (W : Nat → Nat) (mv : Value) (last : Int) : (lsC m W mv last).length = 1027 := by
  unfold lsC
  rw [List.length_cons, List.length_append, List.length_map, List.length_range]
  rfl
set_option maxRecDepth 100000 in
theorem lsC_map (m : Nat) (W : Nat → Nat) (mv : Value) (last : Int) : (lsC m W mv last)[0]? = some (.map (some m)) := rfl
set_option maxRecDepth 100000 in
theorem lsC_word (m : Nat) (W : Nat → Nat) (mv : Value) (last : Int) (i : Nat) (hi : i < 1024) : (lsC m W mv last)[1 + i]? = some (.int .u64 (W i : Int)) := by
  unfold lsC
  rw [Nat.add_comm, List.getElem?_cons_succ, List.getElem?_append_left (by rw [List.length_map, List.length_range]; exact hi), List.getElem?_map, List.getElem?_range hi]
  rfl
set_option maxRecDepth 100000 in
theorem lsC_marks (m : Nat) (W : Nat → Nat) (mv : Value) (last : Int) : (lsC m W mv last)[1025]? = some mv := by
  unfold lsC
  rw [show (1025 : Nat) = 1024 + 1 from rfl, List.getElem?_cons_succ, List.getElem?_append_right (by rw [List.length_map, List.length_range]; exact Nat.le_refl _), List.length_map, List.length_range]
  rfl
set_option maxRecDepth 100000 in
theorem lsC_last (m : Nat) (W : Nat → Nat) (mv : Value) (last : Int) : (lsC m W mv last)[1026]? = some (.int .i64 last) := by
  unfold lsC
  rw [show (1026 : Nat) = 1025 + 1 from rfl, List.getElem?_cons_succ, List.getElem?_append_right (by rw [List.length_map, List.length_range]; decide), List.length_map, List.length_range]
  rfl
set_option maxRecDepth 100000 in
theorem lsC_out (m : Nat) (W : Nat → Nat) (mv : Value) (last : Int) (i : Nat) (hi : 1027 ≤ i) : (lsC m W mv last)[i]? = none := List.getElem?_eq_none (by rw [lsC_len]; exact hi)
set_option maxRecDepth 100000 in
theorem idx_cases (i : Nat) : i = 0 ∨ (∃ k, k < 1024 ∧ i = 1 + k) ∨ i = 1025 ∨ i = 1026 ∨ 1027 ≤ i := by
  by_cases h : i = 0
  · exact .inl h
  · by_cases h2 : i ≤ 1024
    · exact .inr (.inl ⟨i - 1, by omega, by omega⟩)
    · omega
set_option maxRecDepth 100000 in
theorem lsC_ext {m' : Nat} {W' : Nat → Nat} {mv' : Value} {last' : Int} {l : List Value} (h0 : l[0]? = some (.map (some m'))) (h1 : ∀ i, i < 1024 → l[1 + i]? = some (.int .u64 (W' i : Int))) (h2 : l[1025]? = some mv') (h3 : l[1026]? = some (.int .i64 last')) (h4 : l.length = 1027) : l = lsC m' W' mv' last' := by
  apply List.ext_getElem?
  intro i
  rcases idx_cases i with rfl | ⟨k, hk, rfl⟩ | rfl | rfl | h
  · rw [h0, lsC_map]
  · rw [h1 k hk, lsC_word _ _ _ _ _ hk]
  · rw [h2, lsC_marks]
  · rw [h3, lsC_last]
  · rw [lsC_out _ _ _ _ _ h, List.getElem?_eq_none (by omega)]
set_option maxRecDepth 100000 in
theorem lsC_setw (m : Nat) (W : Nat → Nat) (mv : Value) (last : Int) (k x : Nat) (hk : k < 1024) : (lsC m W mv last).set (1 + k) (.int .u64 (x : Int)) = lsC m (fun i => if i = k then x else W i) mv last := by
  refine lsC_ext ?_ ?_ ?_ ?_ (by rw [List.length_set, lsC_len])
  · rw [List.getElem?_set_ne (by omega), lsC_map]
  · intro i hi
    by_cases e : i = k
    · subst e
      rw [List.getElem?_set_self (by rw [lsC_len]; omega)]
      simp
    · rw [List.getElem?_set_ne (by omega), lsC_word _ _ _ _ _ hi, if_neg e]
  · rw [List.getElem?_set_ne (by omega), lsC_marks]
  · rw [List.getElem?_set_ne (by omega), lsC_last]
set_option maxRecDepth 100000 in
theorem lsC_setm (m : Nat) (W : Nat → Nat) (mv mv' : Value) (last : Int) : (lsC m W mv last).set 1025 mv' = lsC m W mv' last := by
  refine lsC_ext ?_ ?_ ?_ ?_ (by rw [List.length_set, lsC_len])
  · rw [List.getElem?_set_ne (by omega), lsC_map]
  · intro i hi
    rw [List.getElem?_set_ne (by omega), lsC_word _ _ _ _ _ hi]
  · rw [List.getElem?_set_self (by rw [lsC_len]; omega)]
  · rw [List.getElem?_set_ne (by omega), lsC_last]
set_option maxRecDepth 100000 in
theorem lsC_setl (m : Nat) (W : Nat → Nat) (mv : Value) (last last' : Int) : (lsC m W mv last).set 1026 (.int .i64 last') = lsC m W mv last' := by
  refine lsC_ext ?_ ?_ ?_ ?_ (by rw [List.length_set, lsC_len])
  · rw [List.getElem?_set_ne (by omega), lsC_map]
  · intro i hi
    rw [List.getElem?_set_ne (by omega), lsC_word _ _ _ _ _ hi]
  · rw [List.getElem?_set_ne (by omega), lsC_marks]
  · rw [List.getElem?_set_self (by rw [lsC_len]; omega)]
/-- THE BLOCK OF A LIST. -/
def Lb (w : World) (b m : Nat) (W : Nat → Nat) (mv : Value) (last : Int) : Prop := w.heap[b]? = some (.cells (lsC m W mv last).toArray 63 (0, 0))
section
variable {w u : World} {b m : Nat} {W : Nat → Nat} {mv : Value} {last : Int}
set_option maxRecDepth 100000 in
theorem Lb.lt (h : Lb w b m W mv last) : b < w.heap.size := lt_some h
set_option maxRecDepth 100000 in
theorem Lb.cf {F : Nat → Prop} (h : Lb w b m W mv last) (hc : Cf F w u) (hb : ¬ F b) : Lb u b m W mv last := (hc.block b h.lt hb).trans h
set_option maxRecDepth 100000 in
theorem Lb.on (h : Lb w b m W mv last) (hb : Below w.heap.size w u) : Lb u b m W mv last := (hb.block b h.lt).trans h
set_option maxRecDepth 100000 in
theorem Lb.c0 (h : Lb w b m W mv last) : w.cell? ⟨b, 0, none⟩ = some (.map (some m)) := by
  rw [cell_of_row _ _ 0 _ _ _ h, List.getElem?_toArray, lsC_map]
set_option maxRecDepth 100000 in
theorem Lb.cw (h : Lb w b m W mv last) (i : Nat) (hi : i < 1024) : w.cell? ⟨b, 1 + i, none⟩ = some (.int .u64 (W i : Int)) := by
  rw [cell_of_row _ _ _ _ _ _ h, List.getElem?_toArray, lsC_word _ _ _ _ _ hi]
set_option maxRecDepth 100000 in
theorem Lb.cm (h : Lb w b m W mv last) : w.cell? ⟨b, 1025, none⟩ = some mv := by
  rw [cell_of_row _ _ _ _ _ _ h, List.getElem?_toArray, lsC_marks]
set_option maxRecDepth 100000 in
theorem Lb.cl (h : Lb w b m W mv last) : w.cell? ⟨b, 1026, none⟩ = some (.int .i64 last) := by
  rw [cell_of_row _ _ _ _ _ _ h, List.getElem?_toArray, lsC_last]
set_option maxRecDepth 100000 in
theorem Lb.fz (h : Lb w b m W mv last) (i : Nat) : w.frozen? ⟨b, i, none⟩ = false := by
  unfold Lb at h
  simp [World.frozen?, h]
set_option maxRecDepth 100000 in
theorem Lb.setw (h : Lb w b m W mv last) (k x : Nat) (hk : k < 1024) : Lb (w.setCell ⟨b, 1 + k, none⟩ (.int .u64 (x : Int))) b m (fun i => if i = k then x else W i) mv last := by
  unfold Lb at *
  rw [set_row h, lsC_setw _ _ _ _ _ _ hk]
set_option maxRecDepth 100000 in
theorem Lb.setm (h : Lb w b m W mv last) (mv' : Value) : Lb (w.setCell ⟨b, 1025, none⟩ mv') b m W mv' last := by
  unfold Lb at *
  rw [set_row h, lsC_setm]
set_option maxRecDepth 100000 in
theorem Lb.setl (h : Lb w b m W mv last) (last' : Int) : Lb (w.setCell ⟨b, 1026, none⟩ (.int .i64 last')) b m W mv last' := by
  unfold Lb at *
  rw [set_row h, lsC_setl]
end
end Go.Proofs.YtedgpcckbdnijaaDoor
