/- espalierlaw02.lent: items in memory of their own. -/
import Derived.Test.YtpiijmionafmcaaGreatDoorLentI
import Derived.Deep.RegionWith
namespace Go.Proofs.YtpiijmionafmcaaGreatDoor
open Go.RowKit

set_option maxRecDepth 100000 in
theorem Its.len_sz : ∀ a : Its, a.len ≤ a.sz
  | .nil => by simp [Its.len]
  | .cons _ _ _ s r => by have := Its.len_sz r; simp only [Its.len, Its.sz]; omega

set_option maxRecDepth 100000 in
theorem oneItem (k n : Int) (t : ByteArray) (so : Option Addr) (m c : Nat) : (#[.int .i64 k, .int .i64 n, .string t, .slice so m c] : Array Value).all (·.oneCell') = true :=
  all_oneCell_toArray (cs := [.int .i64 k, .int .i64 n, .string t, .slice so m c]) (by simp [Value.oneCell'])
set_option maxRecDepth 100000 in
/-- The store of an item. -/
theorem put_item {ops : Array Oper} {rest : List Oper} {o : Oper} {a : Act} {w : World} {Q : Exit → Act → World → Prop} (hgd : o.guard = none) (p v : Operand)
    (ho : o.op = .store 36 p v) (b j N : Nat) (k n : Int) (t : ByteArray) (so : Option Addr) (m c : Nat) (hr : RowB w b N) (hp : a.eval p = .pointer (some ⟨b, j, none⟩)) (hv : a.eval v = .agg #[.int .i64 k, .int .i64 n, .string t, .slice so m c]) (hj : j + 4 ≤ 4 * N)
    (h : ∀ u, Hid (u = w.setCells b j [.int .i64 k, .int .i64 n, .string t, .slice so m c]) → wpList Tryz.prog ops Q rest (a.put o.dst undef) u) : wpList Tryz.prog ops Q (o :: rest) a w :=
  store_item hgd p v ho b j N _ _ _ _ hp hv hr hj (oneItem ..) (h _ (hidden rfl))

/-- How the row stands behind k rounds. -/
structure LentR (w wr : World) (a : Its) (n k : Nat) : Prop where
  hb : Below w.heap.size w wr
  hr : RowB wr w.heap.size (n + 2)
  hl : (a.take k).Ln wr w.heap.size 0 (w.heap.size + 1) wr.heap.size

set_option maxRecDepth 100000 in
theorem LentR.put {w wr u : World} {a : Its} {n k j : Nat} {x0 x1 x2 x3 : Value} (h : LentR w wr a n k) (hk : k ≤ a.len) (hj : 4 * k ≤ j) (e : u = wr.setCells w.heap.size j [x0, x1, x2, x3]) : LentR w u a n k := by
  subst e
  refine ⟨h.hb.trans sets_below, RowB.sets _ _ _ h.hr, ?_⟩
  have hs : (wr.setCells w.heap.size j [x0, x1, x2, x3]).heap.size = wr.heap.size := by simp [World.setCells]
  rw [hs]
  refine Its.Ln.keep _ _ _ _ _ h.hl (fun i _ h2 => sets_out fun _ => ?_) (fun i h1 h2 => World.heap_setCells_other _ _ _ _ h2 (by omega))
  rw [Its.take_len _ _ hk] at h2
  left
  simpa using (by omega : i < j)

set_option maxRecDepth 100000 in
theorem lent_step {w u w2 v : World} {a : Its} {n k : Nat} {ka na : Int} {ta : ByteArray} {sa ra : Its} {o : Obj} {sl : Value} (h : LentR w u a n k) (hk : k < n) (hla : a.len = n) (e1 : a.drop k = .cons ka na ta sa ra)
    (hS : LentS w2 sa (u.heap.size + 1) w2.heap.size) (hB : Below (u.heap.size + 1) (u.alloc o) w2) (hlt : w.heap.size < u.heap.size)
    (e : v = (w2.setCell ⟨u.heap.size, 3, none⟩ sl).setCells w.heap.size (k * 4) [.int .i64 ka, .int .i64 na, .string ta, .slice (some ⟨u.heap.size + 1, 0, none⟩) sa.len (sa.len + 2)]) : LentR w v a n (k + 1) := by
  subst e
  generalize hvs : [Value.int .i64 ka, .int .i64 na, .string ta, .slice (some ⟨u.heap.size + 1, 0, none⟩) sa.len (sa.len + 2)] = vs
  have hs : ((w2.setCell ⟨u.heap.size, 3, none⟩ sl).setCells w.heap.size (k * 4) vs).heap.size = w2.heap.size := by rw [← hvs]; simp [World.setCells]
  have hz : u.heap.size + 1 ≤ w2.heap.size := by have := hB.size; simpa using this
  have hu : ∀ i, i < u.heap.size → (w2.setCell ⟨u.heap.size, 3, none⟩ sl).heap[i]? = u.heap[i]? := by
    intro i hi
    rw [Below.heap_setCell _ _ _ _ (by show i ≠ u.heap.size; omega), hB.block i (by omega)]
    exact Below.heap_alloc u o i hi
  have hr : RowB (w2.setCell ⟨u.heap.size, 3, none⟩ sl) w.heap.size (n + 2) := h.hr.same (hu _ hlt)
  have hb2 : Below w.heap.size w (w2.setCell ⟨u.heap.size, 3, none⟩ sl) :=
    ((h.hb.alloc (by omega) o).trans (hB.mono (by omega))).setCell (by show w.heap.size ≤ u.heap.size; omega) _
  obtain ⟨d0, d1, d2, d3⟩ := sets_in (x0 := .int .i64 ka) (x1 := .int .i64 na) (x2 := .string ta) (x3 := .slice (some ⟨u.heap.size + 1, 0, none⟩) sa.len (sa.len + 2)) hr (show k * 4 + 4 ≤ 4 * (n + 2) by omega)
  rw [hvs] at d0 d1 d2 d3
  have e4 : 0 + 4 * k = k * 4 := by omega
  refine ⟨hb2.trans (by rw [← hvs]; exact sets_below), RowB.sets _ _ _ hr, ?_⟩
  rw [hs]
  refine Its.Ln.snoc (mid := u.heap.size) (b' := u.heap.size + 1) k a 0 (w.heap.size + 1) e1 ?_ (by rw [e4]; exact d0) (by rw [e4]; exact d1) (by rw [e4]; exact d2) (by rw [e4]; exact d3) (by omega) ?_
  · refine Its.Ln.keep _ _ _ _ _ h.hl (fun i _ h2 => ?_) (fun i h1 h2 => ?_)
    · rw [Its.take_len _ _ (by omega)] at h2
      rw [← hvs, sets_out (fun _ => .inl (by show i < k * 4; omega))]
      exact cell_of_heap (hu _ hlt)
    · rw [World.heap_setCells_other _ _ _ _ (by simp; omega) (by omega), hu i h2]
  · refine hS.keep fun i h1 h2 => ?_
    rw [World.heap_setCells_other _ _ _ _ (by simp; omega) (by omega), Below.heap_setCell _ _ _ _ (by show i ≠ u.heap.size; omega)]

end Go.Proofs.YtpiijmionafmcaaGreatDoor
