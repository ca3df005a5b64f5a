import Derived.Test.YtofafbmpbkjhnaaGreatDoorJ15
import Derived.Lib.Overlaps
import Derived.Lib.SliceRun
import Derived.Lib.AppendZerosOnto
import Derived.Laws.IdiomCopy
import Derived.Deep.AppendSrc
namespace Go.Proofs.YtofafbmpbkjhnaaGreatDoor
set_option maxRecDepth 100000
open Go.RowKit
def RowE (w : World) (g : Nat) (e : TypeId) (c : Nat) : Prop := ∃ cur : Array Value, w.heap[g]? = some (.cells cur e (0, 0)) ∧ cur.size = c
theorem RowE.there {w : World} {g c : Nat} {e : TypeId} (h : RowE w g e c) {j : Nat} (hj : j < c) : (w.cell? ⟨g, j, none⟩).isSome = true := by
 obtain ⟨cur, h1, h2⟩ := h
 rw [cell_of_row _ _ _ _ _ _ h1]
 simp [h2, hj]
theorem RowE.free {w : World} {g c : Nat} {e : TypeId} (h : RowE w g e c) (j : Nat) : w.frozen? ⟨g, j, none⟩ = false := by
 obtain ⟨cur, h1, h2⟩ := h
 simp [World.frozen?, h1]
theorem RowE.lt {w : World} {g c : Nat} {e : TypeId} (h : RowE w g e c) : g < w.heap.size := by
 obtain ⟨cur, h1, h2⟩ := h
 exact zah h1
theorem RowE.set {w : World} {g c : Nat} {e : TypeId} (h : RowE w g e c) (j : Nat) (v : Value) : RowE (w.setCell ⟨g, j, none⟩ v) g e c := by
 obtain ⟨cur, h1, h2⟩ := h
 exact ⟨_, zam h1, by simpa using h2⟩
theorem RowE.sets {g c : Nat} {e : TypeId} : ∀ (vs : List Value) (j : Nat) (w : World), RowE w g e c → RowE (w.setCells g j vs) g e c
 | [], _, _, h => h
 | v :: r, j, _, h => RowE.sets r (j + 1) _ (h.set j v)
theorem RowE.drewN {w : World} {g c : Nat} {e : TypeId} (h : RowE w g e c) (q : Nat) : RowE (w.drewN q) g e c := h
theorem RowE.on {w w' : World} {g c : Nat} {e : TypeId} (h : RowE w g e c) (hb : w'.heap[g]? = w.heap[g]?) : RowE w' g e c := by
 obtain ⟨cur, h1, h2⟩ := h
 exact ⟨cur, hb.trans h1, h2⟩
theorem RowE.cell {w : World} {g c : Nat} {e : TypeId} (h : RowE w g e c) (vs : List Value) (o : Nat) (ho : o + vs.length ≤ c) (k : Nat) :
  (w.setCells g o vs).cell? ⟨g, k, none⟩ = if o ≤ k ∧ k < o + vs.length then vs[k - o]? else w.cell? ⟨g, k, none⟩ := by
 by_cases hin : o ≤ k ∧ k < o + vs.length
 ·rw [if_pos hin]
  have := World.cell?_setCells_in g vs o w (fun j hj => h.there (by omega)) (k - o) (by omega)
  rw [show o + (k - o) = k by omega] at this
  rw [this]
  simp
 ·rw [if_neg hin]
  exact World.cell?_setCells_out g vs o w ⟨g, k, none⟩ (fun _ _ => by show k < o ∨ o + vs.length ≤ k; omega)
theorem zap (g : Nat) : ∀ (vs : List Value) (j : Nat) (w : World), w.grownBy (w.setCells g j vs) (some g)
 | [], _, _ => ⟨rfl, rfl, rfl, Lr, fun _ _ _ => rfl⟩
 | v :: r, j, w => by
  have h1 : w.grownBy (w.setCell ⟨g, j, none⟩ v) (some g) := ⟨rfl, rfl, rfl, by simp, fun k _ hk => Below.heap_setCell _ _ _ _ (fun e => hk (by rw [e]))⟩
  have h2 := zap g r (j + 1) (w.setCell ⟨g, j, none⟩ v)
  exact ⟨h2.os.trans h1.os, h2.tape.trans h1.tape, h2.output.trans h1.output, zN h1.size h2.size, fun z hz hne => (h2.block z (zO hz h1.size) hne).trans (h1.block z hz hne)⟩
theorem zau {w w1 w2 : World} {row : Option Nat} (h : w.grownBy w1 row) (k : w1.grownBy w2 row) : w.grownBy w2 row :=
 ⟨k.os.trans h.os, k.tape.trans h.tape, k.output.trans h.output, zN h.size k.size, fun z hz hne => (k.block z (zO hz h.size) hne).trans (h.block z hz hne)⟩
theorem zbp {w w1 : World} {row : Option Nat} (h : w.grownBy w1 row) : w.grownBy w1.drew row := ⟨h.os, h.tape, h.output, h.size, h.block⟩
theorem zby (w : World) (row : Option Nat) : w.grownBy w row := ⟨rfl, rfl, rfl, Lr, fun _ _ _ => rfl⟩
theorem RowE.own {w : World} {g c n B : Nat} {e : TypeId} {xs : List Value} (h : RowE w g e c) (hc : c ≤ maxLen) (hB : B ≤ g) (hn : n ≤ c) (hx : xs.length = n) (hcell : ∀ i v, xs[i]? = some v → w.cell? ⟨g, i, none⟩ = some v) : w.ownsRow B e 1 (.slice (some ⟨g, 0, none⟩) n c) n xs := by
 obtain ⟨cur, h1, h2⟩ := h
 refine ⟨by omega, .inr ⟨g, c, cur, rfl, hB, h1, hn, hc, by omega, ?_⟩⟩
 rw [Nat.mul_one]
 apply List.ext_getElem?
 intro i
 by_cases hi : i < n
 ·have e1 : xs[i]? = some (xs[i]'(by omega)) := zI _
  have := hcell i _ e1
  rw [cell_of_row _ _ _ _ _ _ h1] at this
  rw [List.getElem?_take_of_lt hi, e1, ← this]
  simp
 ·rw [List.getElem?_eq_none (by simp; omega), List.getElem?_eq_none (by omega)]
theorem zan {w : World} {B n g c : Nat} {e : TypeId} {xs : List Value} (h : w.ownsRow B e 1 (.slice (some ⟨g, 0, none⟩) n c) n xs) : RowE w g e c ∧ B ≤ g ∧ n ≤ c ∧ c ≤ maxLen ∧ xs.length = n ∧ ∀ i v, xs[i]? = some v → w.cell? ⟨g, i, none⟩ = some v := by
 have hl := h.1
 rcases h.2 with ⟨e1, _⟩ | ⟨g', cap, cur, e1, h1, h2, h3, h4, h5, h6⟩
 ·injection e1 with e1 _ _
  cases e1
 ·injection e1 with e1 _ e3
  injection e1 with e1
  injection e1 with e1 _ _
  subst e1
  subst e3
  refine ⟨⟨cur, h2, by omega⟩, h1, h3, h4, by omega, fun i v hv => ?_⟩
  have := h.cellAt i (by have := (zH.1 hv).1; omega)
  rw [this, hv]
theorem moved {xs ys : List Value} {n m i j : Nat} (hx : xs.length = n) (hy : ys.length = m) (hij : i ≤ j) (hj : j ≤ n) {f : Nat → Option Value}
  (h1 : ∀ k, k < i → f k = xs[k]?) (h2 : ∀ k, k < m → f (i + k) = ys[k]?) (h3 : ∀ k, k < n - j → f (i + m + k) = xs[j + k]?) : ∀ k v, (xs.take i ++ ys ++ xs.drop j)[k]? = some v → f k = some v := by
 intro k v hv
 have hti : (xs.take i).length = i := by simp; omega
 by_cases hk : k < i
 ·rw [zM, zL (by omega), List.getElem?_take_of_lt hk] at hv
  rw [h1 k hk, hv]
 ·by_cases hk2 : k < i + m
  ·rw [zM, List.getElem?_append_right (by omega), hti, zL (by omega)] at hv
   have := h2 (k - i) (by omega)
   rw [show i + (k - i) = k by omega] at this
   rw [this, hv]
  ·have hlt := (zH.1 hv).1
   rw [zM, List.getElem?_append_right (by omega), hti, List.getElem?_append_right (by omega), List.getElem?_drop, hy] at hv
   have hkl : k < i + m + (n - j) := by simp at hlt; omega
   have := h3 (k - i - m) (by omega)
   rw [show i + m + (k - i - m) = k by omega] at this
   rw [this, hv]
theorem zde {xs ys : List Value} {n m i j : Nat} (hx : xs.length = n) (hy : ys.length = m) (hij : i ≤ j) (hj : j ≤ n) : (xs.take i ++ ys ++ xs.drop j).length = i + m + (n - j) := by
 simp
 omega
theorem copy_wp {ops : Array Oper} {rest : List Oper} {o : Oper} {a : Act} {w : World} {Q : Exit → Act → World → Prop} (hgd : o.guard = none) (d s : Operand) (t t' : TypeId)
  (ho : o.op = .call { callee := .builtin .copy, args := #[d, s], argTypes := #[t, t'] }) (v u : Value) (hd : a.eval d = v) (hs : a.eval s = u) {v' : Value} {w' : World}
  (hr : (Builtin.copy_ #[t, t'] o.type #[v, u]).run Tryz.prog w = .ok v' w') (h : wpList Tryz.prog ops Q rest (a.put o.dst v') w') : wpList Tryz.prog ops Q (o :: rest) a w := by
 refine wpList_plain hgd fun K hK => ?_
 unfold Oper.wp execOp
 simp only [ho, resolve, invoke, builtin, Sem.run_bind, Sem.run_pure, Result.andThen_ok, List.map_toArray, List.map_cons, List.map_nil, hd, hs, hr]
 exact hK _ _ h
theorem copy_step {ops : Array Oper} {o : Oper} {a : Act} {w : World} {K : Act → World → Prop} {Q : Exit → Act → World → Prop} {E : Prop}
  (hg : o.guard = none) (d x : Operand) (dT sT : TypeId) (hop : o.op = Op.call { callee := Callee.builtin Builtin.copy, args := #[d, x], argTypes := #[dT, sT] })
  (v u : Value) (hd : a.eval d = v) (hx : a.eval x = u) {v' : Value} {w' : World} (hr : (Builtin.copy_ #[dT, sT] o.type #[v, u]).run Tryz.prog w = .ok v' w') (hK : K (a.put o.dst v') w') :
  if Region.wanted o (yielded ops a.tmps) = true then Oper.wp Tryz.prog o a w K Q else E := by
 have hw : Region.wanted o (yielded ops a.tmps) = true := by simp [Region.wanted, hg]
 rw [if_pos hw]
 unfold Oper.wp
 simp [execOp, hop, resolve, invoke, builtin, hd, hx, hr, Result.andThen]
 exact hK
theorem zcj {ops : Array Oper} {rest : List Oper} {o : Oper} {a : Act} {w : World} {Q : Exit → Act → World → Prop} (hgd : o.guard = none) (s x : Operand) (t1 t2 : TypeId)
  (ho : o.op = .call { callee := .builtin .append, args := #[s, x], argTypes := #[t1, t2] }) (v u : Value) (hs : a.eval s = v) (hx : a.eval x = u) {v' : Value} {w' : World}
  (hr : (Builtin.append_ #[t1, t2] o.type #[v, u]).run Tryz.prog w = .ok v' w') (h : wpList Tryz.prog ops Q rest (a.put o.dst v') w') : wpList Tryz.prog ops Q (o :: rest) a w := by
 refine wpList_plain hgd fun K hK => ?_
 unfold Oper.wp execOp
 simp only [ho, resolve, invoke, builtin, Sem.run_bind, Sem.run_pure, Result.andThen_ok, List.map_toArray, List.map_cons, List.map_nil, hs, hx, hr]
 exact hK _ _ h
theorem zbk {ops : Array Oper} {rest : List Oper} {o : Oper} {a : Act} {w : World} {Q : Exit → Act → World → Prop} (hgd : o.guard = none) (d : Operand) (t : TypeId)
  (ho : o.op = .call { callee := .builtin .clear, args := #[d], argTypes := #[t] }) (v : Value) (hd : a.eval d = v) {v' : Value} {w' : World}
  (hr : (Builtin.clear_ #[t] o.type #[v]).run Tryz.prog w = .ok v' w') (h : wpList Tryz.prog ops Q rest (a.put o.dst v') w') : wpList Tryz.prog ops Q (o :: rest) a w := by
 refine wpList_plain hgd fun K hK => ?_
 unfold Oper.wp execOp
 simp only [ho, resolve, invoke, builtin, Sem.run_bind, Sem.run_pure, Result.andThen_ok, List.map_toArray, List.map_cons, List.map_nil, hd, hr]
 exact hK _ _ h
theorem clear_none (w : World) (t e ty : TypeId) (ht : Tryz.prog.underlying t = some (.slice e)) (a : Option Addr) (c : Nat) : (Builtin.clear_ #[t] ty #[.slice a 0 c]).run Tryz.prog w = .ok (.tuple #[]) w := by
 cases a <;> simp [Builtin.clear_, run_underlying ht]
end Go.Proofs.YtofafbmpbkjhnaaGreatDoor
