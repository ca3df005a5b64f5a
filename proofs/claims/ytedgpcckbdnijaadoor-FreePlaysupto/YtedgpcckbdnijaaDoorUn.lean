/- slices.Backward over marks: what it hands to a loop. -/
import Derived.Test.YtedgpcckbdnijaaDoorUk
import Derived.RangeFuncNested
import Derived.RangeFuncBound
import Derived.RangeFuncCalls
import Derived.RangeFuncLeaves
import Derived.Shelf.Abstract
import Derived.Shelf.RegionOpen
import Derived.OwnWalkIn
import Derived.TacticsInMore
import Derived.LoopNIn
import Derived.LoopIn
import Derived.Maps.OwnIn
namespace Go.Proofs.YtedgpcckbdnijaaDoor
open Go.RowKit Go.Maps Go.Shelf

attribute [local go_sem] Oper.semAt_some

/-- A mark at its place of the marks from 'at' on. -/
abbrev Mi (M : List Mq) (t : Nat) := { x : Nat × Mq // M[t + x.1]? = some x.2 }
def miV (M : List Mq) (t : Nat) (x : Mi M t) : Array Value := #[.int .i64 (x.1.1 : Int), .agg #[.int .i64 x.1.2.n, .map (some x.1.2.b)]]
set_option maxRecDepth 100000 in
theorem cell_lt {w : World} {a : Addr} {v : Value} (h : w.cell? a = some v) : a.block < w.heap.size := by
  rcases Nat.lt_or_ge a.block w.heap.size with h' | h'
  · exact h'
  · simp [World.cell?, Array.getElem?_eq_none h'] at h
/-- From the last down, k of them. -/
def dnL (n k : Nat) : List Nat := (List.range k).map (fun j => n - 1 - j)
set_option maxRecDepth 100000 in
theorem dnL_succ (n k : Nat) : dnL n (k + 1) = dnL n k ++ [n - 1 - k] := by simp [dnL, List.range_succ]
set_option maxRecDepth 100000 in
set_option maxHeartbeats 2000000 in
theorem back1_in (l Bs g cap n t : Nat) (M : List Mq) (hn : t + n = M.length) (hN : M.length ≤ 9223372036854775807) (Kp : World → World → Prop) (hKg : ∀ A B : World, Kp A B → Bs < A.heap.size → g < A.heap.size → B.cell? ⟨Bs, 0, none⟩ = A.cell? ⟨Bs, 0, none⟩ ∧ ∀ i, B.cell? ⟨g, i, none⟩ = A.cell? ⟨g, i, none⟩) (J Jx : List (Mi M t) → World → Prop)
    (hY : ∀ pre x W, J pre W → pre.length < n → YieldAt Fence.wide (9 - 1) Tryd.prog l (miV M t x) W fun e W' => (e = .returned (.bool true) ∧ J (pre ++ [x]) W' ∧ Kp W W') ∨ (e = .returned (.bool false) ∧ Jx (pre ++ [x]) W'))
    (W : World) (hBs : W.cell? ⟨Bs, 0, none⟩ = some (.slice (some ⟨g, t * 2, none⟩) n cap)) (hc : ∀ (i : Nat) (q : Mq), M[i]? = some q → W.cell? ⟨g, i * 2, none⟩ = some (.int .i64 q.n) ∧ W.cell? ⟨g, i * 2 + 1, none⟩ = some (.map (some q.b))) (h0 : J [] W) :
    CallsIn Fence.wide 9 Tryd.prog 62 #[.func (.yield l) #[] #[], .pointer (some ⟨Bs, 0, none⟩)] W fun e W' => (∃ v, e = .returned v) ∧
      ((∃ ys : List (Mi M t), ys.map (fun x => x.1.1) = dnL n n ∧ J ys W') ∨ (∃ pre, True ∧ Jx pre W')) := by
  refine callsIn_of_wp Tryd.func62 rfl trivial ?_ rfl
  simp only [Tryd.ntmps62, List.size_toArray, List.length_cons, List.length_nil, Nat.reduceAdd, Nat.reduceSub, Array.replicate_succ, Array.replicate_zero, List.push_toArray, List.append_toArray, List.nil_append, List.cons_append]
  have hnI : (n : Int) ≤ 9223372036854775807 := by omega
  gi_wp2
  gi_loopw [3] (fun i wr => ∃ (r : Nat) (pre : List (Mi M t)), r ≤ n ∧ i = .int .i64 ((r : Int) - 1) ∧ Hid (pre.map (fun x => x.1.1) = dnL n (n - r)) ∧ pre.length = n - r ∧ Hid (J pre wr) ∧ Hid (wr.cell? ⟨Bs, 0, none⟩ = W.cell? ⟨Bs, 0, none⟩ ∧ ∀ i, wr.cell? ⟨g, i, none⟩ = W.cell? ⟨g, i, none⟩)) (fun i _ => ((RowKit.intOf i) + 1).toNat)
  case atStart => exact ⟨n, [], Nat.le_refl _, rfl, hidden (by simp [dnL]), by simp, hidden h0, hidden ⟨rfl, fun _ => rfl⟩⟩
  case round =>
    obtain ⟨r, pre, hr, rfl, HP, hpl, HJ, HK⟩ := hrel
    cases r with
    | zero =>
      gi_wp2
      go_end0
      exact ⟨⟨_, rfl⟩, .inl ⟨pre, by simpa using HP.out, HJ.out⟩⟩
    | succ r =>
      obtain ⟨q, hq⟩ : ∃ q, M[t + r]? = some q := ⟨_, List.getElem?_eq_getElem (by omega)⟩
      obtain ⟨d1, d2⟩ := hc _ _ hq
      have hB := HK.out.1.trans hBs
      have e1 : wr.cell? ⟨g, t * 2 + r * 2, none⟩ = some (.int .i64 q.n) := by rw [HK.out.2, show t * 2 + r * 2 = (t + r) * 2 by omega]; exact d1
      have e2 : wr.cell? ⟨g, t * 2 + r * 2 + 1, none⟩ = some (.map (some q.b)) := by rw [HK.out.2, show t * 2 + r * 2 = (t + r) * 2 by omega]; exact d2
      obtain ⟨fn, tmps, assign, body, hy, hR⟩ := hY pre ⟨(r, q), hq⟩ wr HJ.out (by omega)
      unfold miV at hy
      dsimp only at hy
      have hri : (r : Int) < (n : Int) := by omega
      have hge : ¬ ((r : Int) + 1 - 1 < 0) := by omega
      clear hY hc hBs d1 d2
      gi_wp2
      refine hR.mono ?_
      rintro e W3 (⟨rfl, hJ3, hk3⟩ | ⟨rfl, hJx3⟩)
      · have HJ3 := hidden hJ3
        have hkk := hKg _ _ hk3 (cell_lt hB) (cell_lt e1)
        have HK3 : Hid (W3.cell? ⟨Bs, 0, none⟩ = W.cell? ⟨Bs, 0, none⟩ ∧ ∀ i, W3.cell? ⟨g, i, none⟩ = W.cell? ⟨g, i, none⟩) := hidden ⟨hkk.1.trans HK.out.1, fun i => (hkk.2 i).trans (HK.out.2 i)⟩
        clear hJ3 hk3 hKg hkk
        gi_wp2
        go_roundw
        case rel => exact ⟨r, pre ++ [⟨(r, q), hq⟩], by omega, by go_num, hidden (by
          rw [List.map_append, HP.out, show n - r = (n - (r + 1)) + 1 by omega, dnL_succ]
          congr 1
          simp
          omega), by rw [List.length_append, hpl]; simp; omega, HJ3, HK3⟩
        case measure => simp [RowKit.intOf]
      · gi_wp2
        refine bodyPost_ret (results_none rfl _ _ _) rfl ?_
        exact ⟨⟨_, rfl⟩, .inr ⟨_, trivial, hJx3⟩⟩
set_option maxRecDepth 100000 in
theorem back_made (ao : Option Addr) (n cap : Nat) (w : World) : Calls Tryd.prog 40 #[.slice ao n cap] w fun e u => e = .returned (.func (.func 62) #[] #[.pointer (some ⟨w.heap.size, 0, none⟩)]) ∧ u = w.alloc (.cells #[.slice ao n cap] 61) := by
  go_enter Tryd.func40, Tryd.ntmps40
  go_wp2
  go_ret
  exact ⟨rfl, rfl⟩
end Go.Proofs.YtedgpcckbdnijaaDoor
