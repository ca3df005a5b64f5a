/- The cache: New; room in a cache that holds less than it may; a first page is held. -/
import Derived.Test.YtmelhpghpcpoiabCa
import Derived.Carry
namespace Go.Proofs.Ytmelhpghpcpoiab
open Go.RowKit Go.Maps

set_option maxRecDepth 100000 in
theorem al_row (u : World) (o : Obj) : (u.alloc o).heap[u.heap.size]? = some o := by
  show (u.heap.push o)[u.heap.size]? = some o
  simp
set_option maxRecDepth 100000 in
theorem cNew_no (w : World) (p : Option Addr) (k : Int) (h : p = none ∨ k < 1 ∨ 4096 < k) : Calls Try.prog 6 #[.pointer p, .int .i64 k] w fun e u => e = .returned (.pointer none) ∧ u = w := by
  cases p with
  | none =>
    go_enter Try.func6, Try.ntmps6
    go_wp2
    go_ret
    exact ⟨rfl, rfl⟩
  | some q =>
    by_cases h1 : k < 1
    · go_enter Try.func6, Try.ntmps6
      go_wp2
      go_ret
      exact ⟨rfl, rfl⟩
    · have h2 : 4096 < k := by
        rcases h with h | h | h
        · cases h
        · omega
        · exact h
      go_enter Try.func6, Try.ntmps6
      go_wp2
      go_ret
      exact ⟨rfl, rfl⟩
/-- A new cache of k frames over the device at a. -/
def NewIs (w : World) (a : Nat) (k : Int) (e : Ending) (u : World) : Prop :=
  ∃ c m, e = .returned (pt c) ∧ w.heap.size ≤ c ∧ w.heap.size ≤ m ∧ c ≠ m ∧ Hs u c (cC a k m (.pointer none) (.pointer none) 0 0 0) tC ∧ MapIs u m 0 (.map []) ∧ Below w.heap.size w u
set_option maxRecDepth 100000 in
theorem newIs (w : World) (a : Nat) (k : Int) : NewIs w a k (.returned (pt (w.heap.size + 1))) ((w.alloc (.map #[] 0)).alloc (.cells (cC a k w.heap.size (.pointer none) (.pointer none) 0 0 0).toArray tC)) := by
  have e1 : (w.alloc (.map #[] 0)).heap.size = w.heap.size + 1 := by simp
  refine ⟨w.heap.size + 1, w.heap.size, rfl, by omega, by omega, by omega, ?_, World.ownsMap.alloc (World.ownsMap_made w _ _ _) _, ((Below.refl _ w).alloc (Nat.le_refl _) _).alloc (by rw [e1]; omega) _⟩
  have := al_row (w.alloc (.map #[] 0)) (.cells (cC a k w.heap.size (.pointer none) (.pointer none) 0 0 0).toArray tC)
  rw [e1] at this
  exact this
set_option maxRecDepth 100000 in
theorem cNew_yes (w : World) (a : Nat) (k : Int) (h1 : ¬ k < 1) (h2 : ¬ 4096 < k) : Calls Try.prog 6 #[pt a, .int .i64 k] w fun e u => NewIs w a k e u := by
  have hmm := @run_makeMap Try.prog
  go_enter Try.func6, Try.ntmps6
  go_wp2
  go_ret
  exact newIs w a k

set_option maxRecDepth 100000 in
/-- While a frame is empty no page has to go. -/
theorem leaver_room (w : World) (c a : Nat) (fr h mi ev : Int) (m nn : Nat) (D : DataW Unit) (o y : Value) (hc : Hs w c (cC a fr m o y h mi ev) tC) (hm : MapIs w m nn D) (hlt : (Maps.size D : Int) < fr) :
    Calls Try.prog 31 #[pt c] w fun e u => e = .returned (.tuple #[.pointer none, .int .i64 0]) ∧ u = w.drew := by
  have c1 : w.cell? ⟨c, 1, none⟩ = some (.int .i64 fr) := hc.cell 1
  have c2 : w.cell? ⟨c, 2, none⟩ = some (.map (some m)) := hc.cell 2
  have hl := len_is (w := w.drew) hm
  clear hc hm
  go_enter Try.func31, Try.ntmps31
  go_wp2
  go_region
  go_wp2
  go_ret2
  exact ⟨rfl, rfl⟩
set_option maxRecDepth 100000 in
theorem evict_nil (w : World) (c : Nat) : Calls Try.prog 32 #[pt c, .pointer none] w fun e u => e = .returned (.int .i64 0) ∧ u = w := by
  go_enter Try.func32, Try.ntmps32
  go_wp2
  go_ret
  exact ⟨rfl, rfl⟩
set_option maxRecDepth 100000 in
theorem makeRoom_room (w : World) (c a : Nat) (fr h mi ev : Int) (m nn : Nat) (D : DataW Unit) (o y : Value) (hc : Hs w c (cC a fr m o y h mi ev) tC) (hm : MapIs w m nn D) (hlt : (Maps.size D : Int) < fr) :
    Calls Try.prog 21 #[pt c] w fun e u => e = .returned (.int .i64 0) ∧ u = w.drew := by
  have h1 := leaver_room w c a fr h mi ev m nn D o y hc hm hlt
  have h2 := evict_nil w.drew c
  go_enter Try.func21, Try.ntmps21
  go_wp2_with (first
    | (go_at_call 31; refine h1.mono ?_; rintro e u ⟨rfl, rfl⟩)
    | (go_at_call 32; refine same_call h2 ?_))
  go_ret
  exact ⟨rfl, rfl⟩
/-- The first page that is held. -/
def HoldIs (w : World) (c a : Nat) (fr h mi ev : Int) (m : Nat) (n : Int) (b : Value) (e : Ending) (u : World) : Prop :=
  ∃ L, e = .returned (pt L) ∧ w.heap.size ≤ L ∧ L < u.heap.size ∧ Hs u c (cC a fr m (pt L) (pt L) h mi ev) tC ∧ Hs u L (cL n b false 0 (.pointer none) (.pointer none)) tL ∧ MapIs u m 1 ((DataW.map []).put (.int .i64 n) (.lit (.int .i64 (L : Int)))) ∧ Ch (fun k => k = c ∨ k = m) w u
set_option maxRecDepth 100000 in
theorem hold_first (w : World) (c a : Nat) (fr h mi ev : Int) (m : Nat) (n : Int) (ao : Option Addr) (bn bc : Nat) (hn : (Lit.int .i64 n).wf = true) (hc : Hs w c (cC a fr m (.pointer none) (.pointer none) h mi ev) tC) (hm : MapIs w m 0 (.map [])) (hne : c ≠ m) :
    Calls Try.prog 22 #[pt c, .int .i64 n, .slice ao bn bc] w fun e u => HoldIs w c a fr h mi ev m n (.slice ao bn bc) e u := by
  have c2 : w.cell? ⟨c, 2, none⟩ = some (.map (some m)) := hc.cell 2
  have HC := hidden hc
  have hmlt := World.ownsMap.lt hm
  have hclt := hc.lt
  have hown : MapIs (w.alloc (.cells (cL n (.slice ao bn bc) false 0 (.pointer none) (.pointer none)).toArray tL)) m 0 (.map []) := World.ownsMap.alloc hm _
  have HO := hidden hown
  clear hc hm hown
  go_enter Try.func22, Try.ntmps22
  go_wp2_with (at_mapUpdate; refine wpList_mapUpdate_own _ rfl _ _ _ 51 rfl 3 52 kI Try.underlying51 mR m 0 _ rfl HO.out (by unfold maxLen; omega) _ _ _ rfl rfl (keyOf_int_mk Try.underlying3 hn) _ [] (mR_mk w.heap.size) ?_)
  intro w1 hown1 hg1
  have hmL : m ≠ w.heap.size := by omega
  have hcL : c ≠ w.heap.size := by omega
  have hc1 : Hs w1 c (cC a fr m (.pointer none) (.pointer none) h mi ev) tC := (hg1.block c (Nat.lt_of_lt_of_le hclt (by simp)) (fun e => hne (by cases e; rfl))).trans ((Below.heap_alloc _ _ _ hclt).trans HC.out)
  have hl1 : Hs w1 w.heap.size (cL n (.slice ao bn bc) false 0 (.pointer none) (.pointer none)) tL := (hg1.block w.heap.size (by simp) (fun e => hmL (by cases e; rfl))).trans (al_row _ _)
  have hk1 : Ch (fun k => k = c ∨ k = m) w w1 := (Ch.alloc _ w _).trans (Ch.grown (F := fun k => k = c ∨ k = m) hg1 fun k e => by cases e; exact .inr rfl) fun _ _ h => h
  have h2 := add_nil w1 c w.heap.size a fr h mi ev m _ n (.slice ao bn bc) false 0 _ _ hc1 hl1 hcL
  have z1 : w.heap.size < w1.heap.size := hl1.lt
  have HM := hidden hown1
  have HK := hidden hk1
  clear hown1 hg1 hc1 hl1 hk1 HO HC c2
  generalize hL : w.heap.size = L at *
  go_wp2_with (go_at_call 33; refine h2.mono ?_; rintro e w2 ⟨rfl, c2, l2, k2, s2⟩)
  go_ret
  refine ⟨L, rfl, by omega, by omega, c2, l2, MapIs.ch HM.out k2 (by omega), HK.out.trans k2 fun k hk h => ?_⟩
  omega
end Go.Proofs.Ytmelhpghpcpoiab
