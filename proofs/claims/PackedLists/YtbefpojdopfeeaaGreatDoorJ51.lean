/- What a row's list of variables gives: the table of package ink lies in the world's first block. -/
import Derived.Test.YtbefpojdopfeeaaGreatDoorCards
import Derived.Test.YtbefpojdopfeeaaGreatDoorTie
import Derived.Test.YtbefpojdopfeeaaGreatDoorJ49
import Derived.WalkKit
import Derived.ProofKit
import Derived.OpenShut
import Derived.Deep.DeepHandedRow
import Derived.Lib.LaidTab
import Derived.ChangeArms
import Derived.DataElems
import Derived.SizedLaws
import Derived.KernelRfl
import Derived.WideShapes
namespace Go.Proofs.YtbefpojdopfeeaaGreatDoor
open Go.ChangeShapes Go.WideShapes Go.ChangeAt Go.RowKit

set_option maxRecDepth 100000 in
theorem own : ownKnob Tryz.prog.godebug = none := by kernel_rfl
set_option maxRecDepth 100000 in
theorem gTab : Tryz.prog.globalNamed "espalier/ink.steps" = some 0 := by kernel_rfl
set_option maxRecDepth 100000 in
theorem gTabType : (Tryz.prog.globals[0]?).map (·.type) = some 154 := by kernel_rfl
set_option maxRecDepth 100000 in
theorem cellsR : Tryz.prog.cellsOf 153 = 16 := by kernel_rfl
set_option maxRecDepth 100000 in
theorem cellsU : Tryz.prog.cellsOf 112 = 1 := by kernel_rfl
def rowZ (i : Nat) : List Int := ((tabN.drop (16 * i)).take 16).map fun (x : Nat) => (x : Int)
set_option maxRecDepth 100000 in
theorem laid_eq {H : Type} : (Rows.laid_espalier_ink_steps : DataW H) = .agg ((List.range 8).map fun i => Lib.tabData .u32 (rowZ i)) := by kernel_rfl
set_option maxRecDepth 100000 in
theorem rowZ_at (i r : Nat) (hi : i < 8) (hr : r < 16) : (rowZ i)[r]? = some ((tN (16 * i + r) : Nat) : Int) := by
  have h : ∀ (a : Fin 8) (b : Fin 16), (rowZ a.val)[b.val]? = some ((tN (16 * a.val + b.val) : Nat) : Int) := by decide +kernel
  exact h ⟨i, hi⟩ ⟨r, hr⟩
set_option maxRecDepth 100000 in
theorem tab_of_laid {W : World} (h : laidMetH Tryz.prog [("espalier/ink.steps", Rows.laid_espalier_ink_steps)] W) : Tab W := by
  have h' : laidMet Tryz.prog [("espalier/ink.steps", Rows.laid_espalier_ink_steps)] W := h
  obtain ⟨ps, ⟨g', t', cs, fuel, p, q, hg', ht', hvar, hd, _, _⟩, _⟩ := h'
  obtain rfl := Option.some.inj (gTab.symm.trans hg')
  obtain rfl := Option.some.inj (gTabType.symm.trans ht')
  obtain ⟨xs, m, _, hx, _, hxl, hat⟩ := DataW.trod_array Tryz.underlying154 hd
  rw [laid_eq] at hx
  have hxs : (List.range 8).map (fun i => Lib.tabData .u32 (rowZ i)) = xs.map (·.1) := by
    have := congrArg Prod.fst hx
    simpa using this
  rw [cellsR] at hat
  intro j hj
  have e : j = 16 * (j / 16) + j % 16 := by omega
  have hi : j / 16 < 8 := by omega
  have hr : j % 16 < 16 := by omega
  generalize j / 16 = i at *
  generalize j % 16 = r at *
  subst e
  have hxi : xs[i]? = some xs[i] := List.getElem?_eq_getElem (by omega)
  have hfst : xs[i].1 = Lib.tabData .u32 (rowZ i) := by
    have := congrArg (·[i]?) hxs
    simpa [hi, hxl] using this.symm
  have hrow := hat i hi
  rw [hxi] at hrow
  have hc := Lib.cells_of_tab (zs := rowZ i) (p := xs[i].2) (k := .u32) Tryz.underlying153 Tryz.underlying112 cellsU cellsR (hrow.trans (by rw [← hfst]))
  have hcj : cs[16 * i + r]? = some (.int .u32 (tN (16 * i + r))) := by
    have h1 := congrArg (·[r]?) hc
    simp only [List.getElem?_map, rowZ_at i r hi hr, Option.map_some] at h1
    rw [List.getElem?_take_of_lt hr, List.getElem?_drop] at h1
    rw [Nat.mul_comm i 16] at h1
    simpa using h1
  have := World.var?_cell gTab hvar (16 * i + r)
  rw [this]
  simpa using hcj
set_option maxRecDepth 100000 in
theorem laidOut : laidOutB Tryz.prog = true := by kernel_rfl
end Go.Proofs.YtbefpojdopfeeaaGreatDoor

/- From a row's readings to what the walks ask: slices of bytes and of cells that came in. -/

namespace Go.Proofs.YtbefpojdopfeeaaGreatDoor
open Go.ChangeShapes Go.WideShapes Go.ChangeAt Go.RowKit

set_option maxRecDepth 100000 in
theorem bytesU8 : Tryz.prog.bytesOf 5 = 1 := by kernel_rfl
set_option maxRecDepth 100000 in
theorem cells5 : Tryz.prog.cellsOf 5 = 1 := by kernel_rfl
set_option maxRecDepth 100000 in
theorem cellsSl : Tryz.prog.cellsOf 37 = 1 := by kernel_rfl
set_option maxRecDepth 100000 in
/-- One slice of bytes, off its cells. -/
theorem open_cells {H : Type} {enc : TypeId × Value → H} {W : World} {sp : Nat → Bool} {held : Bool} {fuel : Nat} {cs : List Value} {d : DataW H} {p : List MemPlace}
    (hf : DataW.trod enc Tryz.prog W 0 sp held fuel 37 cs = some (d, p)) (hsz : ∀ elems spare, d = .slice elems spare → (elems.length + spare.length) * Tryz.prog.bytesOf 5 ≤ reachBytes) :
    ∃ a n c l, cs = [.slice a n c] ∧ Sl W a n c l ∧ n ≤ 140737488351232 := by
  rcases open_ints Tryz.underlying37 Tryz.underlying5 cells5 hf with ⟨hcs, hx⟩ | ⟨x, len, cap, zs, hcs, _, hl, hm, hz, hx, hcell, hwz⟩
  · exact ⟨none, 0, 0, [], hcs, ⟨rfl, Nat.le_refl _, by omega, Wf.nil, fun _ => rfl, .inl rfl⟩, by omega⟩
  · obtain rfl : d = .slice (lits .u8 (zs.take len)) (lits .u8 (zs.drop len)) := congrArg Prod.fst hx
    have hzl : len ≤ zs.length := by rw [hz]; split <;> omega
    have h1 := hsz _ _ rfl
    rw [bytesU8] at h1
    simp only [lits, List.length_map, List.length_take, List.length_drop, reachBytes] at h1
    have hb : len ≤ 140737488351232 := by omega
    refine ⟨some x, len, cap, zs.take len, hcs, ⟨by simp; omega, hl, by omega, fun y hy => bounds_u8 (hwz y (List.mem_of_mem_take hy)), (by intro h; cases h), ?_⟩, hb⟩
    by_cases h0 : len = 0
    · exact .inl h0
    · obtain ⟨b, off, spot⟩ := x
      have hc := hcell 0 (by omega)
      have hspot : spot = none := by simpa [Addr.add] using World.cell?_spot hc
      subst hspot
      refine .inr ⟨b, off, rfl, World.block_lt_of_cell? W _ (by simpa [Addr.add] using hc), fun i hi => ?_⟩
      have h2 := hcell i (by omega)
      rw [Addr.add_lit] at h2
      rw [h2]
      simp [List.getD, hi]
set_option maxRecDepth 100000 in
theorem weights_part {H : Type} {t : TypeId} {d : DataW H} {n : Nat} : ∀ {ds : List (DataW H)}, d ∈ ds → n ∈ d.weights Tryz.prog t → n ∈ DataW.weightsAll Tryz.prog t ds
  | [], h, _ => by cases h
  | x :: ds, h, hn => by
    simp only [DataW.weightsAll, List.mem_append]
    rcases List.mem_cons.1 h with rfl | h
    · exact .inl hn
    · exact .inr (weights_part h hn)
set_option maxRecDepth 100000 in
theorem cellsCell : Tryz.prog.cellsOf 39 = 5 := by kernel_rfl
set_option maxRecDepth 100000 in
theorem cellsInt : Tryz.prog.cellsOf 3 = 1 := by kernel_rfl
end Go.Proofs.YtbefpojdopfeeaaGreatDoor
