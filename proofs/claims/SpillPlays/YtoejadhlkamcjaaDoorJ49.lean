import Derived.Test.YtoejadhlkamcjaaDoorCards
import Derived.Test.YtoejadhlkamcjaaDoorTie
import Derived.Test.YtoejadhlkamcjaaDoorJ21
import Derived.WalkKit
import Derived.ProofKit
import Derived.OpenShut
import Derived.Deep.DeepHandedRow
import Derived.Lib.LaidTab
import Derived.ChangeArms
import Derived.DataElems
import Derived.SizedLaws
import Derived.KernelRfl
import Derived.WideShapes
namespace Go.Proofs.YtoejadhlkamcjaaDoor
set_option maxRecDepth 100000
open Go.ChangeShapes Go.WideShapes Go.ChangeAt Go.RowKit
theorem own : ownKnob Tryd.prog.godebug = none := by kernel_rfl
theorem gTab : Tryd.prog.globalNamed "espalier/ink.steps" = some 0 := by kernel_rfl
theorem gTabType : (Tryd.prog.globals[0]?).map (·.type) = some 103 := by kernel_rfl
theorem cellsR : Tryd.prog.cellsOf 102 = 16 := by kernel_rfl
theorem cellsU : Tryd.prog.cellsOf 84 = 1 := by kernel_rfl
def rowZ (i : Nat) : List Int := ((tabN.drop (16 * i)).take 16).map fun (x : Nat) => (x : Int)
theorem laid_eq {H : Type} : (Rows.laid_espalier_ink_steps : DataW H) = .agg ((List.range 8).map fun i => Lib.tabData .u32 (rowZ i)) := by kernel_rfl
theorem rowZ_at (i r : Nat) (hi : i < 8) (hr : r < 16) : (rowZ i)[r]? = some ((tN (16 * i + r) : Nat) : Int) := by
 have h : ∀ (a : Fin 8) (b : Fin 16), (rowZ a.val)[b.val]? = some ((tN (16 * a.val + b.val) : Nat) : Int) := by decide +kernel
 exact h ⟨i, hi⟩ ⟨r, hr⟩
theorem tab_of_laid {W : World} (h : laidMetH Tryd.prog [("espalier/ink.steps", Rows.laid_espalier_ink_steps)] W) : Tab W := by
 have h' : laidMet Tryd.prog [("espalier/ink.steps", Rows.laid_espalier_ink_steps)] W := h
 obtain ⟨ps, ⟨g', t', cs, fuel, p, q, hg', ht', hvar, hd, _, _⟩, _⟩ := h'
 obtain rfl := Option.some.inj (gTab.symm.trans hg')
 obtain rfl := Option.some.inj (gTabType.symm.trans ht')
 obtain ⟨xs, m, _, hx, _, hxl, hat⟩ := DataW.trod_array Tryd.underlying103 hd
 rw [laid_eq] at hx
 have hxs : (List.range 8).map (fun i => Lib.tabData .u32 (rowZ i)) = xs.map (·.1) := by
  have := congrArg Prod.fst hx
  simpa using this
 rw [cellsR] at hat
 intro j hj
 have e : j = 16 * (j / 16) + j % 16 := by omega
 have hi : j / 16 < 8 := by omega
 have hr : j % 16 < 16 := by omega
 generalize j / 16 = i at *
 generalize j % 16 = r at *
 subst e
 have hxi : xs[i]? = some xs[i] := List.getElem?_eq_getElem (by omega)
 have hfst : xs[i].1 = Lib.tabData .u32 (rowZ i) := by
  have := congrArg (·[i]?) hxs
  simpa [hi, hxl] using this.symm
 have hrow := hat i hi
 rw [hxi] at hrow
 have hc := Lib.cells_of_tab (zs := rowZ i) (p := xs[i].2) (k := .u32) Tryd.underlying102 Tryd.underlying84 cellsU cellsR (hrow.trans (by rw [← hfst]))
 have hcj : cs[16 * i + r]? = some (.int .u32 (tN (16 * i + r))) := by
  have h1 := congrArg (·[r]?) hc
  simp only [List.getElem?_map, rowZ_at i r hi hr, Option.map_some] at h1
  rw [List.getElem?_take_of_lt hr, List.getElem?_drop] at h1
  rw [Nat.mul_comm i 16] at h1
  simpa using h1
 have := World.var?_cell gTab hvar (16 * i + r)
 rw [this]
 simpa using hcj
theorem laidOut : laidOutB Tryd.prog = true := by kernel_rfl
end Go.Proofs.YtoejadhlkamcjaaDoor

namespace Go.Proofs.YtoejadhlkamcjaaDoor
set_option maxRecDepth 100000
open Go.ChangeShapes Go.WideShapes Go.ChangeAt Go.RowKit
theorem bytesU8 : Tryd.prog.bytesOf 5 = 1 := by kernel_rfl
theorem cells5 : Tryd.prog.cellsOf 5 = 1 := by kernel_rfl
end Go.Proofs.YtoejadhlkamcjaaDoor

namespace Go.Proofs.YtoejadhlkamcjaaDoor
set_option maxRecDepth 100000
open Go.ChangeShapes Go.WideShapes Go.ChangeAt Go.RowKit
theorem cellsSl : Tryd.prog.cellsOf 33 = 1 := by kernel_rfl
theorem open_cells {H : Type} {enc : TypeId × Value → H} {W : World} {sp : Nat → Bool} {held : Bool} {fuel : Nat} {cs : List Value} {d : DataW H} {p : List MemPlace}
  (hf : DataW.trod enc Tryd.prog W 0 sp held fuel 33 cs = some (d, p)) (hsz : ∀ elems spare, d = .slice elems spare → (elems.length + spare.length) * Tryd.prog.bytesOf 5 ≤ reachBytes) :
  ∃ a n c l, cs = [.slice a n c] ∧ Sl W a n c l ∧ n ≤ 140737488351232 := by
 rcases open_ints Tryd.underlying33 Tryd.underlying5 cells5 hf with ⟨hcs, hx⟩ | ⟨x, len, cap, zs, hcs, _, hl, hm, hz, hx, hcell, hwz⟩
 ·exact ⟨none, 0, 0, [], hcs, ⟨rfl, Nat.le_refl _, by omega, Wf.nil, fun _ => rfl, .inl rfl⟩, by omega⟩
 ·obtain rfl : d = .slice (lits .u8 (zs.take len)) (lits .u8 (zs.drop len)) := congrArg Prod.fst hx
  have hzl : len ≤ zs.length := by rw [hz]; split <;> omega
  have h1 := hsz _ _ rfl
  rw [bytesU8] at h1
  simp only [lits, List.length_map, List.length_take, List.length_drop, reachBytes] at h1
  have hb : len ≤ 140737488351232 := by omega
  refine ⟨some x, len, cap, zs.take len, hcs, ⟨by simp; omega, hl, by omega, fun y hy => bounds_u8 (hwz y (List.mem_of_mem_take hy)), (by intro h; cases h), ?_⟩, hb⟩
  by_cases h0 : len = 0
  ·exact .inl h0
  ·obtain ⟨b, off, spot⟩ := x
   have hc := hcell 0 (by omega)
   have hspot : spot = none := by simpa [Addr.add] using World.cell?_spot hc
   subst hspot
   refine .inr ⟨b, off, rfl, World.block_lt_of_cell? W _ (by simpa [Addr.add] using hc), fun i hi => ?_⟩
   have h2 := hcell i (by omega)
   rw [Addr.add_lit] at h2
   rw [h2]
   simp [List.getD, hi]
end Go.Proofs.YtoejadhlkamcjaaDoor
