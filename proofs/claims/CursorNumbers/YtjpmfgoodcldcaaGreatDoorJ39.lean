import Derived.Test.YtjpmfgoodcldcaaGreatDoorCards
import Derived.Test.YtjpmfgoodcldcaaGreatDoorTie
import Derived.Test.YtjpmfgoodcldcaaGreatDoorJ38
import Derived.WalkKit
import Derived.ProofKit
import Derived.OpenShut
import Derived.Deep.DeepHandedRow
import Derived.Lib.LaidTab
namespace Go.Proofs.YtjpmfgoodcldcaaGreatDoor
set_option maxRecDepth 100000
open Go.ChangeShapes Go.WideShapes Go.ChangeAt Go.RowKit
theorem own : ownKnob Tryz.prog.godebug = none := by kernel_rfl
theorem gTab : Tryz.prog.globalNamed "espalier/ink.steps" = some 1 := by kernel_rfl
theorem gTabType : (Tryz.prog.globals[1]?).map (·.type) = some 168 := by kernel_rfl
theorem cellsR : Tryz.prog.cellsOf 167 = 16 := by kernel_rfl
theorem cellsU : Tryz.prog.cellsOf 66 = 1 := by kernel_rfl
def rowZ (i : Nat) : List Int := ((tabN.drop (16 * i)).take 16).map fun (x : Nat) => (x : Int)
theorem laid_eq {H : Type} : (Rows.laid_espalier_ink_steps : DataW H) = .agg ((List.range 8).map fun i => Lib.tabData .u32 (rowZ i)) := by kernel_rfl
theorem rowZ_at (i r : Nat) (hi : i < 8) (hr : r < 16) : (rowZ i)[r]? = some ((tN (16 * i + r) : Nat) : Int) := by
 have h : ∀ (a : Fin 8) (b : Fin 16), (rowZ a.val)[b.val]? = some ((tN (16 * a.val + b.val) : Nat) : Int) := by decide +kernel
 exact h ⟨i, hi⟩ ⟨r, hr⟩
theorem tab_of_laid {W : World} (h : laidMetH Tryz.prog [("espalier/ink.steps", Rows.laid_espalier_ink_steps)] W) : Tab W := by
 have h' : laidMet Tryz.prog [("espalier/ink.steps", Rows.laid_espalier_ink_steps)] W := h
 obtain ⟨ps, ⟨g', t', cs, fuel, p, q, hg', ht', hvar, hd, _, _⟩, _⟩ := h'
 obtain rfl := Option.some.inj (gTab.symm.trans hg')
 obtain rfl := Option.some.inj (gTabType.symm.trans ht')
 obtain ⟨xs, m, _, hx, _, hxl, hat⟩ := DataW.trod_array Tryz.underlying168 hd
 rw [laid_eq] at hx
 have hxs : (List.range 8).map (fun i => Lib.tabData .u32 (rowZ i)) = xs.map (·.1) := by
  have := congrArg Prod.fst hx
  simpa using this
 rw [cellsR] at hat
 intro j hj
 have e : j = 16 * (j / 16) + j % 16 := by omega
 have hi : j / 16 < 8 := by omega
 have hr : j % 16 < 16 := by omega
 generalize j / 16 = i at *
 generalize j % 16 = r at *
 subst e
 have hxi : xs[i]? = some xs[i] := List.getElem?_eq_getElem (by omega)
 have hfst : xs[i].1 = Lib.tabData .u32 (rowZ i) := by
  have := congrArg (·[i]?) hxs
  simpa [hi, hxl] using this.symm
 have hrow := hat i hi
 rw [hxi] at hrow
 have hc := Lib.cells_of_tab (zs := rowZ i) (p := xs[i].2) (k := .u32) Tryz.underlying167 Tryz.underlying66 cellsU cellsR (hrow.trans (by rw [← hfst]))
 have hcj : cs[16 * i + r]? = some (.int .u32 (tN (16 * i + r))) := by
  have h1 := congrArg (·[r]?) hc
  simp only [List.getElem?_map, rowZ_at i r hi hr, Option.map_some] at h1
  rw [List.getElem?_take_of_lt hr, List.getElem?_drop] at h1
  rw [Nat.mul_comm i 16] at h1
  simpa using h1
 have := World.var?_cell gTab hvar (16 * i + r)
 rw [this]
 simpa using hcj
end Go.Proofs.YtjpmfgoodcldcaaGreatDoor
