/- What a row's list of variables gives: the tables of packages ink and math/bits. -/
import Derived.Test.YtedgpcckbdnijaaDoorCards
import Derived.Test.YtedgpcckbdnijaaDoorTie
import Derived.Test.YtedgpcckbdnijaaDoorJv
import Derived.WalkKit
import Derived.ProofKit
import Derived.OpenShut
import Derived.Deep.DeepHandedRow
import Derived.Lib.LaidTab
namespace Go.Proofs.YtedgpcckbdnijaaDoor
open Go.ChangeShapes Go.WideShapes Go.ChangeAt Go.RowKit

set_option maxRecDepth 100000 in
theorem own : ownKnob Tryd.prog.godebug = none := by kernel_rfl
set_option maxRecDepth 100000 in
theorem gTab : Tryd.prog.globalNamed "espalier/ink.steps" = some 1 := by kernel_rfl
set_option maxRecDepth 100000 in
theorem gTabType : (Tryd.prog.globals[1]?).map (·.type) = some 111 := by kernel_rfl
set_option maxRecDepth 100000 in
theorem cellsA : Tryd.prog.cellsOf 111 = 128 := by kernel_rfl
set_option maxRecDepth 100000 in
theorem cellsR : Tryd.prog.cellsOf 110 = 16 := by kernel_rfl
set_option maxRecDepth 100000 in
theorem cellsU : Tryd.prog.cellsOf 82 = 1 := by kernel_rfl

def rowZ (i : Nat) : List Int := ((tabN.drop (16 * i)).take 16).map fun (x : Nat) => (x : Int)
set_option maxRecDepth 100000 in
theorem laid_eq {H : Type} : (Rows.laid_espalier_ink_steps : DataW H) = .agg ((List.range 8).map fun i => Lib.tabData .u32 (rowZ i)) := by kernel_rfl
set_option maxRecDepth 100000 in
theorem rowZ_at (i r : Nat) (hi : i < 8) (hr : r < 16) : (rowZ i)[r]? = some ((tN (16 * i + r) : Nat) : Int) := by
  have h : ∀ (a : Fin 8) (b : Fin 16), (rowZ a.val)[b.val]? = some ((tN (16 * a.val + b.val) : Nat) : Int) := by decide +kernel
  exact h ⟨i, hi⟩ ⟨r, hr⟩

abbrev laids : List (String × DataW Unit) := [("espalier/ink.steps", Rows.laid_espalier_ink_steps), ("math/bits.deBruijn64tab", Rows.laid_math_bits_deBruijn64tab)]
set_option maxRecDepth 100000 in
theorem tab_of_laid {W : World} (h : laidMetH Tryd.prog laids W) : Tab W := by
  have h' : laidMet Tryd.prog laids W := h
  obtain ⟨ps, ⟨g', t', cs, fuel, p, q, hg', ht', hvar, hd, _, _⟩, _⟩ := h'
  obtain rfl := Option.some.inj (gTab.symm.trans hg')
  obtain rfl := Option.some.inj (gTabType.symm.trans ht')
  obtain ⟨xs, m, _, hx, _, hxl, hat⟩ := DataW.trod_array Tryd.underlying111 hd
  rw [laid_eq] at hx
  have hxs : (List.range 8).map (fun i => Lib.tabData .u32 (rowZ i)) = xs.map (·.1) := by
    have := congrArg Prod.fst hx
    simpa using this
  rw [cellsR] at hat
  intro j hj
  have e : j = 16 * (j / 16) + j % 16 := by omega
  have hi : j / 16 < 8 := by omega
  have hr : j % 16 < 16 := by omega
  generalize j / 16 = i at *
  generalize j % 16 = r at *
  subst e
  have hxi : xs[i]? = some xs[i] := List.getElem?_eq_getElem (by omega)
  have hfst : xs[i].1 = Lib.tabData .u32 (rowZ i) := by
    have := congrArg (·[i]?) hxs
    simpa [hi, hxl] using this.symm
  have hrow := hat i hi
  rw [hxi] at hrow
  have hc := Lib.cells_of_tab (zs := rowZ i) (p := xs[i].2) (k := .u32) Tryd.underlying110 Tryd.underlying82 cellsU cellsR (hrow.trans (by rw [← hfst]))
  have hcj : cs[16 * i + r]? = some (.int .u32 (tN (16 * i + r))) := by
    have h1 := congrArg (·[r]?) hc
    simp only [List.getElem?_map, rowZ_at i r hi hr, Option.map_some] at h1
    rw [List.getElem?_take_of_lt hr, List.getElem?_drop] at h1
    rw [Nat.mul_comm i 16] at h1
    simpa using h1
  have := World.var?_cell gTab hvar (16 * i + r)
  rw [this]
  simpa using hcj
set_option maxRecDepth 100000 in
theorem gTz : Tryd.prog.globalNamed "math/bits.deBruijn64tab" = some 0 := by kernel_rfl
set_option maxRecDepth 100000 in
theorem gTzType : (Tryd.prog.globals[0]?).map (·.type) = some 108 := by kernel_rfl
set_option maxRecDepth 100000 in
theorem cellsZ : Tryd.prog.cellsOf 108 = 64 := by kernel_rfl
set_option maxRecDepth 100000 in
theorem cellsY : Tryd.prog.cellsOf 5 = 1 := by kernel_rfl
def tzZ : List Int := Lib.deBruijn64tab.map fun (x : Nat) => (x : Int)
set_option maxRecDepth 100000 in
theorem laid_tz {H : Type} : (Rows.laid_math_bits_deBruijn64tab : DataW H) = Lib.tabData .u8 tzZ := by kernel_rfl
set_option maxRecDepth 100000 in
theorem tzZ_len : tzZ.length = 64 := by decide
set_option maxRecDepth 100000 in
theorem tzZ_at (j : Nat) (hj : j < 64) : tzZ.getD j 0 = ((Lib.deBruijn64tab.getD j 0 : Nat) : Int) := by
  have h : ∀ a : Fin 64, tzZ.getD a.val 0 = ((Lib.deBruijn64tab.getD a.val 0 : Nat) : Int) := by decide +kernel
  exact h ⟨j, hj⟩
set_option maxRecDepth 100000 in
theorem tz_of_laid {W : World} (h : laidMetH Tryd.prog laids W) : Tz W := by
  have h' : laidMet Tryd.prog laids W := h
  obtain ⟨ps, ⟨_, _, _, _, _, _, _, _, _, _, hrest, _⟩, _⟩ := h'
  obtain ⟨g', t', cs, fuel, p, q, hg', ht', hvar, hd, _, _⟩ := hrest
  obtain rfl := Option.some.inj (gTz.symm.trans hg')
  obtain rfl := Option.some.inj (gTzType.symm.trans ht')
  rw [laid_tz] at hd
  have hT : Lib.TabIs Tryd.prog W "math/bits.deBruijn64tab" .u8 tzZ := by
    unfold Lib.TabIs
    rw [hvar, ← Lib.cells_of_tab Tryd.underlying108 Tryd.underlying5 cellsY cellsZ hd]
  intro j hj
  have hj' : j < 64 := hj
  rw [hT.cell gTz j (by rw [tzZ_len]; exact hj'), tzZ_at j hj']
/-- A variable's block holds these values. -/
def putTab (vs : List Value) : Obj → Obj
  | .cells _ t frozen => .cells vs.toArray t frozen
  | o => o
set_option maxRecDepth 100000 in
theorem laidOut : laidOutB Tryd.prog = true := by kernel_rfl

end Go.Proofs.YtedgpcckbdnijaaDoor
