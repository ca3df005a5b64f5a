/- What a row's list of variables gives: the tables of packages ink and math/bits. -/
import Derived.Test.YtehcemefhgebpaaDoorCards
import Derived.Test.YtehcemefhgebpaaDoorTie
import Derived.Test.YtehcemefhgebpaaDoorVh
import Derived.WalkKit
import Derived.ProofKit
import Derived.OpenShut
import Derived.Deep.DeepHandedRow
import Derived.Lib.LaidTab
import Derived.ChangeArms
import Derived.DataElems
import Derived.SizedLaws
import Derived.KernelRfl
import Derived.WideShapes
namespace Go.Proofs.YtehcemefhgebpaaDoor
open Go.ChangeShapes Go.WideShapes Go.ChangeAt Go.RowKit

set_option maxRecDepth 100000 in
theorem own : ownKnob Tryd.prog.godebug = none := by kernel_rfl
set_option maxRecDepth 100000 in
theorem gTab : Tryd.prog.globalNamed "espalier/ink.steps" = some 0 := by kernel_rfl
set_option maxRecDepth 100000 in
theorem gTabType : (Tryd.prog.globals[0]?).map (·.type) = some 122 := by kernel_rfl
set_option maxRecDepth 100000 in
theorem cellsA : Tryd.prog.cellsOf 122 = 128 := by kernel_rfl
set_option maxRecDepth 100000 in
theorem cellsR : Tryd.prog.cellsOf 121 = 16 := by kernel_rfl
set_option maxRecDepth 100000 in
theorem cellsU : Tryd.prog.cellsOf 92 = 1 := by kernel_rfl

def rowZ (i : Nat) : List Int := ((tabN.drop (16 * i)).take 16).map fun (x : Nat) => (x : Int)
set_option maxRecDepth 100000 in
theorem laid_eq {H : Type} : (Rows.laid_espalier_ink_steps : DataW H) = .agg ((List.range 8).map fun i => Lib.tabData .u32 (rowZ i)) := by kernel_rfl
set_option maxRecDepth 100000 in
theorem rowZ_at (i r : Nat) (hi : i < 8) (hr : r < 16) : (rowZ i)[r]? = some ((tN (16 * i + r) : Nat) : Int) := by
  have h : ∀ (a : Fin 8) (b : Fin 16), (rowZ a.val)[b.val]? = some ((tN (16 * a.val + b.val) : Nat) : Int) := by decide +kernel
  exact h ⟨i, hi⟩ ⟨r, hr⟩

abbrev laids : List (String × DataW Unit) := [("espalier/ink.steps", Rows.laid_espalier_ink_steps), ("math/bits.deBruijn64tab", Rows.laid_math_bits_deBruijn64tab)]
set_option maxRecDepth 100000 in
theorem tab_of_laid {W : World} (h : laidMetH Tryd.prog laids W) : Tab W := by
  have h' : laidMet Tryd.prog laids W := h
  obtain ⟨ps, ⟨g', t', cs, fuel, p, q, hg', ht', hvar, hd, _, _⟩, _⟩ := h'
  obtain rfl := Option.some.inj (gTab.symm.trans hg')
  obtain rfl := Option.some.inj (gTabType.symm.trans ht')
  obtain ⟨xs, m, _, hx, _, hxl, hat⟩ := DataW.trod_array Tryd.underlying122 hd
  rw [laid_eq] at hx
  have hxs : (List.range 8).map (fun i => Lib.tabData .u32 (rowZ i)) = xs.map (·.1) := by
    have := congrArg Prod.fst hx
    simpa using this
  rw [cellsR] at hat
  intro j hj
  have e : j = 16 * (j / 16) + j % 16 := by omega
  have hi : j / 16 < 8 := by omega
  have hr : j % 16 < 16 := by omega
  generalize j / 16 = i at *
  generalize j % 16 = r at *
  subst e
  have hxi : xs[i]? = some xs[i] := List.getElem?_eq_getElem (by omega)
  have hfst : xs[i].1 = Lib.tabData .u32 (rowZ i) := by
    have := congrArg (·[i]?) hxs
    simpa [hi, hxl] using this.symm
  have hrow := hat i hi
  rw [hxi] at hrow
  have hc := Lib.cells_of_tab (zs := rowZ i) (p := xs[i].2) (k := .u32) Tryd.underlying121 Tryd.underlying92 cellsU cellsR (hrow.trans (by rw [← hfst]))
  have hcj : cs[16 * i + r]? = some (.int .u32 (tN (16 * i + r))) := by
    have h1 := congrArg (·[r]?) hc
    simp only [List.getElem?_map, rowZ_at i r hi hr, Option.map_some] at h1
    rw [List.getElem?_take_of_lt hr, List.getElem?_drop] at h1
    rw [Nat.mul_comm i 16] at h1
    simpa using h1
  have := World.var?_cell gTab hvar (16 * i + r)
  rw [this]
  simpa using hcj
set_option maxRecDepth 100000 in
theorem gTz : Tryd.prog.globalNamed "math/bits.deBruijn64tab" = some 1 := by kernel_rfl
set_option maxRecDepth 100000 in
theorem gTzType : (Tryd.prog.globals[1]?).map (·.type) = some 123 := by kernel_rfl
set_option maxRecDepth 100000 in
theorem cellsZ : Tryd.prog.cellsOf 123 = 64 := by kernel_rfl
set_option maxRecDepth 100000 in
theorem cellsY : Tryd.prog.cellsOf 5 = 1 := by kernel_rfl
def tzZ : List Int := Lib.deBruijn64tab.map fun (x : Nat) => (x : Int)
set_option maxRecDepth 100000 in
theorem laid_tz {H : Type} : (Rows.laid_math_bits_deBruijn64tab : DataW H) = Lib.tabData .u8 tzZ := by kernel_rfl
set_option maxRecDepth 100000 in
theorem tzZ_len : tzZ.length = 64 := by decide
set_option maxRecDepth 100000 in
theorem tzZ_at (j : Nat) (hj : j < 64) : tzZ.getD j 0 = ((Lib.deBruijn64tab.getD j 0 : Nat) : Int) := by
  have h : ∀ a : Fin 64, tzZ.getD a.val 0 = ((Lib.deBruijn64tab.getD a.val 0 : Nat) : Int) := by decide +kernel
  exact h ⟨j, hj⟩
set_option maxRecDepth 100000 in
theorem tz_of_laid {W : World} (h : laidMetH Tryd.prog laids W) : Tz W := by
  have h' : laidMet Tryd.prog laids W := h
  obtain ⟨ps, ⟨_, _, _, _, _, _, _, _, _, _, hrest, _⟩, _⟩ := h'
  obtain ⟨g', t', cs, fuel, p, q, hg', ht', hvar, hd, _, _⟩ := hrest
  obtain rfl := Option.some.inj (gTz.symm.trans hg')
  obtain rfl := Option.some.inj (gTzType.symm.trans ht')
  rw [laid_tz] at hd
  have hT : Lib.TabIs Tryd.prog W "math/bits.deBruijn64tab" .u8 tzZ := by
    unfold Lib.TabIs
    rw [hvar, ← Lib.cells_of_tab Tryd.underlying123 Tryd.underlying5 cellsY cellsZ hd]
  intro j hj
  have hj' : j < 64 := hj
  rw [hT.cell gTz j (by rw [tzZ_len]; exact hj'), tzZ_at j hj']
/-- A variable's block holds these values. -/
def putTab (vs : List Value) : Obj → Obj
  | .cells _ t frozen => .cells vs.toArray t frozen
  | o => o
set_option maxRecDepth 100000 in
theorem laidOut : laidOutB Tryd.prog = true := by kernel_rfl

end Go.Proofs.YtehcemefhgebpaaDoor

/- From a row's readings to what the walks ask: slices of bytes that came in. -/

namespace Go.Proofs.YtehcemefhgebpaaDoor
open Go.ChangeShapes Go.WideShapes Go.ChangeAt Go.RowKit

set_option maxRecDepth 100000 in
theorem bytesU8 : Tryd.prog.bytesOf 5 = 1 := by kernel_rfl
set_option maxRecDepth 100000 in
theorem cells5 : Tryd.prog.cellsOf 5 = 1 := by kernel_rfl

set_option maxRecDepth 100000 in
theorem bulk_lits {H : Type} (k : IntKind) (zs : List Int) : Rows.uptoBulkAll (lits (H := H) k zs) = zs.length := by
  induction zs with
  | nil => rfl
  | cons z zs ih =>
    show Rows.uptoBulkAll (DataW.lit (.int k z) :: lits k zs) = _
    simp only [Rows.uptoBulkAll, Rows.uptoBulk, ih, List.length_cons]
    omega

set_option maxRecDepth 100000 in
theorem open_bytes {H : Type} {enc : TypeId × Value → H} {W : World} {base : Nat} {sp : Nat → Bool} {held : Bool} {v : Value} {d : DataW H} {p : List MemPlace} (hok : Value.okWide Tryd.prog W .any base 47 v)
    (h : DataW.Trod enc Tryd.prog W 0 sp held 47 v d p) (hsz : ∀ elems spare, d = .slice elems spare → (elems.length + spare.length) * Tryd.prog.bytesOf 5 ≤ reachBytes) :
    ∃ a n c l, v = .slice a n c ∧ Sl W a n c l ∧ n ≤ 140737488351232 ∧ n + 1 ≤ Rows.uptoBulk d := by
  obtain ⟨a, len, cap, rfl⟩ := okWide_slice Tryd.underlying47 hok
  obtain ⟨fuel, hf⟩ := h
  rcases open_ints Tryd.underlying47 Tryd.underlying5 cells5 hf with ⟨hcs, hx⟩ | ⟨x, l, c, zs, hcs, _, hl, hm, hz, hx, hcell, hwz⟩
  · simp [Value.cells] at hcs
    obtain ⟨rfl, rfl, rfl⟩ := hcs
    obtain rfl : d = .nil := congrArg Prod.fst hx
    exact ⟨none, 0, 0, [], rfl, ⟨rfl, Nat.le_refl _, by omega, Wf.nil, fun _ => rfl, .inl rfl⟩, by omega, by simp [Rows.uptoBulk]⟩
  · simp [Value.cells] at hcs
    obtain ⟨rfl, rfl, rfl⟩ := hcs
    obtain rfl : d = .slice (lits .u8 (zs.take len)) (lits .u8 (zs.drop len)) := congrArg Prod.fst hx
    have hzl : len ≤ zs.length := by rw [hz]; split <;> omega
    have h1 := hsz _ _ rfl
    rw [bytesU8] at h1
    simp only [lits, List.length_map, List.length_take, List.length_drop, reachBytes] at h1
    have hb : len ≤ 140737488351232 := by omega
    refine ⟨some x, len, cap, zs.take len, rfl, ⟨by simp; omega, hl, by omega, fun y hy => bounds_u8 (hwz y (List.mem_of_mem_take hy)), (by intro h; cases h), ?_⟩, hb, ?_⟩
    · by_cases h0 : len = 0
      · exact .inl h0
      · obtain ⟨b, off, spot⟩ := x
        have hc := hcell 0 (by omega)
        have hspot : spot = none := by simpa [Addr.add] using World.cell?_spot hc
        subst hspot
        refine .inr ⟨b, off, rfl, World.block_lt_of_cell? W _ (by simpa [Addr.add] using hc), fun i hi => ?_⟩
        have h2 := hcell i (by omega)
        rw [Addr.add_lit] at h2
        rw [h2]
        simp [List.getD, hi]
    · simp only [Rows.uptoBulk, bulk_lits, List.length_take]
      omega
set_option maxRecDepth 100000 in
theorem lit_i64 {n : Int} (h : (Lit.int .i64 n).wf = true) : -9223372036854775808 ≤ n ∧ n ≤ 9223372036854775807 := by
  simp only [Lit.wf, Bool.and_eq_true, decide_eq_true_eq] at h
  have h1 : IntKind.i64.min = -9223372036854775808 := rfl
  have h2 : IntKind.i64.max = 9223372036854775807 := rfl
  omega

end Go.Proofs.YtehcemefhgebpaaDoor
