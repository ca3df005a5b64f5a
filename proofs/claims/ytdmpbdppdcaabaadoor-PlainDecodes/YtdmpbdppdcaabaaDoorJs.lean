/- What a row's list of variables gives: the table of package ink lies in the world's first block. -/
import Derived.Test.YtdmpbdppdcaabaaDoorCards
import Derived.Test.YtdmpbdppdcaabaaDoorTie
import Derived.Test.YtdmpbdppdcaabaaDoorJo
import Derived.WalkKit
import Derived.ProofKit
import Derived.OpenShut
import Derived.Deep.DeepHandedRow
import Derived.Lib.LaidTab
import Derived.ChangeArms
import Derived.DataElems
import Derived.SizedLaws
import Derived.KernelRfl
import Derived.WideShapes
namespace Go.Proofs.YtdmpbdppdcaabaaDoor
open Go.ChangeShapes Go.WideShapes Go.ChangeAt Go.RowKit

set_option maxRecDepth 100000 in
theorem own : ownKnob Tryd.prog.godebug = none := by kernel_rfl
set_option maxRecDepth 100000 in
theorem gTab : Tryd.prog.globalNamed "espalier/ink.steps" = some 0 := by kernel_rfl
set_option maxRecDepth 100000 in
theorem gTabType : (Tryd.prog.globals[0]?).map (·.type) = some 102 := by kernel_rfl
set_option maxRecDepth 100000 in
theorem cellsA : Tryd.prog.cellsOf 102 = 128 := by kernel_rfl
set_option maxRecDepth 100000 in
theorem cellsR : Tryd.prog.cellsOf 101 = 16 := by kernel_rfl
set_option maxRecDepth 100000 in
theorem cellsU : Tryd.prog.cellsOf 63 = 1 := by kernel_rfl

def rowZ (i : Nat) : List Int := ((tabN.drop (16 * i)).take 16).map fun (x : Nat) => (x : Int)
set_option maxRecDepth 100000 in
theorem laid_eq {H : Type} : (Rows.laid_espalier_ink_steps : DataW H) = .agg ((List.range 8).map fun i => Lib.tabData .u32 (rowZ i)) := by kernel_rfl
set_option maxRecDepth 100000 in
theorem rowZ_at (i r : Nat) (hi : i < 8) (hr : r < 16) : (rowZ i)[r]? = some ((tN (16 * i + r) : Nat) : Int) := by
  have h : ∀ (a : Fin 8) (b : Fin 16), (rowZ a.val)[b.val]? = some ((tN (16 * a.val + b.val) : Nat) : Int) := by decide +kernel
  exact h ⟨i, hi⟩ ⟨r, hr⟩

set_option maxRecDepth 100000 in
theorem tab_of_laid {W : World} (h : laidMetH Tryd.prog [("espalier/ink.steps", Rows.laid_espalier_ink_steps)] W) : Tab W := by
  have h' : laidMet Tryd.prog [("espalier/ink.steps", Rows.laid_espalier_ink_steps)] W := h
  obtain ⟨ps, ⟨g', t', cs, fuel, p, q, hg', ht', hvar, hd, _, _⟩, _⟩ := h'
  obtain rfl := Option.some.inj (gTab.symm.trans hg')
  obtain rfl := Option.some.inj (gTabType.symm.trans ht')
  obtain ⟨xs, m, _, hx, _, hxl, hat⟩ := DataW.trod_array Tryd.underlying102 hd
  rw [laid_eq] at hx
  have hxs : (List.range 8).map (fun i => Lib.tabData .u32 (rowZ i)) = xs.map (·.1) := by
    have := congrArg Prod.fst hx
    simpa using this
  rw [cellsR] at hat
  intro j hj
  have e : j = 16 * (j / 16) + j % 16 := by omega
  have hi : j / 16 < 8 := by omega
  have hr : j % 16 < 16 := by omega
  generalize j / 16 = i at *
  generalize j % 16 = r at *
  subst e
  have hxi : xs[i]? = some xs[i] := List.getElem?_eq_getElem (by omega)
  have hfst : xs[i].1 = Lib.tabData .u32 (rowZ i) := by
    have := congrArg (·[i]?) hxs
    simpa [hi, hxl] using this.symm
  have hrow := hat i hi
  rw [hxi] at hrow
  have hc := Lib.cells_of_tab (zs := rowZ i) (p := xs[i].2) (k := .u32) Tryd.underlying101 Tryd.underlying63 cellsU cellsR (hrow.trans (by rw [← hfst]))
  have hcj : cs[16 * i + r]? = some (.int .u32 (tN (16 * i + r))) := by
    have h1 := congrArg (·[r]?) hc
    simp only [List.getElem?_map, rowZ_at i r hi hr, Option.map_some] at h1
    rw [List.getElem?_take_of_lt hr, List.getElem?_drop] at h1
    rw [Nat.mul_comm i 16] at h1
    simpa using h1
  have := World.var?_cell gTab hvar (16 * i + r)
  rw [this]
  simpa using hcj
set_option maxRecDepth 100000 in
theorem laidOut : laidOutB Tryd.prog = true := by kernel_rfl

end Go.Proofs.YtdmpbdppdcaabaaDoor

/- From a row's readings to what the walks ask: slices of bytes and of cells that came in. -/

namespace Go.Proofs.YtdmpbdppdcaabaaDoor
open Go.ChangeShapes Go.WideShapes Go.ChangeAt Go.RowKit

set_option maxRecDepth 100000 in
theorem bytesU8 : Tryd.prog.bytesOf 5 = 1 := by kernel_rfl
set_option maxRecDepth 100000 in
theorem cells5 : Tryd.prog.cellsOf 5 = 1 := by kernel_rfl

set_option maxRecDepth 100000 in
theorem bulk_lits {H : Type} (k : IntKind) (zs : List Int) : Rows.uptoBulkAll (lits (H := H) k zs) = zs.length := by
  induction zs with
  | nil => rfl
  | cons z zs ih =>
    show Rows.uptoBulkAll (DataW.lit (.int k z) :: lits k zs) = _
    simp only [Rows.uptoBulkAll, Rows.uptoBulk, ih, List.length_cons]
    omega

set_option maxRecDepth 100000 in
theorem open_bytes {H : Type} {enc : TypeId × Value → H} {W : World} {base : Nat} {sp : Nat → Bool} {held : Bool} {v : Value} {d : DataW H} {p : List MemPlace} (hok : Value.okWide Tryd.prog W .any base 22 v)
    (h : DataW.Trod enc Tryd.prog W 0 sp held 22 v d p) (hsz : ∀ elems spare, d = .slice elems spare → (elems.length + spare.length) * Tryd.prog.bytesOf 5 ≤ reachBytes) :
    ∃ a n c l, v = .slice a n c ∧ Sl W a n c l ∧ n ≤ 140737488351232 ∧ n + 1 ≤ Rows.uptoBulk d := by
  obtain ⟨a, len, cap, rfl⟩ := okWide_slice Tryd.underlying22 hok
  obtain ⟨fuel, hf⟩ := h
  rcases open_ints Tryd.underlying22 Tryd.underlying5 cells5 hf with ⟨hcs, hx⟩ | ⟨x, l, c, zs, hcs, _, hl, hm, hz, hx, hcell, hwz⟩
  · simp [Value.cells] at hcs
    obtain ⟨rfl, rfl, rfl⟩ := hcs
    obtain rfl : d = .nil := congrArg Prod.fst hx
    exact ⟨none, 0, 0, [], rfl, ⟨rfl, Nat.le_refl _, by omega, Wf.nil, fun _ => rfl, .inl rfl⟩, by omega, by simp [Rows.uptoBulk]⟩
  · simp [Value.cells] at hcs
    obtain ⟨rfl, rfl, rfl⟩ := hcs
    obtain rfl : d = .slice (lits .u8 (zs.take len)) (lits .u8 (zs.drop len)) := congrArg Prod.fst hx
    have hzl : len ≤ zs.length := by rw [hz]; split <;> omega
    have h1 := hsz _ _ rfl
    rw [bytesU8] at h1
    simp only [lits, List.length_map, List.length_take, List.length_drop, reachBytes] at h1
    have hb : len ≤ 140737488351232 := by omega
    refine ⟨some x, len, cap, zs.take len, rfl, ⟨by simp; omega, hl, by omega, fun y hy => bounds_u8 (hwz y (List.mem_of_mem_take hy)), (by intro h; cases h), ?_⟩, hb, ?_⟩
    · by_cases h0 : len = 0
      · exact .inl h0
      · obtain ⟨b, off, spot⟩ := x
        have hc := hcell 0 (by omega)
        have hspot : spot = none := by simpa [Addr.add] using World.cell?_spot hc
        subst hspot
        refine .inr ⟨b, off, rfl, World.block_lt_of_cell? W _ (by simpa [Addr.add] using hc), fun i hi => ?_⟩
        have h2 := hcell i (by omega)
        rw [Addr.add_lit] at h2
        rw [h2]
        simp [List.getD, hi]
    · simp only [Rows.uptoBulk, bulk_lits, List.length_take]
      omega
set_option maxRecDepth 100000 in
theorem cellsSl : Tryd.prog.cellsOf 22 = 1 := by kernel_rfl
set_option maxRecDepth 100000 in
theorem bytesSl : Tryd.prog.bytesOf 22 = 24 := by kernel_rfl

set_option maxRecDepth 100000 in
/-- One slice of bytes, off its cells. -/
theorem open_cells {H : Type} {enc : TypeId × Value → H} {W : World} {sp : Nat → Bool} {held : Bool} {fuel : Nat} {cs : List Value} {d : DataW H} {p : List MemPlace}
    (hf : DataW.trod enc Tryd.prog W 0 sp held fuel 22 cs = some (d, p)) (hsz : ∀ elems spare, d = .slice elems spare → (elems.length + spare.length) * Tryd.prog.bytesOf 5 ≤ reachBytes) :
    ∃ a n c l, cs = [.slice a n c] ∧ Sl W a n c l ∧ n ≤ 140737488351232 := by
  rcases open_ints Tryd.underlying22 Tryd.underlying5 cells5 hf with ⟨hcs, hx⟩ | ⟨x, len, cap, zs, hcs, _, hl, hm, hz, hx, hcell, hwz⟩
  · exact ⟨none, 0, 0, [], hcs, ⟨rfl, Nat.le_refl _, by omega, Wf.nil, fun _ => rfl, .inl rfl⟩, by omega⟩
  · obtain rfl : d = .slice (lits .u8 (zs.take len)) (lits .u8 (zs.drop len)) := congrArg Prod.fst hx
    have hzl : len ≤ zs.length := by rw [hz]; split <;> omega
    have h1 := hsz _ _ rfl
    rw [bytesU8] at h1
    simp only [lits, List.length_map, List.length_take, List.length_drop, reachBytes] at h1
    have hb : len ≤ 140737488351232 := by omega
    refine ⟨some x, len, cap, zs.take len, hcs, ⟨by simp; omega, hl, by omega, fun y hy => bounds_u8 (hwz y (List.mem_of_mem_take hy)), (by intro h; cases h), ?_⟩, hb⟩
    by_cases h0 : len = 0
    · exact .inl h0
    · obtain ⟨b, off, spot⟩ := x
      have hc := hcell 0 (by omega)
      have hspot : spot = none := by simpa [Addr.add] using World.cell?_spot hc
      subst hspot
      refine .inr ⟨b, off, rfl, World.block_lt_of_cell? W _ (by simpa [Addr.add] using hc), fun i hi => ?_⟩
      have h2 := hcell i (by omega)
      rw [Addr.add_lit] at h2
      rw [h2]
      simp [List.getD, hi]

set_option maxRecDepth 100000 in
theorem weights_part {H : Type} {t : TypeId} {d : DataW H} {n : Nat} : ∀ {ds : List (DataW H)}, d ∈ ds → n ∈ d.weights Tryd.prog t → n ∈ DataW.weightsAll Tryd.prog t ds
  | [], h, _ => by cases h
  | x :: ds, h, hn => by
    simp only [DataW.weightsAll, List.mem_append]
    rcases List.mem_cons.1 h with rfl | h
    · exact .inl hn
    · exact .inr (weights_part h hn)

set_option maxRecDepth 100000 in
theorem cellsCell : Tryd.prog.cellsOf 44 = 5 := by kernel_rfl
set_option maxRecDepth 100000 in
theorem cellsInt : Tryd.prog.cellsOf 3 = 1 := by kernel_rfl
set_option maxRecDepth 100000 in
theorem bytesCell : Tryd.prog.bytesOf 44 = 72 := by kernel_rfl
set_option maxRecDepth 100000 in
theorem lit_i64 {n : Int} (h : (Lit.int .i64 n).wf = true) : -9223372036854775808 ≤ n ∧ n ≤ 9223372036854775807 := by
  simp only [Lit.wf, Bool.and_eq_true, decide_eq_true_eq] at h
  have h1 : IntKind.i64.min = -9223372036854775808 := rfl
  have h2 : IntKind.i64.max = 9223372036854775807 := rfl
  omega

set_option maxRecDepth 100000 in
theorem open_cellsC {H : Type} {enc : TypeId × Value → H} {W : World} {base : Nat} {sp : Nat → Bool} {held : Bool} {v : Value} {d : DataW H} {p : List MemPlace} {ts : List TypeId} {ds : List (DataW H)} (hok : Value.okWide Tryd.prog W .any base 25 v)
    (h : DataW.Trod enc Tryd.prog W 0 sp held 25 v d p) (hsz : (DataW.weightsEach Tryd.prog ts ds).all (· ≤ reachBytes) = true) (j : Nat) (ht : ts[j]? = some 25) (hd : ds[j]? = some d) :
    ∃ a n c cs, v = .slice a n c ∧ SlC W a n c cs ∧ ∀ x ∈ cs, (-9223372036854775808 ≤ x.kd ∧ x.kd ≤ 9223372036854775807) ∧ (-9223372036854775808 ≤ x.pg ∧ x.pg ≤ 9223372036854775807) ∧ (-9223372036854775808 ≤ x.ct ∧ x.ct ≤ 9223372036854775807) := by
  obtain ⟨a, len, cap, rfl⟩ := okWide_slice Tryd.underlying25 hok
  obtain ⟨fuel, hf⟩ := h
  rcases DataW.trod_slice Tryd.underlying25 hf with ⟨hcs, hx⟩ | ⟨x, len', cap', elems, rest, m, _, hcs, hx, _, hl, hm, hlen, hel, hsp, hns⟩
  · simp [Value.cells] at hcs
    obtain ⟨rfl, rfl, rfl⟩ := hcs
    exact ⟨none, 0, 0, [], rfl, ⟨rfl, Nat.le_refl _, by omega, fun _ => rfl, .inl rfl⟩, fun x hx => by cases hx⟩
  · simp [Value.cells] at hcs
    obtain ⟨rfl, rfl, rfl⟩ := hcs
    obtain rfl : d = .slice (elems.map (·.1)) (rest.map (·.1)) := congrArg Prod.fst hx
    have hall : ∀ n, n ∈ DataW.weights Tryd.prog 25 (.slice (elems.map (·.1)) (rest.map (·.1))) → n ≤ reachBytes := by
      intro n hn
      have := List.all_eq_true.1 hsz n (DataW.weights_mem_each ht hd n hn)
      simpa using this
    have hw0 := hall ((elems.length + rest.length) * 72) (by simp [DataW.weights, Tryd.underlying25, bytesCell])
    have hb : len ≤ 140737488355328 := by unfold reachBytes at hw0; omega
    have each : ∀ i, i < len → ∃ (c : Cl) (ka : Option Addr) (kc : Nat) (va : Option Addr) (vc : Nat), W.cell? (x.add (i * 5)) = some (.slice ka c.key.length kc) ∧ W.cell? (x.add (i * 5 + 1)) = some (.int .i64 c.kd) ∧ W.cell? (x.add (i * 5 + 2)) = some (.slice va c.val.length vc) ∧ W.cell? (x.add (i * 5 + 3)) = some (.int .i64 c.pg) ∧ W.cell? (x.add (i * 5 + 4)) = some (.int .i64 c.ct) ∧
        Sl W ka c.key.length kc c.key ∧ Sl W va c.val.length vc c.val ∧ (-9223372036854775808 ≤ c.kd ∧ c.kd ≤ 9223372036854775807) ∧ (-9223372036854775808 ≤ c.pg ∧ c.pg ≤ 9223372036854775807) ∧ (-9223372036854775808 ≤ c.ct ∧ c.ct ≤ 9223372036854775807) := by
      intro i hi
      have h1 := hel i hi
      have hy : elems[i]? = some elems[i] := List.getElem?_eq_getElem (by omega)
      rw [hy, cellsCell, Option.bind_eq_some_iff] at h1
      obtain ⟨cs', hc1, hc2⟩ := h1
      have hmem : elems[i].1 ∈ elems.map (·.1) := List.mem_map.2 ⟨elems[i], List.getElem_mem _, rfl⟩
      have hwe : ∀ n ∈ elems[i].1.weights Tryd.prog 44, n ≤ reachBytes := fun n hn => hall n (by
        simp only [DataW.weights, Tryd.underlying25, List.mem_cons, List.mem_append]
        exact .inr (.inl (weights_part hmem hn)))
      obtain ⟨xs, m', hm', hxe, hl', hxl, hfs⟩ := DataW.trod_struct Tryd.underlying44 hc2
      obtain ⟨_, hcl, hcc⟩ := World.cells?_some hc1
      match cs', hcl with
      | [v0, v1, v2, v3, v4], _ =>
        match xs, hxl with
        | [y0, y1, y2, y3, y4], _ =>
          have h0 : DataW.trod enc Tryd.prog W 0 sp held m' 22 (([v0, v1, v2, v3, v4].drop 0).take (Tryd.prog.cellsOf 22)) = some y0 := hfs 0 _ rfl
          have h1 : DataW.trod enc Tryd.prog W 0 sp held m' 3 (([v0, v1, v2, v3, v4].drop 1).take (Tryd.prog.cellsOf 3)) = some y1 := hfs 1 _ rfl
          have h2 : DataW.trod enc Tryd.prog W 0 sp held m' 22 (([v0, v1, v2, v3, v4].drop 2).take (Tryd.prog.cellsOf 22)) = some y2 := hfs 2 _ rfl
          have h3 : DataW.trod enc Tryd.prog W 0 sp held m' 3 (([v0, v1, v2, v3, v4].drop 3).take (Tryd.prog.cellsOf 3)) = some y3 := hfs 3 _ rfl
          have h4 : DataW.trod enc Tryd.prog W 0 sp held m' 3 (([v0, v1, v2, v3, v4].drop 4).take (Tryd.prog.cellsOf 3)) = some y4 := hfs 4 _ rfl
          rw [cellsSl] at h0 h2
          rw [cellsInt] at h1 h3 h4
          have f0 : DataW.trod enc Tryd.prog W 0 sp held m' 22 [v0] = some (y0.1, y0.2) := h0
          have f1 : DataW.trod enc Tryd.prog W 0 sp held m' 3 [v1] = some y1 := h1
          have f2 : DataW.trod enc Tryd.prog W 0 sp held m' 22 [v2] = some (y2.1, y2.2) := h2
          have f3 : DataW.trod enc Tryd.prog W 0 sp held m' 3 [v3] = some y3 := h3
          have f4 : DataW.trod enc Tryd.prog W 0 sp held m' 3 [v4] = some y4 := h4
          clear h0 h1 h2 h3 h4
          have hde : elems[i].1 = .agg [y0.1, y1.1, y2.1, y3.1, y4.1] := by rw [hxe]; rfl
          rw [hde] at hwe
          have hwe2 : ∀ n ∈ DataW.weightsEach Tryd.prog [22, 3, 22, 3, 3] [y0.1, y1.1, y2.1, y3.1, y4.1], n ≤ reachBytes := by
            intro n hn
            apply hwe n
            simp only [DataW.weights, Tryd.underlying44]
            exact hn
          obtain ⟨ka, kn, kc, kl', g0, hk, _⟩ := open_cells f0 (fun el spr e => hwe2 _ (DataW.weights_mem_each (j := 0) rfl rfl _ (by rw [e]; simp [DataW.weights, Tryd.underlying22])))
          obtain ⟨va, vn, vc, vl', g2, hv, _⟩ := open_cells f2 (fun el spr e => hwe2 _ (DataW.weights_mem_each (j := 2) rfl rfl _ (by rw [e]; simp [DataW.weights, Tryd.underlying22])))
          obtain ⟨n1, g1, _, w1⟩ := DataW.trod_int Tryd.underlying3 f1
          obtain ⟨n3, g3, _, w3⟩ := DataW.trod_int Tryd.underlying3 f3
          obtain ⟨n4, g4, _, w4⟩ := DataW.trod_int Tryd.underlying3 f4
          cases g0
          cases g1
          cases g2
          cases g3
          cases g4
          have hkl := hk.hlen
          have hvl := hv.hlen
          subst hkl hvl
          refine ⟨⟨kl', n1, vl', n3, n4⟩, ka, kc, va, vc, ?_, ?_, ?_, ?_, ?_, hk, hv, lit_i64 w1, lit_i64 w3, lit_i64 w4⟩
          · simpa [Addr.add_add] using hcc 0 (by omega)
          · simpa [Addr.add_add] using hcc 1 (by omega)
          · simpa [Addr.add_add] using hcc 2 (by omega)
          · simpa [Addr.add_add] using hcc 3 (by omega)
          · simpa [Addr.add_add] using hcc 4 (by omega)
    have hls : ∀ n, n ≤ len → ∃ cs : List Cl, cs.length = n ∧ ∀ i c, cs[i]? = some c → ∃ (ka : Option Addr) (kc : Nat) (va : Option Addr) (vc : Nat), W.cell? (x.add (i * 5)) = some (.slice ka c.key.length kc) ∧ W.cell? (x.add (i * 5 + 1)) = some (.int .i64 c.kd) ∧ W.cell? (x.add (i * 5 + 2)) = some (.slice va c.val.length vc) ∧ W.cell? (x.add (i * 5 + 3)) = some (.int .i64 c.pg) ∧ W.cell? (x.add (i * 5 + 4)) = some (.int .i64 c.ct) ∧
        Sl W ka c.key.length kc c.key ∧ Sl W va c.val.length vc c.val ∧ (-9223372036854775808 ≤ c.kd ∧ c.kd ≤ 9223372036854775807) ∧ (-9223372036854775808 ≤ c.pg ∧ c.pg ≤ 9223372036854775807) ∧ (-9223372036854775808 ≤ c.ct ∧ c.ct ≤ 9223372036854775807) := by
      intro n
      induction n with
      | zero => intro _; exact ⟨[], rfl, fun i c hc => by simp at hc⟩
      | succ n ih =>
        intro hn
        obtain ⟨cs, h1, h2⟩ := ih (by omega)
        obtain ⟨c, hc⟩ := each n (by omega)
        refine ⟨cs ++ [c], by simp [h1], fun i d hd => ?_⟩
        by_cases hin : i < n
        · rw [List.getElem?_append_left (by omega)] at hd
          exact h2 i d hd
        · have hi : i < (cs ++ [c]).length := (List.getElem?_eq_some_iff.1 hd).1
          simp only [List.length_append, List.length_cons, List.length_nil] at hi
          obtain rfl : i = n := by omega
          rw [List.getElem?_append_right (by omega), h1] at hd
          simp at hd
          subst hd
          exact hc
    obtain ⟨cs, hl1, hl2⟩ := hls len (Nat.le_refl _)
    refine ⟨some x, len, cap, cs, rfl, ⟨hl1, hl, hb, (by intro h; cases h), ?_⟩, fun c hc => ?_⟩
    · by_cases h0 : len = 0
      · exact .inl h0
      · obtain ⟨b, off, spot⟩ := x
        obtain ⟨c, hc⟩ : ∃ c, cs[0]? = some c := ⟨_, List.getElem?_eq_getElem (by omega)⟩
        obtain ⟨ka, kc, va, vc, h3, _⟩ := hl2 0 c hc
        have hspot : spot = none := by simpa [Addr.add] using World.cell?_spot h3
        subst hspot
        have hbl := World.block_lt_of_cell? W _ h3
        refine .inr ⟨b, off, rfl, by simpa [Addr.add] using hbl, fun i c hc => ?_⟩
        obtain ⟨ka, kc, va, vc, e0, e1, e2, e3, e4, e5, e6, _⟩ := hl2 i c hc
        simp only [Addr.add_lit] at e0 e1 e2 e3 e4
        exact ⟨ka, kc, va, vc, e0, by rw [← e1]; simp [Nat.add_assoc], by rw [← e2]; simp [Nat.add_assoc], by rw [← e3]; simp [Nat.add_assoc], by rw [← e4]; simp [Nat.add_assoc], e5, e6⟩
    · obtain ⟨i, hi, e⟩ := List.getElem_of_mem hc
      obtain ⟨_, _, _, _, _, _, _, _, _, _, _, b1, b2, b3⟩ := hl2 i c (by rw [List.getElem?_eq_getElem hi, e])
      exact ⟨b1, b2, b3⟩
end Go.Proofs.YtdmpbdppdcaabaaDoor
