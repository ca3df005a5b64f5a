/- From a row's readings to what the walks of layer 10 ask: Ops that came in. -/
import Derived.Test.YtedgpcckbdnijaaDoorLaidT
import Derived.Test.YtedgpcckbdnijaaDoorVi
import Derived.ChangeArms
import Derived.DataElems
import Derived.SizedLaws
import Derived.KernelRfl
import Derived.WideShapes
namespace Go.Proofs.YtedgpcckbdnijaaDoor
open Go.ChangeShapes Go.WideShapes Go.ChangeAt Go.RowKit

set_option maxRecDepth 100000 in
theorem cellsOp10 : Tryd.prog.cellsOf 38 = 3 := by kernel_rfl
set_option maxRecDepth 100000 in
theorem cellsI10 : Tryd.prog.cellsOf 3 = 1 := by kernel_rfl
set_option maxRecDepth 100000 in
theorem bytesOp10 : Tryd.prog.bytesOf 38 = 24 := by kernel_rfl
set_option maxRecDepth 100000 in
theorem open_ops10 {H : Type} {enc : TypeId × Value → H} {W : World} {sp : Nat → Bool} {held : Bool} {fuel : Nat} {cs : List Value} {d : DataW H} {p : List MemPlace} (hf : DataW.trod enc Tryd.prog W 0 sp held fuel 23 cs = some (d, p)) (hw : ∀ n ∈ d.weights Tryd.prog 23, n ≤ reachBytes) :
    ∃ a n c l, cs = [.slice a n c] ∧ SlO W a n l := by
  rcases DataW.trod_slice Tryd.underlying23 hf with ⟨hcs, hx⟩ | ⟨x, len, cap, elems, rest, m, hm, hcs, hx, _, hl, hmx, hlen, hel, hsp, hns⟩
  · exact ⟨none, 0, 0, [], hcs, ⟨rfl, by omega, fun i hi => by omega, .inl rfl⟩⟩
  · obtain rfl : d = .slice (elems.map (·.1)) (rest.map (·.1)) := congrArg Prod.fst hx
    have hw0 := hw ((elems.length + rest.length) * 24) (by simp [DataW.weights, Tryd.underlying23, bytesOp10])
    have hb : len ≤ 5864062014806 := by unfold reachBytes at hw0; omega
    have each : ∀ i, i < len → ∃ K A B, (-9223372036854775808 ≤ A ∧ A ≤ 9223372036854775807) ∧ (-9223372036854775808 ≤ B ∧ B ≤ 9223372036854775807) ∧ W.cell? (x.add (i * 3)) = some (.int .i64 K) ∧ W.cell? (x.add (i * 3 + 1)) = some (.int .i64 A) ∧ W.cell? (x.add (i * 3 + 2)) = some (.int .i64 B) := by
      intro i hi
      have h1 := hel i hi
      have hy : elems[i]? = some elems[i] := List.getElem?_eq_getElem (by omega)
      rw [hy, cellsOp10, Option.bind_eq_some_iff] at h1
      obtain ⟨cs', hc1, hc2⟩ := h1
      obtain ⟨xs, m', hm', hxe, hl', hxl, hfs⟩ := DataW.trod_struct Tryd.underlying38 hc2
      obtain ⟨_, hcl, hcc⟩ := World.cells?_some hc1
      match cs', hcl with
      | [v0, v1, v2], _ =>
        match xs, hxl with
        | [y0, y1, y2], _ =>
          have h0 : DataW.trod enc Tryd.prog W 0 sp held m' 3 (([v0, v1, v2].drop 0).take (Tryd.prog.cellsOf 3)) = some y0 := hfs 0 _ rfl
          have h1 : DataW.trod enc Tryd.prog W 0 sp held m' 3 (([v0, v1, v2].drop 1).take (Tryd.prog.cellsOf 3)) = some y1 := hfs 1 _ rfl
          have h2 : DataW.trod enc Tryd.prog W 0 sp held m' 3 (([v0, v1, v2].drop 2).take (Tryd.prog.cellsOf 3)) = some y2 := hfs 2 _ rfl
          rw [cellsI10] at h0 h1 h2
          have f0 : DataW.trod enc Tryd.prog W 0 sp held m' 3 [v0] = some y0 := h0
          have f1 : DataW.trod enc Tryd.prog W 0 sp held m' 3 [v1] = some y1 := h1
          have f2 : DataW.trod enc Tryd.prog W 0 sp held m' 3 [v2] = some y2 := h2
          clear h0 h1 h2
          obtain ⟨K, g0, _, w0⟩ := DataW.trod_int Tryd.underlying3 f0
          obtain ⟨A, g1, _, w1⟩ := DataW.trod_int Tryd.underlying3 f1
          obtain ⟨B, g2, _, w2⟩ := DataW.trod_int Tryd.underlying3 f2
          cases g0
          cases g1
          cases g2
          refine ⟨K, A, B, bounds_i64 w1, bounds_i64 w2, ?_, ?_, ?_⟩
          · simpa [Addr.add_add] using hcc 0 (by omega)
          · simpa [Addr.add_add] using hcc 1 (by omega)
          · simpa [Addr.add_add] using hcc 2 (by omega)
    by_cases h0 : len = 0
    · subst h0
      exact ⟨some x, 0, cap, [], hcs, ⟨rfl, by omega, fun i hi => by omega, .inl rfl⟩⟩
    · obtain ⟨b, off, spot⟩ := x
      obtain ⟨_, _, _, _, _, hc, _⟩ := each 0 (by omega)
      have hspot : spot = none := by simpa [Addr.add] using World.cell?_spot hc
      subst hspot
      have hbl' : b < W.heap.size := by simpa [Addr.add] using World.block_lt_of_cell? W _ hc
      have all : ∀ n, n ≤ len → ∃ l : List (Int × Int × Int), l.length = n ∧ ∀ i, i < n → ((-9223372036854775808 ≤ (l.getD i (0, 0, 0)).2.1 ∧ (l.getD i (0, 0, 0)).2.1 ≤ 9223372036854775807) ∧ (-9223372036854775808 ≤ (l.getD i (0, 0, 0)).2.2 ∧ (l.getD i (0, 0, 0)).2.2 ≤ 9223372036854775807)) ∧ W.cell? ⟨b, off + i * 3, none⟩ = some (.int .i64 (l.getD i (0, 0, 0)).1) ∧ W.cell? ⟨b, off + i * 3 + 1, none⟩ = some (.int .i64 (l.getD i (0, 0, 0)).2.1) ∧ W.cell? ⟨b, off + i * 3 + 2, none⟩ = some (.int .i64 (l.getD i (0, 0, 0)).2.2) := by
        intro n
        induction n with
        | zero => intro _; exact ⟨[], rfl, fun i hi => by omega⟩
        | succ n ih =>
          intro hn
          obtain ⟨l, hl1, hl2⟩ := ih (by omega)
          obtain ⟨K, A, B, hA, hB, c0, c1, c2⟩ := each n (by omega)
          refine ⟨l ++ [(K, A, B)], by simp [hl1], fun i hi => ?_⟩
          by_cases e : i < n
          · have hg : (l ++ [(K, A, B)]).getD i (0, 0, 0) = l.getD i (0, 0, 0) := by
              simp only [List.getD]
              rw [List.getElem?_append_left (by omega)]
            rw [hg]
            exact hl2 i e
          · obtain rfl : i = n := by omega
            have hg : (l ++ [(K, A, B)]).getD i (0, 0, 0) = (K, A, B) := by
              simp only [List.getD]
              rw [List.getElem?_append_right (by omega), hl1]
              simp
            rw [hg]
            rw [Addr.add_lit] at c0 c1 c2
            simp only [← Nat.add_assoc] at c0 c1 c2
            exact ⟨⟨hA, hB⟩, c0, c1, c2⟩
      obtain ⟨l, hl1, hl2⟩ := all len (Nat.le_refl _)
      exact ⟨some ⟨b, off, none⟩, len, cap, l, hcs, ⟨hl1, hb, fun i hi => (hl2 i hi).1, .inr ⟨b, off, rfl, hbl', fun i hi => (hl2 i hi).2⟩⟩⟩
end Go.Proofs.YtedgpcckbdnijaaDoor
