/- From a row's readings to what the walk of CacheTells asks: Ops that came in. -/
import Derived.Test.YtmelhpghpcpoiabOpenP
import Derived.Test.YtmelhpghpcpoiabSp
import Derived.ChangeArms
import Derived.DataElems
import Derived.WideShapes
namespace Go.Proofs.Ytmelhpghpcpoiab
open Go.ChangeShapes Go.WideShapes Go.ChangeAt Go.RowKit

set_option maxRecDepth 100000 in
theorem cellsOp4 : Try.prog.cellsOf 32 = 6 := by kernel_rfl
set_option maxRecDepth 100000 in
theorem cellsFall4 : Try.prog.cellsOf 30 = 3 := by kernel_rfl
set_option maxRecDepth 100000 in
theorem cellsI4 : Try.prog.cellsOf 3 = 1 := by kernel_rfl
set_option maxRecDepth 100000 in
theorem cellsSI4 : Try.prog.cellsOf 28 = 1 := by kernel_rfl
set_option maxRecDepth 100000 in
theorem bytesOp4 : Try.prog.bytesOf 32 = 64 := by kernel_rfl
set_option maxRecDepth 100000 in
theorem open_keep4 {H : Type} {enc : TypeId × Value → H} {W : World} {sp : Nat → Bool} {held : Bool} {fuel : Nat} {v : Value} {d : DataW H} {p : List MemPlace} (hf : DataW.trod enc Try.prog W 0 sp held fuel 28 [v] = some (d, p)) : ∃ ko kn kc, v = .slice ko kn kc := by
  rcases open_ints Try.underlying28 Try.underlying3 cellsI4 hf with ⟨hcs, _⟩ | ⟨x, len, cap, zs, hcs, _⟩
  · injection hcs with hcs
    exact ⟨none, 0, 0, hcs⟩
  · injection hcs with hcs
    exact ⟨some x, len, cap, hcs⟩
set_option maxRecDepth 100000 in
theorem open_ops4 {H : Type} {enc : TypeId × Value → H} {W : World} {sp : Nat → Bool} {held : Bool} {fuel : Nat} {cs : List Value} {d : DataW H} {p : List MemPlace} (hf : DataW.trod enc Try.prog W 0 sp held fuel 22 cs = some (d, p)) (hw : ∀ n ∈ d.weights Try.prog 22, n ≤ reachBytes) :
    ∃ a n c l, cs = [.slice a n c] ∧ SlP W a n l := by
  rcases DataW.trod_slice Try.underlying22 hf with ⟨hcs, hx⟩ | ⟨x, len, cap, elems, rest, m, hm, hcs, hx, _, hl, hmx, hlen, hel, hsp, hns⟩
  · exact ⟨none, 0, 0, [], hcs, ⟨rfl, by omega, fun i hi => by omega, .inl rfl⟩⟩
  · obtain rfl : d = .slice (elems.map (·.1)) (rest.map (·.1)) := congrArg Prod.fst hx
    have hw0 := hw ((elems.length + rest.length) * 64) (by simp [DataW.weights, Try.underlying22, bytesOp4])
    have hb : len ≤ 2199023255552 := by unfold reachBytes at hw0; omega
    have each : ∀ i, i < len → ∃ K A B ko kn kc tn ta, (-9223372036854775808 ≤ A ∧ A ≤ 9223372036854775807) ∧ W.cell? (x.add (i * 6)) = some (.int .i64 K) ∧ W.cell? (x.add (i * 6 + 1)) = some (.int .i64 A) ∧ W.cell? (x.add (i * 6 + 2)) = some (.int .i64 B) ∧ W.cell? (x.add (i * 6 + 3)) = some (.slice ko kn kc) ∧ W.cell? (x.add (i * 6 + 4)) = some (.int .i64 tn) ∧ W.cell? (x.add (i * 6 + 5)) = some (.int .i64 ta) := by
      intro i hi
      have h1 := hel i hi
      have hy : elems[i]? = some elems[i] := List.getElem?_eq_getElem (by omega)
      rw [hy, cellsOp4, Option.bind_eq_some_iff] at h1
      obtain ⟨cs', hc1, hc2⟩ := h1
      obtain ⟨xs, m', hm', hxe, hl', hxl, hfs⟩ := DataW.trod_struct Try.underlying32 hc2
      obtain ⟨_, hcl, hcc⟩ := World.cells?_some hc1
      match cs', hcl with
      | [v0, v1, v2, v3, v4, v5], _ =>
        match xs, hxl with
        | [y0, y1, y2, y3], _ =>
          have h0 : DataW.trod enc Try.prog W 0 sp held m' 3 (([v0, v1, v2, v3, v4, v5].drop 0).take (Try.prog.cellsOf 3)) = some y0 := hfs 0 _ rfl
          have h1 : DataW.trod enc Try.prog W 0 sp held m' 3 (([v0, v1, v2, v3, v4, v5].drop 1).take (Try.prog.cellsOf 3)) = some y1 := hfs 1 _ rfl
          have h2 : DataW.trod enc Try.prog W 0 sp held m' 3 (([v0, v1, v2, v3, v4, v5].drop 2).take (Try.prog.cellsOf 3)) = some y2 := hfs 2 _ rfl
          have h3 : DataW.trod enc Try.prog W 0 sp held m' 30 (([v0, v1, v2, v3, v4, v5].drop 3).take (Try.prog.cellsOf 30)) = some y3 := hfs 3 _ rfl
          rw [cellsI4] at h0 h1 h2
          rw [cellsFall4] at h3
          have f0 : DataW.trod enc Try.prog W 0 sp held m' 3 [v0] = some y0 := h0
          have f1 : DataW.trod enc Try.prog W 0 sp held m' 3 [v1] = some y1 := h1
          have f2 : DataW.trod enc Try.prog W 0 sp held m' 3 [v2] = some y2 := h2
          have f3 : DataW.trod enc Try.prog W 0 sp held m' 30 [v3, v4, v5] = some y3 := h3
          clear h0 h1 h2 h3
          obtain ⟨K, g0, _, w0⟩ := DataW.trod_int Try.underlying3 f0
          obtain ⟨A, g1, _, w1⟩ := DataW.trod_int Try.underlying3 f1
          obtain ⟨B, g2, _, w2⟩ := DataW.trod_int Try.underlying3 f2
          obtain ⟨zs, m2, hm2, hze, hzl, hzx, hzs⟩ := DataW.trod_struct Try.underlying30 f3
          match zs, hzx with
          | [z0, z1, z2], _ =>
            have e0 : DataW.trod enc Try.prog W 0 sp held m2 28 (([v3, v4, v5].drop 0).take (Try.prog.cellsOf 28)) = some z0 := hzs 0 _ rfl
            have e1 : DataW.trod enc Try.prog W 0 sp held m2 3 (([v3, v4, v5].drop 1).take (Try.prog.cellsOf 3)) = some z1 := hzs 1 _ rfl
            have e2 : DataW.trod enc Try.prog W 0 sp held m2 3 (([v3, v4, v5].drop 2).take (Try.prog.cellsOf 3)) = some z2 := hzs 2 _ rfl
            rw [cellsSI4] at e0
            rw [cellsI4] at e1 e2
            have q0 : DataW.trod enc Try.prog W 0 sp held m2 28 [v3] = some (z0.1, z0.2) := e0
            have q1 : DataW.trod enc Try.prog W 0 sp held m2 3 [v4] = some z1 := e1
            have q2 : DataW.trod enc Try.prog W 0 sp held m2 3 [v5] = some z2 := e2
            clear e0 e1 e2
            obtain ⟨ko, kn, kc, g3⟩ := open_keep4 q0
            obtain ⟨tn, g4, _, _⟩ := DataW.trod_int Try.underlying3 q1
            obtain ⟨ta, g5, _, _⟩ := DataW.trod_int Try.underlying3 q2
            cases g0
            cases g1
            cases g2
            cases g3
            cases g4
            cases g5
            refine ⟨K, A, B, ko, kn, kc, tn, ta, bounds_i64 w1, ?_, ?_, ?_, ?_, ?_, ?_⟩
            · simpa [Addr.add_add] using hcc 0 (by omega)
            · simpa [Addr.add_add] using hcc 1 (by omega)
            · simpa [Addr.add_add] using hcc 2 (by omega)
            · simpa [Addr.add_add] using hcc 3 (by omega)
            · simpa [Addr.add_add] using hcc 4 (by omega)
            · simpa [Addr.add_add] using hcc 5 (by omega)
    by_cases h0 : len = 0
    · subst h0
      exact ⟨some x, 0, cap, [], hcs, ⟨rfl, by omega, fun i hi => by omega, .inl rfl⟩⟩
    · obtain ⟨b, off, spot⟩ := x
      obtain ⟨_, _, _, _, _, _, _, _, _, hc, _⟩ := each 0 (by omega)
      have hspot : spot = none := by simpa [Addr.add] using World.cell?_spot hc
      subst hspot
      have hbl' : b < W.heap.size := by simpa [Addr.add] using World.block_lt_of_cell? W _ hc
      have all : ∀ n, n ≤ len → ∃ l : List (Int × Int × Int), l.length = n ∧ ∀ i, i < n → (-9223372036854775808 ≤ (l.getD i (0, 0, 0)).2.1 ∧ (l.getD i (0, 0, 0)).2.1 ≤ 9223372036854775807) ∧ ∃ ko kn kc tn ta, W.cell? ⟨b, off + i * 6, none⟩ = some (.int .i64 (l.getD i (0, 0, 0)).1) ∧ W.cell? ⟨b, off + i * 6 + 1, none⟩ = some (.int .i64 (l.getD i (0, 0, 0)).2.1) ∧ W.cell? ⟨b, off + i * 6 + 2, none⟩ = some (.int .i64 (l.getD i (0, 0, 0)).2.2) ∧ W.cell? ⟨b, off + i * 6 + 3, none⟩ = some (.slice ko kn kc) ∧ W.cell? ⟨b, off + i * 6 + 4, none⟩ = some (.int .i64 tn) ∧ W.cell? ⟨b, off + i * 6 + 5, none⟩ = some (.int .i64 ta) := by
        intro n
        induction n with
        | zero => intro _; exact ⟨[], rfl, fun i hi => by omega⟩
        | succ n ih =>
          intro hn
          obtain ⟨l, hl1, hl2⟩ := ih (by omega)
          obtain ⟨K, A, B, ko, kn, kc, tn, ta, hA, c0, c1, c2, c3, c4, c5⟩ := each n (by omega)
          refine ⟨l ++ [(K, A, B)], by simp [hl1], fun i hi => ?_⟩
          by_cases e : i < n
          · have hg : (l ++ [(K, A, B)]).getD i (0, 0, 0) = l.getD i (0, 0, 0) := by
              simp only [List.getD]
              rw [List.getElem?_append_left (by omega)]
            rw [hg]
            exact hl2 i e
          · obtain rfl : i = n := by omega
            have hg : (l ++ [(K, A, B)]).getD i (0, 0, 0) = (K, A, B) := by
              simp only [List.getD]
              rw [List.getElem?_append_right (by omega), hl1]
              simp
            rw [hg]
            rw [Addr.add_lit] at c0 c1 c2 c3 c4 c5
            simp only [← Nat.add_assoc] at c0 c1 c2 c3 c4 c5
            exact ⟨hA, ko, kn, kc, tn, ta, c0, c1, c2, c3, c4, c5⟩
      obtain ⟨l, hl1, hl2⟩ := all len (Nat.le_refl _)
      exact ⟨some ⟨b, off, none⟩, len, cap, l, hcs, ⟨hl1, hb, fun i hi => (hl2 i hi).1, .inr ⟨b, off, rfl, hbl', fun i hi => (hl2 i hi).2⟩⟩⟩
end Go.Proofs.Ytmelhpghpcpoiab
