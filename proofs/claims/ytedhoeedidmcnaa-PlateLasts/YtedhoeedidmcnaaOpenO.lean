/- From a row's readings to what the walk of PlateLasts asks: Ops that came in. -/
import Derived.Test.YtedhoeedidmcnaaOpenP
import Derived.Test.YtedhoeedidmcnaaPlateLastsW
import Derived.ChangeArms
import Derived.DataElems
import Derived.WideShapes
namespace Go.Proofs.Ytedhoeedidmcnaa
open Go.ChangeShapes Go.WideShapes Go.ChangeAt Go.RowKit

theorem cellsOp : Try.prog.cellsOf 40 = 8 := by kernel_rfl
theorem cellsFall : Try.prog.cellsOf 38 = 3 := by kernel_rfl
theorem cellsI : Try.prog.cellsOf 3 = 1 := by kernel_rfl
theorem cellsSI : Try.prog.cellsOf 36 = 1 := by kernel_rfl
theorem bytesOp : Try.prog.bytesOf 40 = 96 := by kernel_rfl
theorem bytesI : Try.prog.bytesOf 3 = 8 := by kernel_rfl

theorem weights_part {H : Type} {t : TypeId} {d : DataW H} {n : Nat} : ∀ {ds : List (DataW H)}, d ∈ ds → n ∈ d.weights Try.prog t → n ∈ DataW.weightsAll Try.prog t ds
  | [], h, _ => by cases h
  | x :: ds, h, hn => by
    simp only [DataW.weightsAll, List.mem_append]
    rcases List.mem_cons.1 h with rfl | h
    · exact .inl hn
    · exact .inr (weights_part h hn)

theorem open_keep {H : Type} {enc : TypeId × Value → H} {W : World} {sp : Nat → Bool} {held : Bool} {fuel : Nat} {v : Value} {d : DataW H} {p : List MemPlace} (hf : DataW.trod enc Try.prog W 0 sp held fuel 36 [v] = some (d, p)) (hw : ∀ n ∈ d.weights Try.prog 36, n ≤ reachBytes) :
    ∃ ko kn kc ks, v = .slice ko kn kc ∧ Ks W ko kn ks ∧ kn ≤ 17592186044416 ∧ (ko = none → kn = 0 ∧ kc = 0) := by
  rcases open_ints Try.underlying36 Try.underlying3 cellsI hf with ⟨hcs, hx⟩ | ⟨x, len, cap, zs, hcs, _, hl, hm, hz, hx, hcell, hwz⟩
  · injection hcs with hcs
    exact ⟨none, 0, 0, [], hcs, Ks.nil _, by omega, fun _ => ⟨rfl, rfl⟩⟩
  · injection hcs with hcs
    have hzl : len ≤ zs.length := by rw [hz]; split <;> omega
    obtain rfl : d = .slice (lits .i64 (zs.take len)) (lits .i64 (zs.drop len)) := congrArg Prod.fst hx
    have h1 := hw (((lits (H := H) .i64 (zs.take len)).length + (lits (H := H) .i64 (zs.drop len)).length) * 8) (by simp [DataW.weights, Try.underlying36, bytesI])
    simp only [lits, List.length_map, List.length_take, List.length_drop, reachBytes] at h1
    refine ⟨some x, len, cap, zs.take len, hcs, ⟨by simp; omega, by omega, ?_⟩, by omega, (by intro h; cases h)⟩
    by_cases h0 : len = 0
    · exact .inl h0
    · obtain ⟨b, off, spot⟩ := x
      have hc := hcell 0 (by omega)
      have hspot : spot = none := by simpa [Addr.add] using World.cell?_spot hc
      subst hspot
      refine .inr ⟨b, off, rfl, World.block_lt_of_cell? W _ (by simpa [Addr.add] using hc), fun i hi => ?_⟩
      have h2 := hcell i (by omega)
      rw [Addr.add_lit] at h2
      rw [h2]
      simp [List.getD, hi]

set_option maxRecDepth 100000 in
theorem open_ops {H : Type} {enc : TypeId × Value → H} {W : World} {sp : Nat → Bool} {held : Bool} {fuel : Nat} {cs : List Value} {d : DataW H} {p : List MemPlace} (hf : DataW.trod enc Try.prog W 0 sp held fuel 23 cs = some (d, p)) (hw : ∀ n ∈ d.weights Try.prog 23, n ≤ reachBytes) :
    ∃ a n c l, cs = [.slice a n c] ∧ SlO W a n l := by
  rcases DataW.trod_slice Try.underlying23 hf with ⟨hcs, hx⟩ | ⟨x, len, cap, elems, rest, m, hm, hcs, hx, _, hl, hmx, hlen, hel, hsp, hns⟩
  · exact ⟨none, 0, 0, [], hcs, ⟨rfl, by omega, fun i hi => by omega, .inl rfl⟩⟩
  · obtain rfl : d = .slice (elems.map (·.1)) (rest.map (·.1)) := congrArg Prod.fst hx
    have hw0 := hw ((elems.length + rest.length) * 96) (by simp [DataW.weights, Try.underlying23, bytesOp])
    have hb : len ≤ 1466015503701 := by unfold reachBytes at hw0; omega
    have each : ∀ i, i < len → ∃ N V ko kn kc ks tn ta, W.cell? (x.add (i * 8 + 2)) = some (.int .i64 N) ∧ W.cell? (x.add (i * 8 + 3)) = some (.int .u8 V) ∧ W.cell? (x.add (i * 8 + 5)) = some (.slice ko kn kc) ∧ W.cell? (x.add (i * 8 + 6)) = some (.int .i64 tn) ∧ W.cell? (x.add (i * 8 + 7)) = some (.int .i64 ta) ∧
        (0 ≤ V ∧ V ≤ 255) ∧ Ks W ko kn ks ∧ kn ≤ 17592186044416 ∧ (ko = none → kn = 0 ∧ kc = 0) ∧ ∃ v, W.cell? (x.add (i * 8)) = some v := by
      intro i hi
      have h1 := hel i hi
      have hy : elems[i]? = some elems[i] := List.getElem?_eq_getElem (by omega)
      rw [hy, cellsOp, Option.bind_eq_some_iff] at h1
      obtain ⟨cs', hc1, hc2⟩ := h1
      have hmem : elems[i].1 ∈ elems.map (·.1) := List.mem_map.2 ⟨elems[i], List.getElem_mem _, rfl⟩
      have hwe : ∀ n ∈ elems[i].1.weights Try.prog 40, n ≤ reachBytes := fun n hn => hw n (by
        simp only [DataW.weights, Try.underlying23, List.mem_cons, List.mem_append]
        exact .inr (.inl (weights_part hmem hn)))
      obtain ⟨xs, m', hm', hxe, hl', hxl, hfs⟩ := DataW.trod_struct Try.underlying40 hc2
      obtain ⟨_, hcl, hcc⟩ := World.cells?_some hc1
      match cs', hcl with
      | [v0, v1, v2, v3, v4, v5, v6, v7], _ =>
        match xs, hxl with
        | [y0, y1, y2, y3, y4, y5], _ =>
          have h2 : DataW.trod enc Try.prog W 0 sp held m' 3 (([v0, v1, v2, v3, v4, v5, v6, v7].drop 2).take (Try.prog.cellsOf 3)) = some y2 := hfs 2 _ rfl
          have h3 : DataW.trod enc Try.prog W 0 sp held m' 5 (([v0, v1, v2, v3, v4, v5, v6, v7].drop 3).take (Try.prog.cellsOf 5)) = some y3 := hfs 3 _ rfl
          have h5 : DataW.trod enc Try.prog W 0 sp held m' 38 (([v0, v1, v2, v3, v4, v5, v6, v7].drop 5).take (Try.prog.cellsOf 38)) = some y5 := hfs 5 _ rfl
          rw [cellsI] at h2
          rw [cells5] at h3
          rw [cellsFall] at h5
          have f2 : DataW.trod enc Try.prog W 0 sp held m' 3 [v2] = some y2 := h2
          have f3 : DataW.trod enc Try.prog W 0 sp held m' 5 [v3] = some y3 := h3
          have f5 : DataW.trod enc Try.prog W 0 sp held m' 38 [v5, v6, v7] = some y5 := h5
          clear h2 h3 h5
          obtain ⟨N, g2, _, w2⟩ := DataW.trod_int Try.underlying3 f2
          obtain ⟨V, g3, _, w3⟩ := DataW.trod_int Try.underlying5 f3
          have hd : elems[i].1 = .agg [y0.1, y1.1, y2.1, y3.1, y4.1, y5.1] := by rw [hxe]; rfl
          rw [hd] at hwe
          have hwe2 : ∀ n ∈ DataW.weightsEach Try.prog [3, 3, 3, 5, 35, 38] [y0.1, y1.1, y2.1, y3.1, y4.1, y5.1], n ≤ reachBytes := by
            intro n hn
            apply hwe n
            simp only [DataW.weights, Try.underlying40]
            exact hn
          obtain ⟨zs, m2, hm2, hze, hzl, hzx, hzs⟩ := DataW.trod_struct Try.underlying38 f5
          match zs, hzx with
          | [z0, z1, z2], _ =>
            have e0 : DataW.trod enc Try.prog W 0 sp held m2 36 (([v5, v6, v7].drop 0).take (Try.prog.cellsOf 36)) = some z0 := hzs 0 _ rfl
            have e1 : DataW.trod enc Try.prog W 0 sp held m2 3 (([v5, v6, v7].drop 1).take (Try.prog.cellsOf 3)) = some z1 := hzs 1 _ rfl
            have e2 : DataW.trod enc Try.prog W 0 sp held m2 3 (([v5, v6, v7].drop 2).take (Try.prog.cellsOf 3)) = some z2 := hzs 2 _ rfl
            rw [cellsSI] at e0
            rw [cellsI] at e1 e2
            have q0 : DataW.trod enc Try.prog W 0 sp held m2 36 [v5] = some (z0.1, z0.2) := e0
            have q1 : DataW.trod enc Try.prog W 0 sp held m2 3 [v6] = some z1 := e1
            have q2 : DataW.trod enc Try.prog W 0 sp held m2 3 [v7] = some z2 := e2
            clear e0 e1 e2
            have hd5 : y5.1 = .agg [z0.1, z1.1, z2.1] := by rw [hze]; rfl
            have hwe3 : ∀ n ∈ DataW.weightsEach Try.prog [36, 3, 3] [z0.1, z1.1, z2.1], n ≤ reachBytes := by
              intro n hn
              refine hwe2 n (DataW.weights_mem_each (j := 5) rfl rfl n ?_)
              rw [hd5]
              simp only [DataW.weights, Try.underlying38]
              exact hn
            obtain ⟨ko, kn, kc, ks, g5, hks, hkn, hkk⟩ := open_keep q0 (fun n hn => hwe3 n (DataW.weights_mem_each (j := 0) rfl rfl n hn))
            obtain ⟨tn, g6, _, _⟩ := DataW.trod_int Try.underlying3 q1
            obtain ⟨ta, g7, _, _⟩ := DataW.trod_int Try.underlying3 q2
            cases g2
            cases g3
            cases g5
            cases g6
            cases g7
            refine ⟨N, V, ko, kn, kc, ks, tn, ta, ?_, ?_, ?_, ?_, ?_, bounds_u8 w3, hks, hkn, hkk, v0, ?_⟩
            · simpa [Addr.add_add] using hcc 2 (by omega)
            · simpa [Addr.add_add] using hcc 3 (by omega)
            · simpa [Addr.add_add] using hcc 5 (by omega)
            · simpa [Addr.add_add] using hcc 6 (by omega)
            · simpa [Addr.add_add] using hcc 7 (by omega)
            · simpa [Addr.add_add] using hcc 0 (by omega)
    by_cases h0 : len = 0
    · subst h0
      exact ⟨some x, 0, cap, [], hcs, ⟨rfl, by omega, fun i hi => by omega, .inl rfl⟩⟩
    · obtain ⟨b, off, spot⟩ := x
      obtain ⟨_, _, ko, kn, kc, ks, tn, ta, _, _, k5, k6, k7, _, hks, hkn, hkk, _, hc⟩ := each 0 (by omega)
      have hspot : spot = none := by simpa [Addr.add] using World.cell?_spot hc
      subst hspot
      have hbl := World.block_lt_of_cell? W _ hc
      have hbl' : b < W.heap.size := by simpa [Addr.add] using hbl
      have all : ∀ n, n ≤ len → ∃ l : List (Int × Int), l.length = n ∧ ∀ i, i < n → (0 ≤ (l.getD i (0, 0)).2 ∧ (l.getD i (0, 0)).2 ≤ 255) ∧ W.cell? ⟨b, off + i * 8 + 2, none⟩ = some (.int .i64 (l.getD i (0, 0)).1) ∧ W.cell? ⟨b, off + i * 8 + 3, none⟩ = some (.int .u8 (l.getD i (0, 0)).2) := by
        intro n
        induction n with
        | zero => intro _; exact ⟨[], rfl, fun i hi => by omega⟩
        | succ n ih =>
          intro hn
          obtain ⟨l, l1, l2⟩ := ih (by omega)
          obtain ⟨N, V, _, _, _, _, _, _, c2, c3, _, _, _, hV, _, _, _, _⟩ := each n (by omega)
          simp only [Addr.add_lit, ← Nat.add_assoc] at c2 c3
          refine ⟨l ++ [(N, V)], by simp [l1], fun i hi => ?_⟩
          rw [getD_snoc, l1]
          by_cases e : i = n
          · rw [if_pos e, e]; exact ⟨hV, c2, c3⟩
          · rw [if_neg e]; exact l2 i (by omega)
      obtain ⟨l, l1, l2⟩ := all len (Nat.le_refl _)
      simp only [Addr.add_lit, Nat.zero_mul, Nat.zero_add] at k5 k6 k7
      exact ⟨_, len, cap, l, hcs, ⟨l1, hb, fun i hi => (l2 i hi).1, .inr ⟨b, off, rfl, hbl', fun i hi => (l2 i hi).2, ko, kn, kc, ks, tn, ta, k5, k6, k7, hks, hkn, hkk⟩⟩⟩
end Go.Proofs.Ytedhoeedidmcnaa
