/- From a row's readings to what the walks ask: items that came in. -/
import Derived.Test.YtfdiflfjefhjfaaGreatDoorLentI2
import Derived.ChangeArms
import Derived.DataElems
import Derived.SizedLaws
import Derived.KernelRfl
import Derived.WideShapes
namespace Go.Proofs.YtfdiflfjefhjfaaGreatDoor
open Go.ChangeShapes Go.WideShapes Go.ChangeAt Go.RowKit

set_option maxRecDepth 100000 in
theorem cellsItem : Tryz.prog.cellsOf 40 = 4 := by kernel_rfl
set_option maxRecDepth 100000 in
theorem cellsI3 : Tryz.prog.cellsOf 3 = 1 := by kernel_rfl
set_option maxRecDepth 100000 in
theorem cellsI2 : Tryz.prog.cellsOf 2 = 1 := by kernel_rfl
set_option maxRecDepth 100000 in
theorem cellsI9 : Tryz.prog.cellsOf 9 = 1 := by kernel_rfl
set_option maxRecDepth 100000 in
theorem cellsI24 : Tryz.prog.cellsOf 22 = 1 := by kernel_rfl
set_option maxRecDepth 100000 in
theorem bytesItem : Tryz.prog.bytesOf 40 = 56 := by kernel_rfl

set_option maxRecDepth 100000 in
theorem wf_i64 {n : Int} (h : (Lit.int .i64 n).wf = true) : -9223372036854775808 ≤ n ∧ n ≤ 9223372036854775807 := by
  simp only [Lit.wf, Bool.and_eq_true, decide_eq_true_eq] at h
  have h1 : IntKind.i64.min = -9223372036854775808 := rfl
  have h2 : IntKind.i64.max = 9223372036854775807 := rfl
  omega

set_option maxRecDepth 100000 in
theorem weights_partI {H : Type} {t : TypeId} {d : DataW H} {n : Nat} : ∀ {ds : List (DataW H)}, d ∈ ds → n ∈ d.weights Tryz.prog t → n ∈ DataW.weightsAll Tryz.prog t ds
  | [], h, _ => by cases h
  | x :: ds, h, hn => by
    simp only [DataW.weightsAll, List.mem_append]
    rcases List.mem_cons.1 h with rfl | h
    · exact .inl hn
    · exact .inr (weights_partI h hn)

set_option maxRecDepth 100000 in
theorem open_items {H : Type} {enc : TypeId × Value → H} {W : World} {sp : Nat → Bool} {held : Bool} : ∀ (N fuel : Nat), fuel < N → ∀ (cs : List Value) (d : DataW H) (p : List MemPlace),
    DataW.trod enc Tryz.prog W 0 sp held fuel 22 cs = some (d, p) → (∀ n ∈ d.weights Tryz.prog 22, n ≤ reachBytes) → ∃ a n c l, cs = [.slice a n c] ∧ SlI W Tp a n c l
  | 0, _, h => by omega
  | N + 1, fuel, hN => by
    intro cs d p hf hw
    rcases DataW.trod_slice Tryz.underlying22 hf with ⟨hcs, hx⟩ | ⟨x, len, cap, elems, rest, m, hm, hcs, hx, _, hl, hmx, hlen, hel, hsp, hns⟩
    · exact ⟨none, 0, 0, .nil, hcs, ⟨rfl, Nat.le_refl _, fun _ => rfl, by omega, trivial, .inl rfl⟩⟩
    · obtain rfl : d = .slice (elems.map (·.1)) (rest.map (·.1)) := congrArg Prod.fst hx
      have hw0 := hw ((elems.length + rest.length) * 56) (by simp [DataW.weights, Tryz.underlying22, bytesItem])
      have hb : len ≤ 140737488355328 := by unfold reachBytes at hw0; omega
      have each : ∀ i, i < len → ∃ k nn t so sm sc sub, W.cell? (x.add (i * 4)) = some (.int .i64 k) ∧ W.cell? (x.add (i * 4 + 1)) = some (.int .i64 nn) ∧ W.cell? (x.add (i * 4 + 2)) = some (.string t) ∧ W.cell? (x.add (i * 4 + 3)) = some (.slice so sm sc) ∧
          (-9223372036854775808 ≤ k ∧ k ≤ 9223372036854775807) ∧ (-9223372036854775808 ≤ nn ∧ nn ≤ 9223372036854775807) ∧ t.size ≤ 140737488355328 ∧ SlI W Tp so sm sc sub := by
        intro i hi
        have h1 := hel i hi
        have hy : elems[i]? = some elems[i] := List.getElem?_eq_getElem (by omega)
        rw [hy, cellsItem, Option.bind_eq_some_iff] at h1
        obtain ⟨cs', hc1, hc2⟩ := h1
        have hmem : elems[i].1 ∈ elems.map (·.1) := List.mem_map.2 ⟨elems[i], List.getElem_mem _, rfl⟩
        have hwe : ∀ n ∈ elems[i].1.weights Tryz.prog 40, n ≤ reachBytes := fun n hn => hw n (by
          simp only [DataW.weights, Tryz.underlying22, List.mem_cons, List.mem_append]
          exact .inr (.inl (weights_partI hmem hn)))
        obtain ⟨xs, m', hm', hxe, hl', hxl, hfs⟩ := DataW.trod_struct Tryz.underlying40 hc2
        obtain ⟨_, hcl, hcc⟩ := World.cells?_some hc1
        match cs', hcl with
        | [v0, v1, v2, v3], _ =>
          match xs, hxl with
          | [y0, y1, y2, y3], _ =>
            have h0 : DataW.trod enc Tryz.prog W 0 sp held m' 3 (([v0, v1, v2, v3].drop 0).take (Tryz.prog.cellsOf 3)) = some y0 := hfs 0 _ rfl
            have h1 : DataW.trod enc Tryz.prog W 0 sp held m' 2 (([v0, v1, v2, v3].drop 1).take (Tryz.prog.cellsOf 2)) = some y1 := hfs 1 _ rfl
            have h2 : DataW.trod enc Tryz.prog W 0 sp held m' 9 (([v0, v1, v2, v3].drop 2).take (Tryz.prog.cellsOf 9)) = some y2 := hfs 2 _ rfl
            have h3 : DataW.trod enc Tryz.prog W 0 sp held m' 22 (([v0, v1, v2, v3].drop 3).take (Tryz.prog.cellsOf 22)) = some y3 := hfs 3 _ rfl
            rw [cellsI3] at h0
            rw [cellsI2] at h1
            rw [cellsI9] at h2
            rw [cellsI24] at h3
            have f0 : DataW.trod enc Tryz.prog W 0 sp held m' 3 [v0] = some y0 := h0
            have f1 : DataW.trod enc Tryz.prog W 0 sp held m' 2 [v1] = some y1 := h1
            have f2 : DataW.trod enc Tryz.prog W 0 sp held m' 9 [v2] = some y2 := h2
            have f3 : DataW.trod enc Tryz.prog W 0 sp held m' 22 [v3] = some (y3.1, y3.2) := h3
            clear h0 h1 h2 h3
            obtain ⟨k, g0, _, w0⟩ := DataW.trod_int Tryz.underlying3 f0
            obtain ⟨nn, g1, _, w1⟩ := DataW.trod_int Tryz.underlying2 f1
            obtain ⟨t, g2, e2, _⟩ := DataW.trod_string Tryz.underlying9 f2
            have hd : elems[i].1 = .agg [y0.1, y1.1, y2.1, y3.1] := by rw [hxe]; rfl
            rw [hd] at hwe
            have hwe2 : ∀ n ∈ DataW.weightsEach Tryz.prog [3, 2, 9, 22] [y0.1, y1.1, y2.1, y3.1], n ≤ reachBytes := by
              intro n hn
              apply hwe n
              simp only [DataW.weights, Tryz.underlying40]
              exact hn
            obtain ⟨so, sm, sc, sub, g3, hsub⟩ := open_items N m' (by omega) _ y3.1 y3.2 f3 (fun n hn => hwe2 n (DataW.weights_mem_each (j := 3) rfl rfl n hn))
            have ht : t.size ≤ 140737488355328 := by
              have := hwe2 t.data.toList.length (DataW.weights_mem_each (j := 2) rfl rfl _ (by rw [e2]; simp [DataW.weights]))
              unfold reachBytes at this
              have hs : t.data.toList.length = t.size := Array.length_toList
              omega
            cases g0
            cases g1
            cases g2
            cases g3
            refine ⟨k, nn, t, so, sm, sc, sub, ?_, ?_, ?_, ?_, wf_i64 w0, wf_i64 w1, ht, hsub⟩
            · simpa [Addr.add_add] using hcc 0 (by omega)
            · simpa [Addr.add_add] using hcc 1 (by omega)
            · simpa [Addr.add_add] using hcc 2 (by omega)
            · simpa [Addr.add_add] using hcc 3 (by omega)
      by_cases h0 : len = 0
      · subst h0
        exact ⟨some x, 0, cap, .nil, hcs, ⟨rfl, hl, (by intro h; cases h), by omega, trivial, .inl rfl⟩⟩
      · obtain ⟨b, off, spot⟩ := x
        obtain ⟨_, _, _, _, _, _, _, hc, _⟩ := each 0 (by omega)
        have hspot : spot = none := by simpa [Addr.add] using World.cell?_spot hc
        subst hspot
        have hbl := World.block_lt_of_cell? W _ hc
        have hbl' : b < W.heap.size := by simpa [Addr.add] using hbl
        have all : ∀ n, n ≤ len → ∃ l : Its, l.len = n ∧ l.Ok ∧ l.At W Tp b (off + 4 * (len - n)) := by
          intro n
          induction n with
          | zero => intro _; exact ⟨.nil, rfl, trivial, trivial⟩
          | succ n ih =>
            intro hn
            obtain ⟨l, l1, l2, l3⟩ := ih (by omega)
            obtain ⟨k, nn, t, so, sm, sc, sub, c0, c1, c2, c3, b0, b1, b2, hs⟩ := each (len - (n + 1)) (by omega)
            simp only [Addr.add_lit] at c0 c1 c2 c3
            refine ⟨.cons k nn t sub l, by simp [Its.len, l1], ⟨b0, b1, b2, by have := hs.hroom; have := hs.hlen; omega, hs.ok, l2⟩, ?_⟩
            have e : off + 4 * (len - (n + 1)) = off + (len - (n + 1)) * 4 := by omega
            rw [e]
            refine ⟨⟨c0, c1, c2, so, sm, sc, c3, hs.hlen, hs.hcap, hs.hnil, hs.hat⟩, ?_⟩
            rw [show off + (len - (n + 1)) * 4 + 4 = off + 4 * (len - n) by omega]
            exact l3
        obtain ⟨l, l1, l2, l3⟩ := all len (Nat.le_refl _)
        exact ⟨_, len, cap, l, hcs, ⟨l1, hl, (by intro h; cases h), hb, l2, .inr ⟨b, off, rfl, hbl', trivial, by simpa using l3⟩⟩⟩
end Go.Proofs.YtfdiflfjefhjfaaGreatDoor
