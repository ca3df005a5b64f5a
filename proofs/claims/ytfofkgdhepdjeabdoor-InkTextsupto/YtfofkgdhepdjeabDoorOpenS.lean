/- From a row's readings to what the walks ask: a slice of slices of bytes that came in. -/
import Derived.Test.YtfofkgdhepdjeabDoorOpen
namespace Go.Proofs.YtfofkgdhepdjeabDoor
open Go.ChangeShapes Go.WideShapes Go.ChangeAt Go.RowKit

theorem cellsSl : Tryd.prog.cellsOf 23 = 1 := by kernel_rfl
theorem bytesSl : Tryd.prog.bytesOf 23 = 24 := by kernel_rfl

/-- One slice of bytes, off its cells. -/
theorem open_cells {H : Type} {enc : TypeId × Value → H} {W : World} {sp : Nat → Bool} {held : Bool} {fuel : Nat} {cs : List Value} {d : DataW H} {p : List MemPlace}
    (hf : DataW.trod enc Tryd.prog W 0 sp held fuel 23 cs = some (d, p)) (hsz : ∀ elems spare, d = .slice elems spare → (elems.length + spare.length) * Tryd.prog.bytesOf 5 ≤ reachBytes) :
    ∃ a n c l, cs = [.slice a n c] ∧ Sl W a n c l ∧ n ≤ 140737488351232 := by
  rcases open_ints Tryd.underlying23 Tryd.underlying5 cells5 hf with ⟨hcs, hx⟩ | ⟨x, len, cap, zs, hcs, _, hl, hm, hz, hx, hcell, hwz⟩
  · exact ⟨none, 0, 0, [], hcs, ⟨rfl, Nat.le_refl _, by omega, Wf.nil, fun _ => rfl, .inl rfl⟩, by omega⟩
  · obtain rfl : d = .slice (lits .u8 (zs.take len)) (lits .u8 (zs.drop len)) := congrArg Prod.fst hx
    have hzl : len ≤ zs.length := by rw [hz]; split <;> omega
    have h1 := hsz _ _ rfl
    rw [bytesU8] at h1
    simp only [lits, List.length_map, List.length_take, List.length_drop, reachBytes] at h1
    have hb : len ≤ 140737488351232 := by omega
    refine ⟨some x, len, cap, zs.take len, hcs, ⟨by simp; omega, hl, by omega, fun y hy => bounds_u8 (hwz y (List.mem_of_mem_take hy)), (by intro h; cases h), ?_⟩, hb⟩
    by_cases h0 : len = 0
    · exact .inl h0
    · obtain ⟨b, off, spot⟩ := x
      have hc := hcell 0 (by omega)
      have hspot : spot = none := by simpa [Addr.add] using World.cell?_spot hc
      subst hspot
      refine .inr ⟨b, off, rfl, World.block_lt_of_cell? W _ (by simpa [Addr.add] using hc), fun i hi => ?_⟩
      have h2 := hcell i (by omega)
      rw [Addr.add_lit] at h2
      rw [h2]
      simp [List.getD, hi]

theorem weights_part {H : Type} {t : TypeId} {d : DataW H} {n : Nat} : ∀ {ds : List (DataW H)}, d ∈ ds → n ∈ d.weights Tryd.prog t → n ∈ DataW.weightsAll Tryd.prog t ds
  | [], h, _ => by cases h
  | x :: ds, h, hn => by
    simp only [DataW.weightsAll, List.mem_append]
    rcases List.mem_cons.1 h with rfl | h
    · exact .inl hn
    · exact .inr (weights_part h hn)

theorem open_slices {H : Type} {enc : TypeId × Value → H} {W : World} {base : Nat} {sp : Nat → Bool} {held : Bool} {v : Value} {d : DataW H} {p : List MemPlace} {ts : List TypeId} {ds : List (DataW H)} (hok : Value.okWide Tryd.prog W .any base 22 v)
    (h : DataW.Trod enc Tryd.prog W 0 sp held 22 v d p) (hsz : (DataW.weightsEach Tryd.prog ts ds).all (· ≤ reachBytes) = true) (j : Nat) (ht : ts[j]? = some 22) (hd : ds[j]? = some d) :
    ∃ a n c ls, v = .slice a n c ∧ SlS W a n c ls ∧ n ≤ 140737488351232 ∧ 1 ≤ Rows.uptoBulk d := by
  obtain ⟨a, len, cap, rfl⟩ := okWide_slice Tryd.underlying22 hok
  obtain ⟨fuel, hf⟩ := h
  rcases DataW.trod_slice Tryd.underlying22 hf with ⟨hcs, hx⟩ | ⟨x, len', cap', elems, rest, m, _, hcs, hx, _, hl, hm, hlen, hel, hsp, hns⟩
  · simp [Value.cells] at hcs
    obtain ⟨rfl, rfl, rfl⟩ := hcs
    obtain rfl : d = .nil := congrArg Prod.fst hx
    exact ⟨none, 0, 0, [], rfl, ⟨rfl, Nat.le_refl _, by omega, fun _ => rfl, .inl rfl⟩, by omega, by simp [Rows.uptoBulk]⟩
  · simp [Value.cells] at hcs
    obtain ⟨rfl, rfl, rfl⟩ := hcs
    obtain rfl : d = .slice (elems.map (·.1)) (rest.map (·.1)) := congrArg Prod.fst hx
    have hall : ∀ n, n ∈ DataW.weights Tryd.prog 22 (.slice (elems.map (·.1)) (rest.map (·.1))) → n ≤ reachBytes := by
      intro n hn
      have := List.all_eq_true.1 hsz n (DataW.weights_mem_each ht hd n hn)
      simpa using this
    have hw0 := hall ((elems.length + rest.length) * 24) (by simp [DataW.weights, Tryd.underlying22, bytesSl])
    have hb : len ≤ 140737488351232 := by unfold reachBytes at hw0; omega
    have each : ∀ i, i < len → ∃ a' m' c' l', W.cell? (x.add i) = some (.slice a' m' c') ∧ Sl W a' m' c' l' := by
      intro i hi
      have h1 := hel i hi
      have hy : elems[i]? = some elems[i] := List.getElem?_eq_getElem (by omega)
      rw [hy, cellsSl, Nat.mul_one, Option.bind_eq_some_iff] at h1
      obtain ⟨cs', hc1, hc2⟩ := h1
      obtain ⟨a', m', c', l', rfl, hs', _⟩ := open_cells (d := elems[i].1) (p := elems[i].2) hc2 (fun el spr e => by
        have hmem : elems[i].1 ∈ elems.map (·.1) := List.mem_map.2 ⟨elems[i], List.getElem_mem _, rfl⟩
        apply hall
        simp only [DataW.weights, Tryd.underlying22, List.mem_cons, List.mem_append]
        refine .inr (.inl (weights_part hmem ?_))
        rw [e]
        simp [DataW.weights, Tryd.underlying23])
      exact ⟨a', m', c', l', cell_of_cells?_one hc1, hs'⟩
    have hls : ∀ n, n ≤ len → ∃ ls : List (List Int), ls.length = n ∧ ∀ i, i < n → ∃ a' m' c', W.cell? (x.add i) = some (.slice a' m' c') ∧ Sl W a' m' c' (ls.getD i []) := by
      intro n
      induction n with
      | zero => intro _; exact ⟨[], rfl, fun i hi => by omega⟩
      | succ n ih =>
        intro hn
        obtain ⟨ls, h1, h2⟩ := ih (by omega)
        obtain ⟨a', m', c', l', h3, h4⟩ := each n (by omega)
        refine ⟨ls ++ [l'], by simp [h1], fun i hi => ?_⟩
        by_cases hin : i < n
        · have : (ls ++ [l']).getD i [] = ls.getD i [] := by
            rw [List.getD_eq_getElem?_getD, List.getD_eq_getElem?_getD, List.getElem?_append_left (by omega)]
          rw [this]
          exact h2 i hin
        · obtain rfl : i = n := by omega
          have : (ls ++ [l']).getD i [] = l' := by
            rw [List.getD_eq_getElem?_getD, List.getElem?_append_right (by omega), h1]
            simp
          rw [this]
          exact ⟨a', m', c', h3, h4⟩
    obtain ⟨ls, hl1, hl2⟩ := hls len (Nat.le_refl _)
    refine ⟨some x, len, cap, ls, rfl, ⟨hl1, hl, by omega, (by intro h; cases h), ?_⟩, hb, by simp [Rows.uptoBulk]⟩
    by_cases h0 : len = 0
    · exact .inl h0
    · obtain ⟨b, off, spot⟩ := x
      obtain ⟨a', m', c', h3, _⟩ := hl2 0 (by omega)
      have hspot : spot = none := by simpa [Addr.add] using World.cell?_spot h3
      subst hspot
      refine .inr ⟨b, off, rfl, World.block_lt_of_cell? W _ (by simpa [Addr.add] using h3), fun i hi => ?_⟩
      obtain ⟨a', m', c', h5, h6⟩ := hl2 i hi
      rw [Addr.add_lit] at h5
      exact ⟨a', m', c', h5, h6⟩
end Go.Proofs.YtfofkgdhepdjeabDoor
