/- From a row's readings to what the walks ask: a piece that came in. -/
import Derived.Test.YtljopdpnbodnoaaDoorOpenSa
namespace Go.Proofs.YtljopdpnbodnoaaDoor
open Go.ChangeShapes Go.WideShapes Go.ChangeAt Go.RowKit

set_option maxRecDepth 100000 in
theorem cellsSl : Tryd.prog.cellsOf 25 = 1 := by kernel_rfl
set_option maxRecDepth 100000 in
theorem bytesSl : Tryd.prog.bytesOf 25 = 24 := by kernel_rfl

set_option maxRecDepth 100000 in
/-- One slice of bytes, off its cells. -/
theorem open_cells {H : Type} {enc : TypeId × Value → H} {W : World} {sp : Nat → Bool} {held : Bool} {fuel : Nat} {cs : List Value} {d : DataW H} {p : List MemPlace}
    (hf : DataW.trod enc Tryd.prog W 0 sp held fuel 25 cs = some (d, p)) (hsz : ∀ elems spare, d = .slice elems spare → (elems.length + spare.length) * Tryd.prog.bytesOf 5 ≤ reachBytes) :
    ∃ a n c l, cs = [.slice a n c] ∧ Sl W a n c l ∧ n ≤ 140737488351232 := by
  rcases open_ints Tryd.underlying25 Tryd.underlying5 cells5 hf with ⟨hcs, hx⟩ | ⟨x, len, cap, zs, hcs, _, hl, hm, hz, hx, hcell, hwz⟩
  · exact ⟨none, 0, 0, [], hcs, ⟨rfl, Nat.le_refl _, by omega, Wf.nil, fun _ => rfl, .inl rfl⟩, by omega⟩
  · obtain rfl : d = .slice (lits .u8 (zs.take len)) (lits .u8 (zs.drop len)) := congrArg Prod.fst hx
    have hzl : len ≤ zs.length := by rw [hz]; split <;> omega
    have h1 := hsz _ _ rfl
    rw [bytesU8] at h1
    simp only [lits, List.length_map, List.length_take, List.length_drop, reachBytes] at h1
    have hb : len ≤ 140737488351232 := by omega
    refine ⟨some x, len, cap, zs.take len, hcs, ⟨by simp; omega, hl, by omega, fun y hy => bounds_u8 (hwz y (List.mem_of_mem_take hy)), (by intro h; cases h), ?_⟩, hb⟩
    by_cases h0 : len = 0
    · exact .inl h0
    · obtain ⟨b, off, spot⟩ := x
      have hc := hcell 0 (by omega)
      have hspot : spot = none := by simpa [Addr.add] using World.cell?_spot hc
      subst hspot
      refine .inr ⟨b, off, rfl, World.block_lt_of_cell? W _ (by simpa [Addr.add] using hc), fun i hi => ?_⟩
      have h2 := hcell i (by omega)
      rw [Addr.add_lit] at h2
      rw [h2]
      simp [List.getD, hi]
set_option maxRecDepth 100000 in
theorem cellsPiece : Tryd.prog.cellsOf 55 = 3 := by kernel_rfl
set_option maxRecDepth 100000 in
theorem cellsInt9 : Tryd.prog.cellsOf 3 = 1 := by kernel_rfl
set_option maxRecDepth 100000 in
theorem open_piece {H : Type} {enc : TypeId × Value → H} {W : World} {base : Nat} {sp : Nat → Bool} {held : Bool} {v : Value} {d : DataW H} {p : List MemPlace} {ts : List TypeId} {ds : List (DataW H)} (hok : Value.okWide Tryd.prog W .any base 55 v)
    (h : DataW.Trod enc Tryd.prog W 0 sp held 55 v d p) (hsz : (DataW.weightsEach Tryd.prog ts ds).all (· ≤ reachBytes) = true) (j : Nat) (ht : ts[j]? = some 55) (hd : ds[j]? = some d) :
    ∃ a n c l fr to, v = .agg #[.slice a n c, .int .i64 fr, .int .i64 to] ∧ Sl W a n c l ∧ (-9223372036854775808 ≤ fr ∧ fr ≤ 9223372036854775807) ∧ (-9223372036854775808 ≤ to ∧ to ≤ 9223372036854775807) := by
  obtain ⟨cs, rfl, hcsz⟩ := okWide_struct Tryd.underlying55 hok
  rw [cellsPiece] at hcsz
  obtain ⟨fuel, hf⟩ := h
  obtain ⟨xs, m', hm', hxe, hl', hxl, hfs⟩ := DataW.trod_struct Tryd.underlying55 hf
  obtain ⟨l⟩ := cs
  match l, hcsz with
  | [v0, v1, v2], _ =>
    match xs, hxl with
    | [y0, y1, y2], _ =>
      have h0 : DataW.trod enc Tryd.prog W 0 sp held m' 25 (([v0, v1, v2].drop 0).take (Tryd.prog.cellsOf 25)) = some y0 := hfs 0 _ rfl
      have h1 : DataW.trod enc Tryd.prog W 0 sp held m' 3 (([v0, v1, v2].drop 1).take (Tryd.prog.cellsOf 3)) = some y1 := hfs 1 _ rfl
      have h2 : DataW.trod enc Tryd.prog W 0 sp held m' 3 (([v0, v1, v2].drop 2).take (Tryd.prog.cellsOf 3)) = some y2 := hfs 2 _ rfl
      rw [cellsSl] at h0
      rw [cellsInt9] at h1 h2
      have f0 : DataW.trod enc Tryd.prog W 0 sp held m' 25 [v0] = some (y0.1, y0.2) := h0
      have f1 : DataW.trod enc Tryd.prog W 0 sp held m' 3 [v1] = some y1 := h1
      have f2 : DataW.trod enc Tryd.prog W 0 sp held m' 3 [v2] = some y2 := h2
      clear h0 h1 h2
      have hde : d = .agg [y0.1, y1.1, y2.1] := congrArg Prod.fst hxe
      have hwe2 : ∀ n ∈ DataW.weightsEach Tryd.prog [25, 3, 3] [y0.1, y1.1, y2.1], n ≤ reachBytes := by
        intro n hn
        have := List.all_eq_true.1 hsz n (DataW.weights_mem_each ht hd n (by
          rw [hde]
          simp only [DataW.weights, Tryd.underlying55]
          exact hn))
        simpa using this
      obtain ⟨ka, kn, kc, kl', g0, hk, _⟩ := open_cells f0 (fun el spr e => hwe2 _ (DataW.weights_mem_each (j := 0) rfl rfl _ (by rw [e]; simp [DataW.weights, Tryd.underlying25])))
      obtain ⟨n1, g1, _, w1⟩ := DataW.trod_int Tryd.underlying3 f1
      obtain ⟨n2, g2, _, w2⟩ := DataW.trod_int Tryd.underlying3 f2
      injection g0 with g0
      injection g1 with g1
      injection g2 with g2
      subst g0 g1 g2
      exact ⟨ka, kn, kc, kl', n1, n2, rfl, hk, bounds_i64 w1, bounds_i64 w2⟩
end Go.Proofs.YtljopdpnbodnoaaDoor
