/- From a row's readings to what the walks ask: a meta that came in. -/
import Derived.Test.YtoifjcliepongaaDoorOpenM
import Derived.WideShapes
import Derived.ChangeArms
namespace Go.Proofs.YtoifjcliepongaaDoor
open Go.ChangeShapes Go.WideShapes Go.ChangeAt Go.RowKit

set_option maxRecDepth 100000 in
theorem cellsMeta : Tryd.prog.cellsOf 24 = 8 := by kernel_rfl
set_option maxRecDepth 100000 in
theorem cellsI : Tryd.prog.cellsOf 3 = 1 := by kernel_rfl
/-- Numbers within 64 bits. -/
def Mt.Nb (m : Mt) : Prop := (-9223372036854775808 ≤ m.tx ∧ m.tx ≤ 9223372036854775807) ∧ (-9223372036854775808 ≤ m.hi ∧ m.hi ≤ 9223372036854775807)
set_option maxRecDepth 100000 in
theorem int_cell {H : Type} {enc : TypeId × Value → H} {W : World} {sp : Nat → Bool} {held : Bool} {fuel : Nat} {v : Value} {x : DataW H × List MemPlace} (h : DataW.trod enc Tryd.prog W 0 sp held fuel 3 [v] = some x) : ∃ n, v = .int .i64 n ∧ (-9223372036854775808 ≤ n ∧ n ≤ 9223372036854775807) := by
  obtain ⟨n, h1, _, h2⟩ := DataW.trod_int Tryd.underlying3 h
  injection h1 with h1
  exact ⟨n, h1, bounds_i64 h2⟩
set_option maxRecDepth 100000 in
theorem open_meta {H : Type} {enc : TypeId × Value → H} {W : World} {base : Nat} {sp : Nat → Bool} {held : Bool} {v : Value} {d : DataW H} {p : List MemPlace} (hok : Value.okWide Tryd.prog W .any base 24 v)
    (h : DataW.Trod enc Tryd.prog W 0 sp held 24 v d p) : ∃ m : Mt, v = mtV m ∧ m.Nb := by
  obtain ⟨cs, rfl, hsz⟩ := okWide_struct Tryd.underlying24 hok
  rw [cellsMeta] at hsz
  obtain ⟨fuel, hf⟩ := h
  obtain ⟨xs, m', hm', hxe, hl', hxl, hfs⟩ := DataW.trod_struct Tryd.underlying24 hf
  obtain ⟨l⟩ := cs
  match l, hsz with
  | [v0, v1, v2, v3, v4, v5, v6, v7], _ =>
    match xs, hxl with
    | [y0, y1, y2, y3, y4, y5, y6, y7], _ =>
      have h0 : DataW.trod enc Tryd.prog W 0 sp held m' 3 (([v0, v1, v2, v3, v4, v5, v6, v7].drop 0).take (Tryd.prog.cellsOf 3)) = some y0 := hfs 0 _ rfl
      have h1 : DataW.trod enc Tryd.prog W 0 sp held m' 3 (([v0, v1, v2, v3, v4, v5, v6, v7].drop 1).take (Tryd.prog.cellsOf 3)) = some y1 := hfs 1 _ rfl
      have h2 : DataW.trod enc Tryd.prog W 0 sp held m' 3 (([v0, v1, v2, v3, v4, v5, v6, v7].drop 2).take (Tryd.prog.cellsOf 3)) = some y2 := hfs 2 _ rfl
      have h3 : DataW.trod enc Tryd.prog W 0 sp held m' 3 (([v0, v1, v2, v3, v4, v5, v6, v7].drop 3).take (Tryd.prog.cellsOf 3)) = some y3 := hfs 3 _ rfl
      have h4 : DataW.trod enc Tryd.prog W 0 sp held m' 3 (([v0, v1, v2, v3, v4, v5, v6, v7].drop 4).take (Tryd.prog.cellsOf 3)) = some y4 := hfs 4 _ rfl
      have h5 : DataW.trod enc Tryd.prog W 0 sp held m' 3 (([v0, v1, v2, v3, v4, v5, v6, v7].drop 5).take (Tryd.prog.cellsOf 3)) = some y5 := hfs 5 _ rfl
      have h6 : DataW.trod enc Tryd.prog W 0 sp held m' 3 (([v0, v1, v2, v3, v4, v5, v6, v7].drop 6).take (Tryd.prog.cellsOf 3)) = some y6 := hfs 6 _ rfl
      have h7 : DataW.trod enc Tryd.prog W 0 sp held m' 3 (([v0, v1, v2, v3, v4, v5, v6, v7].drop 7).take (Tryd.prog.cellsOf 3)) = some y7 := hfs 7 _ rfl
      rw [cellsI] at h0 h1 h2 h3 h4 h5 h6 h7
      obtain ⟨n0, rfl, b0⟩ := int_cell (show DataW.trod enc Tryd.prog W 0 sp held m' 3 [v0] = some y0 from h0)
      obtain ⟨n1, rfl, b1⟩ := int_cell (show DataW.trod enc Tryd.prog W 0 sp held m' 3 [v1] = some y1 from h1)
      obtain ⟨n2, rfl, b2⟩ := int_cell (show DataW.trod enc Tryd.prog W 0 sp held m' 3 [v2] = some y2 from h2)
      obtain ⟨n3, rfl, b3⟩ := int_cell (show DataW.trod enc Tryd.prog W 0 sp held m' 3 [v3] = some y3 from h3)
      obtain ⟨n4, rfl, b4⟩ := int_cell (show DataW.trod enc Tryd.prog W 0 sp held m' 3 [v4] = some y4 from h4)
      obtain ⟨n5, rfl, b5⟩ := int_cell (show DataW.trod enc Tryd.prog W 0 sp held m' 3 [v5] = some y5 from h5)
      obtain ⟨n6, rfl, b6⟩ := int_cell (show DataW.trod enc Tryd.prog W 0 sp held m' 3 [v6] = some y6 from h6)
      obtain ⟨n7, rfl, b7⟩ := int_cell (show DataW.trod enc Tryd.prog W 0 sp held m' 3 [v7] = some y7 from h7)
      exact ⟨⟨n0, n1, n2, n3, n4, n5, n6, n7⟩, rfl, b2, b7⟩
end Go.Proofs.YtoifjcliepongaaDoor
