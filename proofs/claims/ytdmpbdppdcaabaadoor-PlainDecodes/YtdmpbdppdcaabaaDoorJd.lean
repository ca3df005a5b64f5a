/- The document's Fixed and Uint come to the same bytes. -/
import Derived.Test.YtdmpbdppdcaabaaDoorMath
import Derived.Test.YtdmpbdppdcaabaaDoorZa
import Derived.Test.YtdmpbdppdcaabaaDoorCrcMath
import Derived.Test.YtdmpbdppdcaabaaDoorSum
import Derived.Test.YtdmpbdppdcaabaaDoorTurnMath
import Derived.Test.YtdmpbdppdcaabaaDoorMe
import Derived.Laws.Cover1
namespace Go.Proofs.YtdmpbdppdcaabaaDoor
open Go.RowKit

set_option maxRecDepth 100000 in
theorem refFixed_no (n x : Int) (w : World) (h : x < 1 ∨ 8 < x) :
    Calls Tryd.prog 72 #[.int .u64 n, .int .i64 x] w fun e w' => e = .returned (.slice none 0 0) ∧ w' = w := by
  rcases h with h | h
  · go_enter Tryd.func72, Tryd.ntmps72
    go_wp2
    go_ret
    exact ⟨rfl, rfl⟩
  · have h' : ¬ x < 1 := by omega
    go_enter Tryd.func72, Tryd.ntmps72
    go_wp2
    go_ret
    exact ⟨rfl, rfl⟩

set_option maxRecDepth 100000 in
set_option maxHeartbeats 1000000 in
theorem refFixed_yes (n x : Int) (w : World) (h0 : 0 ≤ n) (hn : n < 18446744073709551616) (h1 : 1 ≤ x) (h2 : x ≤ 8) :
    Calls Tryd.prog 72 #[.int .u64 n, .int .i64 x] w fun e w' => ∃ v, e = .returned v ∧ OwnB w' w.heap.size v (fB x.toNat n) ∧ Below w.heap.size w w' := by
  obtain ⟨width, rfl⟩ := Int.eq_ofNat_of_zero_le (show 0 ≤ x by omega)
  rw [Int.toNat_natCast]
  go_enter Tryd.func72, Tryd.ntmps72
  go_wp2_with fail
  go_loopw [5, 6] (fun v i wr => ∃ (k : Nat) (acc : List Int), k ≤ width ∧ i = .int .i64 ((k : Int) - 1) ∧ acc ++ fB k n = fB width n ∧ OwnB wr w.heap.size v acc ∧ Below w.heap.size w wr) (fun _ i _ => (intOf i + 1).toNat)
  case atStart => exact ⟨width, [], Nat.le_refl _, rfl, rfl, OwnB.nil _ _, Below.refl _ _⟩
  case round =>
    obtain ⟨k, acc, hk, rfl, hac, hown, hb⟩ := hrel
    have HA := hidden hac
    clear hac
    have hsz := hb.size
    have hlen : acc.length ≤ 8 := by
      have h1 := congrArg List.length HA.out
      simp only [List.length_append, fB_length] at h1
      omega
    by_cases hk0 : k = 0
    · subst hk0
      have e : acc = fB width n := by have := HA.out; simpa [fB] using this
      rw [e] at hown
      clear e HA
      go_wp2
      go_ret
      exact ⟨_, rfl, hown, hb⟩
    · obtain ⟨j, rfl⟩ : ∃ j, k = j + 1 := ⟨k - 1, by omega⟩
      go_wp2_with fail
      go_loopw [7, 8] (fun x i w' => ∃ t : Nat, t ≤ j ∧ i = .int .i64 t ∧ x = .int .u64 (n / 256 ^ t) ∧ w' = wr) (fun _ i _ => j - (intOf i).toNat)
      case atStart => exact ⟨0, by omega, rfl, by simp, rfl⟩
      case round =>
        obtain ⟨t, ht, rfl, rfl, rfl⟩ := hrel
        have hpos : 0 ≤ n / 256 ^ t := Int.ediv_nonneg h0 (Int.le_of_lt (Int.pow_pos (by omega)))
        have hle : n / 256 ^ t ≤ n := Int.ediv_le_self _ h0
        have HP := hidden (pow256 n t)
        by_cases hlt : t < j
        · generalize n / 256 ^ t = y at *
          go_wp2
          go_roundw
          case rel => exact ⟨t + 1, by omega, by go_num, by rw [← HP.out], trivial⟩
          case measure => simp [intOf]; omega
        · obtain rfl : t = j := by omega
          generalize hy : n / 256 ^ t = y at *
          have HY := hidden hy
          clear hy
          go_wp2_with (at_builtin; refine app_bytes _ rfl _ _ rfl w.heap.size acc _ rfl (hown.alloc _) _ 1 1 [y % 256] rfl rfl (one_cell _ _) (by omega) (by simp; omega) ?_)
          intro v2 w2 hown2 hb2
          have R2 : Below w.heap.size w w2 := (hb.alloc hsz _).trans hb2
          clear hb2 hown
          go_wp2
          go_roundw
          case rel => exact ⟨t, acc ++ [y % 256], by omega, by go_num, by rw [← HA.out, fB, HY.out]; simp, hown2, R2⟩
          case measure => simp [intOf]
end Go.Proofs.YtdmpbdppdcaabaaDoor

/- The document's bytesOf and Size of layer 6. -/

namespace Go.Proofs.YtdmpbdppdcaabaaDoor
open Go.RowKit

set_option maxRecDepth 100000 in
theorem own_slice6 {w : World} {B : Nat} {v : Value} {l : List Int} (h : OwnB w B v l) : ∃ ao c, v = .slice ao l.length c := by
  rcases h.2 with ⟨rfl, h0⟩ | ⟨g, cap, cur, rfl, _⟩
  · exact ⟨none, 0, by rw [h0]⟩
  · exact ⟨_, _, rfl⟩
set_option maxRecDepth 100000 in
/-- What the document's Fixed hands out, as a slice. -/
theorem fixed_sl6 (n : Int) (x : Nat) (w : World) (h0 : 0 ≤ n) (hn : n < 18446744073709551616) (h1 : 1 ≤ x) (h2 : x ≤ 8) :
    Calls Tryd.prog 72 #[.int .u64 n, .int .i64 (x : Int)] w fun e w' => ∃ ao c, e = .returned (.slice ao x c) ∧ Hid (OwnB w' w.heap.size (.slice ao x c) (fB x n)) ∧ Hid (Sl w' ao x c (fB x n)) ∧ Hid (Below w.heap.size w w') := by
  refine (refFixed_yes n (x : Int) w h0 hn (by omega) (by omega)).mono ?_
  rintro e w' ⟨v, rfl, ho, hb⟩
  rw [Int.toNat_natCast] at ho
  obtain ⟨ao, cap, rfl, hs, _⟩ := ho.sl (fB_wf _ _) (by rw [fB_length]; omega)
  rw [fB_length] at hs ho ⊢
  exact ⟨ao, cap, rfl, hidden ho, hidden hs, hidden hb⟩
set_option maxRecDepth 100000 in
theorem fixed6_2 (n : Int) (w : World) (h0 : 0 ≤ n) (hn : n < 18446744073709551616) : Calls Tryd.prog 72 #[.int .u64 n, .int .i64 2] w fun e w' => ∃ ao c, e = .returned (.slice ao 2 c) ∧ Hid (OwnB w' w.heap.size (.slice ao 2 c) (fB 2 n)) ∧ Hid (Sl w' ao 2 c (fB 2 n)) ∧ Hid (Below w.heap.size w w') := fixed_sl6 n 2 w h0 hn (by omega) (by omega)
set_option maxRecDepth 100000 in
theorem fixed6_4 (n : Int) (w : World) (h0 : 0 ≤ n) (hn : n < 18446744073709551616) : Calls Tryd.prog 72 #[.int .u64 n, .int .i64 4] w fun e w' => ∃ ao c, e = .returned (.slice ao 4 c) ∧ Hid (OwnB w' w.heap.size (.slice ao 4 c) (fB 4 n)) ∧ Hid (Sl w' ao 4 c (fB 4 n)) ∧ Hid (Below w.heap.size w w') := fixed_sl6 n 4 w h0 hn (by omega) (by omega)
set_option maxRecDepth 100000 in
/-- What lies in a box reads the same later. -/
theorem box6 {w w' : World} {b i : Nat} {v : Value} (h : w.cell? ⟨b, i, none⟩ = some v) (hb : Below w.heap.size w w') : w'.cell? ⟨b, i, none⟩ = some v := (hb.cell (p := ⟨b, i, none⟩) (World.block_lt_of_cell? w _ h)).trans h
set_option maxRecDepth 100000 in
theorem box6c6 {w w' : World} {b i B : Nat} {v : Value} (h : w.cell? ⟨b, i, none⟩ = some v) (hb : Below B w w') (hB : b < B) : w'.cell? ⟨b, i, none⟩ = some v := (hb.cell (p := ⟨b, i, none⟩) hB).trans h
set_option maxRecDepth 100000 in
theorem szN_le6 (cs : List Cl) (j : Nat) : szN (cs.take j) ≤ szN cs := by
  have h := szN_eq cs
  have h2 := szN_eq (cs.take j)
  have e : bdy cs = bdy (cs.take j) ++ bdy (cs.drop j) := by rw [← bdy_append, List.take_append_drop]
  have l1 : (cs.take j).length ≤ cs.length := by rw [List.length_take]; omega
  rw [e, List.length_append] at h
  omega
set_option maxRecDepth 100000 in
set_option maxHeartbeats 8000000 in
theorem rbytes6_any (c : Cl) (ka va : Option Addr) (kc vc : Nat) (w : World) (h1 : Sl w ka c.key.length kc c.key) (h2 : Sl w va c.val.length vc c.val) (hp : ¬ c.kd = 1 → (0 ≤ c.pg ∧ c.pg < 9223372036854775808) ∧ (0 ≤ c.ct ∧ c.ct < 9223372036854775808)) (hl : c.key.length + c.val.length ≤ 35184372088832) :
    Calls Tryd.prog 73 #[.agg #[.slice ka c.key.length kc, .int .i64 c.kd, .slice va c.val.length vc, .int .i64 c.pg, .int .i64 c.ct]] w fun e w' => ∃ v, e = .returned v ∧ Hid (OwnB w' w.heap.size v (cB c)) ∧ Hid (Below w.heap.size w w') := by
  obtain ⟨key, kd, val, pg, ct⟩ := c
  simp only at h1 h2 hp hl ⊢
  have HK := hidden h1
  have HV := hidden h2
  obtain ⟨kn, hkn⟩ : ∃ kn, key.length = kn := ⟨_, rfl⟩
  obtain ⟨vn, hvn⟩ : ∃ vn, val.length = vn := ⟨_, rfl⟩
  have HKN := hidden hkn
  have HVN := hidden hvn
  rw [hkn] at HK hl ⊢
  rw [hvn] at HV hl ⊢
  have hkI : (kn : Int) ≤ 35184372088832 := by omega
  have hvI : (vn : Int) ≤ 35184372088832 := by omega
  have hkw : IntKind.u64.wrap (kn : Int) = (kn : Int) := by rw [IntKind.wrap_u64]; omega
  have hvw : IntKind.u64.wrap (vn : Int) = (vn : Int) := by rw [IntKind.wrap_u64]; omega
  have hu8 : IntKind.u8.wrap kd = kd % 256 := IntKind.wrap_u8 kd
  obtain ⟨x0, hx0⟩ : ∃ x, w.alloc (.cells #[.slice ka kn kc, .int .i64 kd, .slice va vn vc, .int .i64 pg, .int .i64 ct] 44) = x := ⟨_, rfl⟩
  have hbx0 : Below w.heap.size w x0 := by rw [← hx0]; exact bl_al (Below.refl _ _) (Nat.le_refl _) _
  have HBX : Hid (x0.cell? ⟨w.heap.size, 0, none⟩ = some (.slice ka kn kc) ∧ x0.cell? ⟨w.heap.size, 1, none⟩ = some (.int .i64 kd) ∧ x0.cell? ⟨w.heap.size, 2, none⟩ = some (.slice va vn vc) ∧ x0.cell? ⟨w.heap.size, 3, none⟩ = some (.int .i64 pg) ∧ x0.cell? ⟨w.heap.size, 4, none⟩ = some (.int .i64 ct)) := hidden (by rw [← hx0]; simp)
  obtain ⟨y0, hy0⟩ : ∃ y, x0.alloc (.cells #[.int .u8 (kd % 256)] 5) = y := ⟨_, rfl⟩
  have hby0 : Below x0.heap.size x0 y0 := by rw [← hy0]; exact bl_al (Below.refl _ _) (Nat.le_refl _) _
  have HO0 : Hid (OwnB y0 x0.heap.size (.slice (some ⟨x0.heap.size, 0, none⟩) 1 1) [kd % 256]) := hidden (own_of_heap (l := [kd % 256]) (by rw [← hy0]; exact heap_alloc_last x0 _) (Nat.le_refl _) (by unfold maxLen; simp))
  obtain ⟨B, hB⟩ : ∃ B, x0.heap.size = B := ⟨_, rfl⟩
  have HBW : Hid (w.heap.size ≤ B) := hidden (by rw [← hB]; exact hbx0.size)
  have HX0 : Hid (Below x0.heap.size x0 y0) := hidden hby0
  have HW0 := hidden hbx0
  rw [hB] at HO0
  have HBE := hidden hB
  clear h1 h2 hkn hvn hbx0 hby0
  by_cases hk1 : kd = 1
  · have hkb : (kd == 1) = true := by simpa using hk1
    have HK1 := hidden hk1
    clear hk1 hp
    have HWB : Hid (w.heap.size < B) := hidden (by rw [← HBE.out, ← hx0]; simp)
    have d0 := HBX.out.1
    have d1 := HBX.out.2.1
    have d2 := HBX.out.2.2.1
    have d3 := HBX.out.2.2.2.1
    have d4 := HBX.out.2.2.2.2
    have f0 := box6 d0 HX0.out
    have f1 := box6 d1 HX0.out
    have f2 := box6 d2 HX0.out
    have f3 := box6 d3 HX0.out
    have f4 := box6 d4 HX0.out
    obtain ⟨X0, hX0⟩ : ∃ X, ([kd % 256] : List Int) = X := ⟨_, rfl⟩
    have HXL0 : Hid (X0.length = 1) := hidden (by rw [← hX0]; rfl)
    have HXE0 := hidden hX0
    rw [hX0] at HO0
    have HBel0 : Hid (Below B x0 y0) := hidden (by rw [← HBE.out]; exact HX0.out)
    have hBy0 : B ≤ y0.heap.size := by rw [← HBE.out]; exact HX0.out.size
    clear hX0
    go_enter Tryd.func73, Tryd.ntmps73
    have HF1 := hidden (fixed6_2 (kn : Int) y0 (by omega) (by omega))
    go_wp2_with (first | (go_at_call 72; refine HF1.out.mono ?_; rintro e z1 ⟨a1, c1, rfl, HOF1, HSF1, HB1⟩; refine Hid.out ?_))
    apply hidden
    clear d0 d1 d2 d3 d4
    have HOz1 := hidden (HO0.out.on (Nat.le_refl _) HB1.out)
    have hBz1 : B ≤ z1.heap.size := Nat.le_trans hBy0 HB1.out.size
    have HBz1 : Hid (Below B x0 z1) := hidden (bl_go HBel0.out (by rw [HBE.out]; exact Nat.le_refl _) HB1.out)
    have g0 := box6 f0 HB1.out
    have g1 := box6 f1 HB1.out
    have g2 := box6 f2 HB1.out
    have g3 := box6 f3 HB1.out
    have g4 := box6 f4 HB1.out
    clear HF1 HO0 HBel0 HOF1 HB1 f0 f1 f2 f3 f4
    have f0 := g0
    have f1 := g1
    have f2 := g2
    have f3 := g3
    have f4 := g4
    clear g0 g1 g2 g3 g4
    go_wp2_with (at_builtin; refine app_sl _ rfl _ _ rfl B X0 (fB 2 (kn : Int)) _ a1 2 c1 rfl rfl HOz1.out HSF1.out (by rw [HXL0.out]; omega) hBz1 ?_; refine Hid.out ?_)
    apply hidden
    intro v1 y1 ho hg
    have HBel1 : Hid (Below B x0 y1) := hidden (HBz1.out.trans (hg.below HOz1.out hBz1))
    have hBy1 : B ≤ y1.heap.size := Nat.le_trans hBz1 hg.grow.size
    have hk1 : Below z1.heap.size z1 z1 := Below.refl _ _
    have g0 : y1.cell? ⟨w.heap.size, 0, none⟩ = some _ := box6c6 f0 (hg.below HOz1.out hBz1) HWB.out
    have g1 : y1.cell? ⟨w.heap.size, 1, none⟩ = some _ := box6c6 f1 (hg.below HOz1.out hBz1) HWB.out
    have g2 : y1.cell? ⟨w.heap.size, 2, none⟩ = some _ := box6c6 f2 (hg.below HOz1.out hBz1) HWB.out
    have g3 : y1.cell? ⟨w.heap.size, 3, none⟩ = some _ := box6c6 f3 (hg.below HOz1.out hBz1) HWB.out
    have g4 : y1.cell? ⟨w.heap.size, 4, none⟩ = some _ := box6c6 f4 (hg.below HOz1.out hBz1) HWB.out
    clear f0 f1 f2 f3 f4
    have f0 := g0
    have f1 := g1
    have f2 := g2
    have f3 := g3
    have f4 := g4
    clear g0 g1 g2 g3 g4
    obtain ⟨X1, hX1⟩ : ∃ X, X0 ++ (fB 2 (kn : Int)) = X := ⟨_, rfl⟩
    have HXL1 : Hid (X1.length = 1 + 2) := hidden (by rw [← hX1, List.length_append, HXL0.out, fB_length])
    have HXE1 := hidden hX1
    rw [hX1] at ho
    have HO1 := hidden ho
    clear ho hg hX1 hk1 HOz1 HSF1 HBz1
    have HSz2 := hidden (HK.out.on (Nat.le_refl _) (bl_go HW0.out (Nat.le_refl _) (by have := HBel1.out; rw [← HBE.out] at this; exact this)))
    go_wp2_with (at_builtin; refine app_sl _ rfl _ _ rfl B X1 key _ ka kn kc rfl rfl HO1.out HSz2.out (by rw [HXL1.out]; omega) hBy1 ?_; refine Hid.out ?_)
    apply hidden
    intro v2 y2 ho hg
    have HBel2 : Hid (Below B x0 y2) := hidden (HBel1.out.trans (hg.below HO1.out hBy1))
    have hBy2 : B ≤ y2.heap.size := Nat.le_trans hBy1 hg.grow.size
    have hk2 : Below y1.heap.size y1 y1 := Below.refl _ _
    have g0 : y2.cell? ⟨w.heap.size, 0, none⟩ = some _ := box6c6 f0 (hg.below HO1.out hBy1) HWB.out
    have g1 : y2.cell? ⟨w.heap.size, 1, none⟩ = some _ := box6c6 f1 (hg.below HO1.out hBy1) HWB.out
    have g2 : y2.cell? ⟨w.heap.size, 2, none⟩ = some _ := box6c6 f2 (hg.below HO1.out hBy1) HWB.out
    have g3 : y2.cell? ⟨w.heap.size, 3, none⟩ = some _ := box6c6 f3 (hg.below HO1.out hBy1) HWB.out
    have g4 : y2.cell? ⟨w.heap.size, 4, none⟩ = some _ := box6c6 f4 (hg.below HO1.out hBy1) HWB.out
    clear f0 f1 f2 f3 f4
    have f0 := g0
    have f1 := g1
    have f2 := g2
    have f3 := g3
    have f4 := g4
    clear g0 g1 g2 g3 g4
    obtain ⟨X2, hX2⟩ : ∃ X, X1 ++ key = X := ⟨_, rfl⟩
    have HXL2 : Hid (X2.length = 1 + 2 + kn) := hidden (by rw [← hX2, List.length_append, HXL1.out, HKN.out])
    have HXE2 := hidden hX2
    rw [hX2] at ho
    have HO2 := hidden ho
    clear ho hg hX2 hk2 HSz2 HO1 HBel1
    have HF3 := hidden (fixed6_2 (vn : Int) y2 (by omega) (by omega))
    go_wp2_with (first | (go_at_call 72; refine HF3.out.mono ?_; rintro e z3 ⟨a3, c3, rfl, HOF3, HSF3, HB3⟩; refine Hid.out ?_))
    apply hidden
    have HOz3 := hidden (HO2.out.on (Nat.le_refl _) HB3.out)
    have hBz3 : B ≤ z3.heap.size := Nat.le_trans hBy2 HB3.out.size
    have HBz3 : Hid (Below B x0 z3) := hidden (bl_go HBel2.out (by rw [HBE.out]; exact Nat.le_refl _) HB3.out)
    have g0 := box6 f0 HB3.out
    have g1 := box6 f1 HB3.out
    have g2 := box6 f2 HB3.out
    have g3 := box6 f3 HB3.out
    have g4 := box6 f4 HB3.out
    clear HF3 HO2 HBel2 HOF3 HB3 f0 f1 f2 f3 f4
    have f0 := g0
    have f1 := g1
    have f2 := g2
    have f3 := g3
    have f4 := g4
    clear g0 g1 g2 g3 g4
    go_wp2_with (at_builtin; refine app_sl _ rfl _ _ rfl B X2 (fB 2 (vn : Int)) _ a3 2 c3 rfl rfl HOz3.out HSF3.out (by rw [HXL2.out]; omega) hBz3 ?_; refine Hid.out ?_)
    apply hidden
    intro v3 y3 ho hg
    have HBel3 : Hid (Below B x0 y3) := hidden (HBz3.out.trans (hg.below HOz3.out hBz3))
    have hBy3 : B ≤ y3.heap.size := Nat.le_trans hBz3 hg.grow.size
    have hk3 : Below z3.heap.size z3 z3 := Below.refl _ _
    have g0 : y3.cell? ⟨w.heap.size, 0, none⟩ = some _ := box6c6 f0 (hg.below HOz3.out hBz3) HWB.out
    have g1 : y3.cell? ⟨w.heap.size, 1, none⟩ = some _ := box6c6 f1 (hg.below HOz3.out hBz3) HWB.out
    have g2 : y3.cell? ⟨w.heap.size, 2, none⟩ = some _ := box6c6 f2 (hg.below HOz3.out hBz3) HWB.out
    have g3 : y3.cell? ⟨w.heap.size, 3, none⟩ = some _ := box6c6 f3 (hg.below HOz3.out hBz3) HWB.out
    have g4 : y3.cell? ⟨w.heap.size, 4, none⟩ = some _ := box6c6 f4 (hg.below HOz3.out hBz3) HWB.out
    clear f0 f1 f2 f3 f4
    have f0 := g0
    have f1 := g1
    have f2 := g2
    have f3 := g3
    have f4 := g4
    clear g0 g1 g2 g3 g4
    obtain ⟨X3, hX3⟩ : ∃ X, X2 ++ (fB 2 (vn : Int)) = X := ⟨_, rfl⟩
    have HXL3 : Hid (X3.length = 1 + 2 + kn + 2) := hidden (by rw [← hX3, List.length_append, HXL2.out, fB_length])
    have HXE3 := hidden hX3
    rw [hX3] at ho
    have HO3 := hidden ho
    clear ho hg hX3 hk3 HOz3 HSF3 HBz3
    have HSz4 := hidden (HV.out.on (Nat.le_refl _) (bl_go HW0.out (Nat.le_refl _) (by have := HBel3.out; rw [← HBE.out] at this; exact this)))
    go_wp2_with (at_builtin; refine app_sl _ rfl _ _ rfl B X3 val _ va vn vc rfl rfl HO3.out HSz4.out (by rw [HXL3.out]; omega) hBy3 ?_; refine Hid.out ?_)
    apply hidden
    intro v4 y4 ho hg
    have HBel4 : Hid (Below B x0 y4) := hidden (HBel3.out.trans (hg.below HO3.out hBy3))
    have hBy4 : B ≤ y4.heap.size := Nat.le_trans hBy3 hg.grow.size
    have hk4 : Below y3.heap.size y3 y3 := Below.refl _ _
    have g0 : y4.cell? ⟨w.heap.size, 0, none⟩ = some _ := box6c6 f0 (hg.below HO3.out hBy3) HWB.out
    have g1 : y4.cell? ⟨w.heap.size, 1, none⟩ = some _ := box6c6 f1 (hg.below HO3.out hBy3) HWB.out
    have g2 : y4.cell? ⟨w.heap.size, 2, none⟩ = some _ := box6c6 f2 (hg.below HO3.out hBy3) HWB.out
    have g3 : y4.cell? ⟨w.heap.size, 3, none⟩ = some _ := box6c6 f3 (hg.below HO3.out hBy3) HWB.out
    have g4 : y4.cell? ⟨w.heap.size, 4, none⟩ = some _ := box6c6 f4 (hg.below HO3.out hBy3) HWB.out
    clear f0 f1 f2 f3 f4
    have f0 := g0
    have f1 := g1
    have f2 := g2
    have f3 := g3
    have f4 := g4
    clear g0 g1 g2 g3 g4
    obtain ⟨X4, hX4⟩ : ∃ X, X3 ++ val = X := ⟨_, rfl⟩
    have HXL4 : Hid (X4.length = 1 + 2 + kn + 2 + vn) := hidden (by rw [← hX4, List.length_append, HXL3.out, HVN.out])
    have HXE4 := hidden hX4
    rw [hX4] at ho
    have HO4 := hidden ho
    clear ho hg hX4 hk4 HSz4 HO3 HBel3
    go_wp2_with fail
    go_ret
    refine ⟨v4, rfl, hidden ?_, hidden (bl_go HW0.out (Nat.le_refl _) (by have := HBel4.out; rw [← HBE.out] at this; exact this))⟩
    have e : X4 = cB ⟨key, kd, val, pg, ct⟩ := by
      rw [← HXE4.out, ← HXE3.out, ← HXE2.out, ← HXE1.out, ← HXE0.out]
      unfold cB
      rw [if_pos HK1.out]
      simp only [List.append_assoc, HKN.out, HVN.out]
    rw [← e]
    exact HO4.out.low HBW.out
  · have hpp := hp hk1
    have hkb : (kd == 1) = false := by rw [beq_eq_false_iff_ne]; exact hk1
    have hpw1 : IntKind.u64.wrap pg = pg := by rw [IntKind.wrap_u64]; omega
    have hcw1 : IntKind.u64.wrap ct = ct := by rw [IntKind.wrap_u64]; omega
    have HWB : Hid (w.heap.size < B) := hidden (by rw [← HBE.out, ← hx0]; simp)
    have d0 := HBX.out.1
    have d1 := HBX.out.2.1
    have d2 := HBX.out.2.2.1
    have d3 := HBX.out.2.2.2.1
    have d4 := HBX.out.2.2.2.2
    have f0 := box6 d0 HX0.out
    have f1 := box6 d1 HX0.out
    have f2 := box6 d2 HX0.out
    have f3 := box6 d3 HX0.out
    have f4 := box6 d4 HX0.out
    obtain ⟨X0, hX0⟩ : ∃ X, ([kd % 256] : List Int) = X := ⟨_, rfl⟩
    have HXL0 : Hid (X0.length = 1) := hidden (by rw [← hX0]; rfl)
    have HXE0 := hidden hX0
    rw [hX0] at HO0
    have HBel0 : Hid (Below B x0 y0) := hidden (by rw [← HBE.out]; exact HX0.out)
    have hBy0 : B ≤ y0.heap.size := by rw [← HBE.out]; exact HX0.out.size
    clear hX0
    go_enter Tryd.func73, Tryd.ntmps73
    have HF1 := hidden (fixed6_2 (kn : Int) y0 (by omega) (by omega))
    go_wp2_with (first | (go_at_call 72; refine HF1.out.mono ?_; rintro e z1 ⟨a1, c1, rfl, HOF1, HSF1, HB1⟩; refine Hid.out ?_))
    apply hidden
    clear d0 d1 d2 d3 d4
    have HOz1 := hidden (HO0.out.on (Nat.le_refl _) HB1.out)
    have hBz1 : B ≤ z1.heap.size := Nat.le_trans hBy0 HB1.out.size
    have HBz1 : Hid (Below B x0 z1) := hidden (bl_go HBel0.out (by rw [HBE.out]; exact Nat.le_refl _) HB1.out)
    have g0 := box6 f0 HB1.out
    have g1 := box6 f1 HB1.out
    have g2 := box6 f2 HB1.out
    have g3 := box6 f3 HB1.out
    have g4 := box6 f4 HB1.out
    clear HF1 HO0 HBel0 HOF1 HB1 f0 f1 f2 f3 f4
    have f0 := g0
    have f1 := g1
    have f2 := g2
    have f3 := g3
    have f4 := g4
    clear g0 g1 g2 g3 g4
    go_wp2_with (at_builtin; refine app_sl _ rfl _ _ rfl B X0 (fB 2 (kn : Int)) _ a1 2 c1 rfl rfl HOz1.out HSF1.out (by rw [HXL0.out]; omega) hBz1 ?_; refine Hid.out ?_)
    apply hidden
    intro v1 y1 ho hg
    have HBel1 : Hid (Below B x0 y1) := hidden (HBz1.out.trans (hg.below HOz1.out hBz1))
    have hBy1 : B ≤ y1.heap.size := Nat.le_trans hBz1 hg.grow.size
    have hk1 : Below z1.heap.size z1 z1 := Below.refl _ _
    have g0 : y1.cell? ⟨w.heap.size, 0, none⟩ = some _ := box6c6 f0 (hg.below HOz1.out hBz1) HWB.out
    have g1 : y1.cell? ⟨w.heap.size, 1, none⟩ = some _ := box6c6 f1 (hg.below HOz1.out hBz1) HWB.out
    have g2 : y1.cell? ⟨w.heap.size, 2, none⟩ = some _ := box6c6 f2 (hg.below HOz1.out hBz1) HWB.out
    have g3 : y1.cell? ⟨w.heap.size, 3, none⟩ = some _ := box6c6 f3 (hg.below HOz1.out hBz1) HWB.out
    have g4 : y1.cell? ⟨w.heap.size, 4, none⟩ = some _ := box6c6 f4 (hg.below HOz1.out hBz1) HWB.out
    clear f0 f1 f2 f3 f4
    have f0 := g0
    have f1 := g1
    have f2 := g2
    have f3 := g3
    have f4 := g4
    clear g0 g1 g2 g3 g4
    obtain ⟨X1, hX1⟩ : ∃ X, X0 ++ (fB 2 (kn : Int)) = X := ⟨_, rfl⟩
    have HXL1 : Hid (X1.length = 1 + 2) := hidden (by rw [← hX1, List.length_append, HXL0.out, fB_length])
    have HXE1 := hidden hX1
    rw [hX1] at ho
    have HO1 := hidden ho
    clear ho hg hX1 hk1 HOz1 HSF1 HBz1
    have HSz2 := hidden (HK.out.on (Nat.le_refl _) (bl_go HW0.out (Nat.le_refl _) (by have := HBel1.out; rw [← HBE.out] at this; exact this)))
    go_wp2_with (at_builtin; refine app_sl _ rfl _ _ rfl B X1 key _ ka kn kc rfl rfl HO1.out HSz2.out (by rw [HXL1.out]; omega) hBy1 ?_; refine Hid.out ?_)
    apply hidden
    intro v2 y2 ho hg
    have HBel2 : Hid (Below B x0 y2) := hidden (HBel1.out.trans (hg.below HO1.out hBy1))
    have hBy2 : B ≤ y2.heap.size := Nat.le_trans hBy1 hg.grow.size
    have hk2 : Below y1.heap.size y1 y1 := Below.refl _ _
    have g0 : y2.cell? ⟨w.heap.size, 0, none⟩ = some _ := box6c6 f0 (hg.below HO1.out hBy1) HWB.out
    have g1 : y2.cell? ⟨w.heap.size, 1, none⟩ = some _ := box6c6 f1 (hg.below HO1.out hBy1) HWB.out
    have g2 : y2.cell? ⟨w.heap.size, 2, none⟩ = some _ := box6c6 f2 (hg.below HO1.out hBy1) HWB.out
    have g3 : y2.cell? ⟨w.heap.size, 3, none⟩ = some _ := box6c6 f3 (hg.below HO1.out hBy1) HWB.out
    have g4 : y2.cell? ⟨w.heap.size, 4, none⟩ = some _ := box6c6 f4 (hg.below HO1.out hBy1) HWB.out
    clear f0 f1 f2 f3 f4
    have f0 := g0
    have f1 := g1
    have f2 := g2
    have f3 := g3
    have f4 := g4
    clear g0 g1 g2 g3 g4
    obtain ⟨X2, hX2⟩ : ∃ X, X1 ++ key = X := ⟨_, rfl⟩
    have HXL2 : Hid (X2.length = 1 + 2 + kn) := hidden (by rw [← hX2, List.length_append, HXL1.out, HKN.out])
    have HXE2 := hidden hX2
    rw [hX2] at ho
    have HO2 := hidden ho
    clear ho hg hX2 hk2 HSz2 HO1 HBel1
    have HF3 := hidden (fixed6_4 pg y2 (by omega) (by omega))
    go_wp2_with (first | (go_at_call 72; refine HF3.out.mono ?_; rintro e z3 ⟨a3, c3, rfl, HOF3, HSF3, HB3⟩; refine Hid.out ?_))
    apply hidden
    have HOz3 := hidden (HO2.out.on (Nat.le_refl _) HB3.out)
    have hBz3 : B ≤ z3.heap.size := Nat.le_trans hBy2 HB3.out.size
    have HBz3 : Hid (Below B x0 z3) := hidden (bl_go HBel2.out (by rw [HBE.out]; exact Nat.le_refl _) HB3.out)
    have g0 := box6 f0 HB3.out
    have g1 := box6 f1 HB3.out
    have g2 := box6 f2 HB3.out
    have g3 := box6 f3 HB3.out
    have g4 := box6 f4 HB3.out
    clear HF3 HO2 HBel2 HOF3 HB3 f0 f1 f2 f3 f4
    have f0 := g0
    have f1 := g1
    have f2 := g2
    have f3 := g3
    have f4 := g4
    clear g0 g1 g2 g3 g4
    go_wp2_with (at_builtin; refine app_sl _ rfl _ _ rfl B X2 (fB 4 pg) _ a3 4 c3 rfl rfl HOz3.out HSF3.out (by rw [HXL2.out]; omega) hBz3 ?_; refine Hid.out ?_)
    apply hidden
    intro v3 y3 ho hg
    have HBel3 : Hid (Below B x0 y3) := hidden (HBz3.out.trans (hg.below HOz3.out hBz3))
    have hBy3 : B ≤ y3.heap.size := Nat.le_trans hBz3 hg.grow.size
    have hk3 : Below z3.heap.size z3 z3 := Below.refl _ _
    have g0 : y3.cell? ⟨w.heap.size, 0, none⟩ = some _ := box6c6 f0 (hg.below HOz3.out hBz3) HWB.out
    have g1 : y3.cell? ⟨w.heap.size, 1, none⟩ = some _ := box6c6 f1 (hg.below HOz3.out hBz3) HWB.out
    have g2 : y3.cell? ⟨w.heap.size, 2, none⟩ = some _ := box6c6 f2 (hg.below HOz3.out hBz3) HWB.out
    have g3 : y3.cell? ⟨w.heap.size, 3, none⟩ = some _ := box6c6 f3 (hg.below HOz3.out hBz3) HWB.out
    have g4 : y3.cell? ⟨w.heap.size, 4, none⟩ = some _ := box6c6 f4 (hg.below HOz3.out hBz3) HWB.out
    clear f0 f1 f2 f3 f4
    have f0 := g0
    have f1 := g1
    have f2 := g2
    have f3 := g3
    have f4 := g4
    clear g0 g1 g2 g3 g4
    obtain ⟨X3, hX3⟩ : ∃ X, X2 ++ (fB 4 pg) = X := ⟨_, rfl⟩
    have HXL3 : Hid (X3.length = 1 + 2 + kn + 4) := hidden (by rw [← hX3, List.length_append, HXL2.out, fB_length])
    have HXE3 := hidden hX3
    rw [hX3] at ho
    have HO3 := hidden ho
    clear ho hg hX3 hk3 HOz3 HSF3 HBz3
    have HF4 := hidden (fixed6_4 ct y3 (by omega) (by omega))
    go_wp2_with (first | (go_at_call 72; refine HF4.out.mono ?_; rintro e z4 ⟨a4, c4, rfl, HOF4, HSF4, HB4⟩; refine Hid.out ?_))
    apply hidden
    have HOz4 := hidden (HO3.out.on (Nat.le_refl _) HB4.out)
    have hBz4 : B ≤ z4.heap.size := Nat.le_trans hBy3 HB4.out.size
    have HBz4 : Hid (Below B x0 z4) := hidden (bl_go HBel3.out (by rw [HBE.out]; exact Nat.le_refl _) HB4.out)
    have g0 := box6 f0 HB4.out
    have g1 := box6 f1 HB4.out
    have g2 := box6 f2 HB4.out
    have g3 := box6 f3 HB4.out
    have g4 := box6 f4 HB4.out
    clear HF4 HO3 HBel3 HOF4 HB4 f0 f1 f2 f3 f4
    have f0 := g0
    have f1 := g1
    have f2 := g2
    have f3 := g3
    have f4 := g4
    clear g0 g1 g2 g3 g4
    go_wp2_with (at_builtin; refine app_sl _ rfl _ _ rfl B X3 (fB 4 ct) _ a4 4 c4 rfl rfl HOz4.out HSF4.out (by rw [HXL3.out]; omega) hBz4 ?_; refine Hid.out ?_)
    apply hidden
    intro v4 y4 ho hg
    have HBel4 : Hid (Below B x0 y4) := hidden (HBz4.out.trans (hg.below HOz4.out hBz4))
    have hBy4 : B ≤ y4.heap.size := Nat.le_trans hBz4 hg.grow.size
    have hk4 : Below z4.heap.size z4 z4 := Below.refl _ _
    have g0 : y4.cell? ⟨w.heap.size, 0, none⟩ = some _ := box6c6 f0 (hg.below HOz4.out hBz4) HWB.out
    have g1 : y4.cell? ⟨w.heap.size, 1, none⟩ = some _ := box6c6 f1 (hg.below HOz4.out hBz4) HWB.out
    have g2 : y4.cell? ⟨w.heap.size, 2, none⟩ = some _ := box6c6 f2 (hg.below HOz4.out hBz4) HWB.out
    have g3 : y4.cell? ⟨w.heap.size, 3, none⟩ = some _ := box6c6 f3 (hg.below HOz4.out hBz4) HWB.out
    have g4 : y4.cell? ⟨w.heap.size, 4, none⟩ = some _ := box6c6 f4 (hg.below HOz4.out hBz4) HWB.out
    clear f0 f1 f2 f3 f4
    have f0 := g0
    have f1 := g1
    have f2 := g2
    have f3 := g3
    have f4 := g4
    clear g0 g1 g2 g3 g4
    obtain ⟨X4, hX4⟩ : ∃ X, X3 ++ (fB 4 ct) = X := ⟨_, rfl⟩
    have HXL4 : Hid (X4.length = 1 + 2 + kn + 4 + 4) := hidden (by rw [← hX4, List.length_append, HXL3.out, fB_length])
    have HXE4 := hidden hX4
    rw [hX4] at ho
    have HO4 := hidden ho
    clear ho hg hX4 hk4 HOz4 HSF4 HBz4
    go_wp2_with fail
    go_ret
    refine ⟨v4, rfl, hidden ?_, hidden (bl_go HW0.out (Nat.le_refl _) (by have := HBel4.out; rw [← HBE.out] at this; exact this))⟩
    have e : X4 = cB ⟨key, kd, val, pg, ct⟩ := by
      rw [← HXE4.out, ← HXE3.out, ← HXE2.out, ← HXE1.out, ← HXE0.out]
      unfold cB
      rw [if_neg hk1]
      simp only [List.append_assoc, HKN.out]
    rw [← e]
    exact HO4.out.low HBW.out
set_option maxRecDepth 100000 in
set_option maxHeartbeats 2000000 in
theorem rsize6_any (k : Int) (ao : Option Addr) (n cap : Nat) (cs : List Cl) (w : World) (hs : SlC w ao n cap cs) (hz : szN cs ≤ 1099511627776) :
    Calls Tryd.prog 71 #[.int .i64 k, .slice ao n cap] w fun e w' => e = .returned (.int .i64 (szN cs : Int)) ∧ Hid (Below w.heap.size w w') := by
  have HS := hidden hs
  have hn := hs.hroom
  have HLEN := hidden hs.hlen
  have HZ : Hid (∀ j, szN (cs.take j) ≤ 1099511627776) := hidden (fun j => Nat.le_trans (szN_le6 cs j) hz)
  obtain ⟨T, hT⟩ : ∃ T : Nat, szN cs = T := ⟨_, rfl⟩
  rw [hT]
  have HT := hidden hT
  clear hs hz hT
  go_enter Tryd.func71, Tryd.ntmps71
  go_wp2_with fail
  go_loopw [5, 6] (fun v i wr => ∃ j q : Nat, j ≤ n ∧ q ≤ 1099511627776 ∧ i = .int .i64 j ∧ v = .int .i64 (q : Int) ∧ Hid (q = szN (cs.take j)) ∧ Hid (Below w.heap.size w wr)) (fun _ i _ => n - (RowKit.intOf i).toNat)
  case atStart => exact ⟨0, 8, by omega, by omega, rfl, rfl, hidden (by simp [szN]), hidden (Below.refl _ _)⟩
  case round =>
    obtain ⟨j, q, hj, hq, rfl, rfl, HQ, HB⟩ := hrel
    have bj : (j : Int) ≤ 140737488355328 := by omega
    have bq : (q : Int) ≤ 1099511627776 := by omega
    by_cases hlt : j < n
    · have hltI : (j : Int) < (n : Int) := by omega
      obtain ⟨b, off, c, ka, kc, va, vc, rfl, hb, hci, c0, c1, c2, c3, c4, hk, hv⟩ := (HS.out.on HB.out).item j hlt
      have hst := szN_take cs j c hci
      have hz2 := HZ.out (j + 1)
      rw [hst, ← HQ.out] at hz2
      have HST : Hid (szN (cs.take (j + 1)) = q + ctk c) := hidden (by rw [hst, HQ.out])
      have hba : Below w.heap.size w (wr.alloc (.cells #[.slice ka c.key.length kc, .int .i64 c.kd, .slice va c.val.length vc, .int .i64 c.pg, .int .i64 c.ct] 44)) := bl_go HB.out (Nat.le_refl _) (bl_al (Below.refl _ _) (Nat.le_refl _) _)
      have HBA := hidden hba
      obtain ⟨kn, hkn⟩ : ∃ kn, c.key.length = kn := ⟨_, rfl⟩
      obtain ⟨vn, hvn⟩ : ∃ vn, c.val.length = vn := ⟨_, rfl⟩
      obtain ⟨kd, hkd⟩ : ∃ kd, c.kd = kd := ⟨_, rfl⟩
      have hct : ctk c = if kd = 1 then 7 + kn + vn else 13 + kn := by unfold ctk; rw [hkn, hvn, hkd]
      rw [hct] at hz2
      rw [hct] at HST
      rw [hkn] at c0 HBA
      rw [hvn] at c2 HBA
      rw [hkd] at c1 HBA
      clear hk hv hci hst hct hba hkn hvn hkd HB
      by_cases e1 : kd = 1
      · subst e1
        rw [if_pos rfl] at hz2 HST
        have bk : (kn : Int) ≤ 1099511627776 := by omega
        have bv : (vn : Int) ≤ 1099511627776 := by omega
        go_wp2
        go_roundw
        case rel => exact ⟨j + 1, q + (7 + kn + vn), by omega, by omega, by go_num, by go_num, hidden HST.out.symm, HBA⟩
        case measure => simp [RowKit.intOf]; omega
      · rw [if_neg e1] at hz2 HST
        have e1b : (kd == 1) = false := by rw [beq_eq_false_iff_ne]; exact e1
        have bk : (kn : Int) ≤ 1099511627776 := by omega
        go_wp2
        go_roundw
        case rel => exact ⟨j + 1, q + (13 + kn), by omega, by omega, by go_num, by go_num, hidden HST.out.symm, HBA⟩
        case measure => simp [RowKit.intOf]; omega
    · have e : q = T := by
        rw [← HT.out, HQ.out, List.take_of_length_le (by rw [HLEN.out]; omega)]
      subst e
      go_wp2
      go_ret
      exact ⟨rfl, HB⟩
end Go.Proofs.YtdmpbdppdcaabaaDoor

/- The document's check sum, and how many bytes there are. -/

namespace Go.Proofs.YtdmpbdppdcaabaaDoor
open Go.RowKit

set_option maxRecDepth 100000 in
theorem Sn_step (k y : Nat) (h : k < 8) : Sn (8 - k) y = Sn (8 - (k + 1)) (S y) := by
  rw [show 8 - k = (8 - (k + 1)) + 1 by omega]
  rfl
set_option maxRecDepth 100000 in
set_option maxHeartbeats 1000000 in
theorem step_any (r x : Nat) (w : World) (hr : r < 4294967296) (hx : x < 256) :
    Calls Tryd.prog 91 #[.int .u32 r, .int .u8 x] w fun e w' => e = .returned (.int .u32 (Sn 8 (r ^^^ x))) ∧ w' = w := by
  have hxr := u32_xor_nat r x hr (by omega)
  have hlt := xor32 hr (show x < 4294967296 by omega)
  generalize (r ^^^ x : Nat) = R at *
  generalize hF : Sn 8 R = F
  have HF := hidden hF
  clear hF
  go_enter Tryd.func91, Tryd.ntmps91
  go_wp2_with fail
  go_loop [5, 6] (fun v i => ∃ k y : Nat, k ≤ 8 ∧ y < 4294967296 ∧ i = .int .i64 k ∧ v = .int .u32 y ∧ Hid (Sn (8 - k) y = F)) (fun _ i => 8 - (intOf i).toNat)
  case atStart => exact ⟨0, R, by omega, hlt, rfl, rfl, HF⟩
  case round =>
    clear hxr hlt HF
    obtain ⟨k, y, hk, hy, rfl, rfl, HK⟩ := hrel
    by_cases hk8 : k < 8
    · have e := HK.out
      rw [Sn_step k y hk8] at e
      have hSl := S_lt hy
      clear HK
      obtain ⟨D, hD⟩ : ∃ D : Nat, y / 2 = D := ⟨_, rfl⟩
      have hD2 : (y : Int) / 2 = (D : Int) := by omega
      have hDl : D < 4294967296 := by omega
      by_cases hodd : y % 2 = 1
      · have hS : S y = D ^^^ 2197175160 := by unfold S; rw [if_pos hodd, hD]
        rw [hS] at e hSl
        have hz := u32_xor_nat D 2197175160 hDl (by omega)
        obtain ⟨Z, hZ⟩ : ∃ Z : Nat, D ^^^ 2197175160 = Z := ⟨_, rfl⟩
        rw [hZ] at e hz hSl
        have hz2 : bits .xor .u32 (D : Int) 2197175160 = (Z : Int) := hz
        have hb : ((y : Int) % 2 == 1) = true := by simp; omega
        have HE := hidden e
        clear e hS hz hZ hD hodd
        go_wp2
        go_round
        case rel => exact ⟨k + 1, Z, by omega, hSl, by go_num, rfl, HE⟩
        case measure => simp [intOf]; omega
      · have hS : S y = D := by unfold S; rw [if_neg hodd, hD]
        rw [hS] at e hSl
        have hb : ((y : Int) % 2 == 1) = false := by simp; omega
        have HE := hidden e
        clear e hS hD hodd
        go_wp2
        go_round
        case rel => exact ⟨k + 1, D, by omega, hSl, by go_num, rfl, HE⟩
        case measure => simp [intOf]; omega
    · have e : y = F := by rw [← HK.out, show 8 - k = 0 by omega]; rfl
      have HE := hidden e
      clear e HK
      go_wp2
      go_ret
      exact ⟨ret_int (by rw [HE.out]), rfl⟩

/-- How many bytes there are, one more for each list. -/
def tot (ls : List (List Int)) : Nat := (ls.map fun l => 1 + l.length).sum
set_option maxRecDepth 100000 in
theorem tot_snoc (ls : List (List Int)) (l : List Int) : tot (ls ++ [l]) = tot ls + (1 + l.length) := by simp [tot]
set_option maxRecDepth 100000 in
theorem take_snocS (ls : List (List Int)) (k : Nat) (h : k < ls.length) : ls.take (k + 1) = ls.take k ++ [ls.getD k []] := by
  rw [List.take_succ_eq_append_getElem h]
  simp [List.getD, List.getElem?_eq_getElem h]

/-- What Great answers: true, or false where there are few bytes. -/
def GreatSays (ls : List (List Int)) (e : Ending) : Prop := ∃ g, e = .returned (.bool g) ∧ (g = false → tot ls ≤ 1000000)
set_option maxRecDepth 100000 in
theorem GreatSays.mk {ls : List (List Int)} {g : Bool} (h : g = false → tot ls ≤ 1000000) : GreatSays ls (.returned (.bool g)) := ⟨g, rfl, h⟩

/-- The register behind all parts. -/
def crS (r : Nat) (ls : List (List Int)) : Nat := ls.foldl (fun r l => cr r (l.map Int.toNat)) r
set_option maxRecDepth 100000 in
theorem sumN_eq : ∀ (ls : List (List Int)) (r : Nat), r < 4294967296 → (∀ l ∈ ls, Wf l) → ls.foldl (fun r l => tk (l.map Int.toNat) r) r = crS r ls
  | [], _, _, _ => rfl
  | l :: ls, r, hr, hw => by
    have h1 := tk_eq (l.map Int.toNat) r hr (nat_lt l (hw l (by simp)))
    show ls.foldl _ (tk (l.map Int.toNat) r) = crS (cr r (l.map Int.toNat)) ls
    rw [h1]
    exact sumN_eq ls _ (cr_lt _ _ hr (nat_lt l (hw l (by simp)))) (fun x hx => hw x (by simp [hx]))
set_option maxRecDepth 100000 in
theorem crS_flat (r : Nat) (ls : List (List Int)) : crS r ls = cr r ((ls.flatMap id).map Int.toNat) := by
  induction ls generalizing r with
  | nil => rfl
  | cons l ls ih =>
    show crS (cr r (l.map Int.toNat)) ls = _
    rw [ih, List.flatMap_cons, List.map_append, cr_append]
    rfl

end Go.Proofs.YtdmpbdppdcaabaaDoor

/- The document's SumOf (of Ms, without layer 5's). -/

namespace Go.Proofs.YtdmpbdppdcaabaaDoor
open Go.RowKit

set_option maxRecDepth 100000 in
theorem sum_one (l : List Int) (h : Wf l) : sumN [l] = 4294967295 ^^^ cr 4294967295 (l.map Int.toNat) := by
  show 4294967295 ^^^ tk (l.map Int.toNat) 4294967295 = _
  rw [tk_eq _ _ (by omega) (nat_lt l h)]

set_option maxRecDepth 100000 in
set_option maxHeartbeats 1000000 in
theorem rSumOf_any (ao : Option Addr) (n cap : Nat) (l : List Int) (w : World) (hs : Sl w ao n cap l) :
    Calls Tryd.prog 74 #[.slice ao n cap] w fun e w' => e = .returned (.int .u32 (sumN [l] : Nat)) ∧ w' = w := by
  have HS := hidden hs
  have HW := hidden hs.wf
  have hlen := hs.hlen
  have hroom := hs.hroom
  have hE : sumN [l] = cr 4294967295 (l.map Int.toNat) ^^^ 4294967295 := by rw [sum_one l hs.wf, Nat.xor_comm]
  rw [hE]
  clear hE hs
  generalize hF : cr 4294967295 (l.map Int.toNat) = F
  have HF := hidden hF
  clear hF
  go_enter Tryd.func74, Tryd.ntmps74
  go_wp2_with fail
  go_loop [3, 4] (fun v i => ∃ k y : Nat, k ≤ n ∧ y < 4294967296 ∧ i = .int .i64 k ∧ v = .int .u32 y ∧ Hid (cr y ((l.drop k).map Int.toNat) = F)) (fun _ i => n - (intOf i).toNat)
  case atStart => exact ⟨0, 4294967295, by omega, by omega, rfl, rfl, HF⟩
  case round =>
    clear HF
    obtain ⟨k, y, hk, hy, rfl, rfl, HK⟩ := hrel
    by_cases hkn : k < n
    · rcases HS.out.hat with h | ⟨b', off', rfl, hbb', hc'⟩
      · omega
      have hcj := hc' k hkn
      have hby := HW.out.getD k
      have ej := HK.out
      rw [drop_cons l k (by omega)] at ej
      obtain ⟨C, hC⟩ := Int.eq_ofNat_of_zero_le hby.1
      rw [hC] at hcj hby ej
      have HEJ : Hid (cr (Sn 8 (y ^^^ C)) ((l.drop (k + 1)).map Int.toNat) = F) := ej
      have hst := step_any y C w hy (by omega)
      have hzl := Sn_lt 8 (xor32 hy (show C < 4294967296 by omega))
      generalize Sn 8 (y ^^^ C) = Z at *
      have HST := hidden hst
      clear hc' ej HK hC hst hlen
      go_wp2_with fail
      refine same_call HST.out ?_
      go_wp2
      go_round
      case rel => exact ⟨k + 1, Z, by omega, hzl, by go_num, rfl, HEJ⟩
      case measure => simp [intOf]; omega
    · have e : y = F := by rw [← HK.out, List.drop_eq_nil_of_le (by omega)]; rfl
      have HE := hidden e
      have hx := u32_xor_nat y 4294967295 hy (by omega)
      have hx2 : bits .xor .u32 (y : Int) 4294967295 = ((y ^^^ 4294967295 : Nat) : Int) := hx
      have HX := hidden hx2
      clear e HK hx hx2
      go_wp2
      go_ret
      exact ⟨ret_int (by rw [← HE.out]; exact HX.out), rfl⟩
end Go.Proofs.YtdmpbdppdcaabaaDoor

/- The document's Encode of layer 6. -/

namespace Go.Proofs.YtdmpbdppdcaabaaDoor
open Go.RowKit

def pgs6 (x : Int) : Bool := decide (x = 512 ∨ x = 1024 ∨ x = 2048 ∨ x = 4096 ∨ x = 8192 ∨ x = 16384 ∨ x = 32768 ∨ x = 65536)
set_option maxRecDepth 100000 in
theorem IsPage6_any (x : Int) (w : World) : Calls Tryd.prog 47 #[.int .i64 x] w fun e w' => e = .returned (.bool (pgs6 x)) ∧ w' = w := by
  go_enter Tryd.func47, Tryd.ntmps47
  go_wp2
  go_loop [3] (fun t => ∃ n : Int, t = .int .i64 n ∧ 512 ≤ n ∧ n ≤ 131072 ∧ (pgs6 n = true ∨ n = 131072) ∧ (pgs6 x = true → n ≤ x)) (fun t => (131072 - RowKit.intOf t).toNat)
  case atStart => exact ⟨512, rfl, by omega, by omega, .inl (by decide), fun h => by simp only [pgs6, decide_eq_true_eq] at h; omega⟩
  case round =>
    obtain ⟨n, rfl, h1, h2, h3, h4⟩ := hrel
    have H3 := hidden h3
    have H4 := hidden h4
    clear h3 h4
    by_cases hle : n ≤ 65536
    · by_cases he : n = x
      · have hp : pgs6 x = true := by
          rcases H3.out with h | h
          · rw [← he]; exact h
          · omega
        subst he
        have HP := hidden hp
        clear hp
        go_wp2
        go_ret
        exact ⟨by rw [HP.out]; rfl, rfl⟩
      · have hne : (n == x) = false := by simpa using he
        go_wp2
        go_round
        case rel =>
          refine ⟨2 * n, rfl, by omega, by omega, ?_, ?_⟩
          · have := H3.out
            simp only [pgs6, decide_eq_true_eq] at this ⊢
            omega
          · intro h
            have h5 := H4.out h
            have h6 := H3.out
            simp only [pgs6, decide_eq_true_eq] at h h6
            omega
        case measure => simp [RowKit.intOf]; omega
    · have hp : pgs6 x = false := by
        cases hx : pgs6 x
        · rfl
        · have h5 := H4.out hx
          have h6 := H3.out
          simp only [pgs6, decide_eq_true_eq] at hx h6
          omega
      have HP := hidden hp
      clear hp
      go_wp2
      go_ret
      exact ⟨by rw [HP.out]; rfl, rfl⟩

set_option maxRecDepth 100000 in
theorem rIsPage6_any (x : Int) (w : World) : Calls Tryd.prog 47 #[.int .i64 x] w fun e w' => e = .returned (.bool (decide (pw x))) ∧ w' = w := by
  have e : pgs6 x = decide (pw x) := by
    unfold pgs6 pw
    rfl
  rw [← e]
  exact IsPage6_any x w
set_option maxRecDepth 100000 in
theorem rIsKind6_any (k : Int) (w : World) : Calls Tryd.prog 69 #[.int .i64 k] w fun e w' => e = .returned (.bool (decide (isKd k))) ∧ w' = w := by
  by_cases h : k = 2
  · subst h
    have e : decide (isKd 2) = true := by decide
    rw [e]
    go_enter Tryd.func69, Tryd.ntmps69
    go_wp2_with fail
    go_ret
    exact ⟨rfl, rfl⟩
  · have hb : (k == 2) = false := by rw [beq_eq_false_iff_ne]; exact h
    have e : decide (isKd k) = (k == 3) := by
      rw [Bool.eq_iff_iff, decide_eq_true_iff, beq_iff_eq]
      unfold isKd
      omega
    rw [e]
    clear e
    go_enter Tryd.func69, Tryd.ntmps69
    go_wp2_with fail
    go_ret
    exact ⟨rfl, rfl⟩
/-- Two rows that are not one. -/
def Apt (u v : Value) : Prop := u.ownBlock = none ∨ u.ownBlock ≠ v.ownBlock
set_option maxRecDepth 100000 in
theorem Apt.symm {u v : Value} (h : Apt u v) : Apt v u := by
  unfold Apt at *
  cases hv : v.ownBlock with
  | none => exact .inl rfl
  | some b =>
    right
    rcases h with h | h
    · rw [h]; simp
    · intro e; exact h (by rw [hv, e])
set_option maxRecDepth 100000 in
theorem Apt.gr {w w' : World} {B : Nat} {u v v' : Value} {l : List Int} (h : Apt u v) (hu : OwnB w B u l) (hg : Gr w v w' v') : Apt u v' := by
  unfold Apt at *
  rcases h with h | h
  · exact .inl h
  · cases hub : u.ownBlock with
    | none => exact .inl rfl
    | some b =>
      right
      have hlt : b < w.heap.size := (World.ownsRow.lt hu b hub).2
      rcases hg.own with e | ⟨k, e, hk⟩
      · rw [e, ← hub]; exact h
      · rw [e]; intro e2; injection e2 with e2; omega
set_option maxRecDepth 100000 in
theorem own_keep {w w' : World} {B : Nat} {u v v' : Value} {l : List Int} (h : OwnB w B u l) (hg : Gr w v w' v') (ha : Apt u v) : OwnB w' B u l := World.ownsRow.kept h hg.grow ha
set_option maxRecDepth 100000 in
theorem own_sl6 {w : World} {B : Nat} {ao : Option Addr} {n c : Nat} {l : List Int} (h : OwnB w B (.slice ao n c) l) (hw : Wf l) (hl : l.length ≤ 140737488355328) : Sl w ao n c l := by
  obtain ⟨ao', c', e, hs, _⟩ := h.sl hw hl
  injection e with e1 e2 e3
  subst e1 e3
  rw [← e2] at hs
  exact hs
set_option maxRecDepth 100000 in
theorem apt_far {ao : Option Addr} {n c : Nat} {v : Value} (h : Apt (.slice ao n c) v) : Far ao n v := by
  right
  rintro p rfl e
  rcases h with h | h
  · cases h
  · exact h (by rw [e]; rfl)
set_option maxRecDepth 100000 in
theorem apt_new {w w' : World} {B C : Nat} {u v : Value} {l m : List Int} (h : OwnB w B u l) (k : OwnB w' C v m) (hC : w.heap.size ≤ C) : Apt u v := by
  cases hu : u.ownBlock with
  | none => exact .inl hu
  | some b =>
    right
    intro e
    have h1 := (World.ownsRow.lt h b hu).2
    have h2 := (World.ownsRow.lt k b (by rw [← e]; exact hu)).1
    omega
set_option maxRecDepth 100000 in
theorem sts_snoc6 : ∀ (cs : List Cl) (b j : Nat) (c : Cl), cs[j]? = some c → sts b (cs.take (j + 1)) = sts b (cs.take j) ++ [b + (bdy (cs.take j)).length]
  | [], _, j, _, h => by simp at h
  | d :: r, b, 0, c, h => by simp [sts, bdy]
  | d :: r, b, j + 1, c, h => by
    have ih := sts_snoc6 r (b + (cB d).length) j c (by simpa using h)
    simp only [List.take_succ_cons, sts, bdy_cons, List.length_append]
    rw [ih]
    simp [Nat.add_assoc]
set_option maxRecDepth 100000 in
theorem bdy_snoc6 (cs : List Cl) (j : Nat) (c : Cl) (h : cs[j]? = some c) : bdy (cs.take (j + 1)) = bdy (cs.take j) ++ cB c := by
  rw [List.take_add_one, h, bdy_append]
  simp [bdy]
set_option maxRecDepth 100000 in
theorem bdy_le6 (cs : List Cl) (j : Nat) : (bdy (cs.take j)).length ≤ (bdy cs).length := by
  have e : bdy cs = bdy (cs.take j) ++ bdy (cs.drop j) := by rw [← bdy_append, List.take_append_drop]
  rw [e, List.length_append]
  omega
set_option maxRecDepth 100000 in
theorem bdy_wf6 : ∀ cs : List Cl, (∀ c ∈ cs, c.Wf) → Wf (bdy cs)
  | [], _ => by intro x hx; cases hx
  | c :: r, h => by rw [bdy_cons]; exact (cB_wf (h c (by simp))).append (bdy_wf6 r (fun d hd => h d (by simp [hd])))
set_option maxRecDepth 100000 in
theorem sloB_snoc6 (l : List Nat) (s : Nat) : sloB (l ++ [s]) = sloB l ++ fB 2 (s : Int) := by simp [sloB]
set_option maxRecDepth 100000 in
theorem chk_all6 (k p : Int) : ∀ (pr : Option (List Int)) (cs : List Cl), chk k p pr cs = 0 → ∀ c ∈ cs, mayP k p c
  | _, [], _, c, hc => by cases hc
  | pr, d :: r, h, c, hc => by
    unfold chk at h
    by_cases h1 : mayP k p d
    · rw [if_pos h1] at h
      by_cases h2 : ahead pr d.key
      · rw [if_pos h2] at h
        rcases List.mem_cons.1 hc with rfl | hc
        · exact h1
        · exact chk_all6 k p _ r h c hc
      · rw [if_neg h2] at h; cases h
    · rw [if_neg h1] at h; cases h
set_option maxRecDepth 100000 in
theorem may_nums6 {k p : Int} {c : Cl} (h : mayP k p c) (hp : p ≤ 65536) : (¬ c.kd = 1 → (0 ≤ c.pg ∧ c.pg < 9223372036854775808) ∧ (0 ≤ c.ct ∧ c.ct < 9223372036854775808)) ∧ c.key.length + c.val.length ≤ 35184372088832 := by
  unfold mayP leadsP nowhere at h
  have hv : c.val = [] → c.val.length = 0 := fun e => by rw [e]; rfl
  refine ⟨fun hk => ?_, ?_⟩
  · rcases h.2 with ⟨_, _, _, h3⟩ | ⟨_, _, ⟨h4, _⟩ | ⟨_, _, h5⟩ | ⟨_, _, h6⟩⟩
    · omega
    · exact absurd h4 hk
    · omega
    · omega
  · rcases h.2 with ⟨_, _, h2, _⟩ | ⟨_, _, ⟨_, h4, _⟩ | ⟨_, h5, _⟩ | ⟨_, h6, _⟩⟩
    · have := hv h2; omega
    · omega
    · have := hv h5; omega
    · have := hv h6; omega
def lnOf6 : Value → Nat
  | .slice _ n _ => n
  | _ => 0
set_option maxRecDepth 100000 in
theorem one_sl6 (w : World) (x : Int) (hx : 0 ≤ x ∧ x ≤ 255) : Sl (w.alloc (.cells #[.int .u8 x] 5)) (some ⟨w.heap.size, 0, none⟩) 1 1 [x] := by
  refine ⟨rfl, Nat.le_refl _, by omega, Wf.cons hx Wf.nil, (by intro h; cases h), .inr ⟨w.heap.size, 0, rfl, by simp, ?_⟩⟩
  intro i hi
  obtain rfl : i = 0 := by omega
  simp
/-- What the document's Encode refuses. -/
def RNo6 (k n : Int) (cs : List Cl) (w : World) (e : Ending) (w' : World) : Prop := e = .returned (.tuple #[.slice none 0 0, .int .i64 (encE k n cs)]) ∧ Hid (Below w.heap.size w w')
set_option maxRecDepth 100000 in
theorem RNo6.mk6 {k n c : Int} {cs : List Cl} {w w' : World} (hb : Below w.heap.size w w') (hc : c = encE k n cs) : RNo6 k n cs w (.returned (.tuple #[.slice none 0 0, .int .i64 c])) w' := ⟨by rw [hc], hidden hb⟩
set_option maxRecDepth 100000 in
set_option maxHeartbeats 8000000 in
theorem rencode6_no (k n : Int) (co : Option Addr) (cn cc : Nat) (cs : List Cl) (w : World) (hs : SlC w co cn cc cs) (hcn : cn ≤ 900000) (hz : szN cs ≤ 1099511627776) (hne : encE k n cs ≠ 0) :
    Calls Tryd.prog 50 #[.int .i64 k, .slice co cn cc, .int .i64 n] w fun e w' => RNo6 k n cs w e w' := by
  have HS := hidden hs
  have HZ := hidden hz
  have HLEN := hidden hs.hlen
  have HSZ := hidden (rIsPage6_any n w)
  have HIK := hidden (rIsKind6_any k w)
  have HNE := hidden hne
  clear hs hz hne
  cases h2 : decide (pw n) with
  | false =>
    have HE : Hid ((1 : Int) = encE k n cs) := hidden (by unfold encE; rw [if_neg (fun h => by simp [h.2] at h2)])
    rw [h2] at HSZ
    clear h2
    go_enter Tryd.func50, Tryd.ntmps50
    go_wp2_with (first | (go_at_call 47; refine same_call HSZ.out ?_))
    go_ret2
    exact RNo6.mk6 (Below.refl _ _) HE.out
  | true =>
    have hn : pw n := by simpa using h2
    have hpn := pw_le hn
    rw [h2] at HSZ
    cases h3 : decide (isKd k) with
    | false =>
      have HE : Hid ((1 : Int) = encE k n cs) := hidden (by unfold encE; rw [if_neg (fun h => by simp [h.1] at h3)])
      rw [h3] at HIK
      clear h2 h3 hn
      go_enter Tryd.func50, Tryd.ntmps50
      go_wp2_with (first
        | (go_at_call 47; refine same_call HSZ.out ?_)
        | (go_at_call 69; refine same_call HIK.out ?_))
      go_ret2
      exact RNo6.mk6 (Below.refl _ _) HE.out
    | true =>
      have hkd : isKd k := by simpa using h3
      rw [h3] at HIK
      have HE0 : Hid (encE k n cs = if chk k n none cs = 0 then (if n < szN cs then 61 else 0) else chk k n none cs) := hidden (by unfold encE; rw [if_pos ⟨hkd, hn⟩])
      have hN1 : n ≤ 65536 := hpn.2
      have hN3 : 512 ≤ n := by omega
      clear hn hpn h2 h3 hkd
      go_enter Tryd.func50, Tryd.ntmps50
      go_wp2_with (first
        | (go_at_call 47; refine same_call HSZ.out ?_)
        | (go_at_call 69; refine same_call HIK.out ?_))
      clear HSZ HIK
      go_loopw [9] (fun i wr => ∃ j : Nat, j ≤ cn ∧ i = .int .i64 j ∧ Hid (chk k n none cs = chk k n (prv (cs.take j)) (cs.drop j)) ∧ Hid (Below w.heap.size w wr)) (fun i _ => cn - (RowKit.intOf i).toNat)
      case atStart => exact ⟨0, by omega, rfl, hidden (by simp [prv]), hidden (Below.refl _ _)⟩
      case round =>
        obtain ⟨j, hj, rfl, HC, HBW⟩ := hrel
        have bj : (j : Int) ≤ 900000 := by omega
        by_cases hlt : j < cn
        · have hltI : (j : Int) < (cn : Int) := by omega
          obtain ⟨b, off, c, ka, kc, va, vc, rfl, hb, hci, c0, c1, c2, c3, c4, hkS, hvS⟩ := (HS.out.on HBW.out).item j hlt
          have HCS := hidden (chk_step k n cs j c hci)
          have HCI := hidden hci
          have HKS := hidden hkS
          have HMB := hidden (rmay6_any k n c ka va kc vc wr hN3 hN1 hkS.hroom hvS.hroom)
          clear hci hkS hvS
          cases hm : decide (mayP k n c) with
          | false =>
            have HE : Hid ((62 : Int) = encE k n cs) := by
              have : ¬ mayP k n c := by simpa using hm
              have e : chk k n none cs = 62 := by rw [HC.out, HCS.out, if_neg this]
              exact hidden (by rw [HE0.out, e]; simp)
            rw [hm] at HMB
            go_wp2_with (first | (go_at_call 70; refine HMB.out.mono ?_; rintro e w2 ⟨rfl, hb2⟩; have HB2 := hidden (bl_go HBW.out (Nat.le_refl _) hb2); clear hb2))
            go_ret2
            exact RNo6.mk6 HB2.out HE.out
          | true =>
            have hmp : mayP k n c := by simpa using hm
            have HMP := hidden hmp
            rw [hm] at HMB
            clear hmp hm
            go_wp2_with (first | (go_at_call 70; refine HMB.out.mono ?_; rintro e w2 ⟨rfl, hb2⟩; have HBR := hidden hb2; have HBW2 := hidden (bl_go HBW.out (Nat.le_refl _) hb2); clear hb2; refine Hid.out ?_))
            apply hidden
            have d0 := (HBR.out.cell (p := ⟨b, off + j * 5, none⟩) hb).trans c0
            clear c0 c1 c2 c3 c4 HMB
            by_cases hj0 : j = 0
            · subst hj0
              have HNX : Hid (chk k n none cs = chk k n (prv (cs.take (0 + 1))) (cs.drop (0 + 1))) := hidden (by rw [HC.out, HCS.out, if_pos HMP.out, if_pos (by simp [prv, ahead])])
              have hj0d : decide ((0 : Int) < ((0 : Nat) : Int)) = false := by decide
              go_wp2_with fail
              go_quiet (fail)
              go_wp2
              go_roundw
              case rel => exact ⟨1, by omega, by go_num, HNX, hidden (bl_dr HBW2.out _)⟩
              case measure => simp [RowKit.intOf]; omega
            · obtain ⟨i, hij⟩ : ∃ i, j = i + 1 := ⟨j - 1, by omega⟩
              obtain ⟨b', off', c', ka', kc', va', vc', hbo, hb', hci', e0, e1, e2, e3, e4, hk', hv'⟩ := (HS.out.on HBW2.out).item i (by omega)
              injection hbo with hbo
              injection hbo with hb1 hb2
              subst hb1 hb2
              have hprv : prv (cs.take j) = some c'.key := by rw [hij, List.take_add_one, hci']; simp [prv]
              have HPR := hidden hprv
              have k3 : ∀ z, (convert 22 9 (.slice ka' c'.key.length kc')).run Tryd.prog (w2.drewN z) = .ok (.string (strOfNums c'.key)) (w2.drewN z) := fun z => conv_sl (hk'.drewN z)
              have k4 : ∀ z, (convert 22 9 (.slice ka c.key.length kc)).run Tryd.prog (w2.drewN z) = .ok (.string (strOfNums c.key)) (w2.drewN z) := fun z => conv_sl ((HKS.out.on (Nat.le_refl _) HBR.out).drewN z)
              have HLS := hidden (str_less hk'.wf HKS.out.wf)
              have i1 : (i : Int) < (cn : Int) := by omega
              have i2 : i < cn := by omega
              have i3 : (i : Int) ≤ 900000 := by omega
              have i4 : IntKind.i64.wrap ((j : Int) - 1) = (i : Int) := by rw [IntKind.wrap_i64]; omega
              have i7 : (j : Int) - 1 = (i : Int) := by omega
              have i5 : 0 < (j : Int) := by omega
              have i6 : 0 < j := by omega
              have i8 : decide (0 < j) = true := decide_eq_true i6
              clear hk' hv' hprv hci' e1 e2 e3 e4 hj0 hij hb'
              cases hkl : decide (kl c'.key c.key) with
              | true =>
                have HNX : Hid (chk k n none cs = chk k n (prv (cs.take (j + 1))) (cs.drop (j + 1))) := hidden (by
                  rw [HC.out, HCS.out, if_pos HMP.out, if_pos (by rw [HPR.out]; simpa [ahead] using hkl)])
                have hls : Op.bytesLess (strOfNums c'.key).toList (strOfNums c.key).toList = true := by rw [HLS.out]; exact hkl
                go_wp2_with fail
                go_quiet (fail)
                go_wp2
                go_roundw
                case rel => exact ⟨j + 1, by omega, by go_num, HNX, hidden (bl_dr HBW2.out _)⟩
                case measure => simp [RowKit.intOf]; omega
              | false =>
                have HE : Hid ((63 : Int) = encE k n cs) := by
                  have e : chk k n none cs = 63 := by rw [HC.out, HCS.out, if_pos HMP.out, if_neg (by rw [HPR.out]; simpa [ahead] using hkl)]
                  exact hidden (by rw [HE0.out, e]; simp)
                have hls : Op.bytesLess (strOfNums c'.key).toList (strOfNums c.key).toList = false := by rw [HLS.out]; exact hkl
                go_wp2_with fail
                go_quiet (fail)
                go_wp2
                go_ret2
                exact RNo6.mk6 (bl_dr HBW2.out _) HE.out
        · have HC0 : Hid (chk k n none cs = 0) := hidden (by rw [HC.out, List.drop_eq_nil_of_le (by rw [HLEN.out]; omega)]; rfl)
          have HE1 : Hid (encE k n cs = if n < szN cs then 61 else 0) := hidden (by rw [HE0.out, if_pos HC0.out])
          have HZS := hidden (rsize6_any k co cn cc cs wr (HS.out.on HBW.out) HZ.out)
          obtain ⟨Z, hZ⟩ : ∃ Z : Nat, szN cs = Z := ⟨_, rfl⟩
          rw [hZ] at HZS HE1
          have hZb : (Z : Int) ≤ 1099511627776 := by have := HZ.out; omega
          clear HC HC0 HE0 hZ
          by_cases hfit : n < (Z : Int)
          · have HE : Hid ((61 : Int) = encE k n cs) := hidden (by rw [HE1.out, if_pos hfit])
            go_wp2_with (first | (go_at_call 71; refine HZS.out.mono ?_; rintro e w2 ⟨rfl, HB2⟩))
            go_ret2
            exact RNo6.mk6 (bl_go HBW.out (Nat.le_refl _) HB2.out) HE.out
          · exact absurd (by rw [HE1.out, if_neg hfit]) HNE.out
end Go.Proofs.YtdmpbdppdcaabaaDoor

/- The document's Encode of layer 6: the page. -/

namespace Go.Proofs.YtdmpbdppdcaabaaDoor
open Go.RowKit

set_option maxRecDepth 100000 in
theorem two_wf6 {k : Int} (_h : isKd k) (e : k % 256 = k) : Wf [k % 256, 1] := by
  intro x hx
  simp only [List.mem_cons, List.not_mem_nil, or_false] at hx
  rw [e] at hx
  unfold isKd at _h
  omega
set_option maxRecDepth 100000 in
theorem own_two6 (w : World) (x y : Int) : OwnB (w.alloc (.cells #[.int .u8 x, .int .u8 y] 5)) w.heap.size (.slice (some ⟨w.heap.size, 0, none⟩) 2 2) [x, y] :=
  own_of_heap (l := [x, y]) (heap_alloc_last w _) (Nat.le_refl _) (by unfold maxLen; simp)
set_option maxRecDepth 100000 in
set_option maxHeartbeats 16000000 in
theorem rencode6_yes (k : Int) (N : Nat) (co : Option Addr) (cn cc : Nat) (cs : List Cl) (w : World) (hs : SlC w co cn cc cs) (hcn : cn ≤ 900000) (he : encE k N cs = 0) :
    Calls Tryd.prog 50 #[.int .i64 k, .slice co cn cc, .int .i64 (N : Int)] w fun e w' => ∃ v, e = .returned (.tuple #[v, .int .i64 0]) ∧ Hid (OwnB w' w.heap.size v (pgB k N cs)) ∧ Hid (Below w.heap.size w w') := by
  have HS := hidden hs
  have HLEN := hidden hs.hlen
  have HWF := hidden hs.wf
  have HSZ := hidden (rIsPage6_any (N : Int) w)
  have HIK := hidden (rIsKind6_any k w)
  have hkn : isKd k ∧ pw (N : Int) := by
    unfold encE at he
    by_cases h : isKd k ∧ pw (N : Int)
    · exact h
    · rw [if_neg h] at he; cases he
  have hkd := hkn.1
  have hn := hkn.2
  have hpn := pw_le hn
  have HC0 : Hid (chk k N none cs = 0) := hidden (by
    unfold encE at he
    rw [if_pos hkn] at he
    by_cases h : chk k N none cs = 0
    · exact h
    · rw [if_neg h] at he; exact absurd he h)
  have hfit0 : szN cs ≤ N := by
    unfold encE at he
    rw [if_pos hkn, if_pos HC0.out] at he
    by_cases h : (N : Int) < szN cs
    · rw [if_pos h] at he; cases he
    · omega
  have hN1 : (N : Int) ≤ 65536 := hpn.2
  have hN2 : 512 ≤ N := by omega
  have hN3 : 512 ≤ (N : Int) := by omega
  have HMAY : Hid (∀ c ∈ cs, mayP k N c) := hidden (chk_all6 k N none cs HC0.out)
  rw [show decide (pw (N : Int)) = true from by simpa using hn] at HSZ
  rw [show decide (isKd k) = true from by simpa using hkd] at HIK
  have HKD := hidden hkd
  have hk256 : k % 256 = k := by unfold isKd at hkd; omega
  have HK256 := hidden hk256
  have hu8 : IntKind.u8.wrap k = k % 256 := IntKind.wrap_u8 k
  have hse := szN_eq cs
  rw [HLEN.out] at hse
  obtain ⟨Z, hZ⟩ : ∃ Z : Nat, szN cs = Z := ⟨_, rfl⟩
  rw [hZ] at hse hfit0
  have HZS := hidden (fun u h => rsize6_any k co cn cc cs u h (by omega))
  rw [hZ] at HZS
  have HZE := hidden hZ
  have HSE := hidden hse
  have bcn : cn ≤ 65536 := by omega
  have bcI : (cn : Int) ≤ 65536 := by omega
  have hZN : ¬ (N : Int) < (Z : Int) := by omega
  have hZb : (Z : Int) ≤ 65536 := by omega
  have HZN := hidden hfit0
  have HBDL : Hid (∀ j, (bdy (cs.take j)).length + 8 ≤ 65536) := hidden (fun j => by have := bdy_le6 cs j; omega)
  have hcw : IntKind.u64.wrap (cn : Int) = (cn : Int) := by rw [IntKind.wrap_u64]; omega
  clear hn hpn hkd hs he hk256 hse hZ hfit0 hkn
  go_enter Tryd.func50, Tryd.ntmps50
  go_wp2_with (first
    | (go_at_call 47; refine same_call HSZ.out ?_)
    | (go_at_call 69; refine same_call HIK.out ?_))
  clear HSZ HIK
  go_loopw [9] (fun i wr => ∃ j : Nat, j ≤ cn ∧ i = .int .i64 j ∧ Hid (chk k N (prv (cs.take j)) (cs.drop j) = 0) ∧ Hid (Below w.heap.size w wr)) (fun i _ => cn - (RowKit.intOf i).toNat)
  case atStart => exact ⟨0, by omega, rfl, hidden (by simpa [prv] using HC0.out), hidden (Below.refl _ _)⟩
  case round =>
    obtain ⟨j, hj, rfl, HC, HBW⟩ := hrel
    have bj : (j : Int) ≤ 900000 := by omega
    by_cases hlt : j < cn
    · have hltI : (j : Int) < (cn : Int) := by omega
      obtain ⟨b, off, c, ka, kc, va, vc, rfl, hb, hci, c0, c1, c2, c3, c4, hkS, hvS⟩ := (HS.out.on HBW.out).item j hlt
      have hcs := chk_step k N cs j c hci
      rw [HC.out] at hcs
      have hmp : mayP k N c := by
        by_cases h : mayP k N c
        · exact h
        · rw [if_neg h] at hcs; cases hcs
      rw [if_pos hmp] at hcs
      have hah : ahead (prv (cs.take j)) c.key := by
        by_cases h : ahead (prv (cs.take j)) c.key
        · exact h
        · rw [if_neg h] at hcs; cases hcs
      rw [if_pos hah] at hcs
      have HCS := hidden hcs.symm
      have HAH := hidden hah
      have HKS := hidden hkS
      have HMB := hidden (rmay6_any k (N : Int) c ka va kc vc wr hN3 hN1 hkS.hroom hvS.hroom)
      rw [show decide (mayP k N c) = true from by simpa using hmp] at HMB
      clear hci hkS hvS hcs hah hmp
      go_wp2_with (first | (go_at_call 70; refine HMB.out.mono ?_; rintro e w2 ⟨rfl, hb2⟩; have HBR := hidden hb2; have HBW2 := hidden (bl_go HBW.out (Nat.le_refl _) hb2); clear hb2; refine Hid.out ?_))
      apply hidden
      have d0 := (HBR.out.cell (p := ⟨b, off + j * 5, none⟩) hb).trans c0
      clear c0 c1 c2 c3 c4 HMB
      by_cases hj0 : j = 0
      · subst hj0
        have hj0d : decide ((0 : Int) < ((0 : Nat) : Int)) = false := by decide
        go_wp2_with fail
        go_quiet (fail)
        go_wp2
        go_roundw
        case rel => exact ⟨1, by omega, by go_num, HCS, hidden (bl_dr HBW2.out _)⟩
        case measure => simp [RowKit.intOf]; omega
      · obtain ⟨i, hij⟩ : ∃ i, j = i + 1 := ⟨j - 1, by omega⟩
        obtain ⟨b', off', c', ka', kc', va', vc', hbo, hb', hci', e0, e1, e2, e3, e4, hk', hv'⟩ := (HS.out.on HBW2.out).item i (by omega)
        injection hbo with hbo
        injection hbo with hb1 hb2
        subst hb1 hb2
        have hprv : prv (cs.take j) = some c'.key := by rw [hij, List.take_add_one, hci']; simp [prv]
        have hkl : decide (kl c'.key c.key) = true := by
          have := HAH.out
          rw [hprv] at this
          simpa [ahead] using this
        have k3 : ∀ z, (convert 22 9 (.slice ka' c'.key.length kc')).run Tryd.prog (w2.drewN z) = .ok (.string (strOfNums c'.key)) (w2.drewN z) := fun z => conv_sl (hk'.drewN z)
        have k4 : ∀ z, (convert 22 9 (.slice ka c.key.length kc)).run Tryd.prog (w2.drewN z) = .ok (.string (strOfNums c.key)) (w2.drewN z) := fun z => conv_sl ((HKS.out.on (Nat.le_refl _) HBR.out).drewN z)
        have hls : Op.bytesLess (strOfNums c'.key).toList (strOfNums c.key).toList = true := by rw [str_less hk'.wf HKS.out.wf]; exact hkl
        have i1 : (i : Int) < (cn : Int) := by omega
        have i2 : i < cn := by omega
        have i3 : (i : Int) ≤ 900000 := by omega
        have i4 : IntKind.i64.wrap ((j : Int) - 1) = (i : Int) := by rw [IntKind.wrap_i64]; omega
        have i7 : (j : Int) - 1 = (i : Int) := by omega
        have i5 : 0 < (j : Int) := by omega
        have i6 : 0 < j := by omega
        have i8 : decide (0 < j) = true := decide_eq_true i6
        clear hk' hv' hprv hci' e1 e2 e3 e4 hj0 hij hb' hkl
        go_wp2_with fail
        go_quiet (fail)
        go_wp2
        go_roundw
        case rel => exact ⟨j + 1, by omega, by go_num, HCS, hidden (bl_dr HBW2.out _)⟩
        case measure => simp [RowKit.intOf]; omega
    · have HZR := hidden (HZS.out wr (HS.out.on HBW.out))
      clear HC HC0 HZS hj
      go_wp2_with (first | (go_at_call 71; refine HZR.out.mono ?_; rintro e w2 ⟨rfl, HB2⟩; refine Hid.out ?_))
      apply hidden
      have HW2 := hidden (bl_go HBW.out (Nat.le_refl _) HB2.out)
      clear HZR HB2 HBW
      obtain ⟨B1, hB1⟩ : ∃ B, w2.heap.size = B := ⟨_, rfl⟩
      obtain ⟨y, hy⟩ : ∃ y, w2.alloc (.cells #[.int .u8 (k % 256), .int .u8 1] 5) = y := ⟨_, rfl⟩
      have hB3 : B1 ≤ w2.heap.size := by omega
      have hby : Below B1 w2 y := by rw [← hy, ← hB1]; exact bl_al (Below.refl _ _) (Nat.le_refl _) _
      obtain ⟨L0, hL0⟩ : ∃ L0, ([k % 256, 1] : List Int) = L0 := ⟨_, rfl⟩
      have HOY : Hid (OwnB y B1 (.slice (some ⟨B1, 0, none⟩) 2 2) L0) := hidden (by rw [← hy, ← hB1, ← hL0]; exact own_two6 w2 _ _)
      have HL0 : Hid (L0.length = 2) := hidden (by rw [← hL0]; rfl)
      have HL0E := hidden hL0
      clear hL0
      have HBY := hidden hby
      have hBy : B1 ≤ y.heap.size := by rw [← hB1]; exact hby.size
      have HB3' := hidden hB3
      have HB1E := hidden hB1
      have HF4 := hidden (fixed6_2 (cn : Int) y (by omega) (by omega))
      clear hby
      go_wp2_with (first | (go_at_call 72; refine HF4.out.mono ?_; rintro e w4 ⟨a4, c4, rfl, HO4, HS4, hb4⟩; refine Hid.out ?_))
      apply hidden
      have HB4 := hidden (bl_go HBY.out hB3 hb4.out)
      have hB4 : B1 ≤ w4.heap.size := Nat.le_trans hBy hb4.out.size
      have HOY4 := hidden (HOY.out.on (Nat.le_refl _) hb4.out)
      clear HF4 HO4 hb4 HOY HBY hy
      go_wp2_with (at_builtin; refine app_sl _ rfl _ _ rfl B1 L0 (fB 2 (cn : Int)) _ a4 2 c4 rfl rfl HOY4.out HS4.out (by rw [HL0.out]; omega) hB4 ?_; refine Hid.out ?_)
      apply hidden
      intro v5 w5 ho5 hg5
      have HB5 : Hid (Below B1 w2 w5) := hidden (HB4.out.trans (hg5.below HOY4.out hB4))
      have hB5 : B1 ≤ w5.heap.size := Nat.le_trans hB4 hg5.grow.size
      obtain ⟨L, hL⟩ : ∃ L, L0 ++ fB 2 (cn : Int) = L := ⟨_, rfl⟩
      rw [hL] at ho5
      have HLL : Hid (L.length = 4) := hidden (by rw [← hL, List.length_append, HL0.out, fB_length])
      have HLE : Hid ([k % 256, 1] ++ fB 2 (cn : Int) = L) := hidden (by rw [HL0E.out]; exact hL)
      have HLW : Hid (Wf L) := hidden (by rw [← hL, ← HL0E.out]; exact (two_wf6 HKD.out HK256.out).append (fB_wf _ _))
      have HO5 := hidden ho5
      clear ho5 hg5 HOY4 HS4 HB4 hB4 hL hBy
      go_wp2_with fail
      go_loopw [11, 12] (fun a i wq => ∃ (j : Nat) (ao : Option Addr) (an ac : Nat), j ≤ cn ∧ i = .int .i64 j ∧ a = .slice ao an ac ∧ Hid (OwnB wq B1 v5 L) ∧ Hid (OwnB wq B1 (.slice ao an ac) (bdy (cs.take j))) ∧ Hid (Apt (.slice ao an ac) v5) ∧ Hid (Below B1 w2 wq)) (fun _ i _ => cn - (RowKit.intOf i).toNat)
      case atStart => exact ⟨0, none, 0, 0, by omega, rfl, rfl, HO5, hidden (by simpa [bdy] using OwnB.nil _ _), hidden (.inl rfl), HB5⟩
      case round =>
        clear HO5 HB5 hB5
        obtain ⟨j, ao, an, ac, hj, rfl, rfl, HO, HA, HAP, HB⟩ := hrel
        have bj : (j : Int) ≤ 65536 := by omega
        have hBr : B1 ≤ wr.heap.size := Nat.le_trans HB3'.out HB.out.size
        have HWR : Hid (Below w.heap.size w wr) := hidden (HW2.out.trans (HB.out.mono (by have := HB1E.out; have := HW2.out.size; omega)))
        have HAN : Hid ((bdy (cs.take j)).length = an) := hidden (by
          obtain ⟨a, c, e⟩ := own_slice6 HA.out
          injection e with _ e2 _
          exact e2.symm)
        have han : an + 8 ≤ 65536 := by have := HBDL.out j; rw [HAN.out] at this; exact this
        have anI : (an : Int) ≤ 65536 := by omega
        by_cases hlt : j < cn
        · have hltI : (j : Int) < (cn : Int) := by omega
          obtain ⟨b, off, c, ka, kc, va, vc, rfl, hb, hci, c0, c1, c2, c3, c4, hkS, hvS⟩ := (HS.out.on HWR.out).item j hlt
          have hm := may_nums6 (HMAY.out c (List.mem_of_getElem? hci)) hN1
          have HBT := hidden (rbytes6_any c ka va kc vc wr hkS hvS hm.1 hm.2)
          have HSN := hidden (bdy_snoc6 cs j c hci)
          have hl2 := HBDL.out (j + 1)
          rw [HSN.out, List.length_append, HAN.out] at hl2
          have HRW : Hid (Wf (cB c)) := hidden (cB_wf (HWF.out c (List.mem_of_getElem? hci)))
          have HL2 := hidden hl2
          obtain ⟨Q, hQ⟩ : ∃ Q, bdy (cs.take j) = Q := ⟨_, rfl⟩
          rw [hQ] at HA HSN HAN
          clear hkS hvS hm hci hl2 hQ
          go_wp2_with (first | (go_at_call 73; refine HBT.out.mono ?_; rintro e x3 ⟨v3, rfl, HO3, HB3⟩; refine Hid.out ?_))
          apply hidden
          obtain ⟨R, hR⟩ : ∃ R, cB c = R := ⟨_, rfl⟩
          rw [hR] at HO3 HSN HL2 HRW
          obtain ⟨yo, yc, hsh⟩ := own_slice6 HO3.out
          subst hsh
          obtain ⟨rn, hrn⟩ : ∃ rn, R.length = rn := ⟨_, rfl⟩
          rw [hrn] at HO3 HL2 ⊢
          have HRN := hidden hrn
          have HX3 : Hid (Below B1 w2 x3) := hidden (bl_go HB.out HB3'.out HB3.out)
          have hBx3 : B1 ≤ x3.heap.size := Nat.le_trans hBr HB3.out.size
          have HOx3 : Hid (OwnB x3 B1 v5 L) := hidden (HO.out.on (Nat.le_refl _) HB3.out)
          have HAx3 : Hid (OwnB x3 B1 (.slice ao an ac) Q) := hidden (HA.out.on (Nat.le_refl _) HB3.out)
          have HSL3 : Hid (Sl x3 yo rn yc R) := hidden (own_sl6 HO3.out HRW.out (by rw [HRN.out]; have := HL2.out; omega))
          have hfar : Far yo rn (.slice ao an ac) := apt_far (Apt.symm (apt_new HA.out HO3.out (Nat.le_refl _)))
          have HFAR := hidden hfar
          clear HBT HO3 HB3 HO HA HB hR hrn hfar c0 c1 c2 c3 c4
          go_wp2_with (at_builtin; refine app_sl _ rfl _ _ rfl B1 Q R _ yo rn yc rfl rfl HAx3.out HSL3.out (by rw [HAN.out]; have := HL2.out; omega) hBx3 ?_; refine Hid.out ?_)
          apply hidden
          intro v6 w6 ho6 hg6
          have HB6 : Hid (Below B1 w2 w6) := hidden (HX3.out.trans (hg6.below HAx3.out hBx3))
          have HO6 : Hid (OwnB w6 B1 v5 L) := hidden (own_keep HOx3.out hg6 HAP.out.symm)
          have HAP6 : Hid (Apt v6 v5) := hidden (Apt.symm (HAP.out.symm.gr HOx3.out hg6))
          have HA6 : Hid (OwnB w6 B1 v6 (bdy (cs.take (j + 1)))) := hidden (by rw [HSN.out]; exact ho6)
          obtain ⟨zo, zc, hsh⟩ := own_slice6 HA6.out
          subst hsh
          obtain ⟨zn, hzn⟩ : ∃ zn, (bdy (cs.take (j + 1))).length = zn := ⟨_, rfl⟩
          rw [hzn] at HA6 HAP6 ⊢
          clear ho6 hg6 HOx3 HAx3 HSL3 HX3 hBx3 HAP hzn HFAR
          go_wp2
          go_roundw
          case rel => exact ⟨j + 1, zo, zn, zc, by omega, by go_num, rfl, HO6, HA6, HAP6, HB6⟩
          case measure => simp [RowKit.intOf]; omega
        · have hjc : j = cn := by omega
          subst hjc
          have hlI : ¬ (j : Int) < (j : Int) := by omega
          have HTA : Hid (cs.take j = cs) := hidden (List.take_of_length_le (by rw [HLEN.out]; exact Nat.le_refl _))
          rw [HTA.out] at HA HAN
          have hza : Z = 8 + 2 * j + an := by have := HSE.out; rw [HAN.out] at this; exact this
          obtain ⟨A0, hA0⟩ : ∃ A0, N - 4 - an = A0 := ⟨_, rfl⟩
          have hA0N : A0 + an + 4 = N := by have := HZN.out; omega
          have hAI : (N : Int) - 4 - (an : Int) = (A0 : Int) := by omega
          have bA : (A0 : Int) ≤ 65536 := by omega
          have HA0 := hidden hA0N
          have HZA := hidden hza
          have HQW : Hid (Wf (bdy cs)) := hidden (bdy_wf6 cs HWF.out)
          obtain ⟨Q, hQ⟩ : ∃ Q, bdy cs = Q := ⟨_, rfl⟩
          rw [hQ] at HA HAN HQW
          have HQE := hidden hQ
          clear hza hA0 hA0N hQ hlt
          go_wp2_with fail
          clear hAI
          go_loopw [10, 13, 14] (fun s a i wq => ∃ (t : Nat) (so : Option Addr) (sn sc : Nat), t ≤ j ∧ i = .int .i64 t ∧ a = .int .i64 ((A0 + (bdy (cs.take t)).length : Nat) : Int) ∧ s = .slice so sn sc ∧ Hid (OwnB wq B1 (.slice so sn sc) (L ++ sloB (sts A0 (cs.take t)))) ∧ Hid (OwnB wq B1 (.slice ao an ac) Q) ∧ Hid (Apt (.slice ao an ac) (.slice so sn sc)) ∧ Hid (Below B1 w2 wq)) (fun _ _ i _ => j - (RowKit.intOf i).toNat)
          case atStart =>
            obtain ⟨so, sc, hsh⟩ := own_slice6 HO.out
            subst hsh
            rw [HLL.out] at HO HAP ⊢
            exact ⟨0, so, 4, sc, by omega, rfl, by simp [bdy], rfl, hidden (by simpa [sts, sloB] using HO.out), HA, HAP, HB⟩
          case round =>
            clear HO HA HAP HB hBr HWR
            rename_i wrOld wr
            obtain ⟨t, so, sn, sc, ht, rfl, rfl, rfl, HO, HA, HAP, HB⟩ := hrel
            have bt : (t : Int) ≤ 65536 := by omega
            have hBr : B1 ≤ wr.heap.size := Nat.le_trans HB3'.out HB.out.size
            have HWR : Hid (Below w.heap.size w wr) := hidden (HW2.out.trans (HB.out.mono (by have := HB1E.out; have := HW2.out.size; omega)))
            have hbl := HBDL.out t
            by_cases hlt : t < j
            · have hltI : (t : Int) < (j : Int) := by omega
              obtain ⟨b, off, c, ka, kc, va, vc, rfl, hb, hci, c0, c1, c2, c3, c4, hkS, hvS⟩ := (HS.out.on HWR.out).item t hlt
              have hm := may_nums6 (HMAY.out c (List.mem_of_getElem? hci)) hN1
              have HSN := hidden (bdy_snoc6 cs t c hci)
              have HST := hidden (sts_snoc6 cs A0 t c hci)
              have hl2 := HBDL.out (t + 1)
              rw [HSN.out, List.length_append] at hl2
              have HL2 := hidden hl2
              obtain ⟨S, hS⟩ : ∃ S, A0 + (bdy (cs.take t)).length = S := ⟨_, rfl⟩
              have hS2 : (S : Int) ≤ 131072 := by omega
              have hSw : IntKind.u64.wrap (S : Int) = (S : Int) := by rw [IntKind.wrap_u64]; omega
              rw [hS] at HST ⊢
              have HSS := hidden hS
              have HF := hidden (fixed6_2 (S : Int) wr (by omega) (by omega))
              obtain ⟨TT, hTT⟩ : ∃ TT, sts A0 (cs.take t) = TT := ⟨_, rfl⟩
              have HTL : Hid (TT.length ≤ 65536) := hidden (by rw [← hTT, sts_length, List.length_take]; omega)
              rw [hTT] at HO HST
              have HM := hidden hm
              have HCC := hidden (And.intro c0 (And.intro c1 (And.intro c2 (And.intro c3 c4))))
              have HKS := hidden hkS
              have HVS := hidden hvS
              have HBB := hidden hb
              have HCI6 := hidden hci
              clear hci hm hl2 hS hTT hkS hvS c0 c1 c2 c3 c4 hbl hb
              go_wp2_with (first | (go_at_call 72; refine HF.out.mono ?_; rintro e x1 ⟨a1, c1, rfl, HO1, HS1, hb1⟩; refine Hid.out ?_))
              apply hidden
              have HX1 : Hid (Below B1 w2 x1) := hidden (bl_go HB.out HB3'.out hb1.out)
              have hBx1 : B1 ≤ x1.heap.size := Nat.le_trans hBr hb1.out.size
              have HOx1 : Hid (OwnB x1 B1 (.slice so sn sc) (L ++ sloB TT)) := hidden (HO.out.on (Nat.le_refl _) hb1.out)
              have HAx1 : Hid (OwnB x1 B1 (.slice ao an ac) Q) := hidden (HA.out.on (Nat.le_refl _) hb1.out)
              have HRX : Hid (Below wr.heap.size wr x1) := hb1
              clear HF HO HA HO1 hb1 HB
              go_wp2_with (at_builtin; refine app_sl _ rfl _ _ rfl B1 (L ++ sloB TT) (fB 2 (S : Int)) _ a1 2 c1 rfl rfl HOx1.out HS1.out (by rw [List.length_append, HLL.out, sloB_length]; have := HTL.out; omega) hBx1 ?_; refine Hid.out ?_)
              apply hidden
              intro v2 x2 ho2 hg2
              have HX2 : Hid (Below B1 w2 x2) := hidden (HX1.out.trans (hg2.below HOx1.out hBx1))
              have hBx2 : B1 ≤ x2.heap.size := Nat.le_trans hBx1 hg2.grow.size
              have HAx2 : Hid (OwnB x2 B1 (.slice ao an ac) Q) := hidden (own_keep HAx1.out hg2 HAP.out)
              have HAP2 : Hid (Apt (.slice ao an ac) v2) := hidden (HAP.out.gr HAx1.out hg2)
              have HO2 : Hid (OwnB x2 B1 v2 (L ++ sloB (TT ++ [S]))) := hidden (by rw [sloB_snoc6]; first | exact ho2 | (rw [← List.append_assoc]; exact ho2))
              have HRY : Hid (Below B1 wr x2) := hidden ((HRX.out.mono hBr).trans (hg2.below HOx1.out hBx1))
              have HWX : Hid (Below w.heap.size w x2) := hidden (HW2.out.trans (HX2.out.mono (by have := HB1E.out; have := HW2.out.size; omega)))
              have HIT := (HS.out.on HWX.out).item t hlt
              obtain ⟨b', off', c', ka', kc', va', vc', hbo, hb', hci', e0, e1, e2, e3, e4, hk', hv'⟩ := HIT
              injection hbo with hbo
              injection hbo with hb1 hb2
              subst hb1 hb2
              have hcc : c' = c := by
                rw [HCI6.out] at hci'
                injection hci' with h
                exact h.symm
              subst hcc
              have hm := HM.out
              have HBT := hidden (rbytes6_any c' ka' va' kc' vc' x2 hk' hv' hm.1 hm.2)
              clear HOx1 HAx1 HX1 hBx1 ho2 hg2 HAP HS1 HCC HKS HVS hk' hv' hm hci' hb' HRX HRY
              go_wp2_with (first | (go_at_call 73; refine HBT.out.mono ?_; rintro e x3 ⟨v3, rfl, HO3, HB3⟩; refine Hid.out ?_))
              apply hidden
              obtain ⟨yo, yc, hsh⟩ := own_slice6 HO3.out
              subst hsh
              obtain ⟨rn, hrn⟩ : ∃ rn, (cB c').length = rn := ⟨_, rfl⟩
              have HX3 : Hid (Below B1 w2 x3) := hidden (bl_go HX2.out HB3'.out HB3.out)
              have HOx3 : Hid (OwnB x3 B1 v2 (L ++ sloB (sts A0 (cs.take (t + 1))))) := hidden (by rw [HST.out]; exact HO2.out.on (Nat.le_refl _) HB3.out)
              have HAx3 : Hid (OwnB x3 B1 (.slice ao an ac) Q) := hidden (HAx2.out.on (Nat.le_refl _) HB3.out)
              have HNX : Hid (S + rn = A0 + (bdy (cs.take (t + 1))).length) := hidden (by rw [HSN.out, List.length_append, hrn, ← HSS.out]; omega)
              have brn : (rn : Int) ≤ 65536 := by have := HL2.out; omega
              obtain ⟨zo, zc, hsh⟩ := own_slice6 HOx3.out
              subst hsh
              obtain ⟨zn, hzn⟩ : ∃ zn, (L ++ sloB (sts A0 (cs.take (t + 1)))).length = zn := ⟨_, rfl⟩
              rw [hzn] at HOx3 HAP2 ⊢
              rw [hrn]
              clear HBT HO3 HB3 HX2 HAx2 HO2 hBx2 hrn hzn e0 e1 e2 e3 e4
              go_wp2
              go_roundw
              case rel => exact ⟨t + 1, zo, zn, zc, by omega, by go_num, by rw [← HNX.out]; go_num, rfl, HOx3, HAx3, HAP2, HX3⟩
              case measure => simp [RowKit.intOf]; omega
            · have htj : t = j := by omega
              subst htj
              have htI : ¬ (t : Int) < (t : Int) := by omega
              rw [HTA.out] at HO ⊢
              obtain ⟨Y0, hY0⟩ : ∃ Y0, L ++ sloB (sts A0 cs) = Y0 := ⟨_, rfl⟩
              rw [hY0] at HO
              have HYL : Hid (Y0.length = 4 + 2 * t) := hidden (by rw [← hY0, List.length_append, HLL.out, sloB_length, sts_length, HLEN.out])
              have HYW0 : Hid (Wf Y0) := hidden (by rw [← hY0]; exact HLW.out.append (sloB_wf _))
              have HYE0 := hidden hY0
              have HSN : Hid (sn = 4 + 2 * t) := hidden (by
                obtain ⟨a, c, e⟩ := own_slice6 HO.out
                injection e with _ e2 _
                rw [e2, HYL.out])
              obtain ⟨s0, hs0⟩ : ∃ s0, 4 + 2 * t = s0 := ⟨_, rfl⟩
              rw [hs0] at HYL HSN
              have hsn := HSN.out
              subst hsn
              obtain ⟨pad, hpad⟩ : ∃ pad, N - Z = pad := ⟨_, rfl⟩
              have hpd : sn + pad + an + 4 = N := by have := HZA.out; have := HZN.out; omega
              have HPD := hidden hpd
              have HPE : Hid (Y0 ++ zs pad ++ Q = pgH k N cs) := hidden (by
                rw [← HYE0.out, ← HLE.out, ← HQE.out]
                unfold pgH
                rw [HLEN.out, HK256.out, HZE.out, hpad, show N - 4 - (bdy cs).length = A0 from by rw [HQE.out, HAN.out]; have := HA0.out; omega]
                simp only [List.append_assoc])
              have bs0 : (sn : Int) ≤ 65536 := by omega
              clear hY0 hs0 hpad hpd hbl HTA
              go_wp2_with fail
              go_loopw [15] (fun v wq => ∃ (u : Nat) (vo : Option Addr) (vc : Nat), u ≤ pad ∧ v = .slice vo (sn + u) vc ∧ Hid (OwnB wq B1 (.slice vo (sn + u) vc) (Y0 ++ zs u)) ∧ Hid (OwnB wq B1 (.slice ao an ac) Q) ∧ Hid (Apt (.slice ao an ac) (.slice vo (sn + u) vc)) ∧ Hid (Below B1 w2 wq)) (fun v _ => N - lnOf6 v)
              case atStart => exact ⟨0, so, sc, by omega, rfl, hidden (by simpa [zs] using HO.out), HA, HAP, HB⟩
              case round =>
                clear HO HA HAP HB hBr HWR
                rename_i wrOld2 wr
                obtain ⟨u, vo, vc, hu, rfl, HO, HA, HAP, HB⟩ := hrel
                have hBr : B1 ≤ wr.heap.size := Nat.le_trans HB3'.out HB.out.size
                obtain ⟨q, hq⟩ : ∃ q, sn + u = q := ⟨_, rfl⟩
                have HXZ : Hid ((Y0 ++ zs u).length = q) := hidden (by rw [List.length_append, HYL.out, zs_length, hq])
                obtain ⟨Y, hY⟩ : ∃ Y, Y0 ++ zs u = Y := ⟨_, rfl⟩
                have HYE := hidden hY
                have HYW : Hid (Wf Y) := hidden (by rw [← hY]; exact HYW0.out.append (zs_wf u))
                rw [hY] at HXZ HO
                rw [hq] at HO HAP ⊢
                have HQE2 := hidden hq
                have hqN : q + an + 4 ≤ N := by have := HPD.out; omega
                have hqI : (q : Int) ≤ 65536 := by omega
                clear hY
                by_cases hlt : u < pad
                · have hltI : (q : Int) + (an : Int) < (N : Int) - 4 := by have := HPD.out; omega
                  obtain ⟨x, hx⟩ : ∃ x, wr.alloc (.cells #[.int .u8 0] 5) = x := ⟨_, rfl⟩
                  have hbx : Below wr.heap.size wr x := by rw [← hx]; exact bl_al (Below.refl _ _) (Nat.le_refl _) _
                  have HSX : Hid (Sl x (some ⟨wr.heap.size, 0, none⟩) 1 1 [0]) := hidden (by rw [← hx]; exact one_sl6 wr 0 (by omega))
                  have HOX := hidden (HO.out.on (Nat.le_refl _) hbx)
                  have HAX := hidden (HA.out.on (Nat.le_refl _) hbx)
                  have hxs : B1 ≤ x.heap.size := Nat.le_trans hBr hbx.size
                  have HBX := hidden (bl_go HB.out HB3'.out hbx)
                  have hmb : q + 1 ≤ 140737488355328 := by omega
                  clear hbx hq
                  go_wp2_with (at_builtin; refine app_sl _ rfl _ _ rfl B1 Y [0] _ (some ⟨wr.heap.size, 0, none⟩) 1 1 rfl rfl HOX.out HSX.out (by rw [HXZ.out]; exact hmb) hxs ?_; refine Hid.out ?_)
                  apply hidden
                  intro v' w' ho hg
                  have HB2 : Hid (Below B1 w2 w') := hidden (HBX.out.trans (hg.below HOX.out hxs))
                  have HA2 : Hid (OwnB w' B1 (.slice ao an ac) Q) := hidden (own_keep HAX.out hg HAP.out)
                  have hap := HAP.out.gr HAX.out hg
                  obtain ⟨vo2, vc2, hsh⟩ := own_slice6 ho
                  subst hsh
                  have hl2 : (Y ++ [0]).length = q + 1 := by rw [List.length_append, HXZ.out]; rfl
                  rw [hl2] at ho hap ⊢
                  have HQ1 : Hid (q + 1 = sn + (u + 1)) := hidden (by have := HQE2.out; omega)
                  have HO2 : Hid (OwnB w' B1 (.slice vo2 (sn + (u + 1)) vc2) (Y0 ++ zs (u + 1))) := hidden (by
                    rw [← HQ1.out, show zs (u + 1) = zs u ++ [0] from zs_add u 1, ← List.append_assoc, HYE.out]
                    exact ho)
                  have HAP2 : Hid (Apt (.slice ao an ac) (.slice vo2 (sn + (u + 1)) vc2)) := hidden (by rw [← HQ1.out]; exact hap)
                  clear ho hg hx HOX HSX hl2 hap
                  go_wp2
                  go_roundw
                  case rel => exact ⟨u + 1, vo2, vc2, by omega, by rw [HQ1.out], HO2, HA2, HAP2, HB2⟩
                  case measure => simp [lnOf6]; omega
                · have hltI : ¬ (q : Int) + (an : Int) < (N : Int) - 4 := by have := HPD.out; omega
                  have HSA : Hid (Sl wr ao an ac Q) := hidden (own_sl6 HA.out HQW.out (by rw [HAN.out]; omega))
                  have HPE2 : Hid (Y ++ Q = pgH k N cs) := hidden (by rw [← HYE.out, ← HPE.out, show u = pad from by omega])
                  clear hq
                  go_wp2_with (at_builtin; refine app_sl _ rfl _ _ rfl B1 Y Q _ ao an ac rfl rfl HO.out HSA.out (by rw [HXZ.out]; omega) hBr ?_; refine Hid.out ?_)
                  apply hidden
                  intro v' x1 ho hg
                  have HX1 : Hid (Below B1 w2 x1) := hidden (HB.out.trans (hg.below HO.out hBr))
                  have hBx1 : B1 ≤ x1.heap.size := Nat.le_trans hBr hg.grow.size
                  obtain ⟨vo2, vc2, hsh⟩ := own_slice6 ho
                  subst hsh
                  have hl2 : (Y ++ Q).length = q + an := by rw [List.length_append, HXZ.out, HAN.out]
                  rw [hl2] at ho ⊢
                  have HL2 := hidden hl2
                  have HYQW : Hid (Wf (Y ++ Q)) := hidden (HYW.out.append HQW.out)
                  obtain ⟨H, hH⟩ : ∃ H, Y ++ Q = H := ⟨_, rfl⟩
                  rw [hH] at ho HL2 HYQW HPE2
                  have HO1 := hidden ho
                  obtain ⟨hn, hhn⟩ : ∃ hn, q + an = hn := ⟨_, rfl⟩
                  rw [hhn] at HO1 HL2 ⊢
                  have hhb : hn + 4 ≤ 65536 := by omega
                  have HSH2 : Hid (Sl x1 vo2 hn vc2 H) := hidden (own_sl6 HO1.out HYQW.out (by rw [HL2.out]; omega))
                  have HSUM := hidden (rSumOf_any vo2 hn vc2 H x1 HSH2.out)
                  have hs32 := sumN_lt H HYQW.out
                  obtain ⟨SN, hS⟩ : ∃ SN, sumN [H] = SN := ⟨_, rfl⟩
                  rw [hS] at hs32 HSUM
                  have HSS := hidden hS
                  have hws : IntKind.u64.wrap ((SN : Nat) : Int) = (SN : Int) := by rw [IntKind.wrap_u64]; omega
                  have HF4 := hidden (fixed6_4 (SN : Int) x1 (by omega) (by omega))
                  clear hS HSH2 ho hg hl2 hH hhn HO HA HAP HB HSA
                  go_wp2_with (first
                    | (go_at_call 74; refine same_call HSUM.out ?_)
                    | (go_at_call 72; refine HF4.out.mono ?_; rintro e w6 ⟨fo3, fc3, rfl, HOF, HSF, HBF⟩; refine Hid.out ?_))
                  apply hidden
                  have HB6 := hidden (bl_go HX1.out HB3'.out HBF.out)
                  have HO6 := hidden (HO1.out.on (Nat.le_refl _) HBF.out)
                  have hB6 : B1 ≤ w6.heap.size := Nat.le_trans hBx1 HBF.out.size
                  clear HF4 HSUM HO1 HX1
                  go_wp2_with (at_builtin; refine app_sl _ rfl _ _ rfl B1 H (fB 4 (SN : Int)) _ fo3 4 fc3 rfl rfl HO6.out HSF.out (by rw [HL2.out]; omega) hB6 ?_; refine Hid.out ?_)
                  apply hidden
                  intro v7 w7 ho7 hg7
                  have HB7 : Hid (Below B1 w2 w7) := hidden (HB6.out.trans (hg7.below HO6.out hB6))
                  have HF7 : Hid (OwnB w7 w.heap.size v7 (pgB k N cs)) := hidden (by
                    unfold pgB sealB
                    rw [← HPE2.out, HSS.out]
                    exact ho7.low (by have := HB1E.out; have := HW2.out.size; omega))
                  have HE7 : Hid (Below w.heap.size w w7) := hidden (HW2.out.trans (HB7.out.mono (by have := HB1E.out; have := HW2.out.size; omega)))
                  clear ho7 hg7
                  go_wp2
                  go_ret2
                  exact ⟨v7, rfl, HF7, HE7⟩
end Go.Proofs.YtdmpbdppdcaabaaDoor
