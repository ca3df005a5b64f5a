import Derived.Test.YtbkhjeacmmbabaaGreatDoorJ09
namespace Go.Proofs.YtbkhjeacmmbabaaGreatDoor
set_option maxRecDepth 100000
set_option maxHeartbeats 8000000
open Go.RowKit
theorem zbw {w : World} {B : Nat} {v : Value} {l : List Int} (h : OwnB w B v l) : ∃ ao c, v = .slice ao l.length c := by
 rcases h.2 with ⟨rfl, h0⟩ | ⟨g, cap, cur, rfl, _⟩
 ·exact ⟨none, 0, by rw [h0]⟩
 ·exact ⟨_, _, rfl⟩
theorem fixed_sl6 (n : Int) (x : Nat) (w : World) (h0 : 0 ≤ n) (hn : n < 18446744073709551616) (h1 : 1 ≤ x) (h2 : x ≤ 8) :
  Calls Tryz.prog 97 #[.int .u64 n, .int .i64 (x : Int)] w fun e w' => ∃ ao c, e = .returned (.slice ao x c) ∧ Hid (OwnB w' w.heap.size (.slice ao x c) (fB x n)) ∧ Hid (Sl w' ao x c (fB x n)) ∧ Hid (Below w.heap.size w w') := by
 refine (refFixed_yes n (x : Int) w h0 hn (by omega) (by omega)).mono ?_
 rintro e w' ⟨v, rfl, ho, hb⟩
 rw [Int.toNat_natCast] at ho
 obtain ⟨ao, cap, rfl, hs, _⟩ := ho.sl (zbf _ _) (by rw [zah]; omega)
 rw [zah] at hs ho ⊢
 exact ⟨ao, cap, rfl, zaa ho, zaa hs, zaa hb⟩
theorem fixed6_2 (n : Int) (w : World) (h0 : 0 ≤ n) (hn : n < 18446744073709551616) : Calls Tryz.prog 97 #[.int .u64 n, .int .i64 2] w fun e w' => ∃ ao c, e = .returned (.slice ao 2 c) ∧ Hid (OwnB w' w.heap.size (.slice ao 2 c) (fB 2 n)) ∧ Hid (Sl w' ao 2 c (fB 2 n)) ∧ Hid (Below w.heap.size w w') := fixed_sl6 n 2 w h0 hn (by omega) (by omega)
theorem fixed6_4 (n : Int) (w : World) (h0 : 0 ≤ n) (hn : n < 18446744073709551616) : Calls Tryz.prog 97 #[.int .u64 n, .int .i64 4] w fun e w' => ∃ ao c, e = .returned (.slice ao 4 c) ∧ Hid (OwnB w' w.heap.size (.slice ao 4 c) (fB 4 n)) ∧ Hid (Sl w' ao 4 c (fB 4 n)) ∧ Hid (Below w.heap.size w w') := fixed_sl6 n 4 w h0 hn (by omega) (by omega)
theorem box6 {w w' : World} {b i : Nat} {v : Value} (h : w.cell? ⟨b, i, none⟩ = some v) (hb : Below w.heap.size w w') : w'.cell? ⟨b, i, none⟩ = some v := (hb.cell (p := ⟨b, i, none⟩) (World.block_lt_of_cell? w _ h)).trans h
theorem zan {w w' : World} {b i B : Nat} {v : Value} (h : w.cell? ⟨b, i, none⟩ = some v) (hb : Below B w w') (hB : b < B) : w'.cell? ⟨b, i, none⟩ = some v := (hb.cell (p := ⟨b, i, none⟩) hB).trans h
theorem szN_le6 (cs : List Cl) (j : Nat) : szN (cs.take j) ≤ szN cs := by
 have h := zbb cs
 have h2 := zbb (cs.take j)
 have e : bdy cs = bdy (cs.take j) ++ bdy (cs.drop j) := by rw [← zbl, List.take_append_drop]
 have l1 : (cs.take j).length ≤ cs.length := by rw [zJ]; omega
 rw [e, zG] at h
 omega
theorem rbytes6_any (c : Cl) (ka va : Option Addr) (kc vc : Nat) (w : World) (h1 : Sl w ka c.key.length kc c.key) (h2 : Sl w va c.val.length vc c.val) (hp : ¬ c.kd = 1 → (0 ≤ c.pg ∧ c.pg < 9223372036854775808) ∧ (0 ≤ c.ct ∧ c.ct < 9223372036854775808)) (hl : c.key.length + c.val.length ≤ 35184372088832) :
  Calls Tryz.prog 98 #[.agg #[.slice ka c.key.length kc, .int .i64 c.kd, .slice va c.val.length vc, .int .i64 c.pg, .int .i64 c.ct]] w fun e w' => ∃ v, e = .returned v ∧ Hid (OwnB w' w.heap.size v (cB c)) ∧ Hid (Below w.heap.size w w') := by
 obtain ⟨key, kd, val, pg, ct⟩ := c
 simp only at h1 h2 hp hl ⊢
 have HK := zaa h1
 have HV := zaa h2
 obtain ⟨kn, hkn⟩ : ∃ kn, key.length = kn := ⟨_, rfl⟩
 obtain ⟨vn, hvn⟩ : ∃ vn, val.length = vn := ⟨_, rfl⟩
 have HKN := zaa hkn
 have HVN := zaa hvn
 rw [hkn] at HK hl ⊢
 rw [hvn] at HV hl ⊢
 have hkI : (kn : Int) ≤ 35184372088832 := by omega
 have hvI : (vn : Int) ≤ 35184372088832 := by omega
 have hkw : IntKind.u64.wrap (kn : Int) = (kn : Int) := by rw [IntKind.wrap_u64]; omega
 have hvw : IntKind.u64.wrap (vn : Int) = (vn : Int) := by rw [IntKind.wrap_u64]; omega
 have hu8 : IntKind.u8.wrap kd = kd % 256 := IntKind.wrap_u8 kd
 obtain ⟨x0, hx0⟩ : ∃ x, w.alloc (.cells #[.slice ka kn kc, .int .i64 kd, .slice va vn vc, .int .i64 pg, .int .i64 ct] 50) = x := ⟨_, rfl⟩
 have hbx0 : Below w.heap.size w x0 := by rw [← hx0]; exact zad Br Lr _
 have HBX : Hid (x0.cell? ⟨w.heap.size, 0, none⟩ = some (.slice ka kn kc) ∧ x0.cell? ⟨w.heap.size, 1, none⟩ = some (.int .i64 kd) ∧ x0.cell? ⟨w.heap.size, 2, none⟩ = some (.slice va vn vc) ∧ x0.cell? ⟨w.heap.size, 3, none⟩ = some (.int .i64 pg) ∧ x0.cell? ⟨w.heap.size, 4, none⟩ = some (.int .i64 ct)) := zaa (by rw [← hx0]; simp)
 obtain ⟨y0, hy0⟩ : ∃ y, x0.alloc (.cells #[.int .u8 (kd % 256)] 5) = y := ⟨_, rfl⟩
 have hby0 : Below x0.heap.size x0 y0 := by rw [← hy0]; exact zad Br Lr _
 have HO0 : Hid (OwnB y0 x0.heap.size (.slice (some ⟨x0.heap.size, 0, none⟩) 1 1) [kd % 256]) := zaa (zct (l := [kd % 256]) (by rw [← hy0]; exact heap_alloc_last x0 _) Lr (by unfold maxLen; simp))
 obtain ⟨B, hB⟩ : ∃ B, x0.heap.size = B := ⟨_, rfl⟩
 have HBW : Hid (w.heap.size ≤ B) := zaa (by rw [← hB]; exact hbx0.size)
 have HX0 : Hid (Below x0.heap.size x0 y0) := zaa hby0
 have HW0 := zaa hbx0
 rw [hB] at HO0
 have HBE := zaa hB
 clear h1 h2 hkn hvn hbx0 hby0
 by_cases hk1 : kd = 1
 ·have hkb : (kd == 1) = true := by simpa using hk1
  have HK1 := zaa hk1
  clear hk1 hp
  have HWB : Hid (w.heap.size < B) := zaa (by rw [← HBE.out, ← hx0]; simp)
  have d0 := HBX.out.1
  have d1 := HBX.out.2.1
  have d2 := HBX.out.2.2.1
  have d3 := HBX.out.2.2.2.1
  have d4 := HBX.out.2.2.2.2
  have f0 := box6 d0 HX0.out
  have f1 := box6 d1 HX0.out
  have f2 := box6 d2 HX0.out
  have f3 := box6 d3 HX0.out
  have f4 := box6 d4 HX0.out
  obtain ⟨X0, hX0⟩ : ∃ X, ([kd % 256] : List Int) = X := ⟨_, rfl⟩
  have HXL0 : Hid (X0.length = 1) := zaa (by rw [← hX0]; rfl)
  have HXE0 := zaa hX0
  rw [hX0] at HO0
  have HBel0 : Hid (Below B x0 y0) := zaa (by rw [← HBE.out]; exact HX0.out)
  have hBy0 : B ≤ y0.heap.size := by rw [← HBE.out]; exact HX0.out.size
  clear hX0
  go_enter Tryz.func98, Tryz.ntmps98
  have HF1 := zaa (fixed6_2 (kn : Int) y0 (by omega) (by omega))
  go_wp2_with (go_at_call 97; refine HF1.out.mono ?_; rintro e z1 ⟨a1, c1, rfl, HOF1, HSF1, HB1⟩; refine Hid.out ?_)
  apply zaa
  clear d0 d1 d2 d3 d4
  have HOz1 := zaa (HO0.out.on Lr HB1.out)
  have hBz1 : B ≤ z1.heap.size := zN hBy0 HB1.out.size
  have HBz1 : Hid (Below B x0 z1) := zaa (zae HBel0.out (by rw [HBE.out]; exact Lr) HB1.out)
  have g0 := box6 f0 HB1.out
  have g1 := box6 f1 HB1.out
  have g2 := box6 f2 HB1.out
  have g3 := box6 f3 HB1.out
  have g4 := box6 f4 HB1.out
  clear HF1 HO0 HBel0 HOF1 HB1 f0 f1 f2 f3 f4
  have f0 := g0
  have f1 := g1
  have f2 := g2
  have f3 := g3
  have f4 := g4
  clear g0 g1 g2 g3 g4
  go_wp2_with (at_builtin; refine zau _ rfl _ _ rfl B X0 (fB 2 (kn : Int)) _ a1 2 c1 rfl rfl HOz1.out HSF1.out (by rw [HXL0.out]; omega) hBz1 ?_; refine Hid.out ?_)
  apply zaa
  intro v1 y1 ho hg
  have HBel1 : Hid (Below B x0 y1) := zaa (HBz1.out.trans (hg.below HOz1.out hBz1))
  have hBy1 : B ≤ y1.heap.size := zN hBz1 hg.grow.size
  have hk1 : Below z1.heap.size z1 z1 := Br
  have g0 : y1.cell? ⟨w.heap.size, 0, none⟩ = some _ := zan f0 (hg.below HOz1.out hBz1) HWB.out
  have g1 : y1.cell? ⟨w.heap.size, 1, none⟩ = some _ := zan f1 (hg.below HOz1.out hBz1) HWB.out
  have g2 : y1.cell? ⟨w.heap.size, 2, none⟩ = some _ := zan f2 (hg.below HOz1.out hBz1) HWB.out
  have g3 : y1.cell? ⟨w.heap.size, 3, none⟩ = some _ := zan f3 (hg.below HOz1.out hBz1) HWB.out
  have g4 : y1.cell? ⟨w.heap.size, 4, none⟩ = some _ := zan f4 (hg.below HOz1.out hBz1) HWB.out
  clear f0 f1 f2 f3 f4
  have f0 := g0
  have f1 := g1
  have f2 := g2
  have f3 := g3
  have f4 := g4
  clear g0 g1 g2 g3 g4
  obtain ⟨X1, hX1⟩ : ∃ X, X0 ++ (fB 2 (kn : Int)) = X := ⟨_, rfl⟩
  have HXL1 : Hid (X1.length = 1 + 2) := zaa (by rw [← hX1, zG, HXL0.out, zah])
  have HXE1 := zaa hX1
  rw [hX1] at ho
  have HO1 := zaa ho
  clear ho hg hX1 hk1 HOz1 HSF1 HBz1
  have HSz2 := zaa (HK.out.on Lr (zae HW0.out Lr (by have := HBel1.out; rw [← HBE.out] at this; exact this)))
  go_wp2_with (at_builtin; refine zau _ rfl _ _ rfl B X1 key _ ka kn kc rfl rfl HO1.out HSz2.out (by rw [HXL1.out]; omega) hBy1 ?_; refine Hid.out ?_)
  apply zaa
  intro v2 y2 ho hg
  have HBel2 : Hid (Below B x0 y2) := zaa (HBel1.out.trans (hg.below HO1.out hBy1))
  have hBy2 : B ≤ y2.heap.size := zN hBy1 hg.grow.size
  have hk2 : Below y1.heap.size y1 y1 := Br
  have g0 : y2.cell? ⟨w.heap.size, 0, none⟩ = some _ := zan f0 (hg.below HO1.out hBy1) HWB.out
  have g1 : y2.cell? ⟨w.heap.size, 1, none⟩ = some _ := zan f1 (hg.below HO1.out hBy1) HWB.out
  have g2 : y2.cell? ⟨w.heap.size, 2, none⟩ = some _ := zan f2 (hg.below HO1.out hBy1) HWB.out
  have g3 : y2.cell? ⟨w.heap.size, 3, none⟩ = some _ := zan f3 (hg.below HO1.out hBy1) HWB.out
  have g4 : y2.cell? ⟨w.heap.size, 4, none⟩ = some _ := zan f4 (hg.below HO1.out hBy1) HWB.out
  clear f0 f1 f2 f3 f4
  have f0 := g0
  have f1 := g1
  have f2 := g2
  have f3 := g3
  have f4 := g4
  clear g0 g1 g2 g3 g4
  obtain ⟨X2, hX2⟩ : ∃ X, X1 ++ key = X := ⟨_, rfl⟩
  have HXL2 : Hid (X2.length = 1 + 2 + kn) := zaa (by rw [← hX2, zG, HXL1.out, HKN.out])
  have HXE2 := zaa hX2
  rw [hX2] at ho
  have HO2 := zaa ho
  clear ho hg hX2 hk2 HSz2 HO1 HBel1
  have HF3 := zaa (fixed6_2 (vn : Int) y2 (by omega) (by omega))
  go_wp2_with (go_at_call 97; refine HF3.out.mono ?_; rintro e z3 ⟨a3, c3, rfl, HOF3, HSF3, HB3⟩; refine Hid.out ?_)
  apply zaa
  have HOz3 := zaa (HO2.out.on Lr HB3.out)
  have hBz3 : B ≤ z3.heap.size := zN hBy2 HB3.out.size
  have HBz3 : Hid (Below B x0 z3) := zaa (zae HBel2.out (by rw [HBE.out]; exact Lr) HB3.out)
  have g0 := box6 f0 HB3.out
  have g1 := box6 f1 HB3.out
  have g2 := box6 f2 HB3.out
  have g3 := box6 f3 HB3.out
  have g4 := box6 f4 HB3.out
  clear HF3 HO2 HBel2 HOF3 HB3 f0 f1 f2 f3 f4
  have f0 := g0
  have f1 := g1
  have f2 := g2
  have f3 := g3
  have f4 := g4
  clear g0 g1 g2 g3 g4
  go_wp2_with (at_builtin; refine zau _ rfl _ _ rfl B X2 (fB 2 (vn : Int)) _ a3 2 c3 rfl rfl HOz3.out HSF3.out (by rw [HXL2.out]; omega) hBz3 ?_; refine Hid.out ?_)
  apply zaa
  intro v3 y3 ho hg
  have HBel3 : Hid (Below B x0 y3) := zaa (HBz3.out.trans (hg.below HOz3.out hBz3))
  have hBy3 : B ≤ y3.heap.size := zN hBz3 hg.grow.size
  have hk3 : Below z3.heap.size z3 z3 := Br
  have g0 : y3.cell? ⟨w.heap.size, 0, none⟩ = some _ := zan f0 (hg.below HOz3.out hBz3) HWB.out
  have g1 : y3.cell? ⟨w.heap.size, 1, none⟩ = some _ := zan f1 (hg.below HOz3.out hBz3) HWB.out
  have g2 : y3.cell? ⟨w.heap.size, 2, none⟩ = some _ := zan f2 (hg.below HOz3.out hBz3) HWB.out
  have g3 : y3.cell? ⟨w.heap.size, 3, none⟩ = some _ := zan f3 (hg.below HOz3.out hBz3) HWB.out
  have g4 : y3.cell? ⟨w.heap.size, 4, none⟩ = some _ := zan f4 (hg.below HOz3.out hBz3) HWB.out
  clear f0 f1 f2 f3 f4
  have f0 := g0
  have f1 := g1
  have f2 := g2
  have f3 := g3
  have f4 := g4
  clear g0 g1 g2 g3 g4
  obtain ⟨X3, hX3⟩ : ∃ X, X2 ++ (fB 2 (vn : Int)) = X := ⟨_, rfl⟩
  have HXL3 : Hid (X3.length = 1 + 2 + kn + 2) := zaa (by rw [← hX3, zG, HXL2.out, zah])
  have HXE3 := zaa hX3
  rw [hX3] at ho
  have HO3 := zaa ho
  clear ho hg hX3 hk3 HOz3 HSF3 HBz3
  have HSz4 := zaa (HV.out.on Lr (zae HW0.out Lr (by have := HBel3.out; rw [← HBE.out] at this; exact this)))
  go_wp2_with (at_builtin; refine zau _ rfl _ _ rfl B X3 val _ va vn vc rfl rfl HO3.out HSz4.out (by rw [HXL3.out]; omega) hBy3 ?_; refine Hid.out ?_)
  apply zaa
  intro v4 y4 ho hg
  have HBel4 : Hid (Below B x0 y4) := zaa (HBel3.out.trans (hg.below HO3.out hBy3))
  have hBy4 : B ≤ y4.heap.size := zN hBy3 hg.grow.size
  have hk4 : Below y3.heap.size y3 y3 := Br
  have g0 : y4.cell? ⟨w.heap.size, 0, none⟩ = some _ := zan f0 (hg.below HO3.out hBy3) HWB.out
  have g1 : y4.cell? ⟨w.heap.size, 1, none⟩ = some _ := zan f1 (hg.below HO3.out hBy3) HWB.out
  have g2 : y4.cell? ⟨w.heap.size, 2, none⟩ = some _ := zan f2 (hg.below HO3.out hBy3) HWB.out
  have g3 : y4.cell? ⟨w.heap.size, 3, none⟩ = some _ := zan f3 (hg.below HO3.out hBy3) HWB.out
  have g4 : y4.cell? ⟨w.heap.size, 4, none⟩ = some _ := zan f4 (hg.below HO3.out hBy3) HWB.out
  clear f0 f1 f2 f3 f4
  have f0 := g0
  have f1 := g1
  have f2 := g2
  have f3 := g3
  have f4 := g4
  clear g0 g1 g2 g3 g4
  obtain ⟨X4, hX4⟩ : ∃ X, X3 ++ val = X := ⟨_, rfl⟩
  have HXL4 : Hid (X4.length = 1 + 2 + kn + 2 + vn) := zaa (by rw [← hX4, zG, HXL3.out, HVN.out])
  have HXE4 := zaa hX4
  rw [hX4] at ho
  have HO4 := zaa ho
  clear ho hg hX4 hk4 HSz4 HO3 HBel3
  go_wp2_with fail
  go_ret
  refine ⟨v4, rfl, zaa ?_, zaa (zae HW0.out Lr (by have := HBel4.out; rw [← HBE.out] at this; exact this))⟩
  have e : X4 = cB ⟨key, kd, val, pg, ct⟩ := by
   rw [← HXE4.out, ← HXE3.out, ← HXE2.out, ← HXE1.out, ← HXE0.out]
   unfold cB
   rw [if_pos HK1.out]
   simp only [zM, HKN.out, HVN.out]
  rw [← e]
  exact HO4.out.low HBW.out
 ·have hpp := hp hk1
  have hkb : (kd == 1) = false := by rw [beq_eq_false_iff_ne]; exact hk1
  have hpw1 : IntKind.u64.wrap pg = pg := by rw [IntKind.wrap_u64]; omega
  have hcw1 : IntKind.u64.wrap ct = ct := by rw [IntKind.wrap_u64]; omega
  have HWB : Hid (w.heap.size < B) := zaa (by rw [← HBE.out, ← hx0]; simp)
  have d0 := HBX.out.1
  have d1 := HBX.out.2.1
  have d2 := HBX.out.2.2.1
  have d3 := HBX.out.2.2.2.1
  have d4 := HBX.out.2.2.2.2
  have f0 := box6 d0 HX0.out
  have f1 := box6 d1 HX0.out
  have f2 := box6 d2 HX0.out
  have f3 := box6 d3 HX0.out
  have f4 := box6 d4 HX0.out
  obtain ⟨X0, hX0⟩ : ∃ X, ([kd % 256] : List Int) = X := ⟨_, rfl⟩
  have HXL0 : Hid (X0.length = 1) := zaa (by rw [← hX0]; rfl)
  have HXE0 := zaa hX0
  rw [hX0] at HO0
  have HBel0 : Hid (Below B x0 y0) := zaa (by rw [← HBE.out]; exact HX0.out)
  have hBy0 : B ≤ y0.heap.size := by rw [← HBE.out]; exact HX0.out.size
  clear hX0
  go_enter Tryz.func98, Tryz.ntmps98
  have HF1 := zaa (fixed6_2 (kn : Int) y0 (by omega) (by omega))
  go_wp2_with (go_at_call 97; refine HF1.out.mono ?_; rintro e z1 ⟨a1, c1, rfl, HOF1, HSF1, HB1⟩; refine Hid.out ?_)
  apply zaa
  clear d0 d1 d2 d3 d4
  have HOz1 := zaa (HO0.out.on Lr HB1.out)
  have hBz1 : B ≤ z1.heap.size := zN hBy0 HB1.out.size
  have HBz1 : Hid (Below B x0 z1) := zaa (zae HBel0.out (by rw [HBE.out]; exact Lr) HB1.out)
  have g0 := box6 f0 HB1.out
  have g1 := box6 f1 HB1.out
  have g2 := box6 f2 HB1.out
  have g3 := box6 f3 HB1.out
  have g4 := box6 f4 HB1.out
  clear HF1 HO0 HBel0 HOF1 HB1 f0 f1 f2 f3 f4
  have f0 := g0
  have f1 := g1
  have f2 := g2
  have f3 := g3
  have f4 := g4
  clear g0 g1 g2 g3 g4
  go_wp2_with (at_builtin; refine zau _ rfl _ _ rfl B X0 (fB 2 (kn : Int)) _ a1 2 c1 rfl rfl HOz1.out HSF1.out (by rw [HXL0.out]; omega) hBz1 ?_; refine Hid.out ?_)
  apply zaa
  intro v1 y1 ho hg
  have HBel1 : Hid (Below B x0 y1) := zaa (HBz1.out.trans (hg.below HOz1.out hBz1))
  have hBy1 : B ≤ y1.heap.size := zN hBz1 hg.grow.size
  have hk1 : Below z1.heap.size z1 z1 := Br
  have g0 : y1.cell? ⟨w.heap.size, 0, none⟩ = some _ := zan f0 (hg.below HOz1.out hBz1) HWB.out
  have g1 : y1.cell? ⟨w.heap.size, 1, none⟩ = some _ := zan f1 (hg.below HOz1.out hBz1) HWB.out
  have g2 : y1.cell? ⟨w.heap.size, 2, none⟩ = some _ := zan f2 (hg.below HOz1.out hBz1) HWB.out
  have g3 : y1.cell? ⟨w.heap.size, 3, none⟩ = some _ := zan f3 (hg.below HOz1.out hBz1) HWB.out
  have g4 : y1.cell? ⟨w.heap.size, 4, none⟩ = some _ := zan f4 (hg.below HOz1.out hBz1) HWB.out
  clear f0 f1 f2 f3 f4
  have f0 := g0
  have f1 := g1
  have f2 := g2
  have f3 := g3
  have f4 := g4
  clear g0 g1 g2 g3 g4
  obtain ⟨X1, hX1⟩ : ∃ X, X0 ++ (fB 2 (kn : Int)) = X := ⟨_, rfl⟩
  have HXL1 : Hid (X1.length = 1 + 2) := zaa (by rw [← hX1, zG, HXL0.out, zah])
  have HXE1 := zaa hX1
  rw [hX1] at ho
  have HO1 := zaa ho
  clear ho hg hX1 hk1 HOz1 HSF1 HBz1
  have HSz2 := zaa (HK.out.on Lr (zae HW0.out Lr (by have := HBel1.out; rw [← HBE.out] at this; exact this)))
  go_wp2_with (at_builtin; refine zau _ rfl _ _ rfl B X1 key _ ka kn kc rfl rfl HO1.out HSz2.out (by rw [HXL1.out]; omega) hBy1 ?_; refine Hid.out ?_)
  apply zaa
  intro v2 y2 ho hg
  have HBel2 : Hid (Below B x0 y2) := zaa (HBel1.out.trans (hg.below HO1.out hBy1))
  have hBy2 : B ≤ y2.heap.size := zN hBy1 hg.grow.size
  have hk2 : Below y1.heap.size y1 y1 := Br
  have g0 : y2.cell? ⟨w.heap.size, 0, none⟩ = some _ := zan f0 (hg.below HO1.out hBy1) HWB.out
  have g1 : y2.cell? ⟨w.heap.size, 1, none⟩ = some _ := zan f1 (hg.below HO1.out hBy1) HWB.out
  have g2 : y2.cell? ⟨w.heap.size, 2, none⟩ = some _ := zan f2 (hg.below HO1.out hBy1) HWB.out
  have g3 : y2.cell? ⟨w.heap.size, 3, none⟩ = some _ := zan f3 (hg.below HO1.out hBy1) HWB.out
  have g4 : y2.cell? ⟨w.heap.size, 4, none⟩ = some _ := zan f4 (hg.below HO1.out hBy1) HWB.out
  clear f0 f1 f2 f3 f4
  have f0 := g0
  have f1 := g1
  have f2 := g2
  have f3 := g3
  have f4 := g4
  clear g0 g1 g2 g3 g4
  obtain ⟨X2, hX2⟩ : ∃ X, X1 ++ key = X := ⟨_, rfl⟩
  have HXL2 : Hid (X2.length = 1 + 2 + kn) := zaa (by rw [← hX2, zG, HXL1.out, HKN.out])
  have HXE2 := zaa hX2
  rw [hX2] at ho
  have HO2 := zaa ho
  clear ho hg hX2 hk2 HSz2 HO1 HBel1
  have HF3 := zaa (fixed6_4 pg y2 (by omega) (by omega))
  go_wp2_with (go_at_call 97; refine HF3.out.mono ?_; rintro e z3 ⟨a3, c3, rfl, HOF3, HSF3, HB3⟩; refine Hid.out ?_)
  apply zaa
  have HOz3 := zaa (HO2.out.on Lr HB3.out)
  have hBz3 : B ≤ z3.heap.size := zN hBy2 HB3.out.size
  have HBz3 : Hid (Below B x0 z3) := zaa (zae HBel2.out (by rw [HBE.out]; exact Lr) HB3.out)
  have g0 := box6 f0 HB3.out
  have g1 := box6 f1 HB3.out
  have g2 := box6 f2 HB3.out
  have g3 := box6 f3 HB3.out
  have g4 := box6 f4 HB3.out
  clear HF3 HO2 HBel2 HOF3 HB3 f0 f1 f2 f3 f4
  have f0 := g0
  have f1 := g1
  have f2 := g2
  have f3 := g3
  have f4 := g4
  clear g0 g1 g2 g3 g4
  go_wp2_with (at_builtin; refine zau _ rfl _ _ rfl B X2 (fB 4 pg) _ a3 4 c3 rfl rfl HOz3.out HSF3.out (by rw [HXL2.out]; omega) hBz3 ?_; refine Hid.out ?_)
  apply zaa
  intro v3 y3 ho hg
  have HBel3 : Hid (Below B x0 y3) := zaa (HBz3.out.trans (hg.below HOz3.out hBz3))
  have hBy3 : B ≤ y3.heap.size := zN hBz3 hg.grow.size
  have hk3 : Below z3.heap.size z3 z3 := Br
  have g0 : y3.cell? ⟨w.heap.size, 0, none⟩ = some _ := zan f0 (hg.below HOz3.out hBz3) HWB.out
  have g1 : y3.cell? ⟨w.heap.size, 1, none⟩ = some _ := zan f1 (hg.below HOz3.out hBz3) HWB.out
  have g2 : y3.cell? ⟨w.heap.size, 2, none⟩ = some _ := zan f2 (hg.below HOz3.out hBz3) HWB.out
  have g3 : y3.cell? ⟨w.heap.size, 3, none⟩ = some _ := zan f3 (hg.below HOz3.out hBz3) HWB.out
  have g4 : y3.cell? ⟨w.heap.size, 4, none⟩ = some _ := zan f4 (hg.below HOz3.out hBz3) HWB.out
  clear f0 f1 f2 f3 f4
  have f0 := g0
  have f1 := g1
  have f2 := g2
  have f3 := g3
  have f4 := g4
  clear g0 g1 g2 g3 g4
  obtain ⟨X3, hX3⟩ : ∃ X, X2 ++ (fB 4 pg) = X := ⟨_, rfl⟩
  have HXL3 : Hid (X3.length = 1 + 2 + kn + 4) := zaa (by rw [← hX3, zG, HXL2.out, zah])
  have HXE3 := zaa hX3
  rw [hX3] at ho
  have HO3 := zaa ho
  clear ho hg hX3 hk3 HOz3 HSF3 HBz3
  have HF4 := zaa (fixed6_4 ct y3 (by omega) (by omega))
  go_wp2_with (go_at_call 97; refine HF4.out.mono ?_; rintro e z4 ⟨a4, c4, rfl, HOF4, HSF4, HB4⟩; refine Hid.out ?_)
  apply zaa
  have HOz4 := zaa (HO3.out.on Lr HB4.out)
  have hBz4 : B ≤ z4.heap.size := zN hBy3 HB4.out.size
  have HBz4 : Hid (Below B x0 z4) := zaa (zae HBel3.out (by rw [HBE.out]; exact Lr) HB4.out)
  have g0 := box6 f0 HB4.out
  have g1 := box6 f1 HB4.out
  have g2 := box6 f2 HB4.out
  have g3 := box6 f3 HB4.out
  have g4 := box6 f4 HB4.out
  clear HF4 HO3 HBel3 HOF4 HB4 f0 f1 f2 f3 f4
  have f0 := g0
  have f1 := g1
  have f2 := g2
  have f3 := g3
  have f4 := g4
  clear g0 g1 g2 g3 g4
  go_wp2_with (at_builtin; refine zau _ rfl _ _ rfl B X3 (fB 4 ct) _ a4 4 c4 rfl rfl HOz4.out HSF4.out (by rw [HXL3.out]; omega) hBz4 ?_; refine Hid.out ?_)
  apply zaa
  intro v4 y4 ho hg
  have HBel4 : Hid (Below B x0 y4) := zaa (HBz4.out.trans (hg.below HOz4.out hBz4))
  have hBy4 : B ≤ y4.heap.size := zN hBz4 hg.grow.size
  have hk4 : Below z4.heap.size z4 z4 := Br
  have g0 : y4.cell? ⟨w.heap.size, 0, none⟩ = some _ := zan f0 (hg.below HOz4.out hBz4) HWB.out
  have g1 : y4.cell? ⟨w.heap.size, 1, none⟩ = some _ := zan f1 (hg.below HOz4.out hBz4) HWB.out
  have g2 : y4.cell? ⟨w.heap.size, 2, none⟩ = some _ := zan f2 (hg.below HOz4.out hBz4) HWB.out
  have g3 : y4.cell? ⟨w.heap.size, 3, none⟩ = some _ := zan f3 (hg.below HOz4.out hBz4) HWB.out
  have g4 : y4.cell? ⟨w.heap.size, 4, none⟩ = some _ := zan f4 (hg.below HOz4.out hBz4) HWB.out
  clear f0 f1 f2 f3 f4
  have f0 := g0
  have f1 := g1
  have f2 := g2
  have f3 := g3
  have f4 := g4
  clear g0 g1 g2 g3 g4
  obtain ⟨X4, hX4⟩ : ∃ X, X3 ++ (fB 4 ct) = X := ⟨_, rfl⟩
  have HXL4 : Hid (X4.length = 1 + 2 + kn + 4 + 4) := zaa (by rw [← hX4, zG, HXL3.out, zah])
  have HXE4 := zaa hX4
  rw [hX4] at ho
  have HO4 := zaa ho
  clear ho hg hX4 hk4 HOz4 HSF4 HBz4
  go_wp2_with fail
  go_ret
  refine ⟨v4, rfl, zaa ?_, zaa (zae HW0.out Lr (by have := HBel4.out; rw [← HBE.out] at this; exact this))⟩
  have e : X4 = cB ⟨key, kd, val, pg, ct⟩ := by
   rw [← HXE4.out, ← HXE3.out, ← HXE2.out, ← HXE1.out, ← HXE0.out]
   unfold cB
   rw [if_neg hk1]
   simp only [zM, HKN.out]
  rw [← e]
  exact HO4.out.low HBW.out
theorem rsize6_any (k : Int) (ao : Option Addr) (n cap : Nat) (cs : List Cl) (w : World) (hs : SlC w ao n cap cs) (hz : szN cs ≤ 1099511627776) :
  Calls Tryz.prog 96 #[.int .i64 k, .slice ao n cap] w fun e w' => e = .returned (.int .i64 (szN cs : Int)) ∧ Hid (Below w.heap.size w w') := by
 have HS := zaa hs
 have hn := hs.hroom
 have HLEN := zaa hs.hlen
 have HZ : Hid (∀ j, szN (cs.take j) ≤ 1099511627776) := zaa (fun j => zN (szN_le6 cs j) hz)
 obtain ⟨T, hT⟩ : ∃ T : Nat, szN cs = T := ⟨_, rfl⟩
 rw [hT]
 have HT := zaa hT
 clear hs hz hT
 go_enter Tryz.func96, Tryz.ntmps96
 go_wp2_with fail
 go_loopw [5, 6] (fun v i wr => ∃ j q : Nat, j ≤ n ∧ q ≤ 1099511627776 ∧ i = .int .i64 j ∧ v = .int .i64 (q : Int) ∧ Hid (q = szN (cs.take j)) ∧ Hid (Below w.heap.size w wr)) (fun _ i _ => n - (RowKit.intOf i).toNat)
 case atStart => exact ⟨0, 8, by omega, by omega, rfl, rfl, zaa (by simp [szN]), zaa Br⟩
 case round =>
  obtain ⟨j, q, hj, hq, rfl, rfl, HQ, HB⟩ := hrel
  have bj : (j : Int) ≤ 140737488355328 := by omega
  have bq : (q : Int) ≤ 1099511627776 := by omega
  by_cases hlt : j < n
  ·have hltI : (j : Int) < (n : Int) := by omega
   obtain ⟨b, off, c, ka, kc, va, vc, rfl, hb, hci, c0, c1, c2, c3, c4, hk, hv⟩ := (HS.out.on HB.out).item j hlt
   have hst := szN_take cs j c hci
   have hz2 := HZ.out (j + 1)
   rw [hst, ← HQ.out] at hz2
   have HST : Hid (szN (cs.take (j + 1)) = q + ctk c) := zaa (by rw [hst, HQ.out])
   have hba : Below w.heap.size w (wr.alloc (.cells #[.slice ka c.key.length kc, .int .i64 c.kd, .slice va c.val.length vc, .int .i64 c.pg, .int .i64 c.ct] 50)) := zae HB.out Lr (zad Br Lr _)
   have HBA := zaa hba
   obtain ⟨kn, hkn⟩ : ∃ kn, c.key.length = kn := ⟨_, rfl⟩
   obtain ⟨vn, hvn⟩ : ∃ vn, c.val.length = vn := ⟨_, rfl⟩
   obtain ⟨kd, hkd⟩ : ∃ kd, c.kd = kd := ⟨_, rfl⟩
   have hct : ctk c = if kd = 1 then 7 + kn + vn else 13 + kn := by unfold ctk; rw [hkn, hvn, hkd]
   rw [hct] at hz2
   rw [hct] at HST
   rw [hkn] at c0 HBA
   rw [hvn] at c2 HBA
   rw [hkd] at c1 HBA
   clear hk hv hci hst hct hba hkn hvn hkd HB
   by_cases e1 : kd = 1
   ·subst e1
    rw [if_pos rfl] at hz2 HST
    have bk : (kn : Int) ≤ 1099511627776 := by omega
    have bv : (vn : Int) ≤ 1099511627776 := by omega
    go_wp2
    go_roundw
    case rel => exact ⟨j + 1, q + (7 + kn + vn), by omega, by omega, by go_num, by go_num, zaa HST.out.symm, HBA⟩
    case measure => simp [RowKit.intOf]; omega
   ·rw [if_neg e1] at hz2 HST
    have e1b : (kd == 1) = false := by rw [beq_eq_false_iff_ne]; exact e1
    have bk : (kn : Int) ≤ 1099511627776 := by omega
    go_wp2
    go_roundw
    case rel => exact ⟨j + 1, q + (13 + kn), by omega, by omega, by go_num, by go_num, zaa HST.out.symm, HBA⟩
    case measure => simp [RowKit.intOf]; omega
  ·have e : q = T := by
    rw [← HT.out, HQ.out, List.take_of_length_le (by rw [HLEN.out]; omega)]
   subst e
   go_wp2
   go_ret
   exact ⟨rfl, HB⟩
theorem Sn_step (k y : Nat) (h : k < 8) : Sn (8 - k) y = Sn (8 - (k + 1)) (S y) := by
 rw [show 8 - k = (8 - (k + 1)) + 1 by omega]
 rfl
theorem step_any (r x : Nat) (w : World) (hr : r < 4294967296) (hx : x < 256) :
  Calls Tryz.prog 139 #[.int .u32 r, .int .u8 x] w fun e w' => e = .returned (.int .u32 (Sn 8 (r ^^^ x))) ∧ w' = w := by
 have hxr := u32_xor_nat r x hr (by omega)
 have hlt := zam hr (show x < 4294967296 by omega)
 generalize (r ^^^ x : Nat) = R at *
 generalize hF : Sn 8 R = F
 have HF := zaa hF
 clear hF
 go_enter Tryz.func139, Tryz.ntmps139
 go_wp2_with fail
 go_loop [5, 6] (fun v i => ∃ k y : Nat, k ≤ 8 ∧ y < 4294967296 ∧ i = .int .i64 k ∧ v = .int .u32 y ∧ Hid (Sn (8 - k) y = F)) (fun _ i => 8 - (intOf i).toNat)
 case atStart => exact ⟨0, R, by omega, hlt, rfl, rfl, HF⟩
 case round =>
  clear hxr hlt HF
  obtain ⟨k, y, hk, hy, rfl, rfl, HK⟩ := hrel
  by_cases hk8 : k < 8
  ·have e := HK.out
   rw [Sn_step k y hk8] at e
   have hSl := S_lt hy
   clear HK
   obtain ⟨D, hD⟩ : ∃ D : Nat, y / 2 = D := ⟨_, rfl⟩
   have hD2 : (y : Int) / 2 = (D : Int) := by omega
   have hDl : D < 4294967296 := by omega
   by_cases hodd : y % 2 = 1
   ·have hS : S y = D ^^^ 2197175160 := by unfold S; rw [if_pos hodd, hD]
    rw [hS] at e hSl
    have hz := u32_xor_nat D 2197175160 hDl (by omega)
    obtain ⟨Z, hZ⟩ : ∃ Z : Nat, D ^^^ 2197175160 = Z := ⟨_, rfl⟩
    rw [hZ] at e hz hSl
    have hz2 : bits .xor .u32 (D : Int) 2197175160 = (Z : Int) := hz
    have hb : ((y : Int) % 2 == 1) = true := by simp; omega
    have HE := zaa e
    clear e hS hz hZ hD hodd
    go_wp2
    go_round
    case rel => exact ⟨k + 1, Z, by omega, hSl, by go_num, rfl, HE⟩
    case measure => simp [intOf]; omega
   ·have hS : S y = D := by unfold S; rw [if_neg hodd, hD]
    rw [hS] at e hSl
    have hb : ((y : Int) % 2 == 1) = false := by simp; omega
    have HE := zaa e
    clear e hS hD hodd
    go_wp2
    go_round
    case rel => exact ⟨k + 1, D, by omega, hSl, by go_num, rfl, HE⟩
    case measure => simp [intOf]; omega
  ·have e : y = F := by rw [← HK.out, show 8 - k = 0 by omega]; rfl
   have HE := zaa e
   clear e HK
   go_wp2
   go_ret
   exact ⟨zbo (by rw [HE.out]), rfl⟩
theorem sum_one (l : List Int) (h : Wf l) : sumN [l] = 4294967295 ^^^ cr 4294967295 (l.map Int.toNat) := by
 show 4294967295 ^^^ tk (l.map Int.toNat) 4294967295 = _
 rw [tk_eq _ _ (by omega) (nat_lt l h)]
theorem rSumOf_any (ao : Option Addr) (n cap : Nat) (l : List Int) (w : World) (hs : Sl w ao n cap l) :
  Calls Tryz.prog 99 #[.slice ao n cap] w fun e w' => e = .returned (.int .u32 (sumN [l] : Nat)) ∧ w' = w := by
 have HS := zaa hs
 have HW := zaa hs.wf
 have hlen := hs.hlen
 have hroom := hs.hroom
 have hE : sumN [l] = cr 4294967295 (l.map Int.toNat) ^^^ 4294967295 := by rw [sum_one l hs.wf, Nat.xor_comm]
 rw [hE]
 clear hE hs
 generalize hF : cr 4294967295 (l.map Int.toNat) = F
 have HF := zaa hF
 clear hF
 go_enter Tryz.func99, Tryz.ntmps99
 go_wp2_with fail
 go_loop [3, 4] (fun v i => ∃ k y : Nat, k ≤ n ∧ y < 4294967296 ∧ i = .int .i64 k ∧ v = .int .u32 y ∧ Hid (cr y ((l.drop k).map Int.toNat) = F)) (fun _ i => n - (intOf i).toNat)
 case atStart => exact ⟨0, 4294967295, by omega, by omega, rfl, rfl, HF⟩
 case round =>
  clear HF
  obtain ⟨k, y, hk, hy, rfl, rfl, HK⟩ := hrel
  by_cases hkn : k < n
  ·rcases HS.out.hat with h | ⟨b', off', rfl, hbb', hc'⟩
   ·omega
   have hcj := hc' k hkn
   have hby := HW.out.getD k
   have ej := HK.out
   rw [zbz l k (by omega)] at ej
   obtain ⟨C, hC⟩ := Int.eq_ofNat_of_zero_le hby.1
   rw [hC] at hcj hby ej
   have HEJ : Hid (cr (Sn 8 (y ^^^ C)) ((l.drop (k + 1)).map Int.toNat) = F) := ej
   have hst := step_any y C w hy (by omega)
   have hzl := Sn_lt 8 (zam hy (show C < 4294967296 by omega))
   generalize Sn 8 (y ^^^ C) = Z at *
   have HST := zaa hst
   clear hc' ej HK hC hst hlen
   go_wp2_with fail
   refine zac HST.out ?_
   go_wp2
   go_round
   case rel => exact ⟨k + 1, Z, by omega, hzl, by go_num, rfl, HEJ⟩
   case measure => simp [intOf]; omega
  ·have e : y = F := by rw [← HK.out, List.drop_eq_nil_of_le (by omega)]; rfl
   have HE := zaa e
   have hx := u32_xor_nat y 4294967295 hy (by omega)
   have hx2 : bits .xor .u32 (y : Int) 4294967295 = ((y ^^^ 4294967295 : Nat) : Int) := hx
   have HX := zaa hx2
   clear e HK hx hx2
   go_wp2
   go_ret
   exact ⟨zbo (by rw [← HE.out]; exact HX.out), rfl⟩
end Go.Proofs.YtbkhjeacmmbabaaGreatDoor
