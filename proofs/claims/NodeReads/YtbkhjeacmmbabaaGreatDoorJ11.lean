import Derived.Test.YtbkhjeacmmbabaaGreatDoorJ10
namespace Go.Proofs.YtbkhjeacmmbabaaGreatDoor
set_option maxRecDepth 100000
set_option maxHeartbeats 8000000
open Go.RowKit
theorem zbr {w : World} {B : Nat} {v : Value} {l : List Int} (h : OwnB w B v l) : ∃ ao c, v = .slice ao l.length c := by
 rcases h.2 with ⟨rfl, h0⟩ | ⟨g, cap, cur, rfl, _⟩
 ·exact ⟨none, 0, by rw [h0]⟩
 ·exact ⟨_, _, rfl⟩
theorem fixed_sl6 (n : Int) (x : Nat) (w : World) (h0 : 0 ≤ n) (hn : n < 18446744073709551616) (h1 : 1 ≤ x) (h2 : x ≤ 8) :
  Calls Tryz.prog 97 #[.int .u64 n, .int .i64 (x : Int)] w fun e w' => ∃ ao c, e = .returned (.slice ao x c) ∧ Hid (OwnB w' w.heap.size (.slice ao x c) (fB x n)) ∧ Hid (Sl w' ao x c (fB x n)) ∧ Hid (Below w.heap.size w w') := by
 refine (refFixed_yes n (x : Int) w h0 hn zq zq).mono ?_
 rintro e w' ⟨v, rfl, ho, hb⟩
 rw [Int.toNat_natCast] at ho
 obtain ⟨ao, cap, rfl, hs, _⟩ := ho.sl (zbb _ _) (by rw [zah]; omega)
 rw [zah] at hs ho ⊢
 exact ⟨ao, cap, rfl, zaa ho, zaa hs, zaa hb⟩
theorem fixed6_2 (n : Int) (w : World) (h0 : 0 ≤ n) (hn : n < 18446744073709551616) : Calls Tryz.prog 97 #[.int .u64 n, .int .i64 2] w fun e w' => ∃ ao c, e = .returned (.slice ao 2 c) ∧ Hid (OwnB w' w.heap.size (.slice ao 2 c) (fB 2 n)) ∧ Hid (Sl w' ao 2 c (fB 2 n)) ∧ Hid (Below w.heap.size w w') := fixed_sl6 n 2 w h0 hn zq zq
theorem fixed6_4 (n : Int) (w : World) (h0 : 0 ≤ n) (hn : n < 18446744073709551616) : Calls Tryz.prog 97 #[.int .u64 n, .int .i64 4] w fun e w' => ∃ ao c, e = .returned (.slice ao 4 c) ∧ Hid (OwnB w' w.heap.size (.slice ao 4 c) (fB 4 n)) ∧ Hid (Sl w' ao 4 c (fB 4 n)) ∧ Hid (Below w.heap.size w w') := fixed_sl6 n 4 w h0 hn zq zq
theorem box6 {w w' : World} {b i : Nat} {v : Value} (h : w.cell? ⟨b, i, none⟩ = some v) (hb : Below w.heap.size w w') : w'.cell? ⟨b, i, none⟩ = some v := (hb.cell (p := ⟨b, i, none⟩) (World.block_lt_of_cell? w _ h)).trans h
theorem zan {w w' : World} {b i B : Nat} {v : Value} (h : w.cell? ⟨b, i, none⟩ = some v) (hb : Below B w w') (hB : b < B) : w'.cell? ⟨b, i, none⟩ = some v := (hb.cell (p := ⟨b, i, none⟩) hB).trans h
theorem szN_le6 (cs : List Cl) (j : Nat) : szN (cs.take j) ≤ szN cs := by
 have h := zaw cs
 have h2 := zaw (cs.take j)
 have e : bdy cs = bdy (cs.take j) ++ bdy (cs.drop j) := by rw [← zbe, List.take_append_drop]
 have l1 : (cs.take j).length ≤ cs.length := by rw [zJ]; omega
 rw [e, zG] at h
 omega
theorem rbytes6_any (c : Cl) (ka va : Option Addr) (kc vc : Nat) (w : World) (h1 : Sl w ka c.key.length kc c.key) (h2 : Sl w va c.val.length vc c.val) (hp : ¬ c.kd = 1 → (0 ≤ c.pg ∧ c.pg < 9223372036854775808) ∧ (0 ≤ c.ct ∧ c.ct < 9223372036854775808)) (hl : c.key.length + c.val.length ≤ 35184372088832) :
  Calls Tryz.prog 98 #[.agg #[.slice ka c.key.length kc, .int .i64 c.kd, .slice va c.val.length vc, .int .i64 c.pg, .int .i64 c.ct]] w fun e w' => ∃ v, e = .returned v ∧ Hid (OwnB w' w.heap.size v (cB c)) ∧ Hid (Below w.heap.size w w') := by
 obtain ⟨key, kd, val, pg, ct⟩ := c
 simp only at h1 h2 hp hl ⊢
 have HK := zaa h1
 have HV := zaa h2
 obtain ⟨kn, D4⟩ : ∃ kn, key.length = kn := ⟨_, rfl⟩
 obtain ⟨vn, D5⟩ : ∃ vn, val.length = vn := ⟨_, rfl⟩
 have D0 := zaa D4
 have E5 := zaa D5
 rw [D4] at HK hl ⊢
 rw [D5] at HV hl ⊢
 have F7 : (kn : Int) ≤ 35184372088832 := zq
 have F8 : (vn : Int) ≤ 35184372088832 := zq
 have F9 : IntKind.u64.wrap (kn : Int) = (kn : Int) := by rw [IntKind.wrap_u64]; omega
 have G0 : IntKind.u64.wrap (vn : Int) = (vn : Int) := by rw [IntKind.wrap_u64]; omega
 have G1 : IntKind.u8.wrap kd = kd % 256 := IntKind.wrap_u8 kd
 obtain ⟨x0, D3⟩ : ∃ x, w.alloc (.cells #[.slice ka kn kc, .int .i64 kd, .slice va vn vc, .int .i64 pg, .int .i64 ct] 50) = x := ⟨_, rfl⟩
 have B9 : Below w.heap.size w x0 := by rw [← D3]; exact zab Br Lr _
 have T : Hid (x0.cell? ⟨w.heap.size, 0, none⟩ = some (.slice ka kn kc) ∧ x0.cell? ⟨w.heap.size, 1, none⟩ = some (.int .i64 kd) ∧ x0.cell? ⟨w.heap.size, 2, none⟩ = some (.slice va vn vc) ∧ x0.cell? ⟨w.heap.size, 3, none⟩ = some (.int .i64 pg) ∧ x0.cell? ⟨w.heap.size, 4, none⟩ = some (.int .i64 ct)) := zaa (by rw [← D3]; simp)
 obtain ⟨y0, E7⟩ : ∃ y, x0.alloc (.cells #[.int .u8 (kd % 256)] 5) = y := ⟨_, rfl⟩
 have E1 : Below x0.heap.size x0 y0 := by rw [← E7]; exact zab Br Lr _
 have A4 : Hid (OwnB y0 x0.heap.size (.slice (some ⟨x0.heap.size, 0, none⟩) 1 1) [kd % 256]) := zaa (zcn (l := [kd % 256]) (by rw [← E7]; exact heap_alloc_last x0 _) Lr (by unfold maxLen; simp))
 obtain ⟨B, hB⟩ : ∃ B, x0.heap.size = B := ⟨_, rfl⟩
 have E8 : Hid (w.heap.size ≤ B) := zaa (by rw [← hB]; exact B9.size)
 have L : Hid (Below x0.heap.size x0 y0) := zaa E1
 have B5 := zaa B9
 rw [hB] at A4
 have K := zaa hB
 clear h1 h2 D4 D5 B9 E1
 by_cases U : kd = 1
 ·have F3 : (kd == 1) = true := by simpa using U
  have F4 := zaa U
  clear U hp
  have A : Hid (w.heap.size < B) := zaa (by rw [← K.out, ← D3]; simp)
  have d0 := T.out.1
  have d1 := T.out.2.1
  have d2 := T.out.2.2.1
  have d3 := T.out.2.2.2.1
  have d4 := T.out.2.2.2.2
  have f0 := box6 d0 L.out
  have f1 := box6 d1 L.out
  have f2 := box6 d2 L.out
  have f3 := box6 d3 L.out
  have f4 := box6 d4 L.out
  obtain ⟨X0, V⟩ : ∃ X, ([kd % 256] : List Int) = X := ⟨_, rfl⟩
  have A5 : Hid (X0.length = 1) := zaa (by rw [← V]; rfl)
  have C0 := zaa V
  rw [V] at A4
  have A2 : Hid (Below B x0 y0) := zaa (by rw [← K.out]; exact L.out)
  have C1 : B ≤ y0.heap.size := by rw [← K.out]; exact L.out.size
  clear V
  go_enter Tryz.func98, Tryz.ntmps98
  have B6 := zaa (fixed6_2 (kn : Int) y0 zq zq)
  go_wp2_with (go_at_call 97; refine B6.out.mono ?_; rintro e z1 ⟨a1, c1, rfl, C2, A6, H⟩; refine Hid.out ?_)
  apply zaa
  clear d0 d1 d2 d3 d4
  have C := zaa (A4.out.on Lr H.out)
  have D : B ≤ z1.heap.size := zN C1 H.out.size
  have A7 : Hid (Below B x0 z1) := zaa (zae A2.out (by rw [K.out]; exact Lr) H.out)
  have g0 := box6 f0 H.out
  have g1 := box6 f1 H.out
  have g2 := box6 f2 H.out
  have g3 := box6 f3 H.out
  have g4 := box6 f4 H.out
  clear B6 A4 A2 C2 H f0 f1 f2 f3 f4
  have f0 := g0
  have f1 := g1
  have f2 := g2
  have f3 := g3
  have f4 := g4
  clear g0 g1 g2 g3 g4
  go_wp2_with (at_builtin; refine zat _ rfl _ _ rfl B X0 (fB 2 (kn : Int)) _ a1 2 c1 rfl rfl C.out A6.out (by rw [A5.out]; omega) D ?_; refine Hid.out ?_)
  apply zaa
  intro v1 y1 ho hg
  have N : Hid (Below B x0 y1) := zaa (A7.out.trans (hg.below C.out D))
  have E : B ≤ y1.heap.size := zN D hg.grow.size
  have U : Below z1.heap.size z1 z1 := Br
  have g0 : y1.cell? ⟨w.heap.size, 0, none⟩ = some _ := zan f0 (hg.below C.out D) A.out
  have g1 : y1.cell? ⟨w.heap.size, 1, none⟩ = some _ := zan f1 (hg.below C.out D) A.out
  have g2 : y1.cell? ⟨w.heap.size, 2, none⟩ = some _ := zan f2 (hg.below C.out D) A.out
  have g3 : y1.cell? ⟨w.heap.size, 3, none⟩ = some _ := zan f3 (hg.below C.out D) A.out
  have g4 : y1.cell? ⟨w.heap.size, 4, none⟩ = some _ := zan f4 (hg.below C.out D) A.out
  clear f0 f1 f2 f3 f4
  have f0 := g0
  have f1 := g1
  have f2 := g2
  have f3 := g3
  have f4 := g4
  clear g0 g1 g2 g3 g4
  obtain ⟨X1, W⟩ : ∃ X, X0 ++ (fB 2 (kn : Int)) = X := ⟨_, rfl⟩
  have A8 : Hid (X1.length = 1 + 2) := zaa (by rw [← W, zG, A5.out, zah])
  have C3 := zaa W
  rw [W] at ho
  have J := zaa ho
  clear ho hg W U C A6 A7
  have A9 := zaa (HK.out.on Lr (zae B5.out Lr (by have := N.out; rw [← K.out] at this; exact this)))
  go_wp2_with (at_builtin; refine zat _ rfl _ _ rfl B X1 key _ ka kn kc rfl rfl J.out A9.out (by rw [A8.out]; omega) E ?_; refine Hid.out ?_)
  apply zaa
  intro v2 y2 ho hg
  have A3 : Hid (Below B x0 y2) := zaa (N.out.trans (hg.below J.out E))
  have C4 : B ≤ y2.heap.size := zN E hg.grow.size
  have D7 : Below y1.heap.size y1 y1 := Br
  have g0 : y2.cell? ⟨w.heap.size, 0, none⟩ = some _ := zan f0 (hg.below J.out E) A.out
  have g1 : y2.cell? ⟨w.heap.size, 1, none⟩ = some _ := zan f1 (hg.below J.out E) A.out
  have g2 : y2.cell? ⟨w.heap.size, 2, none⟩ = some _ := zan f2 (hg.below J.out E) A.out
  have g3 : y2.cell? ⟨w.heap.size, 3, none⟩ = some _ := zan f3 (hg.below J.out E) A.out
  have g4 : y2.cell? ⟨w.heap.size, 4, none⟩ = some _ := zan f4 (hg.below J.out E) A.out
  clear f0 f1 f2 f3 f4
  have f0 := g0
  have f1 := g1
  have f2 := g2
  have f3 := g3
  have f4 := g4
  clear g0 g1 g2 g3 g4
  obtain ⟨X2, Y⟩ : ∃ X, X1 ++ key = X := ⟨_, rfl⟩
  have B0 : Hid (X2.length = 1 + 2 + kn) := zaa (by rw [← Y, zG, A8.out, D0.out])
  have C6 := zaa Y
  rw [Y] at ho
  have B7 := zaa ho
  clear ho hg Y D7 A9 J N
  have B8 := zaa (fixed6_2 (vn : Int) y2 zq zq)
  go_wp2_with (go_at_call 97; refine B8.out.mono ?_; rintro e z3 ⟨a3, c3, rfl, C7, B1, I⟩; refine Hid.out ?_)
  apply zaa
  have F := zaa (B7.out.on Lr I.out)
  have G : B ≤ z3.heap.size := zN C4 I.out.size
  have B2 : Hid (Below B x0 z3) := zaa (zae A3.out (by rw [K.out]; exact Lr) I.out)
  have g0 := box6 f0 I.out
  have g1 := box6 f1 I.out
  have g2 := box6 f2 I.out
  have g3 := box6 f3 I.out
  have g4 := box6 f4 I.out
  clear B8 B7 A3 C7 I f0 f1 f2 f3 f4
  have f0 := g0
  have f1 := g1
  have f2 := g2
  have f3 := g3
  have f4 := g4
  clear g0 g1 g2 g3 g4
  go_wp2_with (at_builtin; refine zat _ rfl _ _ rfl B X2 (fB 2 (vn : Int)) _ a3 2 c3 rfl rfl F.out B1.out (by rw [B0.out]; omega) G ?_; refine Hid.out ?_)
  apply zaa
  intro v3 y3 ho hg
  have R : Hid (Below B x0 y3) := zaa (B2.out.trans (hg.below F.out G))
  have M : B ≤ y3.heap.size := zN G hg.grow.size
  have D8 : Below z3.heap.size z3 z3 := Br
  have g0 : y3.cell? ⟨w.heap.size, 0, none⟩ = some _ := zan f0 (hg.below F.out G) A.out
  have g1 : y3.cell? ⟨w.heap.size, 1, none⟩ = some _ := zan f1 (hg.below F.out G) A.out
  have g2 : y3.cell? ⟨w.heap.size, 2, none⟩ = some _ := zan f2 (hg.below F.out G) A.out
  have g3 : y3.cell? ⟨w.heap.size, 3, none⟩ = some _ := zan f3 (hg.below F.out G) A.out
  have g4 : y3.cell? ⟨w.heap.size, 4, none⟩ = some _ := zan f4 (hg.below F.out G) A.out
  clear f0 f1 f2 f3 f4
  have f0 := g0
  have f1 := g1
  have f2 := g2
  have f3 := g3
  have f4 := g4
  clear g0 g1 g2 g3 g4
  obtain ⟨X3, Z⟩ : ∃ X, X2 ++ (fB 2 (vn : Int)) = X := ⟨_, rfl⟩
  have B3 : Hid (X3.length = 1 + 2 + kn + 2) := zaa (by rw [← Z, zG, B0.out, zah])
  have C8 := zaa Z
  rw [Z] at ho
  have O := zaa ho
  clear ho hg Z D8 F B1 B2
  have E2 := zaa (HV.out.on Lr (zae B5.out Lr (by have := R.out; rw [← K.out] at this; exact this)))
  go_wp2_with (at_builtin; refine zat _ rfl _ _ rfl B X3 val _ va vn vc rfl rfl O.out E2.out (by rw [B3.out]; omega) M ?_; refine Hid.out ?_)
  apply zaa
  intro v4 y4 ho hg
  have B4 : Hid (Below B x0 y4) := zaa (R.out.trans (hg.below O.out M))
  have F0 : B ≤ y4.heap.size := zN M hg.grow.size
  have D9 : Below y3.heap.size y3 y3 := Br
  have g0 : y4.cell? ⟨w.heap.size, 0, none⟩ = some _ := zan f0 (hg.below O.out M) A.out
  have g1 : y4.cell? ⟨w.heap.size, 1, none⟩ = some _ := zan f1 (hg.below O.out M) A.out
  have g2 : y4.cell? ⟨w.heap.size, 2, none⟩ = some _ := zan f2 (hg.below O.out M) A.out
  have g3 : y4.cell? ⟨w.heap.size, 3, none⟩ = some _ := zan f3 (hg.below O.out M) A.out
  have g4 : y4.cell? ⟨w.heap.size, 4, none⟩ = some _ := zan f4 (hg.below O.out M) A.out
  clear f0 f1 f2 f3 f4
  have f0 := g0
  have f1 := g1
  have f2 := g2
  have f3 := g3
  have f4 := g4
  clear g0 g1 g2 g3 g4
  obtain ⟨X4, A0⟩ : ∃ X, X3 ++ val = X := ⟨_, rfl⟩
  have F1 : Hid (X4.length = 1 + 2 + kn + 2 + vn) := zaa (by rw [← A0, zG, B3.out, E5.out])
  have C9 := zaa A0
  rw [A0] at ho
  have E0 := zaa ho
  clear ho hg A0 D9 E2 O R
  go_wp2_with fail
  go_ret
  refine ⟨v4, rfl, zaa ?_, zaa (zae B5.out Lr (by have := B4.out; rw [← K.out] at this; exact this))⟩
  have e : X4 = cB ⟨key, kd, val, pg, ct⟩ := by
   rw [← C9.out, ← C8.out, ← C6.out, ← C3.out, ← C0.out]
   unfold cB
   rw [if_pos F4.out]
   simp only [zM, D0.out, E5.out]
  rw [← e]
  exact E0.out.low E8.out
 ·have G2 := hp U
  have F3 : (kd == 1) = false := by rw [beq_eq_false_iff_ne]; exact U
  have F5 : IntKind.u64.wrap pg = pg := by rw [IntKind.wrap_u64]; omega
  have F6 : IntKind.u64.wrap ct = ct := by rw [IntKind.wrap_u64]; omega
  have A : Hid (w.heap.size < B) := zaa (by rw [← K.out, ← D3]; simp)
  have d0 := T.out.1
  have d1 := T.out.2.1
  have d2 := T.out.2.2.1
  have d3 := T.out.2.2.2.1
  have d4 := T.out.2.2.2.2
  have f0 := box6 d0 L.out
  have f1 := box6 d1 L.out
  have f2 := box6 d2 L.out
  have f3 := box6 d3 L.out
  have f4 := box6 d4 L.out
  obtain ⟨X0, V⟩ : ∃ X, ([kd % 256] : List Int) = X := ⟨_, rfl⟩
  have A5 : Hid (X0.length = 1) := zaa (by rw [← V]; rfl)
  have C0 := zaa V
  rw [V] at A4
  have A2 : Hid (Below B x0 y0) := zaa (by rw [← K.out]; exact L.out)
  have C1 : B ≤ y0.heap.size := by rw [← K.out]; exact L.out.size
  clear V
  go_enter Tryz.func98, Tryz.ntmps98
  have B6 := zaa (fixed6_2 (kn : Int) y0 zq zq)
  go_wp2_with (go_at_call 97; refine B6.out.mono ?_; rintro e z1 ⟨a1, c1, rfl, C2, A6, H⟩; refine Hid.out ?_)
  apply zaa
  clear d0 d1 d2 d3 d4
  have C := zaa (A4.out.on Lr H.out)
  have D : B ≤ z1.heap.size := zN C1 H.out.size
  have A7 : Hid (Below B x0 z1) := zaa (zae A2.out (by rw [K.out]; exact Lr) H.out)
  have g0 := box6 f0 H.out
  have g1 := box6 f1 H.out
  have g2 := box6 f2 H.out
  have g3 := box6 f3 H.out
  have g4 := box6 f4 H.out
  clear B6 A4 A2 C2 H f0 f1 f2 f3 f4
  have f0 := g0
  have f1 := g1
  have f2 := g2
  have f3 := g3
  have f4 := g4
  clear g0 g1 g2 g3 g4
  go_wp2_with (at_builtin; refine zat _ rfl _ _ rfl B X0 (fB 2 (kn : Int)) _ a1 2 c1 rfl rfl C.out A6.out (by rw [A5.out]; omega) D ?_; refine Hid.out ?_)
  apply zaa
  intro v1 y1 ho hg
  have N : Hid (Below B x0 y1) := zaa (A7.out.trans (hg.below C.out D))
  have E : B ≤ y1.heap.size := zN D hg.grow.size
  have U : Below z1.heap.size z1 z1 := Br
  have g0 : y1.cell? ⟨w.heap.size, 0, none⟩ = some _ := zan f0 (hg.below C.out D) A.out
  have g1 : y1.cell? ⟨w.heap.size, 1, none⟩ = some _ := zan f1 (hg.below C.out D) A.out
  have g2 : y1.cell? ⟨w.heap.size, 2, none⟩ = some _ := zan f2 (hg.below C.out D) A.out
  have g3 : y1.cell? ⟨w.heap.size, 3, none⟩ = some _ := zan f3 (hg.below C.out D) A.out
  have g4 : y1.cell? ⟨w.heap.size, 4, none⟩ = some _ := zan f4 (hg.below C.out D) A.out
  clear f0 f1 f2 f3 f4
  have f0 := g0
  have f1 := g1
  have f2 := g2
  have f3 := g3
  have f4 := g4
  clear g0 g1 g2 g3 g4
  obtain ⟨X1, W⟩ : ∃ X, X0 ++ (fB 2 (kn : Int)) = X := ⟨_, rfl⟩
  have A8 : Hid (X1.length = 1 + 2) := zaa (by rw [← W, zG, A5.out, zah])
  have C3 := zaa W
  rw [W] at ho
  have J := zaa ho
  clear ho hg W U C A6 A7
  have A9 := zaa (HK.out.on Lr (zae B5.out Lr (by have := N.out; rw [← K.out] at this; exact this)))
  go_wp2_with (at_builtin; refine zat _ rfl _ _ rfl B X1 key _ ka kn kc rfl rfl J.out A9.out (by rw [A8.out]; omega) E ?_; refine Hid.out ?_)
  apply zaa
  intro v2 y2 ho hg
  have A3 : Hid (Below B x0 y2) := zaa (N.out.trans (hg.below J.out E))
  have C4 : B ≤ y2.heap.size := zN E hg.grow.size
  have D7 : Below y1.heap.size y1 y1 := Br
  have g0 : y2.cell? ⟨w.heap.size, 0, none⟩ = some _ := zan f0 (hg.below J.out E) A.out
  have g1 : y2.cell? ⟨w.heap.size, 1, none⟩ = some _ := zan f1 (hg.below J.out E) A.out
  have g2 : y2.cell? ⟨w.heap.size, 2, none⟩ = some _ := zan f2 (hg.below J.out E) A.out
  have g3 : y2.cell? ⟨w.heap.size, 3, none⟩ = some _ := zan f3 (hg.below J.out E) A.out
  have g4 : y2.cell? ⟨w.heap.size, 4, none⟩ = some _ := zan f4 (hg.below J.out E) A.out
  clear f0 f1 f2 f3 f4
  have f0 := g0
  have f1 := g1
  have f2 := g2
  have f3 := g3
  have f4 := g4
  clear g0 g1 g2 g3 g4
  obtain ⟨X2, Y⟩ : ∃ X, X1 ++ key = X := ⟨_, rfl⟩
  have B0 : Hid (X2.length = 1 + 2 + kn) := zaa (by rw [← Y, zG, A8.out, D0.out])
  have C6 := zaa Y
  rw [Y] at ho
  have B7 := zaa ho
  clear ho hg Y D7 A9 J N
  have B8 := zaa (fixed6_4 pg y2 zq zq)
  go_wp2_with (go_at_call 97; refine B8.out.mono ?_; rintro e z3 ⟨a3, c3, rfl, C7, B1, I⟩; refine Hid.out ?_)
  apply zaa
  have F := zaa (B7.out.on Lr I.out)
  have G : B ≤ z3.heap.size := zN C4 I.out.size
  have B2 : Hid (Below B x0 z3) := zaa (zae A3.out (by rw [K.out]; exact Lr) I.out)
  have g0 := box6 f0 I.out
  have g1 := box6 f1 I.out
  have g2 := box6 f2 I.out
  have g3 := box6 f3 I.out
  have g4 := box6 f4 I.out
  clear B8 B7 A3 C7 I f0 f1 f2 f3 f4
  have f0 := g0
  have f1 := g1
  have f2 := g2
  have f3 := g3
  have f4 := g4
  clear g0 g1 g2 g3 g4
  go_wp2_with (at_builtin; refine zat _ rfl _ _ rfl B X2 (fB 4 pg) _ a3 4 c3 rfl rfl F.out B1.out (by rw [B0.out]; omega) G ?_; refine Hid.out ?_)
  apply zaa
  intro v3 y3 ho hg
  have R : Hid (Below B x0 y3) := zaa (B2.out.trans (hg.below F.out G))
  have M : B ≤ y3.heap.size := zN G hg.grow.size
  have D8 : Below z3.heap.size z3 z3 := Br
  have g0 : y3.cell? ⟨w.heap.size, 0, none⟩ = some _ := zan f0 (hg.below F.out G) A.out
  have g1 : y3.cell? ⟨w.heap.size, 1, none⟩ = some _ := zan f1 (hg.below F.out G) A.out
  have g2 : y3.cell? ⟨w.heap.size, 2, none⟩ = some _ := zan f2 (hg.below F.out G) A.out
  have g3 : y3.cell? ⟨w.heap.size, 3, none⟩ = some _ := zan f3 (hg.below F.out G) A.out
  have g4 : y3.cell? ⟨w.heap.size, 4, none⟩ = some _ := zan f4 (hg.below F.out G) A.out
  clear f0 f1 f2 f3 f4
  have f0 := g0
  have f1 := g1
  have f2 := g2
  have f3 := g3
  have f4 := g4
  clear g0 g1 g2 g3 g4
  obtain ⟨X3, Z⟩ : ∃ X, X2 ++ (fB 4 pg) = X := ⟨_, rfl⟩
  have B3 : Hid (X3.length = 1 + 2 + kn + 4) := zaa (by rw [← Z, zG, B0.out, zah])
  have C8 := zaa Z
  rw [Z] at ho
  have O := zaa ho
  clear ho hg Z D8 F B1 B2
  have E9 := zaa (fixed6_4 ct y3 zq zq)
  go_wp2_with (go_at_call 97; refine E9.out.mono ?_; rintro e z4 ⟨a4, c4, rfl, F2, E3, A1⟩; refine Hid.out ?_)
  apply zaa
  have P := zaa (O.out.on Lr A1.out)
  have Q : B ≤ z4.heap.size := zN M A1.out.size
  have E4 : Hid (Below B x0 z4) := zaa (zae R.out (by rw [K.out]; exact Lr) A1.out)
  have g0 := box6 f0 A1.out
  have g1 := box6 f1 A1.out
  have g2 := box6 f2 A1.out
  have g3 := box6 f3 A1.out
  have g4 := box6 f4 A1.out
  clear E9 O R F2 A1 f0 f1 f2 f3 f4
  have f0 := g0
  have f1 := g1
  have f2 := g2
  have f3 := g3
  have f4 := g4
  clear g0 g1 g2 g3 g4
  go_wp2_with (at_builtin; refine zat _ rfl _ _ rfl B X3 (fB 4 ct) _ a4 4 c4 rfl rfl P.out E3.out (by rw [B3.out]; omega) Q ?_; refine Hid.out ?_)
  apply zaa
  intro v4 y4 ho hg
  have B4 : Hid (Below B x0 y4) := zaa (E4.out.trans (hg.below P.out Q))
  have F0 : B ≤ y4.heap.size := zN Q hg.grow.size
  have D9 : Below z4.heap.size z4 z4 := Br
  have g0 : y4.cell? ⟨w.heap.size, 0, none⟩ = some _ := zan f0 (hg.below P.out Q) A.out
  have g1 : y4.cell? ⟨w.heap.size, 1, none⟩ = some _ := zan f1 (hg.below P.out Q) A.out
  have g2 : y4.cell? ⟨w.heap.size, 2, none⟩ = some _ := zan f2 (hg.below P.out Q) A.out
  have g3 : y4.cell? ⟨w.heap.size, 3, none⟩ = some _ := zan f3 (hg.below P.out Q) A.out
  have g4 : y4.cell? ⟨w.heap.size, 4, none⟩ = some _ := zan f4 (hg.below P.out Q) A.out
  clear f0 f1 f2 f3 f4
  have f0 := g0
  have f1 := g1
  have f2 := g2
  have f3 := g3
  have f4 := g4
  clear g0 g1 g2 g3 g4
  obtain ⟨X4, A0⟩ : ∃ X, X3 ++ (fB 4 ct) = X := ⟨_, rfl⟩
  have F1 : Hid (X4.length = 1 + 2 + kn + 4 + 4) := zaa (by rw [← A0, zG, B3.out, zah])
  have C9 := zaa A0
  rw [A0] at ho
  have E0 := zaa ho
  clear ho hg A0 D9 P E3 E4
  go_wp2_with fail
  go_ret
  refine ⟨v4, rfl, zaa ?_, zaa (zae B5.out Lr (by have := B4.out; rw [← K.out] at this; exact this))⟩
  have e : X4 = cB ⟨key, kd, val, pg, ct⟩ := by
   rw [← C9.out, ← C8.out, ← C6.out, ← C3.out, ← C0.out]
   unfold cB
   rw [if_neg U]
   simp only [zM, D0.out]
  rw [← e]
  exact E0.out.low E8.out
theorem rsize6_any (k : Int) (ao : Option Addr) (n cap : Nat) (cs : List Cl) (w : World) (hs : SlC w ao n cap cs) (hz : szN cs ≤ 1099511627776) :
  Calls Tryz.prog 96 #[.int .i64 k, .slice ao n cap] w fun e w' => e = .returned (.int .i64 (szN cs : Int)) ∧ Hid (Below w.heap.size w w') := by
 have HS := zaa hs
 have hn := hs.hroom
 have K := zaa hs.hlen
 have HZ : Hid (∀ j, szN (cs.take j) ≤ 1099511627776) := zaa (fun j => zN (szN_le6 cs j) hz)
 obtain ⟨T, hT⟩ : ∃ T : Nat, szN cs = T := ⟨_, rfl⟩
 rw [hT]
 have HT := zaa hT
 clear hs hz hT
 go_enter Tryz.func96, Tryz.ntmps96
 go_wp2_with fail
 go_loopw [5, 6] (fun v i wr => ∃ j q : Nat, j ≤ n ∧ q ≤ 1099511627776 ∧ i = .int .i64 j ∧ v = .int .i64 (q : Int) ∧ Hid (q = szN (cs.take j)) ∧ Hid (Below w.heap.size w wr)) (fun _ i _ => n - (RowKit.intOf i).toNat)
 case atStart => exact ⟨0, 8, zq, zq, rfl, rfl, zaa (by simp [szN]), zaa Br⟩
 case round =>
  obtain ⟨j, q, hj, hq, rfl, rfl, HQ, HB⟩ := hrel
  have bj : (j : Int) ≤ 140737488355328 := zq
  have bq : (q : Int) ≤ 1099511627776 := zq
  by_cases L : j < n
  ·have M : (j : Int) < (n : Int) := zq
   obtain ⟨b, off, c, ka, kc, va, vc, rfl, hb, I, c0, c1, c2, c3, c4, hk, hv⟩ := (HS.out.on HB.out).item j L
   have D := szN_take cs j c I
   have C := HZ.out (j + 1)
   rw [D, ← HQ.out] at C
   have A : Hid (szN (cs.take (j + 1)) = q + ctk c) := zaa (by rw [D, HQ.out])
   have J : Below w.heap.size w (wr.alloc (.cells #[.slice ka c.key.length kc, .int .i64 c.kd, .slice va c.val.length vc, .int .i64 c.pg, .int .i64 c.ct] 50)) := zae HB.out Lr (zab Br Lr _)
   have B := zaa J
   obtain ⟨kn, E⟩ : ∃ kn, c.key.length = kn := ⟨_, rfl⟩
   obtain ⟨vn, F⟩ : ∃ vn, c.val.length = vn := ⟨_, rfl⟩
   obtain ⟨kd, G⟩ : ∃ kd, c.kd = kd := ⟨_, rfl⟩
   have H : ctk c = if kd = 1 then 7 + kn + vn else 13 + kn := by unfold ctk; rw [E, F, G]
   rw [H] at C
   rw [H] at A
   rw [E] at c0 B
   rw [F] at c2 B
   rw [G] at c1 B
   clear hk hv I D H J E F G HB
   by_cases e1 : kd = 1
   ·subst e1
    rw [if_pos rfl] at C A
    have bk : (kn : Int) ≤ 1099511627776 := zq
    have bv : (vn : Int) ≤ 1099511627776 := zq
    go_wp2
    go_roundw
    case rel => exact ⟨j + 1, q + (7 + kn + vn), zq, zq, by go_num, by go_num, zaa A.out.symm, B⟩
    case measure => simp [RowKit.intOf]; omega
   ·rw [if_neg e1] at C A
    have e1b : (kd == 1) = false := by rw [beq_eq_false_iff_ne]; exact e1
    have bk : (kn : Int) ≤ 1099511627776 := zq
    go_wp2
    go_roundw
    case rel => exact ⟨j + 1, q + (13 + kn), zq, zq, by go_num, by go_num, zaa A.out.symm, B⟩
    case measure => simp [RowKit.intOf]; omega
  ·have e : q = T := by
    rw [← HT.out, HQ.out, List.take_of_length_le (by rw [K.out]; omega)]
   subst e
   go_wp2
   go_ret
   exact ⟨rfl, HB⟩
theorem Sn_step (k y : Nat) (h : k < 8) : Sn (8 - k) y = Sn (8 - (k + 1)) (S y) := by
 rw [show 8 - k = (8 - (k + 1)) + 1 by omega]
 rfl
theorem step_any (r x : Nat) (w : World) (hr : r < 4294967296) (hx : x < 256) :
  Calls Tryz.prog 139 #[.int .u32 r, .int .u8 x] w fun e w' => e = .returned (.int .u32 (Sn 8 (r ^^^ x))) ∧ w' = w := by
 have E := u32_xor_nat r x hr zq
 have C := zam hr (show x < 4294967296 by omega)
 generalize (r ^^^ x : Nat) = R at *
 generalize hF : Sn 8 R = F
 have HF := zaa hF
 clear hF
 go_enter Tryz.func139, Tryz.ntmps139
 go_wp2_with fail
 go_loop [5, 6] (fun v i => ∃ k y : Nat, k ≤ 8 ∧ y < 4294967296 ∧ i = .int .i64 k ∧ v = .int .u32 y ∧ Hid (Sn (8 - k) y = F)) (fun _ i => 8 - (intOf i).toNat)
 case atStart => exact ⟨0, R, zq, C, rfl, rfl, HF⟩
 case round =>
  clear E C HF
  obtain ⟨k, y, hk, hy, rfl, rfl, HK⟩ := hrel
  by_cases G : k < 8
  ·have e := HK.out
   rw [Sn_step k y G] at e
   have B := S_lt hy
   clear HK
   obtain ⟨D, hD⟩ : ∃ D : Nat, y / 2 = D := ⟨_, rfl⟩
   have I : (y : Int) / 2 = (D : Int) := zq
   have H : D < 4294967296 := zq
   by_cases A : y % 2 = 1
   ·have hS : S y = D ^^^ 2197175160 := by unfold S; rw [if_pos A, hD]
    rw [hS] at e B
    have hz := u32_xor_nat D 2197175160 H zq
    obtain ⟨Z, hZ⟩ : ∃ Z : Nat, D ^^^ 2197175160 = Z := ⟨_, rfl⟩
    rw [hZ] at e hz B
    have J : bits .xor .u32 (D : Int) 2197175160 = (Z : Int) := hz
    have hb : ((y : Int) % 2 == 1) = true := by simp; omega
    have HE := zaa e
    clear e hS hz hZ hD A
    go_wp2
    go_round
    case rel => exact ⟨k + 1, Z, zq, B, by go_num, rfl, HE⟩
    case measure => simp [intOf]; omega
   ·have hS : S y = D := by unfold S; rw [if_neg A, hD]
    rw [hS] at e B
    have hb : ((y : Int) % 2 == 1) = false := by simp; omega
    have HE := zaa e
    clear e hS hD A
    go_wp2
    go_round
    case rel => exact ⟨k + 1, D, zq, B, by go_num, rfl, HE⟩
    case measure => simp [intOf]; omega
  ·have e : y = F := by rw [← HK.out, show 8 - k = 0 by omega]; rfl
   have HE := zaa e
   clear e HK
   go_wp2
   go_ret
   exact ⟨zbf (by rw [HE.out]), rfl⟩
theorem sum_one (l : List Int) (h : Wf l) : sumN [l] = 4294967295 ^^^ cr 4294967295 (l.map Int.toNat) := by
 show 4294967295 ^^^ tk (l.map Int.toNat) 4294967295 = _
 rw [tk_eq _ _ zq (nat_lt l h)]
theorem rSumOf_any (ao : Option Addr) (n cap : Nat) (l : List Int) (w : World) (hs : Sl w ao n cap l) :
  Calls Tryz.prog 99 #[.slice ao n cap] w fun e w' => e = .returned (.int .u32 (sumN [l] : Nat)) ∧ w' = w := by
 have HS := zaa hs
 have HW := zaa hs.wf
 have E := hs.hlen
 have L := hs.hroom
 have hE : sumN [l] = cr 4294967295 (l.map Int.toNat) ^^^ 4294967295 := by rw [sum_one l hs.wf, Nat.xor_comm]
 rw [hE]
 clear hE hs
 generalize hF : cr 4294967295 (l.map Int.toNat) = F
 have HF := zaa hF
 clear hF
 go_enter Tryz.func99, Tryz.ntmps99
 go_wp2_with fail
 go_loop [3, 4] (fun v i => ∃ k y : Nat, k ≤ n ∧ y < 4294967296 ∧ i = .int .i64 k ∧ v = .int .u32 y ∧ Hid (cr y ((l.drop k).map Int.toNat) = F)) (fun _ i => n - (intOf i).toNat)
 case atStart => exact ⟨0, 4294967295, zq, zq, rfl, rfl, HF⟩
 case round =>
  clear HF
  obtain ⟨k, y, hk, hy, rfl, rfl, HK⟩ := hrel
  by_cases G : k < n
  ·rcases HS.out.hat with h | ⟨b', off', rfl, M, hc'⟩
   ·omega
   have H := hc' k G
   have A := HW.out.getD k
   have ej := HK.out
   rw [zbu l k zq] at ej
   obtain ⟨C, hC⟩ := Int.eq_ofNat_of_zero_le A.1
   rw [hC] at H A ej
   have I : Hid (cr (Sn 8 (y ^^^ C)) ((l.drop (k + 1)).map Int.toNat) = F) := ej
   have B := step_any y C w hy zq
   have J := Sn_lt 8 (zam hy (show C < 4294967296 by omega))
   generalize Sn 8 (y ^^^ C) = Z at *
   have K := zaa B
   clear hc' ej HK hC B E
   go_wp2_with fail
   refine zad K.out ?_
   go_wp2
   go_round
   case rel => exact ⟨k + 1, Z, zq, J, by go_num, rfl, I⟩
   case measure => simp [intOf]; omega
  ·have e : y = F := by rw [← HK.out, List.drop_eq_nil_of_le zq]; rfl
   have HE := zaa e
   have hx := u32_xor_nat y 4294967295 hy zq
   have D : bits .xor .u32 (y : Int) 4294967295 = ((y ^^^ 4294967295 : Nat) : Int) := hx
   have HX := zaa D
   clear e HK hx D
   go_wp2
   go_ret
   exact ⟨zbf (by rw [← HE.out]; exact HX.out), rfl⟩
end Go.Proofs.YtbkhjeacmmbabaaGreatDoor
