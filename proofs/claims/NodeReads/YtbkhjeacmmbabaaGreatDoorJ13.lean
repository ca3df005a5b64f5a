import Derived.Test.YtbkhjeacmmbabaaGreatDoorJ12
import Derived.Test.YtbkhjeacmmbabaaGreatDoorJ06
import Derived.Carry
import Derived.Deep.RegionLaw
import Derived.Laws.OwnMore
import Derived.Handy
namespace Go.Proofs.YtbkhjeacmmbabaaGreatDoor
set_option maxRecDepth 100000
set_option maxHeartbeats 16000000
open Go.RowKit
theorem two_wf6 {k : Int} (_h : isKd k) (e : k % 256 = k) : Wf [k % 256, 1] := by
 intro x hx
 simp only [List.mem_cons, List.not_mem_nil, or_false] at hx
 rw [e] at hx
 unfold isKd at _h
 omega
theorem own_two6 (w : World) (x y : Int) : OwnB (w.alloc (.cells #[.int .u8 x, .int .u8 y] 5)) w.heap.size (.slice (some ⟨w.heap.size, 0, none⟩) 2 2) [x, y] :=
 zcn (l := [x, y]) (heap_alloc_last w _) Lr (by unfold maxLen; simp)
theorem rencode6_yes (k : Int) (N : Nat) (co : Option Addr) (cn cc : Nat) (cs : List Cl) (w : World) (hs : SlC w co cn cc cs) (R5 : cn ≤ 900000) (he : encE k N cs = 0) :
  Calls Tryz.prog 54 #[.int .i64 k, .slice co cn cc, .int .i64 (N : Int)] w fun e w' => ∃ v, e = .returned (.tuple #[v, .int .i64 0]) ∧ Hid (OwnB w' w.heap.size v (pgB k N cs)) ∧ Hid (Below w.heap.size w w') := by
 have HS := zaa hs
 have B2 := zaa hs.hlen
 have J1 := zaa hs.wf
 have F4 := zaa (zds (N : Int) w)
 have F5 := zaa (rIsKind6_any k w)
 have B8 : isKd k ∧ pw (N : Int) := by
  unfold encE at he
  by_cases h : isKd k ∧ pw (N : Int)
  ·exact h
  ·rw [if_neg h] at he; cases he
 have D8 := B8.1
 have hn := B8.2
 have J2 := pw_le hn
 have D9 : Hid (chk k N none cs = 0) := zaa (by
  unfold encE at he
  rw [if_pos B8] at he
  by_cases h : chk k N none cs = 0
  ·exact h
  ·rw [if_neg h] at he; exact absurd he h)
 have B7 : szN cs ≤ N := by
  unfold encE at he
  rw [if_pos B8, if_pos D9.out] at he
  by_cases h : (N : Int) < szN cs
  ·rw [if_pos h] at he; cases he
  ·omega
 have F6 : (N : Int) ≤ 65536 := J2.2
 have R6 : 512 ≤ N := zq
 have N6 : 512 ≤ (N : Int) := zq
 have I0 : Hid (∀ c ∈ cs, mayP k N c) := zaa (chk_all6 k N none cs D9.out)
 rw [show decide (pw (N : Int)) = true from by simpa using hn] at F4
 rw [show decide (isKd k) = true from by simpa using D8] at F5
 have N7 := zaa D8
 have F2 : k % 256 = k := by unfold isKd at D8; omega
 have F3 := zaa F2
 have R7 : IntKind.u8.wrap k = k % 256 := IntKind.wrap_u8 k
 have E0 := zaw cs
 rw [B2.out] at E0
 obtain ⟨Z, hZ⟩ : ∃ Z : Nat, szN cs = Z := ⟨_, rfl⟩
 rw [hZ] at E0 B7
 have F7 := zaa (fun u h => rsize6_any k co cn cc cs u h zq)
 rw [hZ] at F7
 have N8 := zaa hZ
 have N9 := zaa E0
 have bcn : cn ≤ 65536 := zq
 have bcI : (cn : Int) ≤ 65536 := zq
 have R9 : ¬ (N : Int) < (Z : Int) := zq
 have S0 : (Z : Int) ≤ 65536 := zq
 have J3 := zaa B7
 have B3 : Hid (∀ j, (bdy (cs.take j)).length + 8 ≤ 65536) := zaa (fun j => by have := bdy_le6 cs j; omega)
 have S1 : IntKind.u64.wrap (cn : Int) = (cn : Int) := by rw [IntKind.wrap_u64]; omega
 clear hn J2 D8 hs he F2 E0 hZ B7 B8
 go_enter Tryz.func54, Tryz.ntmps54
 go_wp2_with (first
  | (go_at_call 51; refine zad F4.out ?_)
  | (go_at_call 94; refine zad F5.out ?_))
 clear F4 F5
 go_loopw [9] (fun i wr => ∃ j : Nat, j ≤ cn ∧ i = .int .i64 j ∧ Hid (chk k N (prv (cs.take j)) (cs.drop j) = 0) ∧ Hid (Below w.heap.size w wr)) (fun i _ => cn - (RowKit.intOf i).toNat)
 case atStart => exact ⟨0, zq, rfl, zaa (by simpa [prv] using D9.out), zaa Br⟩
 case round =>
  obtain ⟨j, hj, rfl, HC, B9⟩ := hrel
  have bj : (j : Int) ≤ 900000 := zq
  by_cases A2 : j < cn
  ·have B4 : (j : Int) < (cn : Int) := zq
   obtain ⟨b, off, c, ka, kc, va, vc, rfl, hb, D, c0, c1, c2, c3, c4, U, A3⟩ := (HS.out.on B9.out).item j A2
   have V := chk_step k N cs j c D
   rw [HC.out] at V
   have F8 : mayP k N c := by
    by_cases h : mayP k N c
    ·exact h
    ·rw [if_neg h] at V; cases V
   rw [if_pos F8] at V
   have F9 : zap (prv (cs.take j)) c.key := by
    by_cases h : zap (prv (cs.take j)) c.key
    ·exact h
    ·rw [if_neg h] at V; cases V
   rw [if_pos F9] at V
   have J4 := zaa V.symm
   have O0 := zaa F9
   have E1 := zaa U
   have G0 := zaa (rmay6_any k (N : Int) c ka va kc vc wr N6 F6 U.hroom A3.hroom)
   rw [show decide (mayP k N c) = true from by simpa using F8] at G0
   clear D U A3 V F9 F8
   go_wp2_with (go_at_call 95; refine G0.out.mono ?_; rintro e w2 ⟨rfl, A4⟩; have J5 := zaa A4; have C9 := zaa (zae B9.out Lr A4); clear A4; refine Hid.out ?_)
   apply zaa
   have d0 := (J5.out.cell (p := ⟨b, off + j * 5, none⟩) hb).trans c0
   clear c0 c1 c2 c3 c4 G0
   by_cases J6 : j = 0
   ·subst J6
    have R4 : decide ((0 : Int) < ((0 : Nat) : Int)) = false := by decide
    go_wp2_with fail
    go_quiet (fail)
    go_wp2
    go_roundw
    case rel => exact ⟨1, zq, by go_num, J4, zaa (zac C9.out _)⟩
    case measure => simp [RowKit.intOf]; omega
   ·obtain ⟨i, J7⟩ : ∃ i, j = i + 1 := ⟨j - 1, zq⟩
    obtain ⟨b', off', c', ka', kc', va', vc', A5, hb', A1, e0, e1, e2, e3, e4, hk', hv'⟩ := (HS.out.on C9.out).item i zq
    injection A5 with A5
    injection A5 with J A4
    subst J A4
    have I1 : prv (cs.take j) = some c'.key := by rw [J7, List.take_add_one, A1]; simp [prv]
    have J8 : decide (kl c'.key c.key) = true := by
     have := O0.out
     rw [I1] at this
     simpa [zap] using this
    have k3 : ∀ z, (convert 22 9 (.slice ka' c'.key.length kc')).run Tryz.prog (w2.drewN z) = .ok (.string (strOfNums c'.key)) (w2.drewN z) := fun z => zar (hk'.drewN z)
    have k4 : ∀ z, (convert 22 9 (.slice ka c.key.length kc)).run Tryz.prog (w2.drewN z) = .ok (.string (strOfNums c.key)) (w2.drewN z) := fun z => zar ((E1.out.on Lr J5.out).drewN z)
    have S2 : Op.bytesLess (strOfNums c'.key).toList (strOfNums c.key).toList = true := by rw [str_less hk'.wf E1.out.wf]; exact J8
    have i1 : (i : Int) < (cn : Int) := zq
    have i2 : i < cn := zq
    have i3 : (i : Int) ≤ 900000 := zq
    have i4 : IntKind.i64.wrap ((j : Int) - 1) = (i : Int) := by rw [IntKind.wrap_i64]; omega
    have i7 : (j : Int) - 1 = (i : Int) := zq
    have i5 : 0 < (j : Int) := zq
    have i6 : 0 < j := zq
    have i8 : decide (0 < j) = true := decide_eq_true i6
    clear hk' hv' I1 A1 e1 e2 e3 e4 J6 J7 hb' J8
    go_wp2_with fail
    go_quiet (fail)
    go_wp2
    go_roundw
    case rel => exact ⟨j + 1, zq, by go_num, J4, zaa (zac C9.out _)⟩
    case measure => simp [RowKit.intOf]; omega
  ·have J9 := zaa (F7.out wr (HS.out.on B9.out))
   clear HC D9 F7 hj
   go_wp2_with (go_at_call 96; refine J9.out.mono ?_; rintro e w2 ⟨rfl, E2⟩; refine Hid.out ?_)
   apply zaa
   have W := zaa (zae B9.out Lr E2.out)
   clear J9 E2 B9
   obtain ⟨B1, E3⟩ : ∃ B, w2.heap.size = B := ⟨_, rfl⟩
   obtain ⟨y, hy⟩ : ∃ y, w2.alloc (.cells #[.int .u8 (k % 256), .int .u8 1] 5) = y := ⟨_, rfl⟩
   have K0 : B1 ≤ w2.heap.size := zq
   have G1 : Below B1 w2 y := by rw [← hy, ← E3]; exact zab Br Lr _
   obtain ⟨L0, E4⟩ : ∃ L0, ([k % 256, 1] : List Int) = L0 := ⟨_, rfl⟩
   have K1 : Hid (OwnB y B1 (.slice (some ⟨B1, 0, none⟩) 2 2) L0) := zaa (by rw [← hy, ← E3, ← E4]; exact own_two6 w2 _ _)
   have K2 : Hid (L0.length = 2) := zaa (by rw [← E4]; rfl)
   have I2 := zaa E4
   clear E4
   have K4 := zaa G1
   have K5 : B1 ≤ y.heap.size := by rw [← E3]; exact G1.size
   have I := zaa K0
   have A7 := zaa E3
   have C0 := zaa (fixed6_2 (cn : Int) y zq zq)
   clear G1
   go_wp2_with (go_at_call 97; refine C0.out.mono ?_; rintro e w4 ⟨a4, c4, rfl, O1, K6, E5⟩; refine Hid.out ?_)
   apply zaa
   have K7 := zaa (zae K4.out K0 E5.out)
   have E7 : B1 ≤ w4.heap.size := zN K5 E5.out.size
   have D0 := zaa (K1.out.on Lr E5.out)
   clear C0 O1 E5 K1 K4 hy
   go_wp2_with (at_builtin; refine zat _ rfl _ _ rfl B1 L0 (fB 2 (cn : Int)) _ a4 2 c4 rfl rfl D0.out K6.out (by rw [K2.out]; omega) E7 ?_; refine Hid.out ?_)
   apply zaa
   intro v5 w5 G2 G3
   have K8 : Hid (Below B1 w2 w5) := zaa (K7.out.trans (G3.below D0.out E7))
   have O2 : B1 ≤ w5.heap.size := zN E7 G3.grow.size
   obtain ⟨L, hL⟩ : ∃ L, L0 ++ fB 2 (cn : Int) = L := ⟨_, rfl⟩
   rw [hL] at G2
   have G4 : Hid (L.length = 4) := zaa (by rw [← hL, zG, K2.out, zah])
   have O3 : Hid ([k % 256, 1] ++ fB 2 (cn : Int) = L) := zaa (by rw [I2.out]; exact hL)
   have O4 : Hid (Wf L) := zaa (by rw [← hL, ← I2.out]; exact (two_wf6 N7.out F3.out).append (zbb _ _))
   have K9 := zaa G2
   clear G2 G3 D0 K6 K7 E7 hL K5
   go_wp2_with fail
   go_loopw [11, 12] (fun a i wq => ∃ (j : Nat) (ao : Option Addr) (an ac : Nat), j ≤ cn ∧ i = .int .i64 j ∧ a = .slice ao an ac ∧ Hid (OwnB wq B1 v5 L) ∧ Hid (OwnB wq B1 (.slice ao an ac) (bdy (cs.take j))) ∧ Hid (Apt (.slice ao an ac) v5) ∧ Hid (Below B1 w2 wq)) (fun _ i _ => cn - (RowKit.intOf i).toNat)
   case atStart => exact ⟨0, none, 0, 0, zq, rfl, rfl, K9, zaa (by simpa [bdy] using OwnB.nil _ _), zaa (.inl rfl), K8⟩
   case round =>
    clear K9 K8 O2
    obtain ⟨j, ao, an, ac, hj, rfl, rfl, HO, HA, A, HB⟩ := hrel
    have bj : (j : Int) ≤ 65536 := zq
    have F : B1 ≤ wr.heap.size := zN I.out HB.out.size
    have C1 : Hid (Below w.heap.size w wr) := zaa (W.out.trans (HB.out.mono (by have := A7.out; have := W.out.size; omega)))
    have K : Hid ((bdy (cs.take j)).length = an) := zaa (by
     obtain ⟨a, c, e⟩ := zbr HA.out
     injection e with _ e2 _
     exact e2.symm)
    have S3 : an + 8 ≤ 65536 := by have := B3.out j; rw [K.out] at this; exact this
    have anI : (an : Int) ≤ 65536 := zq
    by_cases A2 : j < cn
    ·have B4 : (j : Int) < (cn : Int) := zq
     obtain ⟨b, off, c, ka, kc, va, vc, rfl, hb, D, c0, c1, c2, c3, c4, U, A3⟩ := (HS.out.on C1.out).item j A2
     have hm := may_nums6 (I0.out c (List.mem_of_getElem? D)) F6
     have C2 := zaa (rbytes6_any c ka va kc vc wr U A3 hm.1 hm.2)
     have M := zaa (bdy_snoc6 cs j c D)
     have C := B3.out (j + 1)
     rw [M.out, zG, K.out] at C
     have L1 : Hid (Wf (cB c)) := zaa (cB_wf (J1.out c (List.mem_of_getElem? D)))
     have G := zaa C
     obtain ⟨Q, hQ⟩ : ∃ Q, bdy (cs.take j) = Q := ⟨_, rfl⟩
     rw [hQ] at HA M K
     clear U A3 hm D C hQ
     go_wp2_with (go_at_call 98; refine C2.out.mono ?_; rintro e x3 ⟨v3, rfl, X, O⟩; refine Hid.out ?_)
     apply zaa
     obtain ⟨R, hR⟩ : ∃ R, cB c = R := ⟨_, rfl⟩
     rw [hR] at X M G L1
     obtain ⟨yo, yc, E⟩ := zbr X.out
     subst E
     obtain ⟨rn, A6⟩ : ∃ rn, R.length = rn := ⟨_, rfl⟩
     rw [A6] at X G ⊢
     have O5 := zaa A6
     have E8 : Hid (Below B1 w2 x3) := zaa (zae HB.out I.out O.out)
     have D3 : B1 ≤ x3.heap.size := zN F O.out.size
     have P : Hid (OwnB x3 B1 v5 L) := zaa (HO.out.on Lr O.out)
     have A8 : Hid (OwnB x3 B1 (.slice ao an ac) Q) := zaa (HA.out.on Lr O.out)
     have I3 : Hid (Sl x3 yo rn yc R) := zaa (own_sl6 X.out L1.out (by rw [O5.out]; have := G.out; omega))
     have I4 : Far yo rn (.slice ao an ac) := apt_far (Apt.symm (apt_new HA.out X.out Lr))
     have M9 := zaa I4
     clear C2 X O HO HA HB hR A6 I4 c0 c1 c2 c3 c4
     go_wp2_with (at_builtin; refine zat _ rfl _ _ rfl B1 Q R _ yo rn yc rfl rfl A8.out I3.out (by rw [K.out]; have := G.out; omega) D3 ?_; refine Hid.out ?_)
     apply zaa
     intro v6 w6 L2 E9
     have G5 : Hid (Below B1 w2 w6) := zaa (E8.out.trans (E9.below A8.out D3))
     have F0 : Hid (OwnB w6 B1 v5 L) := zaa (zcx P.out E9 A.out.symm)
     have I5 : Hid (Apt v6 v5) := zaa (Apt.symm (A.out.symm.gr P.out E9))
     have G6 : Hid (OwnB w6 B1 v6 (bdy (cs.take (j + 1)))) := zaa (by rw [M.out]; exact L2)
     obtain ⟨zo, zc, E⟩ := zbr G6.out
     subst E
     obtain ⟨zn, C3⟩ : ∃ zn, (bdy (cs.take (j + 1))).length = zn := ⟨_, rfl⟩
     rw [C3] at G6 I5 ⊢
     clear L2 E9 P A8 I3 E8 D3 A C3 M9
     go_wp2
     go_roundw
     case rel => exact ⟨j + 1, zo, zn, zc, zq, by go_num, rfl, F0, G6, I5, G5⟩
     case measure => simp [RowKit.intOf]; omega
    ·have O6 : j = cn := zq
     subst O6
     have S4 : ¬ (j : Int) < (j : Int) := zq
     have G7 : Hid (cs.take j = cs) := zaa (List.take_of_length_le (by rw [B2.out]; exact Lr))
     rw [G7.out] at HA K
     have L3 : Z = 8 + 2 * j + an := by have := N9.out; rw [K.out] at this; exact this
     obtain ⟨A0, O7⟩ : ∃ A0, N - 4 - an = A0 := ⟨_, rfl⟩
     have I6 : A0 + an + 4 = N := by have := J3.out; omega
     have O8 : (N : Int) - 4 - (an : Int) = (A0 : Int) := zq
     have bA : (A0 : Int) ≤ 65536 := zq
     have O9 := zaa I6
     have P0 := zaa L3
     have G8 : Hid (Wf (bdy cs)) := zaa (bdy_wf6 cs J1.out)
     obtain ⟨Q, hQ⟩ : ∃ Q, bdy cs = Q := ⟨_, rfl⟩
     rw [hQ] at HA K G8
     have L4 := zaa hQ
     clear L3 O7 I6 hQ A2
     go_wp2_with fail
     clear O8
     go_loopw [10, 13, 14] (fun s a i wq => ∃ (t : Nat) (so : Option Addr) (sn sc : Nat), t ≤ j ∧ i = .int .i64 t ∧ a = .int .i64 ((A0 + (bdy (cs.take t)).length : Nat) : Int) ∧ s = .slice so sn sc ∧ Hid (OwnB wq B1 (.slice so sn sc) (L ++ sloB (sts A0 (cs.take t)))) ∧ Hid (OwnB wq B1 (.slice ao an ac) Q) ∧ Hid (Apt (.slice ao an ac) (.slice so sn sc)) ∧ Hid (Below B1 w2 wq)) (fun _ _ i _ => j - (RowKit.intOf i).toNat)
     case atStart =>
      obtain ⟨so, sc, E⟩ := zbr HO.out
      subst E
      rw [G4.out] at HO A ⊢
      exact ⟨0, so, 4, sc, zq, rfl, by simp [bdy], rfl, zaa (by simpa [sts, sloB] using HO.out), HA, A, HB⟩
     case round =>
      clear HO HA A HB F C1
      rename_i wrOld wr
      obtain ⟨t, so, sn, sc, ht, rfl, rfl, rfl, HO, HA, A, HB⟩ := hrel
      have bt : (t : Int) ≤ 65536 := zq
      have F : B1 ≤ wr.heap.size := zN I.out HB.out.size
      have C1 : Hid (Below w.heap.size w wr) := zaa (W.out.trans (HB.out.mono (by have := A7.out; have := W.out.size; omega)))
      have L5 := B3.out t
      by_cases A2 : t < j
      ·have B4 : (t : Int) < (j : Int) := zq
       obtain ⟨b, off, c, ka, kc, va, vc, rfl, hb, D, c0, c1, c2, c3, c4, U, A3⟩ := (HS.out.on C1.out).item t A2
       have hm := may_nums6 (I0.out c (List.mem_of_getElem? D)) F6
       have M := zaa (bdy_snoc6 cs t c D)
       have G9 := zaa (sts_snoc6 cs A0 t c D)
       have C := B3.out (t + 1)
       rw [M.out, zG] at C
       have G := zaa C
       obtain ⟨S, hS⟩ : ∃ S, A0 + (bdy (cs.take t)).length = S := ⟨_, rfl⟩
       have S5 : (S : Int) ≤ 131072 := zq
       have S6 : IntKind.u64.wrap (S : Int) = (S : Int) := by rw [IntKind.wrap_u64]; omega
       rw [hS] at G9 ⊢
       have H0 := zaa hS
       have HF := zaa (fixed6_2 (S : Int) wr zq zq)
       obtain ⟨TT, H1⟩ : ∃ TT, sts A0 (cs.take t) = TT := ⟨_, rfl⟩
       have P1 : Hid (TT.length ≤ 65536) := zaa (by rw [← H1, zak, zJ]; omega)
       rw [H1] at HO G9
       have HM := zaa hm
       have P2 := zaa (And.intro c0 (And.intro c1 (And.intro c2 (And.intro c3 c4))))
       have E1 := zaa U
       have P3 := zaa A3
       have S7 := zaa hb
       have N0 := zaa D
       clear D hm C hS H1 U A3 c0 c1 c2 c3 c4 L5 hb
       go_wp2_with (go_at_call 97; refine HF.out.mono ?_; rintro e x1 ⟨a1, c1, rfl, A9, L6, J⟩; refine Hid.out ?_)
       apply zaa
       have C4 : Hid (Below B1 w2 x1) := zaa (zae HB.out I.out J.out)
       have T : B1 ≤ x1.heap.size := zN F J.out.size
       have B5 : Hid (OwnB x1 B1 (.slice so sn sc) (L ++ sloB TT)) := zaa (HO.out.on Lr J.out)
       have D4 : Hid (OwnB x1 B1 (.slice ao an ac) Q) := zaa (HA.out.on Lr J.out)
       have L7 : Hid (Below wr.heap.size wr x1) := J
       clear HF HO HA A9 J HB
       go_wp2_with (at_builtin; refine zat _ rfl _ _ rfl B1 (L ++ sloB TT) (fB 2 (S : Int)) _ a1 2 c1 rfl rfl B5.out L6.out (by rw [zG, G4.out, zbl]; have := P1.out; omega) T ?_; refine Hid.out ?_)
       apply zaa
       intro v2 x2 H2 B0
       have H3 : Hid (Below B1 w2 x2) := zaa (C4.out.trans (B0.below B5.out T))
       have N1 : B1 ≤ x2.heap.size := zN T B0.grow.size
       have I7 : Hid (OwnB x2 B1 (.slice ao an ac) Q) := zaa (zcx D4.out B0 A.out)
       have B6 : Hid (Apt (.slice ao an ac) v2) := zaa (A.out.gr D4.out B0)
       have F1 : Hid (OwnB x2 B1 v2 (L ++ sloB (TT ++ [S]))) := zaa (by rw [sloB_snoc6]; first | exact H2 | (rw [← zM]; exact H2))
       have P4 : Hid (Below B1 wr x2) := zaa ((L7.out.mono F).trans (B0.below B5.out T))
       have P6 : Hid (Below w.heap.size w x2) := zaa (W.out.trans (H3.out.mono (by have := A7.out; have := W.out.size; omega)))
       have P7 := (HS.out.on P6.out).item t A2
       obtain ⟨b', off', c', ka', kc', va', vc', A5, hb', A1, e0, e1, e2, e3, e4, hk', hv'⟩ := P7
       injection A5 with A5
       injection A5 with J A4
       subst J A4
       have P8 : c' = c := by
        rw [N0.out] at A1
        injection A1 with h
        exact h.symm
       subst P8
       have hm := HM.out
       have C2 := zaa (rbytes6_any c' ka' va' kc' vc' x2 hk' hv' hm.1 hm.2)
       clear B5 D4 C4 T H2 B0 A L6 P2 E1 P3 hk' hv' hm A1 hb' L7 P4
       go_wp2_with (go_at_call 98; refine C2.out.mono ?_; rintro e x3 ⟨v3, rfl, X, O⟩; refine Hid.out ?_)
       apply zaa
       obtain ⟨yo, yc, E⟩ := zbr X.out
       subst E
       obtain ⟨rn, A6⟩ : ∃ rn, (cB c').length = rn := ⟨_, rfl⟩
       have E8 : Hid (Below B1 w2 x3) := zaa (zae H3.out I.out O.out)
       have P : Hid (OwnB x3 B1 v2 (L ++ sloB (sts A0 (cs.take (t + 1))))) := zaa (by rw [G9.out]; exact F1.out.on Lr O.out)
       have A8 : Hid (OwnB x3 B1 (.slice ao an ac) Q) := zaa (I7.out.on Lr O.out)
       have Q0 : Hid (S + rn = A0 + (bdy (cs.take (t + 1))).length) := zaa (by rw [M.out, zG, A6, ← H0.out]; omega)
       have brn : (rn : Int) ≤ 65536 := by have := G.out; omega
       obtain ⟨zo, zc, E⟩ := zbr P.out
       subst E
       obtain ⟨zn, C3⟩ : ∃ zn, (L ++ sloB (sts A0 (cs.take (t + 1)))).length = zn := ⟨_, rfl⟩
       rw [C3] at P B6 ⊢
       rw [A6]
       clear C2 X O H3 I7 F1 N1 A6 C3 e0 e1 e2 e3 e4
       go_wp2
       go_roundw
       case rel => exact ⟨t + 1, zo, zn, zc, zq, by go_num, by rw [← Q0.out]; go_num, rfl, P, A8, B6, E8⟩
       case measure => simp [RowKit.intOf]; omega
      ·have Q1 : t = j := zq
       subst Q1
       have S9 : ¬ (t : Int) < (t : Int) := zq
       rw [G7.out] at HO ⊢
       obtain ⟨Y0, C6⟩ : ∃ Y0, L ++ sloB (sts A0 cs) = Y0 := ⟨_, rfl⟩
       rw [C6] at HO
       have H4 : Hid (Y0.length = 4 + 2 * t) := zaa (by rw [← C6, zG, G4.out, zbl, zak, B2.out])
       have N2 : Hid (Wf Y0) := zaa (by rw [← C6]; exact O4.out.append (sloB_wf _))
       have N3 := zaa C6
       have M : Hid (sn = 4 + 2 * t) := zaa (by
        obtain ⟨a, c, e⟩ := zbr HO.out
        injection e with _ e2 _
        rw [e2, H4.out])
       obtain ⟨s0, L8⟩ : ∃ s0, 4 + 2 * t = s0 := ⟨_, rfl⟩
       rw [L8] at H4 M
       have Q2 := M.out
       subst Q2
       obtain ⟨pad, I8⟩ : ∃ pad, N - Z = pad := ⟨_, rfl⟩
       have L9 : sn + pad + an + 4 = N := by have := P0.out; have := J3.out; omega
       have H5 := zaa L9
       have Q3 : Hid (Y0 ++ zs pad ++ Q = pgH k N cs) := zaa (by
        rw [← N3.out, ← O3.out, ← L4.out]
        unfold pgH
        rw [B2.out, F3.out, N8.out, I8, show N - 4 - (bdy cs).length = A0 from by rw [L4.out, K.out]; have := O9.out; omega]
        simp only [zM])
       have bs0 : (sn : Int) ≤ 65536 := zq
       clear C6 L8 I8 L9 L5 G7
       go_wp2_with fail
       go_loopw [15] (fun v wq => ∃ (u : Nat) (vo : Option Addr) (vc : Nat), u ≤ pad ∧ v = .slice vo (sn + u) vc ∧ Hid (OwnB wq B1 (.slice vo (sn + u) vc) (Y0 ++ zs u)) ∧ Hid (OwnB wq B1 (.slice ao an ac) Q) ∧ Hid (Apt (.slice ao an ac) (.slice vo (sn + u) vc)) ∧ Hid (Below B1 w2 wq)) (fun v _ => N - lnOf6 v)
       case atStart => exact ⟨0, so, sc, zq, rfl, zaa (by simpa [zs] using HO.out), HA, A, HB⟩
       case round =>
        clear HO HA A HB F C1
        rename_i wrOld2 wr
        obtain ⟨u, vo, vc, hu, rfl, HO, HA, A, HB⟩ := hrel
        have F : B1 ≤ wr.heap.size := zN I.out HB.out.size
        obtain ⟨q, hq⟩ : ∃ q, sn + u = q := ⟨_, rfl⟩
        have C7 : Hid ((Y0 ++ zs u).length = q) := zaa (by rw [zG, H4.out, zbc, hq])
        obtain ⟨Y, hY⟩ : ∃ Y, Y0 ++ zs u = Y := ⟨_, rfl⟩
        have M0 := zaa hY
        have Q4 : Hid (Wf Y) := zaa (by rw [← hY]; exact N2.out.append (zs_wf u))
        rw [hY] at C7 HO
        rw [hq] at HO A ⊢
        have N4 := zaa hq
        have T0 : q + an + 4 ≤ N := by have := H5.out; omega
        have T1 : (q : Int) ≤ 65536 := zq
        clear hY
        by_cases A2 : u < pad
        ·have B4 : (q : Int) + (an : Int) < (N : Int) - 4 := by have := H5.out; omega
         obtain ⟨x, hx⟩ : ∃ x, wr.alloc (.cells #[.int .u8 0] 5) = x := ⟨_, rfl⟩
         have C8 : Below wr.heap.size wr x := by rw [← hx]; exact zab Br Lr _
         have M1 : Hid (Sl x (some ⟨wr.heap.size, 0, none⟩) 1 1 [0]) := zaa (by rw [← hx]; exact one_sl6 wr 0 zq)
         have H6 := zaa (HO.out.on Lr C8)
         have M2 := zaa (HA.out.on Lr C8)
         have M3 : B1 ≤ x.heap.size := zN F C8.size
         have Q6 := zaa (zae HB.out I.out C8)
         have Q7 : q + 1 ≤ 140737488355328 := zq
         clear C8 hq
         go_wp2_with (at_builtin; refine zat _ rfl _ _ rfl B1 Y [0] _ (some ⟨wr.heap.size, 0, none⟩) 1 1 rfl rfl H6.out M1.out (by rw [C7.out]; exact Q7) M3 ?_; refine Hid.out ?_)
         apply zaa
         intro v' w' ho hg
         have E2 : Hid (Below B1 w2 w') := zaa (Q6.out.trans (hg.below H6.out M3))
         have Q8 : Hid (OwnB w' B1 (.slice ao an ac) Q) := zaa (zcx M2.out hg A.out)
         have H7 := A.out.gr M2.out hg
         obtain ⟨vo2, vc2, E⟩ := zbr ho
         subst E
         have C : (Y ++ [0]).length = q + 1 := by rw [zG, C7.out]; rfl
         rw [C] at ho H7 ⊢
         have H8 : Hid (q + 1 = sn + (u + 1)) := zaa (by have := N4.out; omega)
         have F1 : Hid (OwnB w' B1 (.slice vo2 (sn + (u + 1)) vc2) (Y0 ++ zs (u + 1))) := zaa (by
          rw [← H8.out, show zs (u + 1) = zs u ++ [0] from zs_add u 1, ← zM, M0.out]
          exact ho)
         have B6 : Hid (Apt (.slice ao an ac) (.slice vo2 (sn + (u + 1)) vc2)) := zaa (by rw [← H8.out]; exact H7)
         clear ho hg hx H6 M1 C H7
         go_wp2
         go_roundw
         case rel => exact ⟨u + 1, vo2, vc2, zq, by rw [H8.out], F1, Q8, B6, E2⟩
         case measure => simp [lnOf6]; omega
        ·have B4 : ¬ (q : Int) + (an : Int) < (N : Int) - 4 := by have := H5.out; omega
         have M4 : Hid (Sl wr ao an ac Q) := zaa (own_sl6 HA.out G8.out (by rw [K.out]; omega))
         have I9 : Hid (Y ++ Q = pgH k N cs) := zaa (by rw [← M0.out, ← Q3.out, show u = pad from by omega])
         clear hq
         go_wp2_with (at_builtin; refine zat _ rfl _ _ rfl B1 Y Q _ ao an ac rfl rfl HO.out M4.out (by rw [C7.out]; omega) F ?_; refine Hid.out ?_)
         apply zaa
         intro v' x1 ho hg
         have C4 : Hid (Below B1 w2 x1) := zaa (HB.out.trans (hg.below HO.out F))
         have T : B1 ≤ x1.heap.size := zN F hg.grow.size
         obtain ⟨vo2, vc2, E⟩ := zbr ho
         subst E
         have C : (Y ++ Q).length = q + an := by rw [zG, C7.out, K.out]
         rw [C] at ho ⊢
         have G := zaa C
         have D5 : Hid (Wf (Y ++ Q)) := zaa (Q4.out.append G8.out)
         obtain ⟨H, hH⟩ : ∃ H, Y ++ Q = H := ⟨_, rfl⟩
         rw [hH] at ho G D5 I9
         have A9 := zaa ho
         obtain ⟨hn, M5⟩ : ∃ hn, q + an = hn := ⟨_, rfl⟩
         rw [M5] at A9 G ⊢
         have T2 : hn + 4 ≤ 65536 := zq
         have J0 : Hid (Sl x1 vo2 hn vc2 H) := zaa (own_sl6 A9.out D5.out (by rw [G.out]; omega))
         have D7 := zaa (rSumOf_any vo2 hn vc2 H x1 J0.out)
         have N5 := sumN_lt H D5.out
         obtain ⟨SN, hS⟩ : ∃ SN, sumN [H] = SN := ⟨_, rfl⟩
         rw [hS] at N5 D7
         have H0 := zaa hS
         have T3 : IntKind.u64.wrap ((SN : Nat) : Int) = (SN : Int) := by rw [IntKind.wrap_u64]; omega
         have C0 := zaa (fixed6_4 (SN : Int) x1 zq zq)
         clear hS J0 ho hg C hH M5 HO HA A HB M4
         go_wp2_with (first
          | (go_at_call 99; refine zad D7.out ?_)
          | (go_at_call 97; refine C0.out.mono ?_; rintro e w6 ⟨fo3, fc3, rfl, T4, R0, H9⟩; refine Hid.out ?_))
         apply zaa
         have G5 := zaa (zae C4.out I.out H9.out)
         have F0 := zaa (A9.out.on Lr H9.out)
         have M6 : B1 ≤ w6.heap.size := zN T H9.out.size
         clear C0 D7 A9 C4
         go_wp2_with (at_builtin; refine zat _ rfl _ _ rfl B1 H (fB 4 (SN : Int)) _ fo3 4 fc3 rfl rfl F0.out R0.out (by rw [G.out]; omega) M6 ?_; refine Hid.out ?_)
         apply zaa
         intro v7 w7 M7 M8
         have R1 : Hid (Below B1 w2 w7) := zaa (G5.out.trans (M8.below F0.out M6))
         have R2 : Hid (OwnB w7 w.heap.size v7 (pgB k N cs)) := zaa (by
          unfold pgB sealB
          rw [← I9.out, H0.out]
          exact M7.low (by have := A7.out; have := W.out.size; omega))
         have R3 : Hid (Below w.heap.size w w7) := zaa (W.out.trans (R1.out.mono (by have := A7.out; have := W.out.size; omega)))
         clear M7 M8
         go_wp2
         go_ret2
         exact ⟨v7, rfl, R2, R3⟩
theorem sloB_app (a b : List Nat) : sloB (a ++ b) = sloB a ++ sloB b := by simp [sloB]
theorem enc_is6 {k : Int} {n : Nat} {cs : List Cl} {b : List Int} (h : encE k n cs = 0) (e : pgB k n cs = b) : Is k n cs b := by
 unfold encE at h
 by_cases h1 : isKd k ∧ pw (n : Int)
 ·rw [if_pos h1] at h
  by_cases h2 : chk k n none cs = 0
  ·rw [if_pos h2] at h
   by_cases h3 : (n : Int) < szN cs
   ·rw [if_pos h3] at h; cases h
   ·exact ⟨h1.1, h1.2, h2, zq, e⟩
  ·rw [if_neg h2] at h; exact absurd h h2
 ·rw [if_neg h1] at h; cases h
theorem Is.enc6 {k : Int} {n : Nat} {cs : List Cl} {b : List Int} (h : Is k n cs b) : encE k n cs = 0 := by
 unfold encE
 have := h.fit
 rw [if_pos ⟨h.kd, h.sz⟩, if_pos h.ok, if_neg zq]
theorem Is.slots {k : Int} {n : Nat} {cs : List Cl} {b : List Int} (h : Is k n cs b) : rdN b 2 2 = cs.length ∧ b.length = n ∧ ∀ (t : Nat) (c : Cl), cs[t]? = some c → 4 + 2 * t + 2 ≤ n ∧ ∃ s : Nat, rdN b (4 + 2 * t) 2 = s ∧ s ≤ n ∧ ∃ r, zaj (b.drop s) = some (c, r) := by
 obtain ⟨h1, h2, h3, h4, h5⟩ := h
 have hp := zas h2
 have hz := zaw cs
 have G : b.length = n := by rw [← h5, zdj k n cs h4]
 obtain ⟨U, hU, A⟩ := pgB_split k n cs
 rw [h5] at A
 refine ⟨?_, G, fun t c ht => ?_⟩
 ·rw [A, zco [k, 1] (fB 2 cs.length) _ 2 2 rfl (zah _ _)]
  exact zci 2 _ zq zq
 ·obtain ⟨C, e⟩ := zH.1 ht
  have H : bdy cs = bdy (cs.take t) ++ (cB c ++ bdy (cs.drop (t + 1))) := by
   rw [← zbo, ← e, ← List.drop_eq_getElem_cons C, ← zbe, List.take_append_drop]
  obtain ⟨B, hB⟩ : ∃ B, n - 4 - (bdy cs).length = B := ⟨_, rfl⟩
  rw [hB] at A
  have J : (bdy (cs.take t)).length ≤ (bdy cs).length := bdy_le6 cs t
  have D := zcb B t cs C
  obtain ⟨s, hs⟩ : ∃ s, B + (bdy (cs.take t)).length = s := ⟨_, rfl⟩
  rw [hs] at D
  have I : (sts B cs)[t]? = some s := by
   have hl : t < (sts B cs).length := by rw [zak]; exact C
   rw [zI hl]
   rw [List.getD, zI hl] at D
   simpa using D
  have E : sts B cs = (sts B cs).take t ++ (s :: (sts B cs).drop (t + 1)) := by
   obtain ⟨hl, e2⟩ := zH.1 I
   rw [← e2, ← List.drop_eq_getElem_cons hl, List.take_append_drop]
  have F : sloB (sts B cs) = sloB ((sts B cs).take t) ++ (fB 2 (s : Int) ++ sloB ((sts B cs).drop (t + 1))) := by
   conv => lhs; rw [E]
   rw [sloB_app]
   rfl
  refine ⟨zq, s, ?_, zq, bdy (cs.drop (t + 1)) ++ U, ?_⟩
  ·have e3 : b = ([k, 1] ++ (fB 2 cs.length ++ sloB ((sts B cs).take t))) ++ (fB 2 (s : Int) ++ (sloB ((sts B cs).drop (t + 1)) ++ (zs (n - szN cs) ++ (bdy cs ++ U)))) := by
    rw [A, F]
    simp only [zM]
   rw [e3, zco _ (fB 2 (s : Int)) _ (4 + 2 * t) 2 (by simp only [zG, List.length_cons, List.length_nil, zah, zbl, zJ, zak]; omega) (zah _ _)]
   exact zci 2 _ zq zq
  ·have e4 : b = (([k, 1] ++ (fB 2 cs.length ++ (sloB (sts B cs) ++ zs (n - szN cs)))) ++ bdy (cs.take t)) ++ (cB c ++ (bdy (cs.drop (t + 1)) ++ U)) := by
    rw [A]
    conv => lhs; rw [H]
    simp only [zM]
   rw [e4, List.drop_left' (by simp only [zG, List.length_cons, List.length_nil, zah, zbl, zak, zbc]; omega)]
   exact pCell_mid c _ ((chk_all6 k n none cs h3 c (List.mem_of_getElem? ht)).fit zq)
def rF (l : List Int) (p x : Int) : Int × Int := if (x < 1 ∨ 8 < x) ∨ (p < 0 ∨ l.length < p) then (0, 1) else if (l.length : Int) - p < x then (0, 10) else (rdB ((l.drop p.toNat).take x.toNat), 0)
theorem zdt (ao : Option Addr) (n cap : Nat) (l : List Int) (p' x : Int) (w : World) (hs : Sl w ao n cap l) :
  Calls Tryz.prog 56 #[.slice ao n cap, .int .i64 p', .int .i64 x] w fun e w' => e = .returned (.tuple #[.int .u64 (rF l p' x).1, .int .i64 (rF l p' x).2]) ∧ w' = w := by
 obtain ⟨A, H, G, D, I, E⟩ := hs
 unfold rF
 by_cases h : (x < 1 ∨ 8 < x) ∨ (p' < 0 ∨ l.length < p')
 ·rw [if_pos h]
  rw [A] at h
  rcases h with (h | h) | (h | h)
  ·go_enter Tryz.func56, Tryz.ntmps56
   go_wp2
   go_ret2
   exact ⟨rfl, rfl⟩
  ·have h' : ¬ x < 1 := zq
   go_enter Tryz.func56, Tryz.ntmps56
   go_wp2
   go_ret2
   exact ⟨rfl, rfl⟩
  ·by_cases h1 : x < 1
   ·go_enter Tryz.func56, Tryz.ntmps56
    go_wp2
    go_ret2
    exact ⟨rfl, rfl⟩
   ·by_cases h8 : 8 < x
    all_goals
     go_enter Tryz.func56, Tryz.ntmps56
     go_wp2
     go_ret2
     exact ⟨rfl, rfl⟩
  ·by_cases h1 : x < 1
   ·go_enter Tryz.func56, Tryz.ntmps56
    go_wp2
    go_ret2
    exact ⟨rfl, rfl⟩
   ·have J : ¬ p' < 0 := zq
    by_cases h8 : 8 < x
    all_goals
     go_enter Tryz.func56, Tryz.ntmps56
     go_wp2
     go_ret2
     exact ⟨rfl, rfl⟩
 ·rw [if_neg h]
  rw [A] at h ⊢
  have h1 : 1 ≤ x := zq
  have h2 : x ≤ 8 := zq
  have h3 : 0 ≤ p' := zq
  have h4 : p' ≤ n := zq
  clear h
  by_cases h5 : (n : Int) - p' < x
  ·rw [if_pos h5]
   go_enter Tryz.func56, Tryz.ntmps56
   go_wp2
   go_ret2
   exact ⟨rfl, rfl⟩
  ·rw [if_neg h5]
   obtain ⟨width, rfl⟩ := Int.eq_ofNat_of_zero_le (show 0 ≤ x by omega)
   obtain ⟨p, rfl⟩ := Int.eq_ofNat_of_zero_le h3
   rw [Int.toNat_natCast, Int.toNat_natCast]
   rcases E with h | ⟨b, off, rfl, hb, hc⟩
   ·omega
   have hd : ((l.drop p).take width).length = width := by simp; omega
   have B : Wf ((l.drop p).take width) := (D.drop p).take width
   go_enter Tryz.func56, Tryz.ntmps56
   go_wp2_with fail
   go_loop [8, 9] (fun v i => ∃ k : Nat, k ≤ width ∧ i = .int .i64 ((p : Int) + k) ∧ v = .int .u64 (rdB (((l.drop p).take width).take k))) (fun _ i => ((p : Int) + width - intOf i).toNat)
   case atStart => exact ⟨0, zq, zv, by simp [rdB]⟩
   case round =>
    obtain ⟨k, hk, rfl, rfl⟩ := hrel
    by_cases F : k < width
    ·have K : w.cell? ⟨b, off + (p + k), none⟩ = some (.int .u8 (((l.drop p).take width).getD k 0)) := by
      rw [hc (p + k) zq]
      simp [List.getD, F]
     have L := B.getD k
     have M := rdB_small _ (B.take k) k zq zso
     have C : rdB (((l.drop p).take width).take (k + 1)) = rdB (((l.drop p).take width).take k) * 256 + ((l.drop p).take width).getD k 0 := by
      rw [take_snoc _ k zq, rdB_snoc]
     generalize ((l.drop p).take width).getD k 0 = c at *
     generalize rdB (((l.drop p).take width).take k) = m at *
     have HS := zaa C
     clear C hc
     go_wp2
     go_round
     case rel => exact ⟨k + 1, zq, by go_num, by rw [HS.out, Int.mul_comm m 256]⟩
     case measure => simp [intOf]; omega
    ·obtain rfl : k = width := zq
     have ht : ((l.drop p).take k).take k = (l.drop p).take k := List.take_of_length_le zq
     go_wp2
     go_ret2
     exact ⟨rfl, rfl⟩
theorem rnumb6_any (ao : Option Addr) (n cap : Nat) (l : List Int) (p d : Int) (w : World) (hs : Sl w ao n cap l) (hp : 0 ≤ p) (hd : p + d ≤ n) (h : d = 2 ∨ d = 4) :
  Calls Tryz.prog 52 #[.slice ao n cap, .int .i64 p, .int .i64 d] w fun e w' => e = .returned (.int .i64 (rdN l p.toNat d.toNat)) ∧ w' = w := by
 have HR := zaa (zdt ao n cap l p d w hs)
 have hl := hs.hlen
 have e : rF l p d = (rdN l p.toNat d.toNat, 0) := by
  unfold rF
  rw [if_neg zq, if_neg zq]
  rfl
 have hb := zbk l hs.wf p.toNat d.toNat
 have h4 : rdN l p.toNat d.toNat < 4294967296 := by
  rcases h with rfl | rfl
  ·have := hb.2
   simp at this ⊢
   omega
  ·have := hb.2
   simp at this ⊢
   omega
 have h0 := hb.1
 rw [e] at HR
 generalize rdN l p.toNat d.toNat = v at *
 simp only at HR
 clear hs hl e hb
 go_enter Tryz.func52, Tryz.ntmps52
 go_wp2_with (go_at_call 56; refine HR.out.mono ?_; rintro e w1 ⟨rfl, rfl⟩)
 go_ret
 exact ⟨rfl, rfl⟩
theorem zcy {P : Program} {fn : Func} {p u : Tmp} {ty : TypeId} (h : fn.results = #[.cell p ty, .tmp u]) (tmps : Array Value) (w : World) (g : Nat) (t : TypeId) (cs : Array Value) (fr : Nat × Nat) (d : TypeDesc) (v : Value)
  (hp : tmps.getD p undef = .pointer (some ⟨g, 0, none⟩)) (hv : tmps.getD u undef = v) (hg : w.heap[g]? = some (.cells cs t fr))
  (hu : P.underlying ty = some d) (hd : (match d with | .struct _ | .array _ _ => true | _ => false) = true) (hi : (P.info? ty).map (·.size) = some cs.size) :
  (results fn tmps).run P w = .ok (.tuple #[.agg cs, v]) w := by
 subst hv
 rw [results_cell_tmp h, hp]
 simp [asAddr, run_loadVar_row w g t ty cs fr d hg hu hd hi, Result.andThen]
end Go.Proofs.YtbkhjeacmmbabaaGreatDoor
