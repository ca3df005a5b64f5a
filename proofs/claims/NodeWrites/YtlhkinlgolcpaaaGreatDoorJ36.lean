import Derived.Test.YtlhkinlgolcpaaaGreatDoorJ30
namespace Go.Proofs.YtlhkinlgolcpaaaGreatDoor
set_option maxRecDepth 100000
open Go.RowKit
theorem two_wf6 {k : Int} (_h : isKd k) (e : k % 256 = k) : Wf [k % 256, 1] := by
 intro x hx
 simp only [List.mem_cons, List.not_mem_nil, or_false] at hx
 rw [e] at hx
 unfold isKd at _h
 omega
theorem own_two6 (w : World) (x y : Int) : OwnB (w.alloc (.cells #[.int .u8 x, .int .u8 y] 5)) w.heap.size (.slice (some ⟨w.heap.size, 0, none⟩) 2 2) [x, y] :=
 own_of_heap (l := [x, y]) (heap_alloc_last w _) (Nat.le_refl _) (by unfold maxLen; simp)
set_option maxHeartbeats 16000000 in
theorem rencode6_yes (k : Int) (N : Nat) (co : Option Addr) (cn cc : Nat) (cs : List Cl) (w : World) (hs : SlC w co cn cc cs) (hcn : cn ≤ 900000) (he : encE k N cs = 0) :
  Calls Tryz.prog 35 #[.int .i64 k, .slice co cn cc, .int .i64 (N : Int)] w fun e w' => ∃ v, e = .returned (.tuple #[v, .int .i64 0]) ∧ Hid (OwnB w' w.heap.size v (pgB k N cs)) ∧ Hid (Below w.heap.size w w') := by
 have HS := hidden hs
 have HLEN := hidden hs.hlen
 have HWF := hidden hs.wf
 have HSZ := hidden (rIsPage6_any (N : Int) w)
 have HIK := hidden (rIsKind6_any k w)
 have hkn : isKd k ∧ pw (N : Int) := by
  unfold encE at he
  by_cases h : isKd k ∧ pw (N : Int)
  ·exact h
  ·rw [if_neg h] at he; cases he
 have hkd := hkn.1
 have hn := hkn.2
 have hpn := pw_le hn
 have HC0 : Hid (chk k N none cs = 0) := hidden (by
  unfold encE at he
  rw [if_pos hkn] at he
  by_cases h : chk k N none cs = 0
  ·exact h
  ·rw [if_neg h] at he; exact absurd he h)
 have hfit0 : szN cs ≤ N := by
  unfold encE at he
  rw [if_pos hkn, if_pos HC0.out] at he
  by_cases h : (N : Int) < szN cs
  ·rw [if_pos h] at he; cases he
  ·omega
 have hN1 : (N : Int) ≤ 65536 := hpn.2
 have hN2 : 512 ≤ N := by omega
 have hN3 : 512 ≤ (N : Int) := by omega
 have HMAY : Hid (∀ c ∈ cs, mayP k N c) := hidden (chk_all6 k N none cs HC0.out)
 rw [show decide (pw (N : Int)) = true from by simpa using hn] at HSZ
 rw [show decide (isKd k) = true from by simpa using hkd] at HIK
 have HKD := hidden hkd
 have hk256 : k % 256 = k := by unfold isKd at hkd; omega
 have HK256 := hidden hk256
 have hu8 : IntKind.u8.wrap k = k % 256 := IntKind.wrap_u8 k
 have hse := szN_eq cs
 rw [HLEN.out] at hse
 obtain ⟨Z, hZ⟩ : ∃ Z : Nat, szN cs = Z := ⟨_, rfl⟩
 rw [hZ] at hse hfit0
 have HZS := hidden (fun u h => rsize6_any k co cn cc cs u h (by omega))
 rw [hZ] at HZS
 have HZE := hidden hZ
 have HSE := hidden hse
 have bcn : cn ≤ 65536 := by omega
 have bcI : (cn : Int) ≤ 65536 := by omega
 have hZN : ¬ (N : Int) < (Z : Int) := by omega
 have hZb : (Z : Int) ≤ 65536 := by omega
 have HZN := hidden hfit0
 have HBDL : Hid (∀ j, (bdy (cs.take j)).length + 8 ≤ 65536) := hidden (fun j => by have := bdy_le6 cs j; omega)
 have hcw : IntKind.u64.wrap (cn : Int) = (cn : Int) := by rw [IntKind.wrap_u64]; omega
 clear hn hpn hkd hs he hk256 hse hZ hfit0 hkn
 go_enter Tryz.func35, Tryz.ntmps35
 go_wp2_with (first
  | (go_at_call 66; refine same_call HSZ.out ?_)
  | (go_at_call 67; refine same_call HIK.out ?_))
 clear HSZ HIK
 go_loopw [9] (fun i wr => ∃ j : Nat, j ≤ cn ∧ i = .int .i64 j ∧ Hid (chk k N (prv (cs.take j)) (cs.drop j) = 0) ∧ Hid (Below w.heap.size w wr)) (fun i _ => cn - (RowKit.intOf i).toNat)
 case atStart => exact ⟨0, by omega, rfl, hidden (by simpa [prv] using HC0.out), hidden (Below.refl _ _)⟩
 case round =>
  obtain ⟨j, hj, rfl, HC, HBW⟩ := hrel
  have bj : (j : Int) ≤ 900000 := by omega
  by_cases hlt : j < cn
  ·have hltI : (j : Int) < (cn : Int) := by omega
   obtain ⟨b, off, c, ka, kc, va, vc, rfl, hb, hci, c0, c1, c2, c3, c4, hkS, hvS⟩ := (HS.out.on HBW.out).item j hlt
   have hcs := chk_step k N cs j c hci
   rw [HC.out] at hcs
   have hmp : mayP k N c := by
    by_cases h : mayP k N c
    ·exact h
    ·rw [if_neg h] at hcs; cases hcs
   rw [if_pos hmp] at hcs
   have hah : ahead (prv (cs.take j)) c.key := by
    by_cases h : ahead (prv (cs.take j)) c.key
    ·exact h
    ·rw [if_neg h] at hcs; cases hcs
   rw [if_pos hah] at hcs
   have HCS := hidden hcs.symm
   have HAH := hidden hah
   have HKS := hidden hkS
   have HMB := hidden (rmay6_any k (N : Int) c ka va kc vc wr hN3 hN1 hkS.hroom hvS.hroom)
   rw [show decide (mayP k N c) = true from by simpa using hmp] at HMB
   clear hci hkS hvS hcs hah hmp
   go_wp2_with (first | (go_at_call 68; refine HMB.out.mono ?_; rintro e w2 ⟨rfl, hb2⟩; have HBR := hidden hb2; have HBW2 := hidden (bl_go HBW.out (Nat.le_refl _) hb2); clear hb2; refine Hid.out ?_))
   apply hidden
   have d0 := (HBR.out.cell (p := ⟨b, off + j * 5, none⟩) hb).trans c0
   clear c0 c1 c2 c3 c4 HMB
   by_cases hj0 : j = 0
   ·subst hj0
    have hj0d : decide ((0 : Int) < ((0 : Nat) : Int)) = false := by decide
    go_wp2_with fail
    go_quiet (fail)
    go_wp2
    go_roundw
    case rel => exact ⟨1, by omega, by go_num, HCS, hidden (bl_dr HBW2.out _)⟩
    case measure => simp [RowKit.intOf]; omega
   ·obtain ⟨i, hij⟩ : ∃ i, j = i + 1 := ⟨j - 1, by omega⟩
    obtain ⟨b', off', c', ka', kc', va', vc', hbo, hb', hci', e0, e1, e2, e3, e4, hk', hv'⟩ := (HS.out.on HBW2.out).item i (by omega)
    injection hbo with hbo
    injection hbo with hb1 hb2
    subst hb1 hb2
    have hprv : prv (cs.take j) = some c'.key := by rw [hij, List.take_add_one, hci']; simp [prv]
    have hkl : decide (kl c'.key c.key) = true := by
     have := HAH.out
     rw [hprv] at this
     simpa [ahead] using this
    have k3 : ∀ z, (convert 25 9 (.slice ka' c'.key.length kc')).run Tryz.prog (w2.drewN z) = .ok (.string (strOfNums c'.key)) (w2.drewN z) := fun z => conv_sl (hk'.drewN z)
    have k4 : ∀ z, (convert 25 9 (.slice ka c.key.length kc)).run Tryz.prog (w2.drewN z) = .ok (.string (strOfNums c.key)) (w2.drewN z) := fun z => conv_sl ((HKS.out.on (Nat.le_refl _) HBR.out).drewN z)
    have hls : Op.bytesLess (strOfNums c'.key).toList (strOfNums c.key).toList = true := by rw [str_less hk'.wf HKS.out.wf]; exact hkl
    have i1 : (i : Int) < (cn : Int) := by omega
    have i2 : i < cn := by omega
    have i3 : (i : Int) ≤ 900000 := by omega
    have i4 : IntKind.i64.wrap ((j : Int) - 1) = (i : Int) := by rw [IntKind.wrap_i64]; omega
    have i7 : (j : Int) - 1 = (i : Int) := by omega
    have i5 : 0 < (j : Int) := by omega
    have i6 : 0 < j := by omega
    have i8 : decide (0 < j) = true := decide_eq_true i6
    clear hk' hv' hprv hci' e1 e2 e3 e4 hj0 hij hb' hkl
    go_wp2_with fail
    go_quiet (fail)
    go_wp2
    go_roundw
    case rel => exact ⟨j + 1, by omega, by go_num, HCS, hidden (bl_dr HBW2.out _)⟩
    case measure => simp [RowKit.intOf]; omega
  ·have HZR := hidden (HZS.out wr (HS.out.on HBW.out))
   clear HC HC0 HZS hj
   go_wp2_with (first | (go_at_call 69; refine HZR.out.mono ?_; rintro e w2 ⟨rfl, HB2⟩; refine Hid.out ?_))
   apply hidden
   have HW2 := hidden (bl_go HBW.out (Nat.le_refl _) HB2.out)
   clear HZR HB2 HBW
   obtain ⟨B1, hB1⟩ : ∃ B, w2.heap.size = B := ⟨_, rfl⟩
   obtain ⟨y, hy⟩ : ∃ y, w2.alloc (.cells #[.int .u8 (k % 256), .int .u8 1] 5) = y := ⟨_, rfl⟩
   have hB3 : B1 ≤ w2.heap.size := by omega
   have hby : Below B1 w2 y := by rw [← hy, ← hB1]; exact bl_al (Below.refl _ _) (Nat.le_refl _) _
   obtain ⟨L0, hL0⟩ : ∃ L0, ([k % 256, 1] : List Int) = L0 := ⟨_, rfl⟩
   have HOY : Hid (OwnB y B1 (.slice (some ⟨B1, 0, none⟩) 2 2) L0) := hidden (by rw [← hy, ← hB1, ← hL0]; exact own_two6 w2 _ _)
   have HL0 : Hid (L0.length = 2) := hidden (by rw [← hL0]; rfl)
   have HL0E := hidden hL0
   clear hL0
   have HBY := hidden hby
   have hBy : B1 ≤ y.heap.size := by rw [← hB1]; exact hby.size
   have HB3' := hidden hB3
   have HB1E := hidden hB1
   have HF4 := hidden (fixed6_2 (cn : Int) y (by omega) (by omega))
   clear hby
   go_wp2_with (first | (go_at_call 70; refine HF4.out.mono ?_; rintro e w4 ⟨a4, c4, rfl, HO4, HS4, hb4⟩; refine Hid.out ?_))
   apply hidden
   have HB4 := hidden (bl_go HBY.out hB3 hb4.out)
   have hB4 : B1 ≤ w4.heap.size := Nat.le_trans hBy hb4.out.size
   have HOY4 := hidden (HOY.out.on (Nat.le_refl _) hb4.out)
   clear HF4 HO4 hb4 HOY HBY hy
   go_wp2_with (at_builtin; refine app_sl _ rfl _ _ rfl B1 L0 (fB 2 (cn : Int)) _ a4 2 c4 rfl rfl HOY4.out HS4.out (by rw [HL0.out]; omega) hB4 ?_; refine Hid.out ?_)
   apply hidden
   intro v5 w5 ho5 hg5
   have HB5 : Hid (Below B1 w2 w5) := hidden (HB4.out.trans (hg5.below HOY4.out hB4))
   have hB5 : B1 ≤ w5.heap.size := Nat.le_trans hB4 hg5.grow.size
   obtain ⟨L, hL⟩ : ∃ L, L0 ++ fB 2 (cn : Int) = L := ⟨_, rfl⟩
   rw [hL] at ho5
   have HLL : Hid (L.length = 4) := hidden (by rw [← hL, List.length_append, HL0.out, fB_length])
   have HLE : Hid ([k % 256, 1] ++ fB 2 (cn : Int) = L) := hidden (by rw [HL0E.out]; exact hL)
   have HLW : Hid (Wf L) := hidden (by rw [← hL, ← HL0E.out]; exact (two_wf6 HKD.out HK256.out).append (fB_wf _ _))
   have HO5 := hidden ho5
   clear ho5 hg5 HOY4 HS4 HB4 hB4 hL hBy
   go_wp2_with fail
   go_loopw [11, 12] (fun a i wq => ∃ (j : Nat) (ao : Option Addr) (an ac : Nat), j ≤ cn ∧ i = .int .i64 j ∧ a = .slice ao an ac ∧ Hid (OwnB wq B1 v5 L) ∧ Hid (OwnB wq B1 (.slice ao an ac) (bdy (cs.take j))) ∧ Hid (Apt (.slice ao an ac) v5) ∧ Hid (Below B1 w2 wq)) (fun _ i _ => cn - (RowKit.intOf i).toNat)
   case atStart => exact ⟨0, none, 0, 0, by omega, rfl, rfl, HO5, hidden (by simpa [bdy] using OwnB.nil _ _), hidden (.inl rfl), HB5⟩
   case round =>
    clear HO5 HB5 hB5
    obtain ⟨j, ao, an, ac, hj, rfl, rfl, HO, HA, HAP, HB⟩ := hrel
    have bj : (j : Int) ≤ 65536 := by omega
    have hBr : B1 ≤ wr.heap.size := Nat.le_trans HB3'.out HB.out.size
    have HWR : Hid (Below w.heap.size w wr) := hidden (HW2.out.trans (HB.out.mono (by have := HB1E.out; have := HW2.out.size; omega)))
    have HAN : Hid ((bdy (cs.take j)).length = an) := hidden (by
     obtain ⟨a, c, e⟩ := own_slice6 HA.out
     injection e with _ e2 _
     exact e2.symm)
    have han : an + 8 ≤ 65536 := by have := HBDL.out j; rw [HAN.out] at this; exact this
    have anI : (an : Int) ≤ 65536 := by omega
    by_cases hlt : j < cn
    ·have hltI : (j : Int) < (cn : Int) := by omega
     obtain ⟨b, off, c, ka, kc, va, vc, rfl, hb, hci, c0, c1, c2, c3, c4, hkS, hvS⟩ := (HS.out.on HWR.out).item j hlt
     have hm := may_nums6 (HMAY.out c (List.mem_of_getElem? hci)) hN1
     have HBT := hidden (rbytes6_any c ka va kc vc wr hkS hvS hm.1 hm.2)
     have HSN := hidden (bdy_snoc6 cs j c hci)
     have hl2 := HBDL.out (j + 1)
     rw [HSN.out, List.length_append, HAN.out] at hl2
     have HRW : Hid (Wf (cB c)) := hidden (cB_wf (HWF.out c (List.mem_of_getElem? hci)))
     have HL2 := hidden hl2
     obtain ⟨Q, hQ⟩ : ∃ Q, bdy (cs.take j) = Q := ⟨_, rfl⟩
     rw [hQ] at HA HSN HAN
     clear hkS hvS hm hci hl2 hQ
     go_wp2_with (first | (go_at_call 71; refine HBT.out.mono ?_; rintro e x3 ⟨v3, rfl, HO3, HB3⟩; refine Hid.out ?_))
     apply hidden
     obtain ⟨R, hR⟩ : ∃ R, cB c = R := ⟨_, rfl⟩
     rw [hR] at HO3 HSN HL2 HRW
     obtain ⟨yo, yc, hsh⟩ := own_slice6 HO3.out
     subst hsh
     obtain ⟨rn, hrn⟩ : ∃ rn, R.length = rn := ⟨_, rfl⟩
     rw [hrn] at HO3 HL2 ⊢
     have HRN := hidden hrn
     have HX3 : Hid (Below B1 w2 x3) := hidden (bl_go HB.out HB3'.out HB3.out)
     have hBx3 : B1 ≤ x3.heap.size := Nat.le_trans hBr HB3.out.size
     have HOx3 : Hid (OwnB x3 B1 v5 L) := hidden (HO.out.on (Nat.le_refl _) HB3.out)
     have HAx3 : Hid (OwnB x3 B1 (.slice ao an ac) Q) := hidden (HA.out.on (Nat.le_refl _) HB3.out)
     have HSL3 : Hid (Sl x3 yo rn yc R) := hidden (own_sl6 HO3.out HRW.out (by rw [HRN.out]; have := HL2.out; omega))
     have hfar : Far yo rn (.slice ao an ac) := apt_far (Apt.symm (apt_new HA.out HO3.out (Nat.le_refl _)))
     have HFAR := hidden hfar
     clear HBT HO3 HB3 HO HA HB hR hrn hfar c0 c1 c2 c3 c4
     go_wp2_with (at_builtin; refine app_sl _ rfl _ _ rfl B1 Q R _ yo rn yc rfl rfl HAx3.out HSL3.out (by rw [HAN.out]; have := HL2.out; omega) hBx3 ?_; refine Hid.out ?_)
     apply hidden
     intro v6 w6 ho6 hg6
     have HB6 : Hid (Below B1 w2 w6) := hidden (HX3.out.trans (hg6.below HAx3.out hBx3))
     have HO6 : Hid (OwnB w6 B1 v5 L) := hidden (own_keep HOx3.out hg6 HAP.out.symm)
     have HAP6 : Hid (Apt v6 v5) := hidden (Apt.symm (HAP.out.symm.gr HOx3.out hg6))
     have HA6 : Hid (OwnB w6 B1 v6 (bdy (cs.take (j + 1)))) := hidden (by rw [HSN.out]; exact ho6)
     obtain ⟨zo, zc, hsh⟩ := own_slice6 HA6.out
     subst hsh
     obtain ⟨zn, hzn⟩ : ∃ zn, (bdy (cs.take (j + 1))).length = zn := ⟨_, rfl⟩
     rw [hzn] at HA6 HAP6 ⊢
     clear ho6 hg6 HOx3 HAx3 HSL3 HX3 hBx3 HAP hzn HFAR
     go_wp2
     go_roundw
     case rel => exact ⟨j + 1, zo, zn, zc, by omega, by go_num, rfl, HO6, HA6, HAP6, HB6⟩
     case measure => simp [RowKit.intOf]; omega
    ·have hjc : j = cn := by omega
     subst hjc
     have hlI : ¬ (j : Int) < (j : Int) := by omega
     have HTA : Hid (cs.take j = cs) := hidden (List.take_of_length_le (by rw [HLEN.out]; exact Nat.le_refl _))
     rw [HTA.out] at HA HAN
     have hza : Z = 8 + 2 * j + an := by have := HSE.out; rw [HAN.out] at this; exact this
     obtain ⟨A0, hA0⟩ : ∃ A0, N - 4 - an = A0 := ⟨_, rfl⟩
     have hA0N : A0 + an + 4 = N := by have := HZN.out; omega
     have hAI : (N : Int) - 4 - (an : Int) = (A0 : Int) := by omega
     have bA : (A0 : Int) ≤ 65536 := by omega
     have HA0 := hidden hA0N
     have HZA := hidden hza
     have HQW : Hid (Wf (bdy cs)) := hidden (bdy_wf6 cs HWF.out)
     obtain ⟨Q, hQ⟩ : ∃ Q, bdy cs = Q := ⟨_, rfl⟩
     rw [hQ] at HA HAN HQW
     have HQE := hidden hQ
     clear hza hA0 hA0N hQ hlt
     go_wp2_with fail
     clear hAI
     go_loopw [10, 13, 14] (fun s a i wq => ∃ (t : Nat) (so : Option Addr) (sn sc : Nat), t ≤ j ∧ i = .int .i64 t ∧ a = .int .i64 ((A0 + (bdy (cs.take t)).length : Nat) : Int) ∧ s = .slice so sn sc ∧ Hid (OwnB wq B1 (.slice so sn sc) (L ++ sloB (sts A0 (cs.take t)))) ∧ Hid (OwnB wq B1 (.slice ao an ac) Q) ∧ Hid (Apt (.slice ao an ac) (.slice so sn sc)) ∧ Hid (Below B1 w2 wq)) (fun _ _ i _ => j - (RowKit.intOf i).toNat)
     case atStart =>
      obtain ⟨so, sc, hsh⟩ := own_slice6 HO.out
      subst hsh
      rw [HLL.out] at HO HAP ⊢
      exact ⟨0, so, 4, sc, by omega, rfl, by simp [bdy], rfl, hidden (by simpa [sts, sloB] using HO.out), HA, HAP, HB⟩
     case round =>
      clear HO HA HAP HB hBr HWR
      rename_i wrOld wr
      obtain ⟨t, so, sn, sc, ht, rfl, rfl, rfl, HO, HA, HAP, HB⟩ := hrel
      have bt : (t : Int) ≤ 65536 := by omega
      have hBr : B1 ≤ wr.heap.size := Nat.le_trans HB3'.out HB.out.size
      have HWR : Hid (Below w.heap.size w wr) := hidden (HW2.out.trans (HB.out.mono (by have := HB1E.out; have := HW2.out.size; omega)))
      have hbl := HBDL.out t
      by_cases hlt : t < j
      ·have hltI : (t : Int) < (j : Int) := by omega
       obtain ⟨b, off, c, ka, kc, va, vc, rfl, hb, hci, c0, c1, c2, c3, c4, hkS, hvS⟩ := (HS.out.on HWR.out).item t hlt
       have hm := may_nums6 (HMAY.out c (List.mem_of_getElem? hci)) hN1
       have HSN := hidden (bdy_snoc6 cs t c hci)
       have HST := hidden (sts_snoc6 cs A0 t c hci)
       have hl2 := HBDL.out (t + 1)
       rw [HSN.out, List.length_append] at hl2
       have HL2 := hidden hl2
       obtain ⟨S, hS⟩ : ∃ S, A0 + (bdy (cs.take t)).length = S := ⟨_, rfl⟩
       have hS2 : (S : Int) ≤ 131072 := by omega
       have hSw : IntKind.u64.wrap (S : Int) = (S : Int) := by rw [IntKind.wrap_u64]; omega
       rw [hS] at HST ⊢
       have HSS := hidden hS
       have HF := hidden (fixed6_2 (S : Int) wr (by omega) (by omega))
       obtain ⟨TT, hTT⟩ : ∃ TT, sts A0 (cs.take t) = TT := ⟨_, rfl⟩
       have HTL : Hid (TT.length ≤ 65536) := hidden (by rw [← hTT, sts_length, List.length_take]; omega)
       rw [hTT] at HO HST
       have HM := hidden hm
       have HCC := hidden (And.intro c0 (And.intro c1 (And.intro c2 (And.intro c3 c4))))
       have HKS := hidden hkS
       have HVS := hidden hvS
       have HBB := hidden hb
       have HCI6 := hidden hci
       clear hci hm hl2 hS hTT hkS hvS c0 c1 c2 c3 c4 hbl hb
       go_wp2_with (first | (go_at_call 70; refine HF.out.mono ?_; rintro e x1 ⟨a1, c1, rfl, HO1, HS1, hb1⟩; refine Hid.out ?_))
       apply hidden
       have HX1 : Hid (Below B1 w2 x1) := hidden (bl_go HB.out HB3'.out hb1.out)
       have hBx1 : B1 ≤ x1.heap.size := Nat.le_trans hBr hb1.out.size
       have HOx1 : Hid (OwnB x1 B1 (.slice so sn sc) (L ++ sloB TT)) := hidden (HO.out.on (Nat.le_refl _) hb1.out)
       have HAx1 : Hid (OwnB x1 B1 (.slice ao an ac) Q) := hidden (HA.out.on (Nat.le_refl _) hb1.out)
       have HRX : Hid (Below wr.heap.size wr x1) := hb1
       clear HF HO HA HO1 hb1 HB
       go_wp2_with (at_builtin; refine app_sl _ rfl _ _ rfl B1 (L ++ sloB TT) (fB 2 (S : Int)) _ a1 2 c1 rfl rfl HOx1.out HS1.out (by rw [List.length_append, HLL.out, sloB_length]; have := HTL.out; omega) hBx1 ?_; refine Hid.out ?_)
       apply hidden
       intro v2 x2 ho2 hg2
       have HX2 : Hid (Below B1 w2 x2) := hidden (HX1.out.trans (hg2.below HOx1.out hBx1))
       have hBx2 : B1 ≤ x2.heap.size := Nat.le_trans hBx1 hg2.grow.size
       have HAx2 : Hid (OwnB x2 B1 (.slice ao an ac) Q) := hidden (own_keep HAx1.out hg2 HAP.out)
       have HAP2 : Hid (Apt (.slice ao an ac) v2) := hidden (HAP.out.gr HAx1.out hg2)
       have HO2 : Hid (OwnB x2 B1 v2 (L ++ sloB (TT ++ [S]))) := hidden (by rw [sloB_snoc6]; first | exact ho2 | (rw [← List.append_assoc]; exact ho2))
       have HRY : Hid (Below B1 wr x2) := hidden ((HRX.out.mono hBr).trans (hg2.below HOx1.out hBx1))
       have HWX : Hid (Below w.heap.size w x2) := hidden (HW2.out.trans (HX2.out.mono (by have := HB1E.out; have := HW2.out.size; omega)))
       have HIT := (HS.out.on HWX.out).item t hlt
       obtain ⟨b', off', c', ka', kc', va', vc', hbo, hb', hci', e0, e1, e2, e3, e4, hk', hv'⟩ := HIT
       injection hbo with hbo
       injection hbo with hb1 hb2
       subst hb1 hb2
       have hcc : c' = c := by
        rw [HCI6.out] at hci'
        injection hci' with h
        exact h.symm
       subst hcc
       have hm := HM.out
       have HBT := hidden (rbytes6_any c' ka' va' kc' vc' x2 hk' hv' hm.1 hm.2)
       clear HOx1 HAx1 HX1 hBx1 ho2 hg2 HAP HS1 HCC HKS HVS hk' hv' hm hci' hb' HRX HRY
       go_wp2_with (first | (go_at_call 71; refine HBT.out.mono ?_; rintro e x3 ⟨v3, rfl, HO3, HB3⟩; refine Hid.out ?_))
       apply hidden
       obtain ⟨yo, yc, hsh⟩ := own_slice6 HO3.out
       subst hsh
       obtain ⟨rn, hrn⟩ : ∃ rn, (cB c').length = rn := ⟨_, rfl⟩
       have HX3 : Hid (Below B1 w2 x3) := hidden (bl_go HX2.out HB3'.out HB3.out)
       have HOx3 : Hid (OwnB x3 B1 v2 (L ++ sloB (sts A0 (cs.take (t + 1))))) := hidden (by rw [HST.out]; exact HO2.out.on (Nat.le_refl _) HB3.out)
       have HAx3 : Hid (OwnB x3 B1 (.slice ao an ac) Q) := hidden (HAx2.out.on (Nat.le_refl _) HB3.out)
       have HNX : Hid (S + rn = A0 + (bdy (cs.take (t + 1))).length) := hidden (by rw [HSN.out, List.length_append, hrn, ← HSS.out]; omega)
       have brn : (rn : Int) ≤ 65536 := by have := HL2.out; omega
       obtain ⟨zo, zc, hsh⟩ := own_slice6 HOx3.out
       subst hsh
       obtain ⟨zn, hzn⟩ : ∃ zn, (L ++ sloB (sts A0 (cs.take (t + 1)))).length = zn := ⟨_, rfl⟩
       rw [hzn] at HOx3 HAP2 ⊢
       rw [hrn]
       clear HBT HO3 HB3 HX2 HAx2 HO2 hBx2 hrn hzn e0 e1 e2 e3 e4
       go_wp2
       go_roundw
       case rel => exact ⟨t + 1, zo, zn, zc, by omega, by go_num, by rw [← HNX.out]; go_num, rfl, HOx3, HAx3, HAP2, HX3⟩
       case measure => simp [RowKit.intOf]; omega
      ·have htj : t = j := by omega
       subst htj
       have htI : ¬ (t : Int) < (t : Int) := by omega
       rw [HTA.out] at HO ⊢
       obtain ⟨Y0, hY0⟩ : ∃ Y0, L ++ sloB (sts A0 cs) = Y0 := ⟨_, rfl⟩
       rw [hY0] at HO
       have HYL : Hid (Y0.length = 4 + 2 * t) := hidden (by rw [← hY0, List.length_append, HLL.out, sloB_length, sts_length, HLEN.out])
       have HYW0 : Hid (Wf Y0) := hidden (by rw [← hY0]; exact HLW.out.append (sloB_wf _))
       have HYE0 := hidden hY0
       have HSN : Hid (sn = 4 + 2 * t) := hidden (by
        obtain ⟨a, c, e⟩ := own_slice6 HO.out
        injection e with _ e2 _
        rw [e2, HYL.out])
       obtain ⟨s0, hs0⟩ : ∃ s0, 4 + 2 * t = s0 := ⟨_, rfl⟩
       rw [hs0] at HYL HSN
       have hsn := HSN.out
       subst hsn
       obtain ⟨pad, hpad⟩ : ∃ pad, N - Z = pad := ⟨_, rfl⟩
       have hpd : sn + pad + an + 4 = N := by have := HZA.out; have := HZN.out; omega
       have HPD := hidden hpd
       have HPE : Hid (Y0 ++ zs pad ++ Q = pgH k N cs) := hidden (by
        rw [← HYE0.out, ← HLE.out, ← HQE.out]
        unfold pgH
        rw [HLEN.out, HK256.out, HZE.out, hpad, show N - 4 - (bdy cs).length = A0 from by rw [HQE.out, HAN.out]; have := HA0.out; omega]
        simp only [List.append_assoc])
       have bs0 : (sn : Int) ≤ 65536 := by omega
       clear hY0 hs0 hpad hpd hbl HTA
       go_wp2_with fail
       go_loopw [15] (fun v wq => ∃ (u : Nat) (vo : Option Addr) (vc : Nat), u ≤ pad ∧ v = .slice vo (sn + u) vc ∧ Hid (OwnB wq B1 (.slice vo (sn + u) vc) (Y0 ++ zs u)) ∧ Hid (OwnB wq B1 (.slice ao an ac) Q) ∧ Hid (Apt (.slice ao an ac) (.slice vo (sn + u) vc)) ∧ Hid (Below B1 w2 wq)) (fun v _ => N - lnOf6 v)
       case atStart => exact ⟨0, so, sc, by omega, rfl, hidden (by simpa [zs] using HO.out), HA, HAP, HB⟩
       case round =>
        clear HO HA HAP HB hBr HWR
        rename_i wrOld2 wr
        obtain ⟨u, vo, vc, hu, rfl, HO, HA, HAP, HB⟩ := hrel
        have hBr : B1 ≤ wr.heap.size := Nat.le_trans HB3'.out HB.out.size
        obtain ⟨q, hq⟩ : ∃ q, sn + u = q := ⟨_, rfl⟩
        have HXZ : Hid ((Y0 ++ zs u).length = q) := hidden (by rw [List.length_append, HYL.out, zs_length, hq])
        obtain ⟨Y, hY⟩ : ∃ Y, Y0 ++ zs u = Y := ⟨_, rfl⟩
        have HYE := hidden hY
        have HYW : Hid (Wf Y) := hidden (by rw [← hY]; exact HYW0.out.append (zs_wf u))
        rw [hY] at HXZ HO
        rw [hq] at HO HAP ⊢
        have HQE2 := hidden hq
        have hqN : q + an + 4 ≤ N := by have := HPD.out; omega
        have hqI : (q : Int) ≤ 65536 := by omega
        clear hY
        by_cases hlt : u < pad
        ·have hltI : (q : Int) + (an : Int) < (N : Int) - 4 := by have := HPD.out; omega
         obtain ⟨x, hx⟩ : ∃ x, wr.alloc (.cells #[.int .u8 0] 5) = x := ⟨_, rfl⟩
         have hbx : Below wr.heap.size wr x := by rw [← hx]; exact bl_al (Below.refl _ _) (Nat.le_refl _) _
         have HSX : Hid (Sl x (some ⟨wr.heap.size, 0, none⟩) 1 1 [0]) := hidden (by rw [← hx]; exact one_sl6 wr 0 (by omega))
         have HOX := hidden (HO.out.on (Nat.le_refl _) hbx)
         have HAX := hidden (HA.out.on (Nat.le_refl _) hbx)
         have hxs : B1 ≤ x.heap.size := Nat.le_trans hBr hbx.size
         have HBX := hidden (bl_go HB.out HB3'.out hbx)
         have hmb : q + 1 ≤ 140737488355328 := by omega
         clear hbx hq
         go_wp2_with (at_builtin; refine app_sl _ rfl _ _ rfl B1 Y [0] _ (some ⟨wr.heap.size, 0, none⟩) 1 1 rfl rfl HOX.out HSX.out (by rw [HXZ.out]; exact hmb) hxs ?_; refine Hid.out ?_)
         apply hidden
         intro v' w' ho hg
         have HB2 : Hid (Below B1 w2 w') := hidden (HBX.out.trans (hg.below HOX.out hxs))
         have HA2 : Hid (OwnB w' B1 (.slice ao an ac) Q) := hidden (own_keep HAX.out hg HAP.out)
         have hap := HAP.out.gr HAX.out hg
         obtain ⟨vo2, vc2, hsh⟩ := own_slice6 ho
         subst hsh
         have hl2 : (Y ++ [0]).length = q + 1 := by rw [List.length_append, HXZ.out]; rfl
         rw [hl2] at ho hap ⊢
         have HQ1 : Hid (q + 1 = sn + (u + 1)) := hidden (by have := HQE2.out; omega)
         have HO2 : Hid (OwnB w' B1 (.slice vo2 (sn + (u + 1)) vc2) (Y0 ++ zs (u + 1))) := hidden (by
          rw [← HQ1.out, show zs (u + 1) = zs u ++ [0] from zs_add u 1, ← List.append_assoc, HYE.out]
          exact ho)
         have HAP2 : Hid (Apt (.slice ao an ac) (.slice vo2 (sn + (u + 1)) vc2)) := hidden (by rw [← HQ1.out]; exact hap)
         clear ho hg hx HOX HSX hl2 hap
         go_wp2
         go_roundw
         case rel => exact ⟨u + 1, vo2, vc2, by omega, by rw [HQ1.out], HO2, HA2, HAP2, HB2⟩
         case measure => simp [lnOf6]; omega
        ·have hltI : ¬ (q : Int) + (an : Int) < (N : Int) - 4 := by have := HPD.out; omega
         have HSA : Hid (Sl wr ao an ac Q) := hidden (own_sl6 HA.out HQW.out (by rw [HAN.out]; omega))
         have HPE2 : Hid (Y ++ Q = pgH k N cs) := hidden (by rw [← HYE.out, ← HPE.out, show u = pad from by omega])
         clear hq
         go_wp2_with (at_builtin; refine app_sl _ rfl _ _ rfl B1 Y Q _ ao an ac rfl rfl HO.out HSA.out (by rw [HXZ.out]; omega) hBr ?_; refine Hid.out ?_)
         apply hidden
         intro v' x1 ho hg
         have HX1 : Hid (Below B1 w2 x1) := hidden (HB.out.trans (hg.below HO.out hBr))
         have hBx1 : B1 ≤ x1.heap.size := Nat.le_trans hBr hg.grow.size
         obtain ⟨vo2, vc2, hsh⟩ := own_slice6 ho
         subst hsh
         have hl2 : (Y ++ Q).length = q + an := by rw [List.length_append, HXZ.out, HAN.out]
         rw [hl2] at ho ⊢
         have HL2 := hidden hl2
         have HYQW : Hid (Wf (Y ++ Q)) := hidden (HYW.out.append HQW.out)
         obtain ⟨H, hH⟩ : ∃ H, Y ++ Q = H := ⟨_, rfl⟩
         rw [hH] at ho HL2 HYQW HPE2
         have HO1 := hidden ho
         obtain ⟨hn, hhn⟩ : ∃ hn, q + an = hn := ⟨_, rfl⟩
         rw [hhn] at HO1 HL2 ⊢
         have hhb : hn + 4 ≤ 65536 := by omega
         have HSH2 : Hid (Sl x1 vo2 hn vc2 H) := hidden (own_sl6 HO1.out HYQW.out (by rw [HL2.out]; omega))
         have HSUM := hidden (rSumOf_any vo2 hn vc2 H x1 HSH2.out)
         have hs32 := sumN_lt H HYQW.out
         obtain ⟨SN, hS⟩ : ∃ SN, sumN [H] = SN := ⟨_, rfl⟩
         rw [hS] at hs32 HSUM
         have HSS := hidden hS
         have hws : IntKind.u64.wrap ((SN : Nat) : Int) = (SN : Int) := by rw [IntKind.wrap_u64]; omega
         have HF4 := hidden (fixed6_4 (SN : Int) x1 (by omega) (by omega))
         clear hS HSH2 ho hg hl2 hH hhn HO HA HAP HB HSA
         go_wp2_with (first
          | (go_at_call 72; refine same_call HSUM.out ?_)
          | (go_at_call 70; refine HF4.out.mono ?_; rintro e w6 ⟨fo3, fc3, rfl, HOF, HSF, HBF⟩; refine Hid.out ?_))
         apply hidden
         have HB6 := hidden (bl_go HX1.out HB3'.out HBF.out)
         have HO6 := hidden (HO1.out.on (Nat.le_refl _) HBF.out)
         have hB6 : B1 ≤ w6.heap.size := Nat.le_trans hBx1 HBF.out.size
         clear HF4 HSUM HO1 HX1
         go_wp2_with (at_builtin; refine app_sl _ rfl _ _ rfl B1 H (fB 4 (SN : Int)) _ fo3 4 fc3 rfl rfl HO6.out HSF.out (by rw [HL2.out]; omega) hB6 ?_; refine Hid.out ?_)
         apply hidden
         intro v7 w7 ho7 hg7
         have HB7 : Hid (Below B1 w2 w7) := hidden (HB6.out.trans (hg7.below HO6.out hB6))
         have HF7 : Hid (OwnB w7 w.heap.size v7 (pgB k N cs)) := hidden (by
          unfold pgB sealB
          rw [← HPE2.out, HSS.out]
          exact ho7.low (by have := HB1E.out; have := HW2.out.size; omega))
         have HE7 : Hid (Below w.heap.size w w7) := hidden (HW2.out.trans (HB7.out.mono (by have := HB1E.out; have := HW2.out.size; omega)))
         clear ho7 hg7
         go_wp2
         go_ret2
         exact ⟨v7, rfl, HF7, HE7⟩
end Go.Proofs.YtlhkinlgolcpaaaGreatDoor

namespace Go.Proofs.YtlhkinlgolcpaaaGreatDoor
set_option maxRecDepth 100000
open Go.RowKit
theorem Cf.wide {F G : Nat → Prop} {a b : World} (h : Cf F a b) (hg : ∀ k, F k → G k) : Cf G a b := ⟨h.os, h.tape, h.output, h.size, fun k hk hf => h.block k hk (fun e => hf (hg k e))⟩
theorem OwnB.cfX {w w' : World} {B : Nat} {v : Value} {l : List Int} {F : Nat → Prop} (h : OwnB w B v l) (hc : Cf F w w') (hf : ∀ k, v.ownBlock = some k → ¬ F k) : OwnB w' B v l := by
 unfold OwnB at *
 rcases h.2 with h2 | ⟨g, cap, cur, e, hg, hh, rest⟩
 ·exact ⟨h.1, .inl h2⟩
 ·refine ⟨h.1, .inr ⟨g, cap, cur, e, hg, ?_, rest⟩⟩
  rw [hc.block g (lt_some hh) (hf g (by rw [e]; rfl))]
  exact hh
theorem OwnB.sl2 {w : World} {B : Nat} {ao : Option Addr} {n c : Nat} {l : List Int} (h : OwnB w B (.slice ao n c) l) (hw : Wf l) (hl : l.length ≤ 140737488355328) : Sl w ao n c l := by
 obtain ⟨ao', c', e, hs, _⟩ := h.sl hw hl
 injection e with e1 e2 e3
 subst e1 e3
 rw [← e2] at hs
 exact hs
end Go.Proofs.YtlhkinlgolcpaaaGreatDoor
