import Derived.Test.YtbkhjeacmmbabaaGreatDoorJ11
import Derived.Test.YtbkhjeacmmbabaaGreatDoorJ05
import Derived.Carry
import Derived.Deep.RegionLaw
import Derived.Laws.OwnMore
import Derived.Handy
namespace Go.Proofs.YtbkhjeacmmbabaaGreatDoor
set_option maxRecDepth 100000
set_option maxHeartbeats 16000000
open Go.RowKit
theorem two_wf6 {k : Int} (_h : isKd k) (e : k % 256 = k) : Wf [k % 256, 1] := by
 intro x hx
 simp only [List.mem_cons, List.not_mem_nil, or_false] at hx
 rw [e] at hx
 unfold isKd at _h
 omega
theorem own_two6 (w : World) (x y : Int) : OwnB (w.alloc (.cells #[.int .u8 x, .int .u8 y] 5)) w.heap.size (.slice (some ⟨w.heap.size, 0, none⟩) 2 2) [x, y] :=
 zct (l := [x, y]) (heap_alloc_last w _) Lr (by unfold maxLen; simp)
theorem rencode6_yes (k : Int) (N : Nat) (co : Option Addr) (cn cc : Nat) (cs : List Cl) (w : World) (hs : SlC w co cn cc cs) (hcn : cn ≤ 900000) (he : encE k N cs = 0) :
  Calls Tryz.prog 54 #[.int .i64 k, .slice co cn cc, .int .i64 (N : Int)] w fun e w' => ∃ v, e = .returned (.tuple #[v, .int .i64 0]) ∧ Hid (OwnB w' w.heap.size v (pgB k N cs)) ∧ Hid (Below w.heap.size w w') := by
 have HS := zaa hs
 have HLEN := zaa hs.hlen
 have HWF := zaa hs.wf
 have HSZ := zaa (zeg (N : Int) w)
 have HIK := zaa (rIsKind6_any k w)
 have hkn : isKd k ∧ pw (N : Int) := by
  unfold encE at he
  by_cases h : isKd k ∧ pw (N : Int)
  ·exact h
  ·rw [if_neg h] at he; cases he
 have hkd := hkn.1
 have hn := hkn.2
 have hpn := pw_le hn
 have HC0 : Hid (chk k N none cs = 0) := zaa (by
  unfold encE at he
  rw [if_pos hkn] at he
  by_cases h : chk k N none cs = 0
  ·exact h
  ·rw [if_neg h] at he; exact absurd he h)
 have hfit0 : szN cs ≤ N := by
  unfold encE at he
  rw [if_pos hkn, if_pos HC0.out] at he
  by_cases h : (N : Int) < szN cs
  ·rw [if_pos h] at he; cases he
  ·omega
 have hN1 : (N : Int) ≤ 65536 := hpn.2
 have hN2 : 512 ≤ N := by omega
 have hN3 : 512 ≤ (N : Int) := by omega
 have HMAY : Hid (∀ c ∈ cs, mayP k N c) := zaa (chk_all6 k N none cs HC0.out)
 rw [show decide (pw (N : Int)) = true from by simpa using hn] at HSZ
 rw [show decide (isKd k) = true from by simpa using hkd] at HIK
 have HKD := zaa hkd
 have hk256 : k % 256 = k := by unfold isKd at hkd; omega
 have HK256 := zaa hk256
 have hu8 : IntKind.u8.wrap k = k % 256 := IntKind.wrap_u8 k
 have hse := zbb cs
 rw [HLEN.out] at hse
 obtain ⟨Z, hZ⟩ : ∃ Z : Nat, szN cs = Z := ⟨_, rfl⟩
 rw [hZ] at hse hfit0
 have HZS := zaa (fun u h => rsize6_any k co cn cc cs u h (by omega))
 rw [hZ] at HZS
 have HZE := zaa hZ
 have HSE := zaa hse
 have bcn : cn ≤ 65536 := by omega
 have bcI : (cn : Int) ≤ 65536 := by omega
 have hZN : ¬ (N : Int) < (Z : Int) := by omega
 have hZb : (Z : Int) ≤ 65536 := by omega
 have HZN := zaa hfit0
 have HBDL : Hid (∀ j, (bdy (cs.take j)).length + 8 ≤ 65536) := zaa (fun j => by have := bdy_le6 cs j; omega)
 have hcw : IntKind.u64.wrap (cn : Int) = (cn : Int) := by rw [IntKind.wrap_u64]; omega
 clear hn hpn hkd hs he hk256 hse hZ hfit0 hkn
 go_enter Tryz.func54, Tryz.ntmps54
 go_wp2_with (first
  | (go_at_call 51; refine zac HSZ.out ?_)
  | (go_at_call 94; refine zac HIK.out ?_))
 clear HSZ HIK
 go_loopw [9] (fun i wr => ∃ j : Nat, j ≤ cn ∧ i = .int .i64 j ∧ Hid (chk k N (prv (cs.take j)) (cs.drop j) = 0) ∧ Hid (Below w.heap.size w wr)) (fun i _ => cn - (RowKit.intOf i).toNat)
 case atStart => exact ⟨0, by omega, rfl, zaa (by simpa [prv] using HC0.out), zaa Br⟩
 case round =>
  obtain ⟨j, hj, rfl, HC, HBW⟩ := hrel
  have bj : (j : Int) ≤ 900000 := by omega
  by_cases hlt : j < cn
  ·have hltI : (j : Int) < (cn : Int) := by omega
   obtain ⟨b, off, c, ka, kc, va, vc, rfl, hb, hci, c0, c1, c2, c3, c4, hkS, hvS⟩ := (HS.out.on HBW.out).item j hlt
   have hcs := chk_step k N cs j c hci
   rw [HC.out] at hcs
   have hmp : mayP k N c := by
    by_cases h : mayP k N c
    ·exact h
    ·rw [if_neg h] at hcs; cases hcs
   rw [if_pos hmp] at hcs
   have hah : zar (prv (cs.take j)) c.key := by
    by_cases h : zar (prv (cs.take j)) c.key
    ·exact h
    ·rw [if_neg h] at hcs; cases hcs
   rw [if_pos hah] at hcs
   have HCS := zaa hcs.symm
   have HAH := zaa hah
   have HKS := zaa hkS
   have HMB := zaa (rmay6_any k (N : Int) c ka va kc vc wr hN3 hN1 hkS.hroom hvS.hroom)
   rw [show decide (mayP k N c) = true from by simpa using hmp] at HMB
   clear hci hkS hvS hcs hah hmp
   go_wp2_with (go_at_call 95; refine HMB.out.mono ?_; rintro e w2 ⟨rfl, hb2⟩; have HBR := zaa hb2; have HBW2 := zaa (zae HBW.out Lr hb2); clear hb2; refine Hid.out ?_)
   apply zaa
   have d0 := (HBR.out.cell (p := ⟨b, off + j * 5, none⟩) hb).trans c0
   clear c0 c1 c2 c3 c4 HMB
   by_cases hj0 : j = 0
   ·subst hj0
    have hj0d : decide ((0 : Int) < ((0 : Nat) : Int)) = false := by decide
    go_wp2_with fail
    go_quiet (fail)
    go_wp2
    go_roundw
    case rel => exact ⟨1, by omega, by go_num, HCS, zaa (zab HBW2.out _)⟩
    case measure => simp [RowKit.intOf]; omega
   ·obtain ⟨i, hij⟩ : ∃ i, j = i + 1 := ⟨j - 1, by omega⟩
    obtain ⟨b', off', c', ka', kc', va', vc', hbo, hb', hci', e0, e1, e2, e3, e4, hk', hv'⟩ := (HS.out.on HBW2.out).item i (by omega)
    injection hbo with hbo
    injection hbo with hb1 hb2
    subst hb1 hb2
    have hprv : prv (cs.take j) = some c'.key := by rw [hij, List.take_add_one, hci']; simp [prv]
    have hkl : decide (kl c'.key c.key) = true := by
     have := HAH.out
     rw [hprv] at this
     simpa [zar] using this
    have k3 : ∀ z, (convert 22 9 (.slice ka' c'.key.length kc')).run Tryz.prog (w2.drewN z) = .ok (.string (strOfNums c'.key)) (w2.drewN z) := fun z => zaq (hk'.drewN z)
    have k4 : ∀ z, (convert 22 9 (.slice ka c.key.length kc)).run Tryz.prog (w2.drewN z) = .ok (.string (strOfNums c.key)) (w2.drewN z) := fun z => zaq ((HKS.out.on Lr HBR.out).drewN z)
    have hls : Op.bytesLess (strOfNums c'.key).toList (strOfNums c.key).toList = true := by rw [str_less hk'.wf HKS.out.wf]; exact hkl
    have i1 : (i : Int) < (cn : Int) := by omega
    have i2 : i < cn := by omega
    have i3 : (i : Int) ≤ 900000 := by omega
    have i4 : IntKind.i64.wrap ((j : Int) - 1) = (i : Int) := by rw [IntKind.wrap_i64]; omega
    have i7 : (j : Int) - 1 = (i : Int) := by omega
    have i5 : 0 < (j : Int) := by omega
    have i6 : 0 < j := by omega
    have i8 : decide (0 < j) = true := decide_eq_true i6
    clear hk' hv' hprv hci' e1 e2 e3 e4 hj0 hij hb' hkl
    go_wp2_with fail
    go_quiet (fail)
    go_wp2
    go_roundw
    case rel => exact ⟨j + 1, by omega, by go_num, HCS, zaa (zab HBW2.out _)⟩
    case measure => simp [RowKit.intOf]; omega
  ·have HZR := zaa (HZS.out wr (HS.out.on HBW.out))
   clear HC HC0 HZS hj
   go_wp2_with (go_at_call 96; refine HZR.out.mono ?_; rintro e w2 ⟨rfl, HB2⟩; refine Hid.out ?_)
   apply zaa
   have HW2 := zaa (zae HBW.out Lr HB2.out)
   clear HZR HB2 HBW
   obtain ⟨B1, hB1⟩ : ∃ B, w2.heap.size = B := ⟨_, rfl⟩
   obtain ⟨y, hy⟩ : ∃ y, w2.alloc (.cells #[.int .u8 (k % 256), .int .u8 1] 5) = y := ⟨_, rfl⟩
   have hB3 : B1 ≤ w2.heap.size := by omega
   have hby : Below B1 w2 y := by rw [← hy, ← hB1]; exact zad Br Lr _
   obtain ⟨L0, hL0⟩ : ∃ L0, ([k % 256, 1] : List Int) = L0 := ⟨_, rfl⟩
   have HOY : Hid (OwnB y B1 (.slice (some ⟨B1, 0, none⟩) 2 2) L0) := zaa (by rw [← hy, ← hB1, ← hL0]; exact own_two6 w2 _ _)
   have HL0 : Hid (L0.length = 2) := zaa (by rw [← hL0]; rfl)
   have HL0E := zaa hL0
   clear hL0
   have HBY := zaa hby
   have hBy : B1 ≤ y.heap.size := by rw [← hB1]; exact hby.size
   have HB3' := zaa hB3
   have HB1E := zaa hB1
   have HF4 := zaa (fixed6_2 (cn : Int) y (by omega) (by omega))
   clear hby
   go_wp2_with (go_at_call 97; refine HF4.out.mono ?_; rintro e w4 ⟨a4, c4, rfl, HO4, HS4, hb4⟩; refine Hid.out ?_)
   apply zaa
   have HB4 := zaa (zae HBY.out hB3 hb4.out)
   have hB4 : B1 ≤ w4.heap.size := zN hBy hb4.out.size
   have HOY4 := zaa (HOY.out.on Lr hb4.out)
   clear HF4 HO4 hb4 HOY HBY hy
   go_wp2_with (at_builtin; refine zau _ rfl _ _ rfl B1 L0 (fB 2 (cn : Int)) _ a4 2 c4 rfl rfl HOY4.out HS4.out (by rw [HL0.out]; omega) hB4 ?_; refine Hid.out ?_)
   apply zaa
   intro v5 w5 ho5 hg5
   have HB5 : Hid (Below B1 w2 w5) := zaa (HB4.out.trans (hg5.below HOY4.out hB4))
   have hB5 : B1 ≤ w5.heap.size := zN hB4 hg5.grow.size
   obtain ⟨L, hL⟩ : ∃ L, L0 ++ fB 2 (cn : Int) = L := ⟨_, rfl⟩
   rw [hL] at ho5
   have HLL : Hid (L.length = 4) := zaa (by rw [← hL, zG, HL0.out, zah])
   have HLE : Hid ([k % 256, 1] ++ fB 2 (cn : Int) = L) := zaa (by rw [HL0E.out]; exact hL)
   have HLW : Hid (Wf L) := zaa (by rw [← hL, ← HL0E.out]; exact (two_wf6 HKD.out HK256.out).append (zbf _ _))
   have HO5 := zaa ho5
   clear ho5 hg5 HOY4 HS4 HB4 hB4 hL hBy
   go_wp2_with fail
   go_loopw [11, 12] (fun a i wq => ∃ (j : Nat) (ao : Option Addr) (an ac : Nat), j ≤ cn ∧ i = .int .i64 j ∧ a = .slice ao an ac ∧ Hid (OwnB wq B1 v5 L) ∧ Hid (OwnB wq B1 (.slice ao an ac) (bdy (cs.take j))) ∧ Hid (Apt (.slice ao an ac) v5) ∧ Hid (Below B1 w2 wq)) (fun _ i _ => cn - (RowKit.intOf i).toNat)
   case atStart => exact ⟨0, none, 0, 0, by omega, rfl, rfl, HO5, zaa (by simpa [bdy] using OwnB.nil _ _), zaa (.inl rfl), HB5⟩
   case round =>
    clear HO5 HB5 hB5
    obtain ⟨j, ao, an, ac, hj, rfl, rfl, HO, HA, HAP, HB⟩ := hrel
    have bj : (j : Int) ≤ 65536 := by omega
    have hBr : B1 ≤ wr.heap.size := zN HB3'.out HB.out.size
    have HWR : Hid (Below w.heap.size w wr) := zaa (HW2.out.trans (HB.out.mono (by have := HB1E.out; have := HW2.out.size; omega)))
    have HAN : Hid ((bdy (cs.take j)).length = an) := zaa (by
     obtain ⟨a, c, e⟩ := zbw HA.out
     injection e with _ e2 _
     exact e2.symm)
    have han : an + 8 ≤ 65536 := by have := HBDL.out j; rw [HAN.out] at this; exact this
    have anI : (an : Int) ≤ 65536 := by omega
    by_cases hlt : j < cn
    ·have hltI : (j : Int) < (cn : Int) := by omega
     obtain ⟨b, off, c, ka, kc, va, vc, rfl, hb, hci, c0, c1, c2, c3, c4, hkS, hvS⟩ := (HS.out.on HWR.out).item j hlt
     have hm := may_nums6 (HMAY.out c (List.mem_of_getElem? hci)) hN1
     have HBT := zaa (rbytes6_any c ka va kc vc wr hkS hvS hm.1 hm.2)
     have HSN := zaa (bdy_snoc6 cs j c hci)
     have hl2 := HBDL.out (j + 1)
     rw [HSN.out, zG, HAN.out] at hl2
     have HRW : Hid (Wf (cB c)) := zaa (cB_wf (HWF.out c (List.mem_of_getElem? hci)))
     have HL2 := zaa hl2
     obtain ⟨Q, hQ⟩ : ∃ Q, bdy (cs.take j) = Q := ⟨_, rfl⟩
     rw [hQ] at HA HSN HAN
     clear hkS hvS hm hci hl2 hQ
     go_wp2_with (go_at_call 98; refine HBT.out.mono ?_; rintro e x3 ⟨v3, rfl, HO3, HB3⟩; refine Hid.out ?_)
     apply zaa
     obtain ⟨R, hR⟩ : ∃ R, cB c = R := ⟨_, rfl⟩
     rw [hR] at HO3 HSN HL2 HRW
     obtain ⟨yo, yc, hsh⟩ := zbw HO3.out
     subst hsh
     obtain ⟨rn, hrn⟩ : ∃ rn, R.length = rn := ⟨_, rfl⟩
     rw [hrn] at HO3 HL2 ⊢
     have HRN := zaa hrn
     have HX3 : Hid (Below B1 w2 x3) := zaa (zae HB.out HB3'.out HB3.out)
     have hBx3 : B1 ≤ x3.heap.size := zN hBr HB3.out.size
     have HOx3 : Hid (OwnB x3 B1 v5 L) := zaa (HO.out.on Lr HB3.out)
     have HAx3 : Hid (OwnB x3 B1 (.slice ao an ac) Q) := zaa (HA.out.on Lr HB3.out)
     have HSL3 : Hid (Sl x3 yo rn yc R) := zaa (own_sl6 HO3.out HRW.out (by rw [HRN.out]; have := HL2.out; omega))
     have hfar : Far yo rn (.slice ao an ac) := apt_far (Apt.symm (apt_new HA.out HO3.out Lr))
     have HFAR := zaa hfar
     clear HBT HO3 HB3 HO HA HB hR hrn hfar c0 c1 c2 c3 c4
     go_wp2_with (at_builtin; refine zau _ rfl _ _ rfl B1 Q R _ yo rn yc rfl rfl HAx3.out HSL3.out (by rw [HAN.out]; have := HL2.out; omega) hBx3 ?_; refine Hid.out ?_)
     apply zaa
     intro v6 w6 ho6 hg6
     have HB6 : Hid (Below B1 w2 w6) := zaa (HX3.out.trans (hg6.below HAx3.out hBx3))
     have HO6 : Hid (OwnB w6 B1 v5 L) := zaa (zdi HOx3.out hg6 HAP.out.symm)
     have HAP6 : Hid (Apt v6 v5) := zaa (Apt.symm (HAP.out.symm.gr HOx3.out hg6))
     have HA6 : Hid (OwnB w6 B1 v6 (bdy (cs.take (j + 1)))) := zaa (by rw [HSN.out]; exact ho6)
     obtain ⟨zo, zc, hsh⟩ := zbw HA6.out
     subst hsh
     obtain ⟨zn, hzn⟩ : ∃ zn, (bdy (cs.take (j + 1))).length = zn := ⟨_, rfl⟩
     rw [hzn] at HA6 HAP6 ⊢
     clear ho6 hg6 HOx3 HAx3 HSL3 HX3 hBx3 HAP hzn HFAR
     go_wp2
     go_roundw
     case rel => exact ⟨j + 1, zo, zn, zc, by omega, by go_num, rfl, HO6, HA6, HAP6, HB6⟩
     case measure => simp [RowKit.intOf]; omega
    ·have hjc : j = cn := by omega
     subst hjc
     have hlI : ¬ (j : Int) < (j : Int) := by omega
     have HTA : Hid (cs.take j = cs) := zaa (List.take_of_length_le (by rw [HLEN.out]; exact Lr))
     rw [HTA.out] at HA HAN
     have hza : Z = 8 + 2 * j + an := by have := HSE.out; rw [HAN.out] at this; exact this
     obtain ⟨A0, hA0⟩ : ∃ A0, N - 4 - an = A0 := ⟨_, rfl⟩
     have hA0N : A0 + an + 4 = N := by have := HZN.out; omega
     have hAI : (N : Int) - 4 - (an : Int) = (A0 : Int) := by omega
     have bA : (A0 : Int) ≤ 65536 := by omega
     have HA0 := zaa hA0N
     have HZA := zaa hza
     have HQW : Hid (Wf (bdy cs)) := zaa (bdy_wf6 cs HWF.out)
     obtain ⟨Q, hQ⟩ : ∃ Q, bdy cs = Q := ⟨_, rfl⟩
     rw [hQ] at HA HAN HQW
     have HQE := zaa hQ
     clear hza hA0 hA0N hQ hlt
     go_wp2_with fail
     clear hAI
     go_loopw [10, 13, 14] (fun s a i wq => ∃ (t : Nat) (so : Option Addr) (sn sc : Nat), t ≤ j ∧ i = .int .i64 t ∧ a = .int .i64 ((A0 + (bdy (cs.take t)).length : Nat) : Int) ∧ s = .slice so sn sc ∧ Hid (OwnB wq B1 (.slice so sn sc) (L ++ sloB (sts A0 (cs.take t)))) ∧ Hid (OwnB wq B1 (.slice ao an ac) Q) ∧ Hid (Apt (.slice ao an ac) (.slice so sn sc)) ∧ Hid (Below B1 w2 wq)) (fun _ _ i _ => j - (RowKit.intOf i).toNat)
     case atStart =>
      obtain ⟨so, sc, hsh⟩ := zbw HO.out
      subst hsh
      rw [HLL.out] at HO HAP ⊢
      exact ⟨0, so, 4, sc, by omega, rfl, by simp [bdy], rfl, zaa (by simpa [sts, sloB] using HO.out), HA, HAP, HB⟩
     case round =>
      clear HO HA HAP HB hBr HWR
      rename_i wrOld wr
      obtain ⟨t, so, sn, sc, ht, rfl, rfl, rfl, HO, HA, HAP, HB⟩ := hrel
      have bt : (t : Int) ≤ 65536 := by omega
      have hBr : B1 ≤ wr.heap.size := zN HB3'.out HB.out.size
      have HWR : Hid (Below w.heap.size w wr) := zaa (HW2.out.trans (HB.out.mono (by have := HB1E.out; have := HW2.out.size; omega)))
      have hbl := HBDL.out t
      by_cases hlt : t < j
      ·have hltI : (t : Int) < (j : Int) := by omega
       obtain ⟨b, off, c, ka, kc, va, vc, rfl, hb, hci, c0, c1, c2, c3, c4, hkS, hvS⟩ := (HS.out.on HWR.out).item t hlt
       have hm := may_nums6 (HMAY.out c (List.mem_of_getElem? hci)) hN1
       have HSN := zaa (bdy_snoc6 cs t c hci)
       have HST := zaa (sts_snoc6 cs A0 t c hci)
       have hl2 := HBDL.out (t + 1)
       rw [HSN.out, zG] at hl2
       have HL2 := zaa hl2
       obtain ⟨S, hS⟩ : ∃ S, A0 + (bdy (cs.take t)).length = S := ⟨_, rfl⟩
       have hS2 : (S : Int) ≤ 131072 := by omega
       have hSw : IntKind.u64.wrap (S : Int) = (S : Int) := by rw [IntKind.wrap_u64]; omega
       rw [hS] at HST ⊢
       have HSS := zaa hS
       have HF := zaa (fixed6_2 (S : Int) wr (by omega) (by omega))
       obtain ⟨TT, hTT⟩ : ∃ TT, sts A0 (cs.take t) = TT := ⟨_, rfl⟩
       have HTL : Hid (TT.length ≤ 65536) := zaa (by rw [← hTT, zak, zJ]; omega)
       rw [hTT] at HO HST
       have HM := zaa hm
       have HCC := zaa (And.intro c0 (And.intro c1 (And.intro c2 (And.intro c3 c4))))
       have HKS := zaa hkS
       have HVS := zaa hvS
       have HBB := zaa hb
       have HCI6 := zaa hci
       clear hci hm hl2 hS hTT hkS hvS c0 c1 c2 c3 c4 hbl hb
       go_wp2_with (go_at_call 97; refine HF.out.mono ?_; rintro e x1 ⟨a1, c1, rfl, HO1, HS1, hb1⟩; refine Hid.out ?_)
       apply zaa
       have HX1 : Hid (Below B1 w2 x1) := zaa (zae HB.out HB3'.out hb1.out)
       have hBx1 : B1 ≤ x1.heap.size := zN hBr hb1.out.size
       have HOx1 : Hid (OwnB x1 B1 (.slice so sn sc) (L ++ sloB TT)) := zaa (HO.out.on Lr hb1.out)
       have HAx1 : Hid (OwnB x1 B1 (.slice ao an ac) Q) := zaa (HA.out.on Lr hb1.out)
       have HRX : Hid (Below wr.heap.size wr x1) := hb1
       clear HF HO HA HO1 hb1 HB
       go_wp2_with (at_builtin; refine zau _ rfl _ _ rfl B1 (L ++ sloB TT) (fB 2 (S : Int)) _ a1 2 c1 rfl rfl HOx1.out HS1.out (by rw [zG, HLL.out, zbq]; have := HTL.out; omega) hBx1 ?_; refine Hid.out ?_)
       apply zaa
       intro v2 x2 ho2 hg2
       have HX2 : Hid (Below B1 w2 x2) := zaa (HX1.out.trans (hg2.below HOx1.out hBx1))
       have hBx2 : B1 ≤ x2.heap.size := zN hBx1 hg2.grow.size
       have HAx2 : Hid (OwnB x2 B1 (.slice ao an ac) Q) := zaa (zdi HAx1.out hg2 HAP.out)
       have HAP2 : Hid (Apt (.slice ao an ac) v2) := zaa (HAP.out.gr HAx1.out hg2)
       have HO2 : Hid (OwnB x2 B1 v2 (L ++ sloB (TT ++ [S]))) := zaa (by rw [sloB_snoc6]; first | exact ho2 | (rw [← zM]; exact ho2))
       have HRY : Hid (Below B1 wr x2) := zaa ((HRX.out.mono hBr).trans (hg2.below HOx1.out hBx1))
       have HWX : Hid (Below w.heap.size w x2) := zaa (HW2.out.trans (HX2.out.mono (by have := HB1E.out; have := HW2.out.size; omega)))
       have HIT := (HS.out.on HWX.out).item t hlt
       obtain ⟨b', off', c', ka', kc', va', vc', hbo, hb', hci', e0, e1, e2, e3, e4, hk', hv'⟩ := HIT
       injection hbo with hbo
       injection hbo with hb1 hb2
       subst hb1 hb2
       have hcc : c' = c := by
        rw [HCI6.out] at hci'
        injection hci' with h
        exact h.symm
       subst hcc
       have hm := HM.out
       have HBT := zaa (rbytes6_any c' ka' va' kc' vc' x2 hk' hv' hm.1 hm.2)
       clear HOx1 HAx1 HX1 hBx1 ho2 hg2 HAP HS1 HCC HKS HVS hk' hv' hm hci' hb' HRX HRY
       go_wp2_with (go_at_call 98; refine HBT.out.mono ?_; rintro e x3 ⟨v3, rfl, HO3, HB3⟩; refine Hid.out ?_)
       apply zaa
       obtain ⟨yo, yc, hsh⟩ := zbw HO3.out
       subst hsh
       obtain ⟨rn, hrn⟩ : ∃ rn, (cB c').length = rn := ⟨_, rfl⟩
       have HX3 : Hid (Below B1 w2 x3) := zaa (zae HX2.out HB3'.out HB3.out)
       have HOx3 : Hid (OwnB x3 B1 v2 (L ++ sloB (sts A0 (cs.take (t + 1))))) := zaa (by rw [HST.out]; exact HO2.out.on Lr HB3.out)
       have HAx3 : Hid (OwnB x3 B1 (.slice ao an ac) Q) := zaa (HAx2.out.on Lr HB3.out)
       have HNX : Hid (S + rn = A0 + (bdy (cs.take (t + 1))).length) := zaa (by rw [HSN.out, zG, hrn, ← HSS.out]; omega)
       have brn : (rn : Int) ≤ 65536 := by have := HL2.out; omega
       obtain ⟨zo, zc, hsh⟩ := zbw HOx3.out
       subst hsh
       obtain ⟨zn, hzn⟩ : ∃ zn, (L ++ sloB (sts A0 (cs.take (t + 1)))).length = zn := ⟨_, rfl⟩
       rw [hzn] at HOx3 HAP2 ⊢
       rw [hrn]
       clear HBT HO3 HB3 HX2 HAx2 HO2 hBx2 hrn hzn e0 e1 e2 e3 e4
       go_wp2
       go_roundw
       case rel => exact ⟨t + 1, zo, zn, zc, by omega, by go_num, by rw [← HNX.out]; go_num, rfl, HOx3, HAx3, HAP2, HX3⟩
       case measure => simp [RowKit.intOf]; omega
      ·have htj : t = j := by omega
       subst htj
       have htI : ¬ (t : Int) < (t : Int) := by omega
       rw [HTA.out] at HO ⊢
       obtain ⟨Y0, hY0⟩ : ∃ Y0, L ++ sloB (sts A0 cs) = Y0 := ⟨_, rfl⟩
       rw [hY0] at HO
       have HYL : Hid (Y0.length = 4 + 2 * t) := zaa (by rw [← hY0, zG, HLL.out, zbq, zak, HLEN.out])
       have HYW0 : Hid (Wf Y0) := zaa (by rw [← hY0]; exact HLW.out.append (sloB_wf _))
       have HYE0 := zaa hY0
       have HSN : Hid (sn = 4 + 2 * t) := zaa (by
        obtain ⟨a, c, e⟩ := zbw HO.out
        injection e with _ e2 _
        rw [e2, HYL.out])
       obtain ⟨s0, hs0⟩ : ∃ s0, 4 + 2 * t = s0 := ⟨_, rfl⟩
       rw [hs0] at HYL HSN
       have hsn := HSN.out
       subst hsn
       obtain ⟨pad, hpad⟩ : ∃ pad, N - Z = pad := ⟨_, rfl⟩
       have hpd : sn + pad + an + 4 = N := by have := HZA.out; have := HZN.out; omega
       have HPD := zaa hpd
       have HPE : Hid (Y0 ++ zs pad ++ Q = pgH k N cs) := zaa (by
        rw [← HYE0.out, ← HLE.out, ← HQE.out]
        unfold pgH
        rw [HLEN.out, HK256.out, HZE.out, hpad, show N - 4 - (bdy cs).length = A0 from by rw [HQE.out, HAN.out]; have := HA0.out; omega]
        simp only [zM])
       have bs0 : (sn : Int) ≤ 65536 := by omega
       clear hY0 hs0 hpad hpd hbl HTA
       go_wp2_with fail
       go_loopw [15] (fun v wq => ∃ (u : Nat) (vo : Option Addr) (vc : Nat), u ≤ pad ∧ v = .slice vo (sn + u) vc ∧ Hid (OwnB wq B1 (.slice vo (sn + u) vc) (Y0 ++ zs u)) ∧ Hid (OwnB wq B1 (.slice ao an ac) Q) ∧ Hid (Apt (.slice ao an ac) (.slice vo (sn + u) vc)) ∧ Hid (Below B1 w2 wq)) (fun v _ => N - lnOf6 v)
       case atStart => exact ⟨0, so, sc, by omega, rfl, zaa (by simpa [zs] using HO.out), HA, HAP, HB⟩
       case round =>
        clear HO HA HAP HB hBr HWR
        rename_i wrOld2 wr
        obtain ⟨u, vo, vc, hu, rfl, HO, HA, HAP, HB⟩ := hrel
        have hBr : B1 ≤ wr.heap.size := zN HB3'.out HB.out.size
        obtain ⟨q, hq⟩ : ∃ q, sn + u = q := ⟨_, rfl⟩
        have HXZ : Hid ((Y0 ++ zs u).length = q) := zaa (by rw [zG, HYL.out, zbg, hq])
        obtain ⟨Y, hY⟩ : ∃ Y, Y0 ++ zs u = Y := ⟨_, rfl⟩
        have HYE := zaa hY
        have HYW : Hid (Wf Y) := zaa (by rw [← hY]; exact HYW0.out.append (zs_wf u))
        rw [hY] at HXZ HO
        rw [hq] at HO HAP ⊢
        have HQE2 := zaa hq
        have hqN : q + an + 4 ≤ N := by have := HPD.out; omega
        have hqI : (q : Int) ≤ 65536 := by omega
        clear hY
        by_cases hlt : u < pad
        ·have hltI : (q : Int) + (an : Int) < (N : Int) - 4 := by have := HPD.out; omega
         obtain ⟨x, hx⟩ : ∃ x, wr.alloc (.cells #[.int .u8 0] 5) = x := ⟨_, rfl⟩
         have hbx : Below wr.heap.size wr x := by rw [← hx]; exact zad Br Lr _
         have HSX : Hid (Sl x (some ⟨wr.heap.size, 0, none⟩) 1 1 [0]) := zaa (by rw [← hx]; exact one_sl6 wr 0 (by omega))
         have HOX := zaa (HO.out.on Lr hbx)
         have HAX := zaa (HA.out.on Lr hbx)
         have hxs : B1 ≤ x.heap.size := zN hBr hbx.size
         have HBX := zaa (zae HB.out HB3'.out hbx)
         have hmb : q + 1 ≤ 140737488355328 := by omega
         clear hbx hq
         go_wp2_with (at_builtin; refine zau _ rfl _ _ rfl B1 Y [0] _ (some ⟨wr.heap.size, 0, none⟩) 1 1 rfl rfl HOX.out HSX.out (by rw [HXZ.out]; exact hmb) hxs ?_; refine Hid.out ?_)
         apply zaa
         intro v' w' ho hg
         have HB2 : Hid (Below B1 w2 w') := zaa (HBX.out.trans (hg.below HOX.out hxs))
         have HA2 : Hid (OwnB w' B1 (.slice ao an ac) Q) := zaa (zdi HAX.out hg HAP.out)
         have hap := HAP.out.gr HAX.out hg
         obtain ⟨vo2, vc2, hsh⟩ := zbw ho
         subst hsh
         have hl2 : (Y ++ [0]).length = q + 1 := by rw [zG, HXZ.out]; rfl
         rw [hl2] at ho hap ⊢
         have HQ1 : Hid (q + 1 = sn + (u + 1)) := zaa (by have := HQE2.out; omega)
         have HO2 : Hid (OwnB w' B1 (.slice vo2 (sn + (u + 1)) vc2) (Y0 ++ zs (u + 1))) := zaa (by
          rw [← HQ1.out, show zs (u + 1) = zs u ++ [0] from zs_add u 1, ← zM, HYE.out]
          exact ho)
         have HAP2 : Hid (Apt (.slice ao an ac) (.slice vo2 (sn + (u + 1)) vc2)) := zaa (by rw [← HQ1.out]; exact hap)
         clear ho hg hx HOX HSX hl2 hap
         go_wp2
         go_roundw
         case rel => exact ⟨u + 1, vo2, vc2, by omega, by rw [HQ1.out], HO2, HA2, HAP2, HB2⟩
         case measure => simp [lnOf6]; omega
        ·have hltI : ¬ (q : Int) + (an : Int) < (N : Int) - 4 := by have := HPD.out; omega
         have HSA : Hid (Sl wr ao an ac Q) := zaa (own_sl6 HA.out HQW.out (by rw [HAN.out]; omega))
         have HPE2 : Hid (Y ++ Q = pgH k N cs) := zaa (by rw [← HYE.out, ← HPE.out, show u = pad from by omega])
         clear hq
         go_wp2_with (at_builtin; refine zau _ rfl _ _ rfl B1 Y Q _ ao an ac rfl rfl HO.out HSA.out (by rw [HXZ.out]; omega) hBr ?_; refine Hid.out ?_)
         apply zaa
         intro v' x1 ho hg
         have HX1 : Hid (Below B1 w2 x1) := zaa (HB.out.trans (hg.below HO.out hBr))
         have hBx1 : B1 ≤ x1.heap.size := zN hBr hg.grow.size
         obtain ⟨vo2, vc2, hsh⟩ := zbw ho
         subst hsh
         have hl2 : (Y ++ Q).length = q + an := by rw [zG, HXZ.out, HAN.out]
         rw [hl2] at ho ⊢
         have HL2 := zaa hl2
         have HYQW : Hid (Wf (Y ++ Q)) := zaa (HYW.out.append HQW.out)
         obtain ⟨H, hH⟩ : ∃ H, Y ++ Q = H := ⟨_, rfl⟩
         rw [hH] at ho HL2 HYQW HPE2
         have HO1 := zaa ho
         obtain ⟨hn, hhn⟩ : ∃ hn, q + an = hn := ⟨_, rfl⟩
         rw [hhn] at HO1 HL2 ⊢
         have hhb : hn + 4 ≤ 65536 := by omega
         have HSH2 : Hid (Sl x1 vo2 hn vc2 H) := zaa (own_sl6 HO1.out HYQW.out (by rw [HL2.out]; omega))
         have HSUM := zaa (rSumOf_any vo2 hn vc2 H x1 HSH2.out)
         have hs32 := sumN_lt H HYQW.out
         obtain ⟨SN, hS⟩ : ∃ SN, sumN [H] = SN := ⟨_, rfl⟩
         rw [hS] at hs32 HSUM
         have HSS := zaa hS
         have hws : IntKind.u64.wrap ((SN : Nat) : Int) = (SN : Int) := by rw [IntKind.wrap_u64]; omega
         have HF4 := zaa (fixed6_4 (SN : Int) x1 (by omega) (by omega))
         clear hS HSH2 ho hg hl2 hH hhn HO HA HAP HB HSA
         go_wp2_with (first
          | (go_at_call 99; refine zac HSUM.out ?_)
          | (go_at_call 97; refine HF4.out.mono ?_; rintro e w6 ⟨fo3, fc3, rfl, HOF, HSF, HBF⟩; refine Hid.out ?_))
         apply zaa
         have HB6 := zaa (zae HX1.out HB3'.out HBF.out)
         have HO6 := zaa (HO1.out.on Lr HBF.out)
         have hB6 : B1 ≤ w6.heap.size := zN hBx1 HBF.out.size
         clear HF4 HSUM HO1 HX1
         go_wp2_with (at_builtin; refine zau _ rfl _ _ rfl B1 H (fB 4 (SN : Int)) _ fo3 4 fc3 rfl rfl HO6.out HSF.out (by rw [HL2.out]; omega) hB6 ?_; refine Hid.out ?_)
         apply zaa
         intro v7 w7 ho7 hg7
         have HB7 : Hid (Below B1 w2 w7) := zaa (HB6.out.trans (hg7.below HO6.out hB6))
         have HF7 : Hid (OwnB w7 w.heap.size v7 (pgB k N cs)) := zaa (by
          unfold pgB sealB
          rw [← HPE2.out, HSS.out]
          exact ho7.low (by have := HB1E.out; have := HW2.out.size; omega))
         have HE7 : Hid (Below w.heap.size w w7) := zaa (HW2.out.trans (HB7.out.mono (by have := HB1E.out; have := HW2.out.size; omega)))
         clear ho7 hg7
         go_wp2
         go_ret2
         exact ⟨v7, rfl, HF7, HE7⟩
theorem sloB_app (a b : List Nat) : sloB (a ++ b) = sloB a ++ sloB b := by simp [sloB]
theorem enc_is6 {k : Int} {n : Nat} {cs : List Cl} {b : List Int} (h : encE k n cs = 0) (e : pgB k n cs = b) : Is k n cs b := by
 unfold encE at h
 by_cases h1 : isKd k ∧ pw (n : Int)
 ·rw [if_pos h1] at h
  by_cases h2 : chk k n none cs = 0
  ·rw [if_pos h2] at h
   by_cases h3 : (n : Int) < szN cs
   ·rw [if_pos h3] at h; cases h
   ·exact ⟨h1.1, h1.2, h2, by omega, e⟩
  ·rw [if_neg h2] at h; exact absurd h h2
 ·rw [if_neg h1] at h; cases h
theorem Is.enc6 {k : Int} {n : Nat} {cs : List Cl} {b : List Int} (h : Is k n cs b) : encE k n cs = 0 := by
 unfold encE
 have := h.fit
 rw [if_pos ⟨h.kd, h.sz⟩, if_pos h.ok, if_neg (by omega)]
theorem Is.slots {k : Int} {n : Nat} {cs : List Cl} {b : List Int} (h : Is k n cs b) : rdN b 2 2 = cs.length ∧ b.length = n ∧ ∀ (t : Nat) (c : Cl), cs[t]? = some c → 4 + 2 * t + 2 ≤ n ∧ ∃ s : Nat, rdN b (4 + 2 * t) 2 = s ∧ s ≤ n ∧ ∃ r, zaj (b.drop s) = some (c, r) := by
 obtain ⟨h1, h2, h3, h4, h5⟩ := h
 have hp := zao h2
 have hz := zbb cs
 have hlen : b.length = n := by rw [← h5, zdq k n cs h4]
 obtain ⟨U, hU, hsp⟩ := pgB_split k n cs
 rw [h5] at hsp
 refine ⟨?_, hlen, fun t c ht => ?_⟩
 ·rw [hsp, zcu [k, 1] (fB 2 cs.length) _ 2 2 rfl (zah _ _)]
  exact zco 2 _ (by omega) (by omega)
 ·obtain ⟨htl, e⟩ := zH.1 ht
  have hbt : bdy cs = bdy (cs.take t) ++ (cB c ++ bdy (cs.drop (t + 1))) := by
   rw [← zbu, ← e, ← List.drop_eq_getElem_cons htl, ← zbl, List.take_append_drop]
  obtain ⟨B, hB⟩ : ∃ B, n - 4 - (bdy cs).length = B := ⟨_, rfl⟩
  rw [hB] at hsp
  have hbl : (bdy (cs.take t)).length ≤ (bdy cs).length := bdy_le6 cs t
  have hsl := zch B t cs htl
  obtain ⟨s, hs⟩ : ∃ s, B + (bdy (cs.take t)).length = s := ⟨_, rfl⟩
  rw [hs] at hsl
  have hst : (sts B cs)[t]? = some s := by
   have hl : t < (sts B cs).length := by rw [zak]; exact htl
   rw [zI hl]
   rw [List.getD, zI hl] at hsl
   simpa using hsl
  have hsplit : sts B cs = (sts B cs).take t ++ (s :: (sts B cs).drop (t + 1)) := by
   obtain ⟨hl, e2⟩ := zH.1 hst
   rw [← e2, ← List.drop_eq_getElem_cons hl, List.take_append_drop]
  have hsloc : sloB (sts B cs) = sloB ((sts B cs).take t) ++ (fB 2 (s : Int) ++ sloB ((sts B cs).drop (t + 1))) := by
   conv => lhs; rw [hsplit]
   rw [sloB_app]
   rfl
  refine ⟨by omega, s, ?_, by omega, bdy (cs.drop (t + 1)) ++ U, ?_⟩
  ·have e3 : b = ([k, 1] ++ (fB 2 cs.length ++ sloB ((sts B cs).take t))) ++ (fB 2 (s : Int) ++ (sloB ((sts B cs).drop (t + 1)) ++ (zs (n - szN cs) ++ (bdy cs ++ U)))) := by
    rw [hsp, hsloc]
    simp only [zM]
   rw [e3, zcu _ (fB 2 (s : Int)) _ (4 + 2 * t) 2 (by simp only [zG, List.length_cons, List.length_nil, zah, zbq, zJ, zak]; omega) (zah _ _)]
   exact zco 2 _ (by omega) (by omega)
  ·have e4 : b = (([k, 1] ++ (fB 2 cs.length ++ (sloB (sts B cs) ++ zs (n - szN cs)))) ++ bdy (cs.take t)) ++ (cB c ++ (bdy (cs.drop (t + 1)) ++ U)) := by
    rw [hsp]
    conv => lhs; rw [hbt]
    simp only [zM]
   rw [e4, List.drop_left' (by simp only [zG, List.length_cons, List.length_nil, zah, zbq, zak, zbg]; omega)]
   exact pCell_mid c _ ((chk_all6 k n none cs h3 c (List.mem_of_getElem? ht)).fit (by omega))
def rF (l : List Int) (p x : Int) : Int × Int := if (x < 1 ∨ 8 < x) ∨ (p < 0 ∨ l.length < p) then (0, 1) else if (l.length : Int) - p < x then (0, 10) else (rdB ((l.drop p.toNat).take x.toNat), 0)
theorem zeh (ao : Option Addr) (n cap : Nat) (l : List Int) (p' x : Int) (w : World) (hs : Sl w ao n cap l) :
  Calls Tryz.prog 56 #[.slice ao n cap, .int .i64 p', .int .i64 x] w fun e w' => e = .returned (.tuple #[.int .u64 (rF l p' x).1, .int .i64 (rF l p' x).2]) ∧ w' = w := by
 obtain ⟨hlen, hcap, hroom, hwf, hnil, hat⟩ := hs
 unfold rF
 by_cases h : (x < 1 ∨ 8 < x) ∨ (p' < 0 ∨ l.length < p')
 ·rw [if_pos h]
  rw [hlen] at h
  rcases h with (h | h) | (h | h)
  ·go_enter Tryz.func56, Tryz.ntmps56
   go_wp2
   go_ret2
   exact ⟨rfl, rfl⟩
  ·have h' : ¬ x < 1 := by omega
   go_enter Tryz.func56, Tryz.ntmps56
   go_wp2
   go_ret2
   exact ⟨rfl, rfl⟩
  ·by_cases h1 : x < 1
   ·go_enter Tryz.func56, Tryz.ntmps56
    go_wp2
    go_ret2
    exact ⟨rfl, rfl⟩
   ·by_cases h8 : 8 < x
    all_goals
     go_enter Tryz.func56, Tryz.ntmps56
     go_wp2
     go_ret2
     exact ⟨rfl, rfl⟩
  ·by_cases h1 : x < 1
   ·go_enter Tryz.func56, Tryz.ntmps56
    go_wp2
    go_ret2
    exact ⟨rfl, rfl⟩
   ·have hp0 : ¬ p' < 0 := by omega
    by_cases h8 : 8 < x
    all_goals
     go_enter Tryz.func56, Tryz.ntmps56
     go_wp2
     go_ret2
     exact ⟨rfl, rfl⟩
 ·rw [if_neg h]
  rw [hlen] at h ⊢
  have h1 : 1 ≤ x := by omega
  have h2 : x ≤ 8 := by omega
  have h3 : 0 ≤ p' := by omega
  have h4 : p' ≤ n := by omega
  clear h
  by_cases h5 : (n : Int) - p' < x
  ·rw [if_pos h5]
   go_enter Tryz.func56, Tryz.ntmps56
   go_wp2
   go_ret2
   exact ⟨rfl, rfl⟩
  ·rw [if_neg h5]
   obtain ⟨width, rfl⟩ := Int.eq_ofNat_of_zero_le (show 0 ≤ x by omega)
   obtain ⟨p, rfl⟩ := Int.eq_ofNat_of_zero_le h3
   rw [Int.toNat_natCast, Int.toNat_natCast]
   rcases hat with h | ⟨b, off, rfl, hb, hc⟩
   ·omega
   have hd : ((l.drop p).take width).length = width := by simp; omega
   have hwd : Wf ((l.drop p).take width) := (hwf.drop p).take width
   go_enter Tryz.func56, Tryz.ntmps56
   go_wp2_with fail
   go_loop [8, 9] (fun v i => ∃ k : Nat, k ≤ width ∧ i = .int .i64 ((p : Int) + k) ∧ v = .int .u64 (rdB (((l.drop p).take width).take k))) (fun _ i => ((p : Int) + width - intOf i).toNat)
   case atStart => exact ⟨0, by omega, by simp, by simp [rdB]⟩
   case round =>
    obtain ⟨k, hk, rfl, rfl⟩ := hrel
    by_cases hlt : k < width
    ·have hck : w.cell? ⟨b, off + (p + k), none⟩ = some (.int .u8 (((l.drop p).take width).getD k 0)) := by
      rw [hc (p + k) (by omega)]
      simp [List.getD, hlt]
     have hby := hwd.getD k
     have hsm := rdB_small _ (hwd.take k) k (by omega) (by simp; omega)
     have hsn : rdB (((l.drop p).take width).take (k + 1)) = rdB (((l.drop p).take width).take k) * 256 + ((l.drop p).take width).getD k 0 := by
      rw [take_snoc _ k (by omega), rdB_snoc]
     generalize ((l.drop p).take width).getD k 0 = c at *
     generalize rdB (((l.drop p).take width).take k) = m at *
     have HS := zaa hsn
     clear hsn hc
     go_wp2
     go_round
     case rel => exact ⟨k + 1, by omega, by go_num, by rw [HS.out, Int.mul_comm m 256]⟩
     case measure => simp [intOf]; omega
    ·obtain rfl : k = width := by omega
     have ht : ((l.drop p).take k).take k = (l.drop p).take k := List.take_of_length_le (by omega)
     go_wp2
     go_ret2
     exact ⟨rfl, rfl⟩
theorem rnumb6_any (ao : Option Addr) (n cap : Nat) (l : List Int) (p d : Int) (w : World) (hs : Sl w ao n cap l) (hp : 0 ≤ p) (hd : p + d ≤ n) (h : d = 2 ∨ d = 4) :
  Calls Tryz.prog 52 #[.slice ao n cap, .int .i64 p, .int .i64 d] w fun e w' => e = .returned (.int .i64 (rdN l p.toNat d.toNat)) ∧ w' = w := by
 have HR := zaa (zeh ao n cap l p d w hs)
 have hl := hs.hlen
 have e : rF l p d = (rdN l p.toNat d.toNat, 0) := by
  unfold rF
  rw [if_neg (by omega), if_neg (by omega)]
  rfl
 have hb := zbh l hs.wf p.toNat d.toNat
 have h4 : rdN l p.toNat d.toNat < 4294967296 := by
  rcases h with rfl | rfl
  ·have := hb.2
   simp at this ⊢
   omega
  ·have := hb.2
   simp at this ⊢
   omega
 have h0 := hb.1
 rw [e] at HR
 generalize rdN l p.toNat d.toNat = v at *
 simp only at HR
 clear hs hl e hb
 go_enter Tryz.func52, Tryz.ntmps52
 go_wp2_with (go_at_call 56; refine HR.out.mono ?_; rintro e w1 ⟨rfl, rfl⟩)
 go_ret
 exact ⟨rfl, rfl⟩
theorem zdj {P : Program} {fn : Func} {p u : Tmp} {ty : TypeId} (h : fn.results = #[.cell p ty, .tmp u]) (tmps : Array Value) (w : World) (g : Nat) (t : TypeId) (cs : Array Value) (fr : Nat × Nat) (d : TypeDesc) (v : Value)
  (hp : tmps.getD p undef = .pointer (some ⟨g, 0, none⟩)) (hv : tmps.getD u undef = v) (hg : w.heap[g]? = some (.cells cs t fr))
  (hu : P.underlying ty = some d) (hd : (match d with | .struct _ | .array _ _ => true | _ => false) = true) (hi : (P.info? ty).map (·.size) = some cs.size) :
  (results fn tmps).run P w = .ok (.tuple #[.agg cs, v]) w := by
 subst hv
 rw [results_cell_tmp h, hp]
 simp [asAddr, run_loadVar_row w g t ty cs fr d hg hu hd hi, Result.andThen]
theorem zcq (l : List Int) (p d : Nat) (h : p + d ≤ l.length) : pNum d (l.drop p) = some (rdN l p d, l.drop (p + d)) := by
 unfold pNum
 rw [if_neg (by rw [zK]; omega), List.drop_drop]
 rfl
theorem zdk (l : List Int) (p d : Nat) (h : l.length < p + d) (hd : 0 < d) : pNum d (l.drop p) = none := by
 unfold pNum
 rw [if_pos (by rw [zK]; omega)]
theorem pText_at (l : List Int) (p m : Nat) (hm : rdN l p 2 = m) (h : p + 2 + m ≤ l.length) : zap (l.drop p) = some ((l.drop (p + 2)).take m, l.drop (p + 2 + m)) := by
 unfold zap
 rw [zcq l p 2 (by omega), hm]
 simp only
 rw [if_neg (by rw [zK]; omega), Int.toNat_natCast, List.drop_drop]
theorem pText_off (l : List Int) (p m : Nat) (hm : rdN l p 2 = m) (h : l.length < p + 2 + m) : zap (l.drop p) = none := by
 unfold zap
 by_cases h2 : p + 2 ≤ l.length
 ·rw [zcq l p 2 h2, hm]
  simp only
  rw [if_pos (by rw [zK]; omega)]
 ·rw [zdk l p 2 (by omega) (by omega)]
theorem pCell_few (l : List Int) (p : Nat) (h : l.length < p + 3) : zaj (l.drop p) = none := by
 unfold zaj
 by_cases h1 : p + 1 ≤ l.length
 ·rw [zcq l p 1 h1]
  simp only
  have : zap (l.drop (p + 1)) = none := by
   unfold zap
   rw [zdk l (p + 1) 2 (by omega) (by omega)]
  rw [this]
 ·rw [zdk l p 1 (by omega) (by omega)]
theorem pCell_short (l : List Int) (p M : Nat) (hM : rdN l (p + 1) 2 = M) (h3 : p + 3 ≤ l.length) (h : l.length < p + 3 + M + 2) : zaj (l.drop p) = none := by
 unfold zaj
 rw [zcq l p 1 (by omega)]
 simp only
 by_cases hk : p + 1 + 2 + M ≤ l.length
 ·rw [pText_at l (p + 1) M hM hk]
  simp only
  split
  ·have : zap (l.drop (p + 1 + 2 + M)) = none := by
    unfold zap
    rw [zdk l (p + 1 + 2 + M) 2 (by omega) (by omega)]
   rw [this]
  ·rw [zdk l (p + 1 + 2 + M) 4 (by omega) (by omega)]
 ·rw [pText_off l (p + 1) M hM (by omega)]
theorem pCell_val (l : List Int) (p M m : Nat) (hM : rdN l (p + 1) 2 = M) (hk : rdN l p 1 = 1) (hm : rdN l (p + 3 + M) 2 = m) (h : p + 3 + M + 2 ≤ l.length) :
  (l.length < p + 3 + M + 2 + m → zaj (l.drop p) = none) ∧ (p + 3 + M + 2 + m ≤ l.length → ∃ r, zaj (l.drop p) = some (⟨(l.drop (p + 3)).take M, 1, (l.drop (p + 3 + M + 2)).take m, 0, 0⟩, r)) := by
 have e : zaj (l.drop p) = match zap (l.drop (p + 3 + M)) with | none => none | some (val, r) => some (⟨(l.drop (p + 3)).take M, 1, val, 0, 0⟩, r) := by
  unfold zaj
  rw [zcq l p 1 (by omega), hk]
  simp only
  have ht : zap (l.drop (p + 1)) = some ((l.drop (p + 3)).take M, l.drop (p + 3 + M)) := pText_at l (p + 1) M hM (by omega)
  rw [ht]
  simp only [if_true]
  cases zap (l.drop (p + 3 + M)) with
  | none => rfl
  | some q => rfl
 refine ⟨fun hh => ?_, fun hh => ?_⟩
 ·rw [e, pText_off l _ m hm hh]
 ·rw [e, pText_at l _ m hm hh]
  exact ⟨_, rfl⟩
theorem pCell_num (l : List Int) (p M : Nat) (hM : rdN l (p + 1) 2 = M) (hk : rdN l p 1 ≠ 1) (h : p + 3 + M + 2 ≤ l.length) :
  (l.length < p + 3 + M + 8 → zaj (l.drop p) = none) ∧ (p + 3 + M + 8 ≤ l.length → ∃ r, zaj (l.drop p) = some (⟨(l.drop (p + 3)).take M, rdN l p 1, [], rdN l (p + 3 + M) 4, rdN l (p + 3 + M + 4) 4⟩, r)) := by
 have e : zaj (l.drop p) = match pNum 4 (l.drop (p + 3 + M)) with | none => none | some (a, r) => match pNum 4 r with | none => none | some (c, r) => some (⟨(l.drop (p + 3)).take M, rdN l p 1, [], a, c⟩, r) := by
  unfold zaj
  rw [zcq l p 1 (by omega)]
  simp only
  have ht : zap (l.drop (p + 1)) = some ((l.drop (p + 3)).take M, l.drop (p + 3 + M)) := pText_at l (p + 1) M hM (by omega)
  rw [ht]
  simp only [if_neg hk]
  cases pNum 4 (l.drop (p + 3 + M)) with
  | none => rfl
  | some q =>
   obtain ⟨a, r⟩ := q
   simp only
   cases pNum 4 r with
   | none => rfl
   | some q => rfl
 refine ⟨fun hh => ?_, fun hh => ?_⟩
 ·rw [e]
  by_cases h4 : p + 3 + M + 4 ≤ l.length
  ·rw [zcq l _ 4 h4]
   simp only
   rw [zdk l _ 4 (by omega) (by omega)]
  ·rw [zdk l _ 4 (by omega) (by omega)]
 ·rw [e, zcq l _ 4 (by omega)]
  simp only
  rw [zcq l _ 4 (by omega)]
  exact ⟨_, rfl⟩
theorem rdN_one (l : List Int) (p : Nat) (h : p < l.length) : rdN l p 1 = l.getD p 0 := by
 unfold rdN
 rw [List.drop_eq_getElem_cons h]
 have : rdB (List.take 1 (l[p] :: List.drop (p + 1) l)) = 0 * 256 + l[p] := rfl
 rw [this]
 simp [List.getD, h]
end Go.Proofs.YtbkhjeacmmbabaaGreatDoor
