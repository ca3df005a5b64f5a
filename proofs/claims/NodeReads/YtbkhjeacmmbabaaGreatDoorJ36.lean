import Derived.Test.YtbkhjeacmmbabaaGreatDoorJ35
namespace Go.Proofs.YtbkhjeacmmbabaaGreatDoor
set_option maxRecDepth 100000
open Go.RowKit
def lnOf7 : Value → Nat
 | .slice _ n _ => n
 | _ => 0
theorem sloB_snoc (l : List Nat) (s : Nat) : sloB (l ++ [s]) = sloB l ++ fB 2 (s : Int) := by simp [sloB]
theorem one_sl7 (w : World) (x : Int) (hx : 0 ≤ x ∧ x ≤ 255) : Sl (w.alloc (.cells #[.int .u8 x] 5)) (some ⟨w.heap.size, 0, none⟩) 1 1 [x] := by
 refine ⟨rfl, Lr, by omega, Wf.cons hx Wf.nil, (by intro h; cases h), .inr ⟨w.heap.size, 0, rfl, by simp, ?_⟩⟩
 intro i hi
 obtain rfl : i = 0 := by omega
 simp
theorem own_sl7 {w : World} {B : Nat} {ao : Option Addr} {n c : Nat} {l : List Int} (h : OwnB w B (.slice ao n c) l) (hw : Wf l) (hl : l.length ≤ 140737488355328) : Sl w ao n c l := by
 obtain ⟨ao', c', e, hs, _⟩ := h.sl hw hl
 injection e with e1 e2 e3
 subst e1 e3
 rw [← e2] at hs
 exact hs
theorem qbd_wf7 (m : Nat) : ∀ (f : Bool) (cs : List Cl), (∀ c ∈ cs, c.Wf) → (∀ c ∈ cs, c.key.length + c.val.length ≤ 35184372088832) → Wf (qbd m f cs)
 | _, [], _, _ => by intro x hx; cases hx
 | f, c :: r, h, k => by
  have h1 := k c (by simp)
  exact (qB_wf (h c (by simp)) (by omega) (by omega)).append (qbd_wf7 m false r (fun d hd => h d (by simp [hd])) (fun d hd => k d (by simp [hd])))
theorem two_wf7 {k : Int} (_h : isKd k) (e : k % 256 = k) : Wf [k % 256, 2] := by
 intro x hx
 simp only [List.mem_cons, List.not_mem_nil, or_false] at hx
 rw [e] at hx
 unfold isKd at _h
 omega
set_option maxHeartbeats 16000000 in
theorem rencode_yes (k : Int) (N : Nat) (co : Option Addr) (cn cc : Nat) (cs : List Cl) (w : World) (hs : SlC w co cn cc cs) (hcn : cn ≤ 900000) (hkv : ∀ c ∈ cs, c.key.length + c.val.length ≤ 35184372088832) (hz : szQ k (shP k cs).length cs ≤ 1099511627776) (he : encQ k N cs = 0) :
  Calls Tryz.prog 59 #[.int .i64 k, .slice co cn cc, .int .i64 (N : Int)] w fun e w' => ∃ v, e = .returned (.tuple #[v, .int .i64 0]) ∧ Hid (OwnB w' w.heap.size v (pkB k N cs)) ∧ Hid (Below w.heap.size w w') := by
 have HS := zaa hs
 have HZ := zaa hz
 have HKV := zaa hkv
 have HLEN := zaa hs.hlen
 have HWF := zaa hs.wf
 have HSZ := zaa (rIsSize_any (N : Int) w)
 have hkd : isKd k := by
  unfold encQ at he
  by_cases h : isKd k ∧ pw (N : Int)
  ·exact h.1
  ·rw [if_neg h] at he; cases he
 have hn : pw (N : Int) := by
  unfold encQ at he
  by_cases h : isKd k ∧ pw (N : Int)
  ·exact h.2
  ·rw [if_neg h] at he; cases he
 have hpn := pw_le hn
 have HC0 : Hid (chk k N none cs = 0) := zaa (by
  unfold encQ at he
  rw [if_pos ⟨hkd, hn⟩] at he
  by_cases h : chk k N none cs = 0
  ·exact h
  ·rw [if_neg h] at he; exact absurd he h)
 have hfit0 : ¬ (N : Int) < szQ k (shP k cs).length cs := by
  unfold encQ at he
  rw [if_pos ⟨hkd, hn⟩, if_pos HC0.out] at he
  intro h
  rw [if_pos h] at he
  cases he
 have HFIT0 := zaa hfit0
 clear hfit0
 have hN1 : (N : Int) ≤ 65536 := hpn.2
 have hN2 : 512 ≤ N := by omega
 have hN3 : 512 ≤ (N : Int) := by omega
 have h2 : decide (pw (N : Int)) = true := by simpa using hn
 rw [h2] at HSZ
 have HKD := zaa hkd
 have hk256 : k % 256 = k := by unfold isKd at hkd; omega
 have HK256 := zaa hk256
 have hkb : (k != 2) = false ∨ ((k != 2) = true ∧ (k != 3) = false) := by unfold isKd at hkd; rcases hkd with rfl | rfl <;> simp
 clear hn hpn h2 hkd hs hz hkv he hk256
 rcases hkb with hk2 | ⟨hk2, hk3⟩
 all_goals
  go_enter Tryz.func59, Tryz.ntmps59
  go_wp2_with (go_at_call 55; refine zac HSZ.out ?_)
  clear HSZ
  go_loopw [9] (fun i wr => ∃ j : Nat, j ≤ cn ∧ i = .int .i64 j ∧ Hid (chk k N (prv (cs.take j)) (cs.drop j) = 0) ∧ Hid (Below w.heap.size w wr)) (fun i _ => cn - (RowKit.intOf i).toNat)
  case atStart => exact ⟨0, by omega, rfl, zaa (by simpa [prv] using HC0.out), zaa Br⟩
  case round =>
   obtain ⟨j, hj, rfl, HC, HBW⟩ := hrel
   have bj : (j : Int) ≤ 900000 := by omega
   by_cases hlt : j < cn
   ·have hltI : (j : Int) < (cn : Int) := by omega
    obtain ⟨b, off, c, ka, kc, va, vc, rfl, hb, hci, c0, c1, c2, c3, c4, hkS, hvS⟩ := (HS.out.on HBW.out).item j hlt
    have hcs := chk_step k N cs j c hci
    rw [HC.out] at hcs
    have hmp : mayP k N c := by
     by_cases h : mayP k N c
     ·exact h
     ·rw [if_neg h] at hcs; cases hcs
    rw [if_pos hmp] at hcs
    have hah : zar (prv (cs.take j)) c.key := by
     by_cases h : zar (prv (cs.take j)) c.key
     ·exact h
     ·rw [if_neg h] at hcs; cases hcs
    rw [if_pos hah] at hcs
    have HCS := zaa hcs.symm
    have HAH := zaa hah
    have HKS := zaa hkS
    have HMB := zaa (rmay_any k (N : Int) c ka va kc vc wr hN3 hN1 hkS.hroom hvS.hroom)
    rw [show decide (mayP k N c) = true from by simpa using hmp] at HMB
    clear hci hkS hvS hcs hah hmp
    go_wp2_with (go_at_call 102; refine HMB.out.mono ?_; rintro e w2 ⟨rfl, hb2⟩; have HBR := zaa hb2; have HBW2 := zaa (zae HBW.out Lr hb2); clear hb2; refine Hid.out ?_)
    apply zaa
    have d0 := (HBR.out.cell (p := ⟨b, off + j * 5, none⟩) hb).trans c0
    clear c0 c1 c2 c3 c4 HMB
    by_cases hj0 : j = 0
    ·subst hj0
     go_wp2
     go_roundw
     case rel => exact ⟨1, by omega, by go_num, HCS, HBW2⟩
     case measure => simp [RowKit.intOf]; omega
    ·obtain ⟨i, rfl⟩ : ∃ i, j = i + 1 := ⟨j - 1, by omega⟩
     obtain ⟨b', off', c', ka', kc', va', vc', hbo, hb', hci', e0, e1, e2, e3, e4, hk', hv'⟩ := (HS.out.on HBW2.out).item i (by omega)
     injection hbo with hbo
     injection hbo with hb1 hb2
     subst hb1 hb2
     have hprv : prv (cs.take (i + 1)) = some c'.key := by rw [List.take_add_one, hci']; simp [prv]
     have hkl : decide (kl c'.key c.key) = true := by
      have := HAH.out
      rw [hprv] at this
      simpa [zar] using this
     have HRI : Hid (∀ q, Calls Tryz.prog 103 #[.slice ka' c'.key.length kc', .slice ka c.key.length kc] (w2.drewN q) fun e w' => e = .returned (.bool (decide (kl c'.key c.key))) ∧ ∃ q', w' = (w2.drewN q).drewN q') :=
      zaa fun q => rahead_any _ _ _ _ _ _ _ _ _ (hk'.drewN q) ((HKS.out.on Lr HBR.out).drewN q)
     rw [hkl] at HRI
     have i1 : (i : Int) < (cn : Int) := by omega
     have i2 : i < cn := by omega
     have i3 : (i : Int) ≤ 900000 := by omega
     clear hk' hv' hprv hci' e1 e2 e3 e4 hj0 hkl
     go_wp2_with fail
     go_quiet (first | (go_at_call 103; exact Calls.quiet_of (HRI.out _)))
     go_wp2
     go_roundw
     case rel => exact ⟨i + 1 + 1, by omega, by go_num, HCS, zaa (by first | exact HBW2.out | exact zab HBW2.out _ | exact zab (zab HBW2.out _) _)⟩
     case measure => simp [RowKit.intOf]; omega
   ·have HSW := zaa (HS.out.on HBW.out)
    have HZS := zaa (rsize_any k co cn cc cs wr HSW.out hcn HKV.out HZ.out)
    obtain ⟨Z, hZ⟩ : ∃ Z : Nat, szQ k (shP k cs).length cs = Z := ⟨_, rfl⟩
    rw [hZ] at HZS HFIT0
    have hZb : (Z : Int) ≤ 1099511627776 := by have := HZ.out; omega
    have HZZ := zaa hZ
    have hfit : ¬ (N : Int) < (Z : Int) := by have := HFIT0.out; omega
    have hfit' : (Z : Int) ≤ (N : Int) := by omega
    have HZZ9 := zaa hZ
    clear HC HC0 hZ HFIT0
    go_wp2_with (go_at_call 104; refine HZS.out.mono ?_; rintro e w2 ⟨rfl, HB2⟩; refine Hid.out ?_)
    apply zaa
    have HW2 := zaa (zae HBW.out Lr HB2.out)
    clear HZS HB2 HBW HSW
    have HSH := zaa (rshared_any k co cn cc cs w2 (HS.out.on HW2.out) hcn)
    go_wp2_with (go_at_call 93; refine HSH.out.mono ?_; rintro e w3 ⟨vP, rfl, HOP, HB3⟩; refine Hid.out ?_)
    apply zaa
    have HW3 := zaa (zae HW2.out Lr HB3.out)
    have hsz3 := HW3.out.size
    have hse := zbn k (shP k cs).length cs
    rw [HZZ.out, HLEN.out] at hse
    have HPW := zaa (shP_wf (k := k) HWF.out)
    have HBEG : Hid (∀ (j : Nat) (c : Cl), cs[j]? = some c → ¬ (k = 3 ∧ (j : Int) = 0) → (shP k cs).length ≤ c.key.length) := zaa fun j c hc hne => beg_len (zce k cs c (mem_ktl hc (by omega)))
    have HPK : Hid (pkB k N cs = sealB (pkL k N (shP k cs) cs)) := zaa rfl
    obtain ⟨P, hP⟩ : ∃ P, shP k cs = P := ⟨_, rfl⟩
    have HPE0 : Hid (P = shP k cs) := zaa hP.symm
    rw [hP] at HOP HPW HBEG HPK hse
    obtain ⟨m, hm⟩ : ∃ m, P.length = m := ⟨_, rfl⟩
    rw [hm] at HBEG hse
    obtain ⟨f, hf⟩ : ∃ f, whl k = f := ⟨_, rfl⟩
    rw [hf] at hse
    obtain ⟨pa, pc, rfl, hsp, _⟩ := HOP.out.sl HPW.out (by omega)
    rw [hm] at hsp HOP ⊢
    have HSP := zaa hsp
    have HM := zaa (And.intro hm hf)
    have HSE := zaa hse
    have bm : m ≤ 65536 := by omega
    have bcn : cn ≤ 65536 := by omega
    have bmI : (m : Int) ≤ 65536 := by omega
    have bcI : (cn : Int) ≤ 65536 := by omega
    have hcw : IntKind.u64.wrap (cn : Int) = (cn : Int) := by rw [IntKind.wrap_u64]; omega
    have hmw : IntKind.u64.wrap (m : Int) = (m : Int) := by rw [IntKind.wrap_u64]; omega
    obtain ⟨B1, hB1⟩ : ∃ B, w3.heap.size = B := ⟨_, rfl⟩
    obtain ⟨y, hy⟩ : ∃ y, w3.alloc (.cells #[.int .u8 (k % 256), .int .u8 2] 5) = y := ⟨_, rfl⟩
    have hB3 : B1 ≤ w3.heap.size := by omega
    have hby : Below B1 w3 y := by rw [← hy, ← hB1]; exact zad Br Lr _
    have HOY : Hid (OwnB y B1 (.slice (some ⟨B1, 0, none⟩) 2 2) [k % 256, 2]) := zaa (by rw [← hy, ← hB1]; exact own_two8 w3 _ _)
    have HBY := zaa hby
    have hBy : B1 ≤ y.heap.size := by rw [← hB1]; exact hby.size
    have HF4 := zaa (fixed_2 (cn : Int) y (by omega) (by omega))
    clear HSH HB3 HW2 hP hm hf hsp HOP hby hse hfit HZZ
    go_wp2_with (go_at_call 97; refine HF4.out.mono ?_; rintro e w4 ⟨a4, c4, rfl, HO4, HS4, hb4⟩; refine Hid.out ?_)
    apply zaa
    have HB4 := zaa (zae HBY.out hB3 hb4.out)
    have hB4 : B1 ≤ w4.heap.size := zN hBy hb4.out.size
    have HA4 := zaa (zcm (.slice (some ⟨B1, 0, none⟩) 2 2) B1 [k % 256, 2] (fB 2 (cn : Int)) a4 2 c4 w4 (HOY.out.on Lr hb4.out) HS4.out (zcr HOY.out HO4.out Lr) (by simp) hB4)
    clear HF4 HO4 HS4 hb4 HOY HBY hy
    go_wp2_with (go_at_call 101; refine HA4.out.mono ?_; rintro e w5 ⟨v5, rfl, HO5, hb5⟩; refine Hid.out ?_)
    apply zaa
    have HB5 := zaa (HB4.out.trans hb5.out)
    have hB5 : B1 ≤ w5.heap.size := zN hB4 hb5.out.size
    obtain ⟨L5, hL5⟩ : ∃ L, [k % 256, 2] ++ fB 2 (cn : Int) = L := ⟨_, rfl⟩
    have hl5 : L5.length = 4 := by rw [← hL5]; simp [zah]
    rw [hL5] at HO5
    have HL5 := zaa hL5
    have HF6 := zaa (fixed_2 (m : Int) w5 (by omega) (by omega))
    clear HA4 hb5 HB4 hB4 hL5
    go_wp2_with (go_at_call 97; refine HF6.out.mono ?_; rintro e w6 ⟨a6, c6, rfl, HO6, HS6, hb6⟩; refine Hid.out ?_)
    apply zaa
    have HB6 := zaa (zae HB5.out hB3 hb6.out)
    have hB6 : B1 ≤ w6.heap.size := zN hB5 hb6.out.size
    have HA6 := zaa (zcm v5 B1 L5 (fB 2 (m : Int)) a6 2 c6 w6 (HO5.out.on Lr hb6.out) HS6.out (zcr HO5.out HO6.out Lr) (by omega) hB6)
    clear HF6 HO6 HS6 hb6 HO5 HB5 hB5
    go_wp2_with (go_at_call 101; refine HA6.out.mono ?_; rintro e w7 ⟨v7, rfl, HO7, hb7⟩; refine Hid.out ?_)
    apply zaa
    have HB7 := zaa (HB6.out.trans hb7.out)
    have hB7 : B1 ≤ w7.heap.size := zN hB6 hb7.out.size
    obtain ⟨L7, hL7⟩ : ∃ L, L5 ++ fB 2 (m : Int) = L := ⟨_, rfl⟩
    have hl7 : L7.length = 6 := by rw [← hL7]; simp [zah, hl5]
    rw [hL7] at HO7
    have HL7 := zaa hL7
    have HA8 := zaa (zcm v7 B1 L7 P pa m pc w7 HO7.out (HSP.out.on (Nat.le_of_eq hB1) HB7.out) (sl_far HSP.out HO7.out (Nat.le_of_eq hB1)) (by omega) hB7)
    clear HA6 hb7 HB6 hB6 hL7 HO7
    go_wp2_with (go_at_call 101; refine HA8.out.mono ?_; rintro e w8 ⟨v8, rfl, HO8, hb8⟩; refine Hid.out ?_)
    apply zaa
    have HB8 := zaa (HB7.out.trans hb8.out)
    have hB8 : B1 ≤ w8.heap.size := zN hB7 hb8.out.size
    obtain ⟨L8, hL8⟩ : ∃ L, L7 ++ P = L := ⟨_, rfl⟩
    have hl8 : L8.length = 6 + m := by rw [← hL8, zG, HM.out.1, hl7]
    rw [hL8] at HO8
    have HL8 := zaa hL8
    clear HA8 hb8 HB7 hB7 hL8 HSP
    obtain ⟨oa, oc, hv8⟩ := zcn HO8.out
    rw [hl8] at hv8
    subst hv8
    obtain ⟨A, hA⟩ : ∃ A : Nat, 6 + m + 2 * cn = A := ⟨_, rfl⟩
    have bA : (A : Int) ≤ 262144 := by omega
    have hAI : ((6 + m : Nat) : Int) + 2 * (cn : Int) = (A : Int) := by omega
    have HAE := zaa hA
    have hse := HSE.out
    have HQT : Hid (∀ j, (qbd m f (cs.take j)).length ≤ 65536) := zaa fun j => by have := qbd_take_le m cs f j; omega
    have HFF : Hid (∀ j : Nat, (if k = 3 ∧ (j : Int) = 0 then 0 else m) = (if f = true ∧ j = 0 then 0 else m)) := zaa (by
     intro j
     have e : (k = 3 ∧ (j : Int) = 0) = (f = true ∧ j = 0) := by
      rw [← HM.out.2]
      unfold whl
      simp
     simp only [e])
    clear hA hse
    have HHL8 := zaa hl8
    have HHL5 := zaa (And.intro hl5 hl7)
    have HB3' := zaa hB3
    have HB1E := zaa hB1
    clear hl8 hl5 hl7
    go_wp2_with fail
    clear hAI
    go_loopw [14, 18, 19] (fun o b i wq => ∃ (j : Nat) (ba : Option Addr) (bn bc : Nat), j ≤ cn ∧ i = .int .i64 j ∧ b = .slice ba bn bc ∧ Hid (OwnB wq B1 o (L8 ++ sloB (qst m f A (cs.take j)))) ∧ Hid (OwnB wq B1 (.slice ba bn bc) (qbd m f (cs.take j))) ∧ Hid (Apt (.slice ba bn bc) o) ∧ Hid (Below B1 w3 wq)) (fun _ _ i _ => cn - (RowKit.intOf i).toNat)
    case atStart => exact ⟨0, none, 0, 0, by omega, rfl, rfl, zaa (by simpa [qst, sloB] using HO8.out), zaa (by simpa [qbd] using OwnB.nil _ _), zaa (.inl rfl), HB8⟩
    case round =>
     clear HO8 HB8 hB8
     obtain ⟨j, ba, bn, bc, hj, rfl, rfl, HO, HBD, HAP, HB⟩ := hrel
     have bj : (j : Int) ≤ 65536 := by omega
     have hBr : B1 ≤ wr.heap.size := zN HB3'.out HB.out.size
     have HWR : Hid (Below w.heap.size w wr) := zaa (HW3.out.trans (HB.out.mono (by have := HB1E.out; omega)))
     have HBN : Hid ((qbd m f (cs.take j)).length = bn) := zaa (by
      obtain ⟨a, c, e⟩ := zcn HBD.out
      injection e with _ e2 _
      exact e2.symm)
     have hbn : bn ≤ 65536 := by have := HQT.out j; rw [HBN.out] at this; exact this
     have bnI : (bn : Int) ≤ 65536 := by omega
     by_cases hlt : j < cn
     ·have hltI : (j : Int) < (cn : Int) := by omega
      obtain ⟨b, off, c, ka, kc, va, vc, rfl, hb, hci, c0, c1, c2, c3, c4, hkS, hvS⟩ := HS.out.item j hlt
      have HQS := zaa (qbd_take1 m cs f j c hci)
      have HTS := zaa (qst_take1 m cs f A j c hci)
      rw [HBN.out] at HTS
      have hq2 := HQT.out (j + 1)
      rw [HQS.out, zG, HBN.out] at hq2
      obtain ⟨Q, hQ⟩ : ∃ Q, qbd m f (cs.take j) = Q := ⟨_, rfl⟩
      rw [hQ] at HBD HQS HBN
      obtain ⟨T, hT⟩ : ∃ T, qst m f A (cs.take j) = T := ⟨_, rfl⟩
      have htl : T.length ≤ 65536 := by rw [← hT, zbm, zJ]; omega
      rw [hT] at HO HTS
      have HOL : Hid ((L8 ++ sloB T).length ≤ 300000) := zaa (by rw [zG, zbq, HHL8.out]; omega)
      obtain ⟨S, hS⟩ : ∃ S : Nat, A + bn = S := ⟨_, rfl⟩
      rw [hS] at HTS
      have HF : Hid (Calls Tryz.prog 97 #[.int .u64 (6 + (m : Int) + 2 * (cn : Int) + (bn : Int)), .int .i64 2] wr fun e w' => ∃ ao c, e = .returned (.slice ao 2 c) ∧ Hid (OwnB w' wr.heap.size (.slice ao 2 c) (fB 2 (S : Int))) ∧ Hid (Sl w' ao 2 c (fB 2 (S : Int))) ∧ Hid (Below wr.heap.size wr w')) := zaa (by
       have e : 6 + (m : Int) + 2 * (cn : Int) + (bn : Int) = (S : Int) := by have := HAE.out; omega
       rw [e]
       exact fixed_2 (S : Int) wr (by omega) (by omega))
      have HKS := zaa hkS
      have HVS := zaa hvS
      have HCI := zaa hci
      have HCC := zaa (And.intro c0 (And.intro c1 (And.intro c2 (And.intro c3 c4))))
      have HQ2 := zaa hq2
      have HB0 := zaa hb
      clear hQ hT hci hkS hvS c0 c1 c2 c3 c4 hS hq2 htl hb
      go_wp2_with (go_at_call 97; refine HF.out.mono ?_; rintro e x1 ⟨a1, c1, rfl, HO1, HS1, hb1⟩; refine Hid.out ?_)
      apply zaa
      have HX1 : Hid (Below B1 w3 x1) := zaa (zae HB.out HB3'.out hb1.out)
      have hBx1 : B1 ≤ x1.heap.size := zN hBr hb1.out.size
      have HOx1 : Hid (OwnB x1 B1 _ (L8 ++ sloB T)) := zaa (HO.out.on Lr hb1.out)
      have HBx1 : Hid (OwnB x1 B1 (.slice ba bn bc) Q) := zaa (HBD.out.on Lr hb1.out)
      have HA1 := zaa (zcf _ B1 (L8 ++ sloB T) (fB 2 (S : Int)) a1 2 c1 x1 HOx1.out HS1.out (zcr HO.out HO1.out Lr) (by have := HOL.out; omega) hBx1)
      clear HF HO HBD HO1 hb1 HB
      go_wp2_with (go_at_call 101; refine HA1.out.mono ?_; rintro e x2 ⟨v2, rfl, HO2, HG2⟩; refine Hid.out ?_)
      apply zaa
      have HX2 : Hid (Below B1 w3 x2) := zaa (HX1.out.trans (HG2.out.below HOx1.out hBx1))
      have HBx2 : Hid (OwnB x2 B1 (.slice ba bn bc) Q) := zaa (zdi HBx1.out HG2.out HAP.out)
      have HAP2 : Hid (Apt (.slice ba bn bc) v2) := zaa (HAP.out.gr HBx1.out HG2.out)
      have hBx2 : B1 ≤ x2.heap.size := zN hBx1 HG2.out.grow.size
      have HO2' : Hid (OwnB x2 B1 v2 (L8 ++ sloB (T ++ [S]))) := zaa (by rw [sloB_snoc, ← zM]; exact HO2.out)
      have HWX : Hid (Below w.heap.size w x2) := zaa (HW3.out.trans (HX2.out.mono (by have := HB1E.out; have := HW3.out.size; omega)))
      have d0 := (HWX.out.cell (p := ⟨b, off + j * 5, none⟩) HB0.out).trans HCC.out.1
      have d1 := (HWX.out.cell (p := ⟨b, off + j * 5 + 1, none⟩) HB0.out).trans HCC.out.2.1
      have d2 := (HWX.out.cell (p := ⟨b, off + j * 5 + 2, none⟩) HB0.out).trans HCC.out.2.2.1
      have d3 := (HWX.out.cell (p := ⟨b, off + j * 5 + 3, none⟩) HB0.out).trans HCC.out.2.2.2.1
      have d4 := (HWX.out.cell (p := ⟨b, off + j * 5 + 4, none⟩) HB0.out).trans HCC.out.2.2.2.2
      have HBY := zaa (rbytes_any k (j : Int) c ka va kc vc m x2 (HKS.out.on Lr HWX.out) (HVS.out.on Lr HWX.out) (fun h => HBEG.out j c HCI.out h) (HKV.out c (List.mem_of_getElem? HCI.out)))
      rw [HFF.out j] at HBY
      clear HA1 HO2 HG2 HOx1 HBx1 HX1 hBx1 HAP HS1
      go_wp2_with (go_at_call 105; refine HBY.out.mono ?_; rintro e x3 ⟨v3, rfl, HO3, HB3⟩; refine Hid.out ?_)
      apply zaa
      obtain ⟨yo, yc, hsh⟩ := zcn HO3.out
      subst hsh
      obtain ⟨R, hR⟩ : ∃ R, qB (if f = true ∧ j = 0 then 0 else m) c = R := ⟨_, rfl⟩
      rw [hR] at HO3 HQS HQ2 ⊢
      obtain ⟨rn, hrn⟩ : ∃ rn, R.length = rn := ⟨_, rfl⟩
      rw [hrn] at HO3 HQ2 ⊢
      have HRW : Hid (Wf R) := zaa (by rw [← hR]; exact qB_wf (HWF.out c (List.mem_of_getElem? HCI.out)) (by have := HKV.out c (List.mem_of_getElem? HCI.out); omega) (by have := HKV.out c (List.mem_of_getElem? HCI.out); omega))
      have HRN := zaa hrn
      have HX3 : Hid (Below B1 w3 x3) := zaa (zae HX2.out HB3'.out HB3.out)
      have hBx3 : B1 ≤ x3.heap.size := zN hBx2 HB3.out.size
      have HOx3 : Hid (OwnB x3 B1 v2 (L8 ++ sloB (T ++ [S]))) := zaa (HO2'.out.on Lr HB3.out)
      have HBx3 : Hid (OwnB x3 B1 (.slice ba bn bc) Q) := zaa (HBx2.out.on Lr HB3.out)
      have HA3 := zaa (zcf (.slice ba bn bc) B1 Q R yo rn yc x3 HBx3.out (own_sl7 HO3.out HRW.out (by rw [HRN.out]; have := HQ2.out; omega)) (zcr HBx2.out HO3.out Lr) (by rw [HBN.out]; have := HQ2.out; omega) hBx3)
      clear HBY HO3 HB3 HX2 HBx2 HO2' hBx2 hR hrn d0 d1 d2 d3 d4
      go_wp2_with (go_at_call 101; refine HA3.out.mono ?_; rintro e x4 ⟨v4, rfl, HO4, HG4⟩; refine Hid.out ?_)
      apply zaa
      have HX4 : Hid (Below B1 w3 x4) := zaa (HX3.out.trans (HG4.out.below HBx3.out hBx3))
      have HOx4 : Hid (OwnB x4 B1 v2 (L8 ++ sloB (qst m f A (cs.take (j + 1))))) := zaa (by rw [HTS.out]; exact zdi HOx3.out HG4.out HAP2.out.symm)
      have HAP4 : Hid (Apt v4 v2) := zaa (Apt.symm (HAP2.out.symm.gr HOx3.out HG4.out))
      have HO4' : Hid (OwnB x4 B1 v4 (qbd m f (cs.take (j + 1)))) := zaa (by rw [HQS.out]; exact HO4.out)
      obtain ⟨zo, zc, hsh⟩ := zcn HO4'.out
      subst hsh
      obtain ⟨zn, hzn⟩ : ∃ zn, (qbd m f (cs.take (j + 1))).length = zn := ⟨_, rfl⟩
      rw [hzn] at HO4' HAP4 ⊢
      clear HA3 HO4 HG4 HOx3 HBx3 HX3 hBx3 HAP2 hzn
      go_wp2
      go_roundw
      case rel => exact ⟨j + 1, zo, zn, zc, by omega, by go_num, rfl, HOx4, HO4', HAP4, HX4⟩
      case measure => simp [RowKit.intOf]; omega
     ·have hjc : j = cn := by omega
      subst hjc
      have hlI : ¬ (j : Int) < (j : Int) := by omega
      have HTA : Hid (cs.take j = cs) := zaa (List.take_of_length_le (by rw [HLEN.out]; exact Lr))
      rw [HTA.out] at HO HBD HBN
      obtain ⟨Q, hQ⟩ : ∃ Q, qbd m f cs = Q := ⟨_, rfl⟩
      obtain ⟨T, hT⟩ : ∃ T, qst m f A cs = T := ⟨_, rfl⟩
      rw [hQ] at HBD HBN
      rw [hT] at HO
      have HTL : Hid (T.length = j) := zaa (by rw [← hT, zbm, HLEN.out])
      have HQW : Hid (Wf Q) := zaa (by rw [← hQ]; exact qbd_wf7 _ _ _ HWF.out HKV.out)
      have HSB : Hid (Sl wr ba bn bc Q) := zaa (own_sl7 HBD.out HQW.out (by rw [HBN.out]; omega))
      have HA := zaa (zcf _ B1 (L8 ++ sloB T) Q ba bn bc wr HO.out HSB.out (apt_far HAP.out) (by rw [zG, zbq, HHL8.out, HTL.out]; omega) hBr)
      have HPE : Hid ((L8 ++ sloB T) ++ Q ++ zs (N - Z) = pkL k N P cs) := zaa (by
       rw [← HL8.out, ← HL7.out, ← HL5.out, ← hT, ← hQ]
       unfold pkL
       rw [HM.out.1, HM.out.2, HLEN.out, HK256.out, HAE.out, show szQ k m cs = Z from by rw [← HM.out.1, HPE0.out]; exact HZZ9.out]
       simp only [zM])
      have HSE2 := zaa HSE.out
      have HZL : Hid (((L8 ++ sloB T) ++ Q).length = Z - 4) := zaa (by
       rw [zG, zG, zbq, HHL8.out, HTL.out, ← hQ]
       have := HSE.out
       omega)
      clear HQT HFF hQ hT HTA
      go_wp2_with (go_at_call 101; refine HA.out.mono ?_; rintro e x1 ⟨v1, rfl, HO1, HG1⟩; refine Hid.out ?_)
      apply zaa
      have HX1 : Hid (Below B1 w3 x1) := zaa (HB.out.trans (HG1.out.below HO.out hBr))
      obtain ⟨Y0, hY0⟩ : ∃ Y0, (L8 ++ sloB T) ++ Q = Y0 := ⟨_, rfl⟩
      rw [hY0] at HO1 HPE HZL
      have HYW0 : Hid (Wf Y0) := zaa (by
       rw [← hY0, ← HL8.out, ← HL7.out, ← HL5.out]
       exact (((((two_wf7 HKD.out HK256.out).append (zbf _ _)).append (zbf _ _)).append HPW.out).append (sloB_wf _)).append HQW.out)
      obtain ⟨yo, yc, hsh⟩ := zcn HO1.out
      subst hsh
      obtain ⟨z0, hz0⟩ : ∃ z0, Z - 4 = z0 := ⟨_, rfl⟩
      rw [HZL.out, hz0] at HO1 ⊢
      rw [hz0] at HZL
      have hzZ : Z = z0 + 4 := by have := HSE.out; omega
      have hz0N : z0 + 4 ≤ N := by omega
      have HZZ2 := zaa hzZ
      clear HA HO HBD HSB HAP HG1 HB hY0 hz0 hzZ
      obtain ⟨pad, hpad⟩ : ∃ pad, N - Z = pad := ⟨_, rfl⟩
      rw [hpad] at HPE
      have hpad2 : z0 + pad + 4 = N := by have := HZZ2.out; omega
      have HPD := zaa hpad2
      clear hpad hpad2
      go_wp2_with fail
      go_loopw [14] (fun v wr => ∃ (t : Nat) (vo : Option Addr) (vc : Nat), t ≤ pad ∧ v = .slice vo (z0 + t) vc ∧ Hid (OwnB wr B1 (.slice vo (z0 + t) vc) (Y0 ++ zs t)) ∧ Hid (Below B1 w3 wr)) (fun v _ => N - lnOf7 v)
      case atStart => exact ⟨0, yo, yc, by omega, rfl, zaa (by simpa [zs] using HO1.out), HX1⟩
      case round =>
       clear HO1 HX1
       rename_i wr0 wr
       obtain ⟨t, vo, vc, ht, rfl, HO, HB⟩ := hrel
       have hBr : B1 ≤ wr.heap.size := zN HB3'.out HB.out.size
       obtain ⟨q, hq⟩ : ∃ q, z0 + t = q := ⟨_, rfl⟩
       have HXZ : Hid ((Y0 ++ zs t).length = q) := zaa (by rw [zG, HZL.out, zbg, hq])
       obtain ⟨Y, hY⟩ : ∃ Y, Y0 ++ zs t = Y := ⟨_, rfl⟩
       have HYE := zaa hY
       have HYW : Hid (Wf Y) := zaa (by rw [← hY]; exact HYW0.out.append (zs_wf t))
       rw [hY] at HXZ HO
       rw [hq] at HO ⊢
       have HQE := zaa hq
       have hqN : q + 4 ≤ N := by have := HPD.out; omega
       have hqI : (q : Int) ≤ 65536 := by omega
       clear hY
       by_cases hlt : t < pad
       ·have hltI : (q : Int) < (N : Int) - 4 := by have := HPD.out; omega
        obtain ⟨x, hx⟩ : ∃ x, wr.alloc (.cells #[.int .u8 0] 5) = x := ⟨_, rfl⟩
        have hbx : Below wr.heap.size wr x := by rw [← hx]; exact zad Br Lr _
        have HSX : Hid (Sl x (some ⟨wr.heap.size, 0, none⟩) 1 1 [0]) := zaa (by rw [← hx]; exact one_sl7 wr 0 (by omega))
        have HOX := zaa (HO.out.on Lr hbx)
        have hxs : B1 ≤ x.heap.size := zN hBr hbx.size
        have HBX := zaa (zae HB.out HB3'.out hbx)
        have hmb : q + 1 ≤ 140737488355328 := by omega
        clear hbx hq
        go_wp2_with (at_builtin; refine zau _ rfl _ _ rfl B1 Y [0] _ (some ⟨wr.heap.size, 0, none⟩) 1 1 rfl rfl HOX.out HSX.out (by rw [HXZ.out]; exact hmb) hxs ?_; refine Hid.out ?_)
        apply zaa
        intro v' w' ho hg
        have HB2 : Hid (Below B1 w3 w') := zaa (HBX.out.trans (hg.below HOX.out hxs))
        obtain ⟨vo2, vc2, hsh⟩ := zcn ho
        subst hsh
        have hl2 : (Y ++ [0]).length = q + 1 := by rw [zG, HXZ.out]; rfl
        rw [hl2] at ho ⊢
        have HO2 : Hid (OwnB w' B1 (.slice vo2 (z0 + (t + 1)) vc2) (Y0 ++ zs (t + 1))) := zaa (by
         rw [show z0 + (t + 1) = q + 1 from by have := HQE.out; omega, show zs (t + 1) = zs t ++ [0] from zs_add t 1, ← zM, HYE.out]
         exact ho)
        have HQ1 : Hid (q + 1 = z0 + (t + 1)) := zaa (by have := HQE.out; omega)
        clear ho hg hx HOX HSX hl2
        go_wp2
        go_roundw
        case rel => exact ⟨t + 1, vo2, vc2, by omega, by rw [HQ1.out], HO2, HB2⟩
        case measure => simp [lnOf7]; omega
       ·have hltI : ¬ (q : Int) < (N : Int) - 4 := by have := HPD.out; omega
        have HH : Hid (Y = pkL k N P cs) := zaa (by rw [← HYE.out, ← HPE.out, show t = pad from by omega])
        have HSH2 : Hid (Sl wr vo q vc Y) := zaa (own_sl7 HO.out HYW.out (by rw [HXZ.out]; omega))
        have HSUM := zaa (rSumOf_any vo q vc Y wr HSH2.out)
        have hs32 := sumN_lt Y HYW.out
        obtain ⟨SN, hS⟩ : ∃ SN, sumN [Y] = SN := ⟨_, rfl⟩
        rw [hS] at hs32 HSUM
        have HSS := zaa hS
        have hws : IntKind.u64.wrap ((SN : Nat) : Int) = (SN : Int) := by rw [IntKind.wrap_u64]; omega
        have HF4 := zaa (fixed_4 (SN : Int) wr (by omega) (by omega))
        clear hS HSH2 hq
        go_wp2_with (first
         | (go_at_call 99; refine zac HSUM.out ?_)
         | (go_at_call 97; refine HF4.out.mono ?_; rintro e w6 ⟨fo3, fc3, rfl, HOF, HSF, HBF⟩; refine Hid.out ?_))
        apply zaa
        have HA4 := zaa (zcf (.slice vo q vc) B1 Y (fB 4 (SN : Int)) fo3 4 fc3 w6 (HO.out.on Lr HBF.out) HSF.out (zcr HO.out HOF.out Lr) (by rw [HXZ.out]; omega) (zN hBr HBF.out.size))
        have HB6 := zaa (zae HB.out HB3'.out HBF.out)
        have HO6 := zaa (HO.out.on Lr HBF.out)
        have hB6 : B1 ≤ w6.heap.size := zN hBr HBF.out.size
        clear HF4 HSUM
        go_wp2_with (go_at_call 101; refine HA4.out.mono ?_; rintro e w7 ⟨v7, rfl, HO7, HG7⟩; refine Hid.out ?_)
        apply zaa
        have HB7 : Hid (Below B1 w3 w7) := zaa (HB6.out.trans (HG7.out.below HO6.out hB6))
        have HF7 : Hid (OwnB w7 w.heap.size v7 (pkB k N cs)) := zaa (by
         rw [HPK.out]
         unfold sealB
         rw [← HH.out, HSS.out]
         exact HO7.out.low (by have := HB1E.out; have := HW3.out.size; omega))
        have HE7 : Hid (Below w.heap.size w w7) := zaa (HW3.out.trans (HB7.out.mono (by have := HB1E.out; have := HW3.out.size; omega)))
        clear HA4 HO7 HG7
        go_wp2
        go_ret2
        exact ⟨v7, rfl, HF7, HE7⟩
end Go.Proofs.YtbkhjeacmmbabaaGreatDoor
