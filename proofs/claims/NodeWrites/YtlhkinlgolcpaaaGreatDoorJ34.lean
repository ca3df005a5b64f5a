import Derived.Test.YtlhkinlgolcpaaaGreatDoorJ30
import Derived.Test.YtlhkinlgolcpaaaGreatDoorJ33
import Derived.Test.YtlhkinlgolcpaaaGreatDoorJ26
import Derived.Test.YtlhkinlgolcpaaaGreatDoorJ29
namespace Go.Proofs.YtlhkinlgolcpaaaGreatDoor
set_option maxRecDepth 100000
open Go.RowKit
theorem qbd_take1 (m : Nat) : ∀ (cs : List Cl) (f : Bool) (j : Nat) (c : Cl), cs[j]? = some c → qbd m f (cs.take (j + 1)) = qbd m f (cs.take j) ++ qB (if f = true ∧ j = 0 then 0 else m) c
 | [], f, j, c, h => by simp at h
 | d :: r, f, 0, c, h => by
  simp at h
  subst h
  simp [qbd]
 | d :: r, f, j + 1, c, h => by
  have ih := qbd_take1 m r false j c (by simpa using h)
  simp only [List.take_succ_cons, qbd]
  rw [ih]
  simp
theorem qst_take1 (m : Nat) : ∀ (cs : List Cl) (f : Bool) (b j : Nat) (c : Cl), cs[j]? = some c → qst m f b (cs.take (j + 1)) = qst m f b (cs.take j) ++ [b + (qbd m f (cs.take j)).length]
 | [], f, b, j, c, h => by simp at h
 | d :: r, f, b, 0, c, h => by simp [qst, qbd]
 | d :: r, f, b, j + 1, c, h => by
  have ih := qst_take1 m r false (b + (qB (if f then 0 else m) d).length) j c (by simpa using h)
  simp only [List.take_succ_cons, qst, qbd]
  rw [ih]
  simp [Nat.add_assoc]
theorem qbd_take_le (m : Nat) : ∀ (cs : List Cl) (f : Bool) (j : Nat), (qbd m f (cs.take j)).length ≤ (qbd m f cs).length
 | [], f, j => by simp
 | d :: r, f, 0 => by simp [qbd]
 | d :: r, f, j + 1 => by
  have ih := qbd_take_le m r false j
  simp only [List.take_succ_cons, qbd, List.length_append]
  omega
theorem fixed_sl (n : Int) (x : Nat) (w : World) (h0 : 0 ≤ n) (hn : n < 18446744073709551616) (h1 : 1 ≤ x) (h2 : x ≤ 8) :
  Calls Tryz.prog 70 #[.int .u64 n, .int .i64 (x : Int)] w fun e w' => ∃ ao c, e = .returned (.slice ao x c) ∧ Hid (OwnB w' w.heap.size (.slice ao x c) (fB x n)) ∧ Hid (Sl w' ao x c (fB x n)) ∧ Hid (Below w.heap.size w w') := by
 refine (refFixed_yes n (x : Int) w h0 hn (by omega) (by omega)).mono ?_
 rintro e w' ⟨v, rfl, ho, hb⟩
 rw [Int.toNat_natCast] at ho
 obtain ⟨ao, cap, rfl, hs, _⟩ := ho.sl (fB_wf _ _) (by rw [fB_length]; omega)
 rw [fB_length] at hs ho ⊢
 exact ⟨ao, cap, rfl, hidden ho, hidden hs, hidden hb⟩
theorem fixed_2 (n : Int) (w : World) (h0 : 0 ≤ n) (hn : n < 18446744073709551616) : Calls Tryz.prog 70 #[.int .u64 n, .int .i64 2] w fun e w' => ∃ ao c, e = .returned (.slice ao 2 c) ∧ Hid (OwnB w' w.heap.size (.slice ao 2 c) (fB 2 n)) ∧ Hid (Sl w' ao 2 c (fB 2 n)) ∧ Hid (Below w.heap.size w w') := fixed_sl n 2 w h0 hn (by omega) (by omega)
theorem fixed_4 (n : Int) (w : World) (h0 : 0 ≤ n) (hn : n < 18446744073709551616) : Calls Tryz.prog 70 #[.int .u64 n, .int .i64 4] w fun e w' => ∃ ao c, e = .returned (.slice ao 4 c) ∧ Hid (OwnB w' w.heap.size (.slice ao 4 c) (fB 4 n)) ∧ Hid (Sl w' ao 4 c (fB 4 n)) ∧ Hid (Below w.heap.size w w') := fixed_sl n 4 w h0 hn (by omega) (by omega)
theorem own_two8 (w : World) (x y : Int) : OwnB (w.alloc (.cells #[.int .u8 x, .int .u8 y] 5)) w.heap.size (.slice (some ⟨w.heap.size, 0, none⟩) 2 2) [x, y] :=
 own_of_heap (l := [x, y]) (heap_alloc_last w _) (Nat.le_refl _) (by unfold maxLen; simp)
def REnc (k n : Int) (cs : List Cl) (w : World) (e : Ending) (w' : World) : Prop :=
 ∃ v c, e = .returned (.tuple #[v, .int .i64 c]) ∧ Hid (Below w.heap.size w w') ∧ Hid (c = encQ k n cs ∧ ((c ≠ 0 ∧ v = .slice none 0 0) ∨ (c = 0 ∧ OwnB w' w.heap.size v (pkB k n.toNat cs))))
theorem REnc.no {k n : Int} {cs : List Cl} {w w' : World} {c : Int} (hb : Below w.heap.size w w') (hc : c = encQ k n cs) (h0 : c ≠ 0) : REnc k n cs w (.returned (.tuple #[.slice none 0 0, .int .i64 c])) w' := ⟨_, c, rfl, hidden hb, hidden ⟨hc, .inl ⟨h0, rfl⟩⟩⟩
set_option maxHeartbeats 8000000 in
theorem rencode_no (k n : Int) (co : Option Addr) (cn cc : Nat) (cs : List Cl) (w : World) (hs : SlC w co cn cc cs) (hcn : cn ≤ 900000) (hkv : ∀ c ∈ cs, c.key.length + c.val.length ≤ 35184372088832) (hz : szQ k (shP k cs).length cs ≤ 1099511627776) (hne : encQ k n cs ≠ 0) :
  Calls Tryz.prog 36 #[.int .i64 k, .slice co cn cc, .int .i64 n] w fun e w' => REnc k n cs w e w' := by
 have HS := hidden hs
 have HZ := hidden hz
 have HKV := hidden hkv
 have HLEN := hidden hs.hlen
 have HWF := hidden hs.wf
 have HSZ := hidden (rIsSize_any n w)
 have HNE := hidden hne
 clear hs hz hkv hne
 by_cases hkd : isKd k
 ·cases h2 : decide (pw n) with
  | false =>
   have HE : Hid ((1 : Int) = encQ k n cs) := hidden (by unfold encQ; rw [if_neg (fun h => by simp [h.2] at h2)])
   rw [h2] at HSZ
   unfold isKd at hkd
   clear h2
   rcases hkd with rfl | rfl
   all_goals
    go_enter Tryz.func36, Tryz.ntmps36
    go_wp2_with (first | (go_at_call 73; refine same_call HSZ.out ?_))
    go_ret2
    exact REnc.no (Below.refl _ _) HE.out (by omega)
  | true =>
   have hn : pw n := by simpa using h2
   have hpn := pw_le hn
   obtain ⟨N, rfl⟩ := Int.eq_ofNat_of_zero_le (show 0 ≤ n by omega)
   have HPN := hidden hn
   have HE0 : Hid (encQ k N cs = if chk k N none cs = 0 then (if (N : Int) < szQ k (shP k cs).length cs then 61 else 0) else chk k N none cs) := hidden (by unfold encQ; rw [if_pos ⟨hkd, hn⟩])
   have hN1 : (N : Int) ≤ 65536 := hpn.2
   have hN2 : 512 ≤ N := by omega
   have hN3 : 512 ≤ (N : Int) := by omega
   rw [h2] at HSZ
   have HKD := hidden hkd
   have hkb : (k != 2) = false ∨ ((k != 2) = true ∧ (k != 3) = false) := by unfold isKd at hkd; rcases hkd with rfl | rfl <;> simp
   clear hn hpn h2 hkd
   rcases hkb with hk2 | ⟨hk2, hk3⟩
   all_goals
    go_enter Tryz.func36, Tryz.ntmps36
    go_wp2_with (first | (go_at_call 73; refine same_call HSZ.out ?_))
    clear HSZ
    go_loopw [9] (fun i wr => ∃ j : Nat, j ≤ cn ∧ i = .int .i64 j ∧ Hid (chk k N none cs = chk k N (prv (cs.take j)) (cs.drop j)) ∧ Hid (Below w.heap.size w wr)) (fun i _ => cn - (intOf i).toNat)
    case atStart => exact ⟨0, by omega, rfl, hidden (by simp [prv]), hidden (Below.refl _ _)⟩
    case round =>
     obtain ⟨j, hj, rfl, HC, HBW⟩ := hrel
     have bj : (j : Int) ≤ 900000 := by omega
     by_cases hlt : j < cn
     ·have hltI : (j : Int) < (cn : Int) := by omega
      obtain ⟨b, off, c, ka, kc, va, vc, rfl, hb, hci, c0, c1, c2, c3, c4, hkS, hvS⟩ := (HS.out.on HBW.out).item j hlt
      have HCS := hidden (chk_step k N cs j c hci)
      have HCI := hidden hci
      have HKS := hidden hkS
      have HMB := hidden (rmay_any k (N : Int) c ka va kc vc wr hN3 hN1 hkS.hroom hvS.hroom)
      clear hci hkS hvS
      cases hm : decide (mayP k N c) with
      | false =>
       have HE : Hid ((62 : Int) = encQ k N cs) := by
        have : ¬ mayP k N c := by simpa using hm
        have e : chk k N none cs = 62 := by rw [HC.out, HCS.out, if_neg this]
        exact hidden (by rw [HE0.out, e]; simp)
       rw [hm] at HMB
       go_wp2_with (first | (go_at_call 74; refine HMB.out.mono ?_; rintro e w2 ⟨rfl, hb2⟩; have HB2 := hidden (bl_go HBW.out (Nat.le_refl _) hb2); clear hb2))
       go_ret2
       exact REnc.no HB2.out HE.out (by omega)
      | true =>
       have hmp : mayP k N c := by simpa using hm
       have HMP := hidden hmp
       rw [hm] at HMB
       clear hmp hm
       go_wp2_with (first | (go_at_call 74; refine HMB.out.mono ?_; rintro e w2 ⟨rfl, hb2⟩; have HBR := hidden hb2; have HBW2 := hidden (bl_go HBW.out (Nat.le_refl _) hb2); clear hb2; refine Hid.out ?_))
       apply hidden
       have d0 := (HBR.out.cell (p := ⟨b, off + j * 5, none⟩) hb).trans c0
       clear c0 c1 c2 c3 c4 HMB
       by_cases hj0 : j = 0
       ·subst hj0
        have HNX : Hid (chk k N none cs = chk k N (prv (cs.take (0 + 1))) (cs.drop (0 + 1))) := hidden (by rw [HC.out, HCS.out, if_pos HMP.out, if_pos (by simp [prv, ahead])])
        go_wp2
        go_roundw
        case rel => exact ⟨1, by omega, by go_num, HNX, HBW2⟩
        case measure => simp [intOf]; omega
       ·obtain ⟨i, rfl⟩ : ∃ i, j = i + 1 := ⟨j - 1, by omega⟩
        obtain ⟨b', off', c', ka', kc', va', vc', hbo, hb', hci', e0, e1, e2, e3, e4, hk', hv'⟩ := (HS.out.on HBW2.out).item i (by omega)
        injection hbo with hbo
        injection hbo with hb1 hb2
        subst hb1 hb2
        have hprv : prv (cs.take (i + 1)) = some c'.key := by rw [List.take_add_one, hci']; simp [prv]
        have HRI : Hid (∀ q, Calls Tryz.prog 75 #[.slice ka' c'.key.length kc', .slice ka c.key.length kc] (w2.drewN q) fun e w' => e = .returned (.bool (decide (kl c'.key c.key))) ∧ ∃ q', w' = (w2.drewN q).drewN q') :=
         hidden fun q => rahead_any _ _ _ _ _ _ _ _ _ (hk'.drewN q) ((HKS.out.on (Nat.le_refl _) HBR.out).drewN q)
        have HPR := hidden hprv
        have i1 : (i : Int) < (cn : Int) := by omega
        have i2 : i < cn := by omega
        have i3 : (i : Int) ≤ 900000 := by omega
        clear hk' hv' hprv hci' e1 e2 e3 e4 hj0
        cases hkl : decide (kl c'.key c.key) with
        | true =>
         have HNX : Hid (chk k N none cs = chk k N (prv (cs.take (i + 1 + 1))) (cs.drop (i + 1 + 1))) := hidden (by
          rw [HC.out, HCS.out, if_pos HMP.out, if_pos (by rw [HPR.out]; simpa [ahead] using hkl)])
         rw [hkl] at HRI
         go_wp2_with fail
         go_quiet (first | (go_at_call 75; exact Calls.quiet_of (HRI.out _)))
         all_goals
          go_wp2
          go_roundw
          case rel => exact ⟨i + 1 + 1, by omega, by go_num, HNX, hidden (by first | exact HBW2.out | exact bl_dr HBW2.out _ | exact bl_dr (bl_dr HBW2.out _) _)⟩
          case measure => simp [intOf]; omega
        | false =>
         have HE : Hid ((63 : Int) = encQ k N cs) := by
          have e : chk k N none cs = 63 := by rw [HC.out, HCS.out, if_pos HMP.out, if_neg (by rw [HPR.out]; simpa [ahead] using hkl)]
          exact hidden (by rw [HE0.out, e]; simp)
         rw [hkl] at HRI
         go_wp2_with fail
         go_quiet (first | (go_at_call 75; exact Calls.quiet_of (HRI.out _)))
         all_goals
          go_wp2
          go_ret2
          exact REnc.no (by first | exact HBW2.out | exact bl_dr HBW2.out _ | exact bl_dr (bl_dr HBW2.out _) _) HE.out (by omega)
     ·have HC0 : Hid (chk k N none cs = 0) := hidden (by rw [HC.out, List.drop_eq_nil_of_le (by rw [HLEN.out]; omega)]; rfl)
      have HE1 : Hid (encQ k N cs = if (N : Int) < szQ k (shP k cs).length cs then 61 else 0) := hidden (by rw [HE0.out, if_pos HC0.out])
      have HSW := hidden (HS.out.on HBW.out)
      have HZS := hidden (rsize_any k co cn cc cs wr HSW.out hcn HKV.out HZ.out)
      obtain ⟨Z, hZ⟩ : ∃ Z : Nat, szQ k (shP k cs).length cs = Z := ⟨_, rfl⟩
      rw [hZ] at HZS HE1
      have hZb : (Z : Int) ≤ 1099511627776 := by have := HZ.out; omega
      have HZZ := hidden hZ
      clear HC HC0 HE0 hZ
      go_wp2_with (first | (go_at_call 76; refine HZS.out.mono ?_; rintro e w2 ⟨rfl, HB2⟩; refine Hid.out ?_))
      apply hidden
      have HW2 := hidden (bl_go HBW.out (Nat.le_refl _) HB2.out)
      clear HZS HB2 HBW HSW
      by_cases hfit : (N : Int) < (Z : Int)
      ·have HE : Hid ((61 : Int) = encQ k N cs) := hidden (by rw [HE1.out, if_pos hfit])
       go_wp2
       go_ret2
       exact REnc.no HW2.out HE.out (by omega)
      ·exact absurd (by rw [HE1.out, if_neg hfit]) HNE.out
 ·have HE : Hid ((1 : Int) = encQ k n cs) := hidden (by unfold encQ; rw [if_neg (fun h => hkd h.1)])
  have h2 : (k != 2) = true := by unfold isKd at hkd; simp; omega
  have h3 : (k != 3) = true := by unfold isKd at hkd; simp; omega
  clear hkd
  go_enter Tryz.func36, Tryz.ntmps36
  go_wp2_with (first | (go_at_call 73; refine same_call HSZ.out ?_))
  go_ret2
  exact REnc.no (Below.refl _ _) HE.out (by omega)
end Go.Proofs.YtlhkinlgolcpaaaGreatDoor
