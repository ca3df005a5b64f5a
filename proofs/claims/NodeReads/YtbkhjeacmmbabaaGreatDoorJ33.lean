import Derived.Test.YtbkhjeacmmbabaaGreatDoorJ32
namespace Go.Proofs.YtbkhjeacmmbabaaGreatDoor
set_option maxRecDepth 100000
open Go.RowKit
theorem qbd_take1 (m : Nat) : ∀ (cs : List Cl) (f : Bool) (j : Nat) (c : Cl), cs[j]? = some c → qbd m f (cs.take (j + 1)) = qbd m f (cs.take j) ++ qB (if f = true ∧ j = 0 then 0 else m) c
 | [], f, j, c, h => by simp at h
 | d :: r, f, 0, c, h => by
  simp at h
  subst h
  simp [qbd]
 | d :: r, f, j + 1, c, h => by
  have ih := qbd_take1 m r false j c (by simpa using h)
  simp only [List.take_succ_cons, qbd]
  rw [ih]
  simp
theorem qst_take1 (m : Nat) : ∀ (cs : List Cl) (f : Bool) (b j : Nat) (c : Cl), cs[j]? = some c → qst m f b (cs.take (j + 1)) = qst m f b (cs.take j) ++ [b + (qbd m f (cs.take j)).length]
 | [], f, b, j, c, h => by simp at h
 | d :: r, f, b, 0, c, h => by simp [qst, qbd]
 | d :: r, f, b, j + 1, c, h => by
  have ih := qst_take1 m r false (b + (qB (if f then 0 else m) d).length) j c (by simpa using h)
  simp only [List.take_succ_cons, qst, qbd]
  rw [ih]
  simp [Nat.add_assoc]
theorem qbd_take_le (m : Nat) : ∀ (cs : List Cl) (f : Bool) (j : Nat), (qbd m f (cs.take j)).length ≤ (qbd m f cs).length
 | [], f, j => by simp
 | d :: r, f, 0 => by simp [qbd]
 | d :: r, f, j + 1 => by
  have ih := qbd_take_le m r false j
  simp only [List.take_succ_cons, qbd, zG]
  omega
theorem fixed_sl (n : Int) (x : Nat) (w : World) (h0 : 0 ≤ n) (hn : n < 18446744073709551616) (h1 : 1 ≤ x) (h2 : x ≤ 8) :
  Calls Tryz.prog 97 #[.int .u64 n, .int .i64 (x : Int)] w fun e w' => ∃ ao c, e = .returned (.slice ao x c) ∧ Hid (OwnB w' w.heap.size (.slice ao x c) (fB x n)) ∧ Hid (Sl w' ao x c (fB x n)) ∧ Hid (Below w.heap.size w w') := by
 refine (refFixed_yes n (x : Int) w h0 hn zq zq).mono ?_
 rintro e w' ⟨v, rfl, ho, hb⟩
 rw [Int.toNat_natCast] at ho
 obtain ⟨ao, cap, rfl, hs, _⟩ := ho.sl (zbb _ _) (by rw [zah]; omega)
 rw [zah] at hs ho ⊢
 exact ⟨ao, cap, rfl, zaa ho, zaa hs, zaa hb⟩
theorem fixed_2 (n : Int) (w : World) (h0 : 0 ≤ n) (hn : n < 18446744073709551616) : Calls Tryz.prog 97 #[.int .u64 n, .int .i64 2] w fun e w' => ∃ ao c, e = .returned (.slice ao 2 c) ∧ Hid (OwnB w' w.heap.size (.slice ao 2 c) (fB 2 n)) ∧ Hid (Sl w' ao 2 c (fB 2 n)) ∧ Hid (Below w.heap.size w w') := fixed_sl n 2 w h0 hn zq zq
theorem fixed_4 (n : Int) (w : World) (h0 : 0 ≤ n) (hn : n < 18446744073709551616) : Calls Tryz.prog 97 #[.int .u64 n, .int .i64 4] w fun e w' => ∃ ao c, e = .returned (.slice ao 4 c) ∧ Hid (OwnB w' w.heap.size (.slice ao 4 c) (fB 4 n)) ∧ Hid (Sl w' ao 4 c (fB 4 n)) ∧ Hid (Below w.heap.size w w') := fixed_sl n 4 w h0 hn zq zq
theorem own_two8 (w : World) (x y : Int) : OwnB (w.alloc (.cells #[.int .u8 x, .int .u8 y] 5)) w.heap.size (.slice (some ⟨w.heap.size, 0, none⟩) 2 2) [x, y] :=
 zcn (l := [x, y]) (heap_alloc_last w _) Lr (by unfold maxLen; simp)
def REnc (k n : Int) (cs : List Cl) (w : World) (e : Ending) (w' : World) : Prop :=
 ∃ v c, e = .returned (.tuple #[v, .int .i64 c]) ∧ Hid (Below w.heap.size w w') ∧ Hid (c = encQ k n cs ∧ ((c ≠ 0 ∧ v = .slice none 0 0) ∨ (c = 0 ∧ OwnB w' w.heap.size v (pkB k n.toNat cs))))
theorem REnc.no {k n : Int} {cs : List Cl} {w w' : World} {c : Int} (hb : Below w.heap.size w w') (hc : c = encQ k n cs) (h0 : c ≠ 0) : REnc k n cs w (.returned (.tuple #[.slice none 0 0, .int .i64 c])) w' := ⟨_, c, rfl, zaa hb, zaa ⟨hc, .inl ⟨h0, rfl⟩⟩⟩
set_option maxHeartbeats 8000000 in
theorem rencode_no (k n : Int) (co : Option Addr) (cn cc : Nat) (cs : List Cl) (w : World) (hs : SlC w co cn cc cs) (A9 : cn ≤ 900000) (X : ∀ c ∈ cs, c.key.length + c.val.length ≤ 35184372088832) (hz : szQ k (shP k cs).length cs ≤ 1099511627776) (Y : encQ k n cs ≠ 0) :
  Calls Tryz.prog 59 #[.int .i64 k, .slice co cn cc, .int .i64 n] w fun e w' => REnc k n cs w e w' := by
 have HS := zaa hs
 have HZ := zaa hz
 have B0 := zaa X
 have A8 := zaa hs.hlen
 have C1 := zaa hs.wf
 have D := zaa (rIsSize_any n w)
 have B1 := zaa Y
 clear hs hz X Y
 by_cases A : isKd k
 ·cases h2 : decide (pw n) with
  | false =>
   have HE : Hid ((1 : Int) = encQ k n cs) := zaa (by unfold encQ; rw [if_neg (fun h => by simp [h.2] at h2)])
   rw [h2] at D
   unfold isKd at A
   clear h2
   rcases A with rfl | rfl
   all_goals
    go_enter Tryz.func59, Tryz.ntmps59
    go_wp2_with (go_at_call 55; refine zad D.out ?_)
    go_ret2
    exact REnc.no Br HE.out zq
  | true =>
   have hn : pw n := by simpa using h2
   have A0 := pw_le hn
   obtain ⟨N, rfl⟩ := Int.eq_ofNat_of_zero_le (show 0 ≤ n by omega)
   have C2 := zaa hn
   have G : Hid (encQ k N cs = if chk k N none cs = 0 then (if (N : Int) < szQ k (shP k cs).length cs then 61 else 0) else chk k N none cs) := zaa (by unfold encQ; rw [if_pos ⟨A, hn⟩])
   have B2 : (N : Int) ≤ 65536 := A0.2
   have C3 : 512 ≤ N := zq
   have B3 : 512 ≤ (N : Int) := zq
   rw [h2] at D
   have C4 := zaa A
   have B4 : (k != 2) = false ∨ ((k != 2) = true ∧ (k != 3) = false) := by unfold isKd at A; rcases A with rfl | rfl <;> simp
   clear hn A0 h2 A
   rcases B4 with B5 | ⟨B5, C6⟩
   all_goals
    go_enter Tryz.func59, Tryz.ntmps59
    go_wp2_with (go_at_call 55; refine zad D.out ?_)
    clear D
    go_loopw [9] (fun i wr => ∃ j : Nat, j ≤ cn ∧ i = .int .i64 j ∧ Hid (chk k N none cs = chk k N (prv (cs.take j)) (cs.drop j)) ∧ Hid (Below w.heap.size w wr)) (fun i _ => cn - (intOf i).toNat)
    case atStart => exact ⟨0, zq, rfl, zaa (by simp [prv]), zaa Br⟩
    case round =>
     obtain ⟨j, hj, rfl, HC, E⟩ := hrel
     have bj : (j : Int) ≤ 900000 := zq
     by_cases B6 : j < cn
     ·have C0 : (j : Int) < (cn : Int) := zq
      obtain ⟨b, off, c, ka, kc, va, vc, rfl, hb, L, c0, c1, c2, c3, c4, M, A1⟩ := (HS.out.on E.out).item j B6
      have H := zaa (chk_step k N cs j c L)
      have C7 := zaa L
      have B7 := zaa M
      have F := zaa (rmay_any k (N : Int) c ka va kc vc wr B3 B2 M.hroom A1.hroom)
      clear L M A1
      cases hm : decide (mayP k N c) with
      | false =>
       have HE : Hid ((62 : Int) = encQ k N cs) := by
        have : ¬ mayP k N c := by simpa using hm
        have e : chk k N none cs = 62 := by rw [HC.out, H.out, if_neg this]
        exact zaa (by rw [G.out, e]; simp)
       rw [hm] at F
       go_wp2_with (go_at_call 102; refine F.out.mono ?_; rintro e w2 ⟨rfl, C⟩; have I := zaa (zae E.out Lr C); clear C)
       go_ret2
       exact REnc.no I.out HE.out zq
      | true =>
       have A2 : mayP k N c := by simpa using hm
       have O := zaa A2
       rw [hm] at F
       clear A2 hm
       go_wp2_with (go_at_call 102; refine F.out.mono ?_; rintro e w2 ⟨rfl, C⟩; have A3 := zaa C; have B := zaa (zae E.out Lr C); clear C; refine Hid.out ?_)
       apply zaa
       have d0 := (A3.out.cell (p := ⟨b, off + j * 5, none⟩) hb).trans c0
       clear c0 c1 c2 c3 c4 F
       by_cases A4 : j = 0
       ·subst A4
        have P : Hid (chk k N none cs = chk k N (prv (cs.take (0 + 1))) (cs.drop (0 + 1))) := zaa (by rw [HC.out, H.out, if_pos O.out, if_pos (by simp [prv, zap])])
        go_wp2
        go_roundw
        case rel => exact ⟨1, zq, by go_num, P, B⟩
        case measure => simp [intOf]; omega
       ·obtain ⟨i, rfl⟩ : ∃ i, j = i + 1 := ⟨j - 1, zq⟩
        obtain ⟨b', off', c', ka', kc', va', vc', Q, hb', U, e0, e1, e2, e3, e4, hk', hv'⟩ := (HS.out.on B.out).item i zq
        injection Q with Q
        injection Q with B8 C
        subst B8 C
        have V : prv (cs.take (i + 1)) = some c'.key := by rw [List.take_add_one, U]; simp [prv]
        have J : Hid (∀ q, Calls Tryz.prog 103 #[.slice ka' c'.key.length kc', .slice ka c.key.length kc] (w2.drewN q) fun e w' => e = .returned (.bool (decide (kl c'.key c.key))) ∧ ∃ q', w' = (w2.drewN q).drewN q') :=
         zaa fun q => rahead_any _ _ _ _ _ _ _ _ _ (hk'.drewN q) ((B7.out.on Lr A3.out).drewN q)
        have A5 := zaa V
        have i1 : (i : Int) < (cn : Int) := zq
        have i2 : i < cn := zq
        have i3 : (i : Int) ≤ 900000 := zq
        clear hk' hv' V U e1 e2 e3 e4 A4
        cases K : decide (kl c'.key c.key) with
        | true =>
         have P : Hid (chk k N none cs = chk k N (prv (cs.take (i + 1 + 1))) (cs.drop (i + 1 + 1))) := zaa (by
          rw [HC.out, H.out, if_pos O.out, if_pos (by rw [A5.out]; simpa [zap] using K)])
         rw [K] at J
         go_wp2_with fail
         go_quiet (first | (go_at_call 103; exact Calls.quiet_of (J.out _)))
         all_goals
          go_wp2
          go_roundw
          case rel => exact ⟨i + 1 + 1, zq, by go_num, P, zaa (by first | exact B.out | exact zac B.out _ | exact zac (zac B.out _) _)⟩
          case measure => simp [intOf]; omega
        | false =>
         have HE : Hid ((63 : Int) = encQ k N cs) := by
          have e : chk k N none cs = 63 := by rw [HC.out, H.out, if_pos O.out, if_neg (by rw [A5.out]; simpa [zap] using K)]
          exact zaa (by rw [G.out, e]; simp)
         rw [K] at J
         go_wp2_with fail
         go_quiet (first | (go_at_call 103; exact Calls.quiet_of (J.out _)))
         all_goals
          go_wp2
          go_ret2
          exact REnc.no (by first | exact B.out | exact zac B.out _ | exact zac (zac B.out _) _) HE.out zq
     ·have A6 : Hid (chk k N none cs = 0) := zaa (by rw [HC.out, List.drop_eq_nil_of_le (by rw [A8.out]; omega)]; rfl)
      have R : Hid (encQ k N cs = if (N : Int) < szQ k (shP k cs).length cs then 61 else 0) := zaa (by rw [G.out, if_pos A6.out])
      have A7 := zaa (HS.out.on E.out)
      have T := zaa (rsize_any k co cn cc cs wr A7.out A9 B0.out HZ.out)
      obtain ⟨Z, hZ⟩ : ∃ Z : Nat, szQ k (shP k cs).length cs = Z := ⟨_, rfl⟩
      rw [hZ] at T R
      have C8 : (Z : Int) ≤ 1099511627776 := by have := HZ.out; omega
      have C9 := zaa hZ
      clear HC A6 G hZ
      go_wp2_with (go_at_call 104; refine T.out.mono ?_; rintro e w2 ⟨rfl, I⟩; refine Hid.out ?_)
      apply zaa
      have B9 := zaa (zae E.out Lr I.out)
      clear T I E A7
      by_cases W : (N : Int) < (Z : Int)
      ·have HE : Hid ((61 : Int) = encQ k N cs) := zaa (by rw [R.out, if_pos W])
       go_wp2
       go_ret2
       exact REnc.no B9.out HE.out zq
      ·exact absurd (by rw [R.out, if_neg W]) B1.out
 ·have HE : Hid ((1 : Int) = encQ k n cs) := zaa (by unfold encQ; rw [if_neg (fun h => A h.1)])
  have h2 : (k != 2) = true := by unfold isKd at A; simp; omega
  have h3 : (k != 3) = true := by unfold isKd at A; simp; omega
  clear A
  go_enter Tryz.func59, Tryz.ntmps59
  go_wp2_with (go_at_call 55; refine zad D.out ?_)
  go_ret2
  exact REnc.no Br HE.out zq
end Go.Proofs.YtbkhjeacmmbabaaGreatDoor
