import Derived.Test.YtbkhjeacmmbabaaGreatDoorJ33
namespace Go.Proofs.YtbkhjeacmmbabaaGreatDoor
set_option maxRecDepth 100000
open Go.RowKit
def lnOf7 : Value → Nat
 | .slice _ n _ => n
 | _ => 0
theorem sloB_snoc (l : List Nat) (s : Nat) : sloB (l ++ [s]) = sloB l ++ fB 2 (s : Int) := by simp [sloB]
theorem one_sl7 (w : World) (x : Int) (hx : 0 ≤ x ∧ x ≤ 255) : Sl (w.alloc (.cells #[.int .u8 x] 5)) (some ⟨w.heap.size, 0, none⟩) 1 1 [x] := by
 refine ⟨rfl, Lr, zq, Wf.cons hx Wf.nil, (by intro h; cases h), .inr ⟨w.heap.size, 0, rfl, zv, ?_⟩⟩
 intro i hi
 obtain rfl : i = 0 := zq
 simp
theorem own_sl7 {w : World} {B : Nat} {ao : Option Addr} {n c : Nat} {l : List Int} (h : OwnB w B (.slice ao n c) l) (hw : Wf l) (hl : l.length ≤ 140737488355328) : Sl w ao n c l := by
 obtain ⟨ao', c', e, hs, _⟩ := h.sl hw hl
 injection e with e1 e2 e3
 subst e1 e3
 rw [← e2] at hs
 exact hs
theorem qbd_wf7 (m : Nat) : ∀ (f : Bool) (cs : List Cl), (∀ c ∈ cs, c.Wf) → (∀ c ∈ cs, c.key.length + c.val.length ≤ 35184372088832) → Wf (qbd m f cs)
 | _, [], _, _ => by intro x hx; cases hx
 | f, c :: r, h, k => by
  have h1 := k c zv
  exact (qB_wf (h c zv) zq zq).append (qbd_wf7 m false r (fun d hd => h d (by simp [hd])) (fun d hd => k d (by simp [hd])))
theorem two_wf7 {k : Int} (_h : isKd k) (e : k % 256 = k) : Wf [k % 256, 2] := by
 intro x hx
 simp only [List.mem_cons, List.not_mem_nil, or_false] at hx
 rw [e] at hx
 unfold isKd at _h
 omega
set_option maxHeartbeats 16000000 in
theorem rencode_yes (k : Int) (N : Nat) (co : Option Addr) (cn cc : Nat) (cs : List Cl) (w : World) (hs : SlC w co cn cc cs) (K9 : cn ≤ 900000) (L0 : ∀ c ∈ cs, c.key.length + c.val.length ≤ 35184372088832) (hz : szQ k (shP k cs).length cs ≤ 1099511627776) (he : encQ k N cs = 0) :
  Calls Tryz.prog 59 #[.int .i64 k, .slice co cn cc, .int .i64 (N : Int)] w fun e w' => ∃ v, e = .returned (.tuple #[v, .int .i64 0]) ∧ Hid (OwnB w' w.heap.size v (pkB k N cs)) ∧ Hid (Below w.heap.size w w') := by
 have HS := zaa hs
 have HZ := zaa hz
 have A9 := zaa L0
 have A5 := zaa hs.hlen
 have G8 := zaa hs.wf
 have G9 := zaa (rIsSize_any (N : Int) w)
 have J : isKd k := by
  unfold encQ at he
  by_cases h : isKd k ∧ pw (N : Int)
  ·exact h.1
  ·rw [if_neg h] at he; cases he
 have hn : pw (N : Int) := by
  unfold encQ at he
  by_cases h : isKd k ∧ pw (N : Int)
  ·exact h.2
  ·rw [if_neg h] at he; cases he
 have L1 := pw_le hn
 have H0 : Hid (chk k N none cs = 0) := zaa (by
  unfold encQ at he
  rw [if_pos ⟨J, hn⟩] at he
  by_cases h : chk k N none cs = 0
  ·exact h
  ·rw [if_neg h] at he; exact absurd he h)
 have G4 : ¬ (N : Int) < szQ k (shP k cs).length cs := by
  unfold encQ at he
  rw [if_pos ⟨J, hn⟩, if_pos H0.out] at he
  intro h
  rw [if_pos h] at he
  cases he
 have A8 := zaa G4
 clear G4
 have Q7 : (N : Int) ≤ 65536 := L1.2
 have T9 : 512 ≤ N := zq
 have Q8 : 512 ≤ (N : Int) := zq
 have h2 : decide (pw (N : Int)) = true := by simpa using hn
 rw [h2] at G9
 have R0 := zaa J
 have G5 : k % 256 = k := by unfold isKd at J; omega
 have G6 := zaa G5
 have R1 : (k != 2) = false ∨ ((k != 2) = true ∧ (k != 3) = false) := by unfold isKd at J; rcases J with rfl | rfl <;> simp
 clear hn L1 h2 J hs hz L0 he G5
 rcases R1 with R2 | ⟨R2, U0⟩
 all_goals
  go_enter Tryz.func59, Tryz.ntmps59
  go_wp2_with (go_at_call 55; refine zad G9.out ?_)
  clear G9
  go_loopw [9] (fun i wr => ∃ j : Nat, j ≤ cn ∧ i = .int .i64 j ∧ Hid (chk k N (prv (cs.take j)) (cs.drop j) = 0) ∧ Hid (Below w.heap.size w wr)) (fun i _ => cn - (RowKit.intOf i).toNat)
  case atStart => exact ⟨0, zq, rfl, zaa (by simpa [prv] using H0.out), zaa Br⟩
  case round =>
   obtain ⟨j, hj, rfl, HC, B0⟩ := hrel
   have bj : (j : Int) ≤ 900000 := zq
   by_cases E3 : j < cn
   ·have C8 : (j : Int) < (cn : Int) := zq
    obtain ⟨b, off, c, ka, kc, va, vc, rfl, hb, K, c0, c1, c2, c3, c4, A1, B2⟩ := (HS.out.on B0.out).item j E3
    have C := chk_step k N cs j c K
    rw [HC.out] at C
    have H1 : mayP k N c := by
     by_cases h : mayP k N c
     ·exact h
     ·rw [if_neg h] at C; cases C
    rw [if_pos H1] at C
    have H2 : zap (prv (cs.take j)) c.key := by
     by_cases h : zap (prv (cs.take j)) c.key
     ·exact h
     ·rw [if_neg h] at C; cases C
    rw [if_pos H2] at C
    have L2 := zaa C.symm
    have R3 := zaa H2
    have H3 := zaa A1
    have H4 := zaa (rmay_any k (N : Int) c ka va kc vc wr Q8 Q7 A1.hroom B2.hroom)
    rw [show decide (mayP k N c) = true from by simpa using H1] at H4
    clear K A1 B2 C H2 H1
    go_wp2_with (go_at_call 102; refine H4.out.mono ?_; rintro e w2 ⟨rfl, B3⟩; have L3 := zaa B3; have A0 := zaa (zae B0.out Lr B3); clear B3; refine Hid.out ?_)
    apply zaa
    have d0 := (L3.out.cell (p := ⟨b, off + j * 5, none⟩) hb).trans c0
    clear c0 c1 c2 c3 c4 H4
    by_cases L4 : j = 0
    ·subst L4
     go_wp2
     go_roundw
     case rel => exact ⟨1, zq, by go_num, L2, A0⟩
     case measure => simp [RowKit.intOf]; omega
    ·obtain ⟨i, rfl⟩ : ∃ i, j = i + 1 := ⟨j - 1, zq⟩
     obtain ⟨b', off', c', ka', kc', va', vc', H5, hb', K1, e0, e1, e2, e3, e4, hk', hv'⟩ := (HS.out.on A0.out).item i zq
     injection H5 with H5
     injection H5 with M B3
     subst M B3
     have K2 : prv (cs.take (i + 1)) = some c'.key := by rw [List.take_add_one, K1]; simp [prv]
     have L6 : decide (kl c'.key c.key) = true := by
      have := R3.out
      rw [K2] at this
      simpa [zap] using this
     have L9 : Hid (∀ q, Calls Tryz.prog 103 #[.slice ka' c'.key.length kc', .slice ka c.key.length kc] (w2.drewN q) fun e w' => e = .returned (.bool (decide (kl c'.key c.key))) ∧ ∃ q', w' = (w2.drewN q).drewN q') :=
      zaa fun q => rahead_any _ _ _ _ _ _ _ _ _ (hk'.drewN q) ((H3.out.on Lr L3.out).drewN q)
     rw [L6] at L9
     have i1 : (i : Int) < (cn : Int) := zq
     have i2 : i < cn := zq
     have i3 : (i : Int) ≤ 900000 := zq
     clear hk' hv' K2 K1 e1 e2 e3 e4 L4 L6
     go_wp2_with fail
     go_quiet (first | (go_at_call 103; exact Calls.quiet_of (L9.out _)))
     go_wp2
     go_roundw
     case rel => exact ⟨i + 1 + 1, zq, by go_num, L2, zaa (by first | exact A0.out | exact zac A0.out _ | exact zac (zac A0.out _) _)⟩
     case measure => simp [RowKit.intOf]; omega
   ·have M0 := zaa (HS.out.on B0.out)
    have H6 := zaa (rsize_any k co cn cc cs wr M0.out K9 A9.out HZ.out)
    obtain ⟨Z, hZ⟩ : ∃ Z : Nat, szQ k (shP k cs).length cs = Z := ⟨_, rfl⟩
    rw [hZ] at H6 A8
    have U1 : (Z : Int) ≤ 1099511627776 := by have := HZ.out; omega
    have M1 := zaa hZ
    have P8 : ¬ (N : Int) < (Z : Int) := by have := A8.out; omega
    have T4 : (Z : Int) ≤ (N : Int) := zq
    have Q0 := zaa hZ
    clear HC H0 hZ A8
    go_wp2_with (go_at_call 104; refine H6.out.mono ?_; rintro e w2 ⟨rfl, E4⟩; refine Hid.out ?_)
    apply zaa
    have H7 := zaa (zae B0.out Lr E4.out)
    clear H6 E4 B0 M0
    have M2 := zaa (rshared_any k co cn cc cs w2 (HS.out.on H7.out) K9)
    go_wp2_with (go_at_call 93; refine M2.out.mono ?_; rintro e w3 ⟨vP, rfl, E5, E⟩; refine Hid.out ?_)
    apply zaa
    have O := zaa (zae H7.out Lr E.out)
    have T5 := O.out.size
    have F := zbj k (shP k cs).length cs
    rw [M1.out, A5.out] at F
    have H8 := zaa (shP_wf (k := k) G8.out)
    have C9 : Hid (∀ (j : Nat) (c : Cl), cs[j]? = some c → ¬ (k = 3 ∧ (j : Int) = 0) → (shP k cs).length ≤ c.key.length) := zaa fun j c hc U2 => beg_len (zby k cs c (mem_ktl hc zq))
    have M3 : Hid (pkB k N cs = sealB (pkL k N (shP k cs) cs)) := zaa rfl
    obtain ⟨P, hP⟩ : ∃ P, shP k cs = P := ⟨_, rfl⟩
    have Q1 : Hid (P = shP k cs) := zaa hP.symm
    rw [hP] at E5 H8 C9 M3 F
    obtain ⟨m, hm⟩ : ∃ m, P.length = m := ⟨_, rfl⟩
    rw [hm] at C9 F
    obtain ⟨f, hf⟩ : ∃ f, whl k = f := ⟨_, rfl⟩
    rw [hf] at F
    obtain ⟨pa, pc, rfl, H9, _⟩ := E5.out.sl H8.out zq
    rw [hm] at H9 E5 ⊢
    have I0 := zaa H9
    have HM := zaa (And.intro hm hf)
    have E7 := zaa F
    have bm : m ≤ 65536 := zq
    have bcn : cn ≤ 65536 := zq
    have bmI : (m : Int) ≤ 65536 := zq
    have bcI : (cn : Int) ≤ 65536 := zq
    have U3 : IntKind.u64.wrap (cn : Int) = (cn : Int) := by rw [IntKind.wrap_u64]; omega
    have U4 : IntKind.u64.wrap (m : Int) = (m : Int) := by rw [IntKind.wrap_u64]; omega
    obtain ⟨B1, A2⟩ : ∃ B, w3.heap.size = B := ⟨_, rfl⟩
    obtain ⟨y, hy⟩ : ∃ y, w3.alloc (.cells #[.int .u8 (k % 256), .int .u8 2] 5) = y := ⟨_, rfl⟩
    have I1 : B1 ≤ w3.heap.size := zq
    have I2 : Below B1 w3 y := by rw [← hy, ← A2]; exact zab Br Lr _
    have I3 : Hid (OwnB y B1 (.slice (some ⟨B1, 0, none⟩) 2 2) [k % 256, 2]) := zaa (by rw [← hy, ← A2]; exact own_two8 w3 _ _)
    have A3 := zaa I2
    have R4 : B1 ≤ y.heap.size := by rw [← A2]; exact I2.size
    have B4 := zaa (fixed_2 (cn : Int) y zq zq)
    clear M2 E H7 hP hm hf H9 E5 I2 F P8 M1
    go_wp2_with (go_at_call 97; refine B4.out.mono ?_; rintro e w4 ⟨a4, c4, rfl, B5, M4, E8⟩; refine Hid.out ?_)
    apply zaa
    have M5 := zaa (zae A3.out I1 E8.out)
    have I4 : B1 ≤ w4.heap.size := zN R4 E8.out.size
    have B6 := zaa (zcg (.slice (some ⟨B1, 0, none⟩) 2 2) B1 [k % 256, 2] (fB 2 (cn : Int)) a4 2 c4 w4 (I3.out.on Lr E8.out) M4.out (zcl I3.out B5.out Lr) zv I4)
    clear B4 B5 M4 E8 I3 A3 hy
    go_wp2_with (go_at_call 101; refine B6.out.mono ?_; rintro e w5 ⟨v5, rfl, E9, I5⟩; refine Hid.out ?_)
    apply zaa
    have M6 := zaa (M5.out.trans I5.out)
    have M7 : B1 ≤ w5.heap.size := zN I4 I5.out.size
    obtain ⟨L5, F0⟩ : ∃ L, [k % 256, 2] ++ fB 2 (cn : Int) = L := ⟨_, rfl⟩
    have I6 : L5.length = 4 := by rw [← F0]; simp [zah]
    rw [F0] at E9
    have M8 := zaa F0
    have M9 := zaa (fixed_2 (m : Int) w5 zq zq)
    clear B6 I5 M5 I4 F0
    go_wp2_with (go_at_call 97; refine M9.out.mono ?_; rintro e w6 ⟨a6, c6, rfl, F1, N0, F2⟩; refine Hid.out ?_)
    apply zaa
    have F3 := zaa (zae M6.out I1 F2.out)
    have B7 : B1 ≤ w6.heap.size := zN M7 F2.out.size
    have N1 := zaa (zcg v5 B1 L5 (fB 2 (m : Int)) a6 2 c6 w6 (E9.out.on Lr F2.out) N0.out (zcl E9.out F1.out Lr) zq B7)
    clear M9 F1 N0 F2 E9 M6 M7
    go_wp2_with (go_at_call 101; refine N1.out.mono ?_; rintro e w7 ⟨v7, rfl, U, I7⟩; refine Hid.out ?_)
    apply zaa
    have B8 := zaa (F3.out.trans I7.out)
    have I8 : B1 ≤ w7.heap.size := zN B7 I7.out.size
    obtain ⟨L7, F4⟩ : ∃ L, L5 ++ fB 2 (m : Int) = L := ⟨_, rfl⟩
    have I9 : L7.length = 6 := by rw [← F4]; simp [zah, I6]
    rw [F4] at U
    have N2 := zaa F4
    have N3 := zaa (zcg v7 B1 L7 P pa m pc w7 U.out (I0.out.on (Nat.le_of_eq A2) B8.out) (sl_far I0.out U.out (Nat.le_of_eq A2)) zq I8)
    clear N1 I7 F3 B7 F4 U
    go_wp2_with (go_at_call 101; refine N3.out.mono ?_; rintro e w8 ⟨v8, rfl, F5, J0⟩; refine Hid.out ?_)
    apply zaa
    have N4 := zaa (B8.out.trans J0.out)
    have R5 : B1 ≤ w8.heap.size := zN I8 J0.out.size
    obtain ⟨L8, F6⟩ : ∃ L, L7 ++ P = L := ⟨_, rfl⟩
    have J1 : L8.length = 6 + m := by rw [← F6, zG, HM.out.1, I9]
    rw [F6] at F5
    have N5 := zaa F6
    clear N3 J0 B8 I8 F6 I0
    obtain ⟨oa, oc, N6⟩ := zch F5.out
    rw [J1] at N6
    subst N6
    obtain ⟨A, hA⟩ : ∃ A : Nat, 6 + m + 2 * cn = A := ⟨_, rfl⟩
    have bA : (A : Int) ≤ 262144 := zq
    have R6 : ((6 + m : Nat) : Int) + 2 * (cn : Int) = (A : Int) := zq
    have N7 := zaa hA
    have F := E7.out
    have J2 : Hid (∀ j, (qbd m f (cs.take j)).length ≤ 65536) := zaa fun j => by have := qbd_take_le m cs f j; omega
    have N8 : Hid (∀ j : Nat, (if k = 3 ∧ (j : Int) = 0 then 0 else m) = (if f = true ∧ j = 0 then 0 else m)) := zaa (by
     intro j
     have e : (k = 3 ∧ (j : Int) = 0) = (f = true ∧ j = 0) := by
      rw [← HM.out.2]
      unfold whl
      simp
     simp only [e])
    clear hA F
    have D0 := zaa J1
    have T6 := zaa (And.intro I6 I9)
    have D := zaa I1
    have A6 := zaa A2
    clear J1 I6 I9
    go_wp2_with fail
    clear R6
    go_loopw [14, 18, 19] (fun o b i wq => ∃ (j : Nat) (ba : Option Addr) (bn bc : Nat), j ≤ cn ∧ i = .int .i64 j ∧ b = .slice ba bn bc ∧ Hid (OwnB wq B1 o (L8 ++ sloB (qst m f A (cs.take j)))) ∧ Hid (OwnB wq B1 (.slice ba bn bc) (qbd m f (cs.take j))) ∧ Hid (Apt (.slice ba bn bc) o) ∧ Hid (Below B1 w3 wq)) (fun _ _ i _ => cn - (RowKit.intOf i).toNat)
    case atStart => exact ⟨0, none, 0, 0, zq, rfl, rfl, zaa (by simpa [qst, sloB] using F5.out), zaa (by simpa [qbd] using OwnB.nil _ _), zaa (.inl rfl), N4⟩
    case round =>
     clear F5 N4 R5
     obtain ⟨j, ba, bn, bc, hj, rfl, rfl, HO, G, B9, HB⟩ := hrel
     have bj : (j : Int) ≤ 65536 := zq
     have V : B1 ≤ wr.heap.size := zN D.out HB.out.size
     have U5 : Hid (Below w.heap.size w wr) := zaa (O.out.trans (HB.out.mono (by have := A6.out; omega)))
     have H : Hid ((qbd m f (cs.take j)).length = bn) := zaa (by
      obtain ⟨a, c, e⟩ := zch G.out
      injection e with _ e2 _
      exact e2.symm)
     have U6 : bn ≤ 65536 := by have := J2.out j; rw [H.out] at this; exact this
     have bnI : (bn : Int) ≤ 65536 := zq
     by_cases E3 : j < cn
     ·have C8 : (j : Int) < (cn : Int) := zq
      obtain ⟨b, off, c, ka, kc, va, vc, rfl, hb, K, c0, c1, c2, c3, c4, A1, B2⟩ := HS.out.item j E3
      have F7 := zaa (qbd_take1 m cs f j c K)
      have F8 := zaa (qst_take1 m cs f A j c K)
      rw [H.out] at F8
      have J3 := J2.out (j + 1)
      rw [F7.out, zG, H.out] at J3
      obtain ⟨Q, hQ⟩ : ∃ Q, qbd m f (cs.take j) = Q := ⟨_, rfl⟩
      rw [hQ] at G F7 H
      obtain ⟨T, hT⟩ : ∃ T, qst m f A (cs.take j) = T := ⟨_, rfl⟩
      have R7 : T.length ≤ 65536 := by rw [← hT, zbi, zJ]; omega
      rw [hT] at HO F8
      have R9 : Hid ((L8 ++ sloB T).length ≤ 300000) := zaa (by rw [zG, zbl, D0.out]; omega)
      obtain ⟨S, hS⟩ : ∃ S : Nat, A + bn = S := ⟨_, rfl⟩
      rw [hS] at F8
      have HF : Hid (Calls Tryz.prog 97 #[.int .u64 (6 + (m : Int) + 2 * (cn : Int) + (bn : Int)), .int .i64 2] wr fun e w' => ∃ ao c, e = .returned (.slice ao 2 c) ∧ Hid (OwnB w' wr.heap.size (.slice ao 2 c) (fB 2 (S : Int))) ∧ Hid (Sl w' ao 2 c (fB 2 (S : Int))) ∧ Hid (Below wr.heap.size wr w')) := zaa (by
       have e : 6 + (m : Int) + 2 * (cn : Int) + (bn : Int) = (S : Int) := by have := N7.out; omega
       rw [e]
       exact fixed_2 (S : Int) wr zq zq)
      have H3 := zaa A1
      have S0 := zaa B2
      have C0 := zaa K
      have C1 := zaa (And.intro c0 (And.intro c1 (And.intro c2 (And.intro c3 c4))))
      have F9 := zaa J3
      have C2 := zaa hb
      clear hQ hT K A1 B2 c0 c1 c2 c3 c4 hS J3 R7 hb
      go_wp2_with (go_at_call 97; refine HF.out.mono ?_; rintro e x1 ⟨a1, c1, rfl, I, N9, M⟩; refine Hid.out ?_)
      apply zaa
      have C3 : Hid (Below B1 w3 x1) := zaa (zae HB.out D.out M.out)
      have A7 : B1 ≤ x1.heap.size := zN V M.out.size
      have D3 : Hid (OwnB x1 B1 _ (L8 ++ sloB T)) := zaa (HO.out.on Lr M.out)
      have D4 : Hid (OwnB x1 B1 (.slice ba bn bc) Q) := zaa (G.out.on Lr M.out)
      have O0 := zaa (zbz _ B1 (L8 ++ sloB T) (fB 2 (S : Int)) a1 2 c1 x1 D3.out N9.out (zcl HO.out I.out Lr) (by have := R9.out; omega) A7)
      clear HF HO G I M HB
      go_wp2_with (go_at_call 101; refine O0.out.mono ?_; rintro e x2 ⟨v2, rfl, G0, C4⟩; refine Hid.out ?_)
      apply zaa
      have J4 : Hid (Below B1 w3 x2) := zaa (C3.out.trans (C4.out.below D3.out A7))
      have D5 : Hid (OwnB x2 B1 (.slice ba bn bc) Q) := zaa (zcx D4.out C4.out B9.out)
      have D7 : Hid (Apt (.slice ba bn bc) v2) := zaa (B9.out.gr D4.out C4.out)
      have K4 : B1 ≤ x2.heap.size := zN A7 C4.out.grow.size
      have K5 : Hid (OwnB x2 B1 v2 (L8 ++ sloB (T ++ [S]))) := zaa (by rw [sloB_snoc, ← zM]; exact G0.out)
      have W : Hid (Below w.heap.size w x2) := zaa (O.out.trans (J4.out.mono (by have := A6.out; have := O.out.size; omega)))
      have d0 := (W.out.cell (p := ⟨b, off + j * 5, none⟩) C2.out).trans C1.out.1
      have d1 := (W.out.cell (p := ⟨b, off + j * 5 + 1, none⟩) C2.out).trans C1.out.2.1
      have d2 := (W.out.cell (p := ⟨b, off + j * 5 + 2, none⟩) C2.out).trans C1.out.2.2.1
      have d3 := (W.out.cell (p := ⟨b, off + j * 5 + 3, none⟩) C2.out).trans C1.out.2.2.2.1
      have d4 := (W.out.cell (p := ⟨b, off + j * 5 + 4, none⟩) C2.out).trans C1.out.2.2.2.2
      have A3 := zaa (rbytes_any k (j : Int) c ka va kc vc m x2 (H3.out.on Lr W.out) (S0.out.on Lr W.out) (fun h => C9.out j c C0.out h) (A9.out c (List.mem_of_getElem? C0.out)))
      rw [N8.out j] at A3
      clear O0 G0 C4 D3 D4 C3 A7 B9 N9
      go_wp2_with (go_at_call 105; refine A3.out.mono ?_; rintro e x3 ⟨v3, rfl, A4, E⟩; refine Hid.out ?_)
      apply zaa
      obtain ⟨yo, yc, X⟩ := zch A4.out
      subst X
      obtain ⟨R, hR⟩ : ∃ R, qB (if f = true ∧ j = 0 then 0 else m) c = R := ⟨_, rfl⟩
      rw [hR] at A4 F7 F9 ⊢
      obtain ⟨rn, J5⟩ : ∃ rn, R.length = rn := ⟨_, rfl⟩
      rw [J5] at A4 F9 ⊢
      have S1 : Hid (Wf R) := zaa (by rw [← hR]; exact qB_wf (G8.out c (List.mem_of_getElem? C0.out)) (by have := A9.out c (List.mem_of_getElem? C0.out); omega) (by have := A9.out c (List.mem_of_getElem? C0.out); omega))
      have S2 := zaa J5
      have O1 : Hid (Below B1 w3 x3) := zaa (zae J4.out D.out E.out)
      have D8 : B1 ≤ x3.heap.size := zN K4 E.out.size
      have D9 : Hid (OwnB x3 B1 v2 (L8 ++ sloB (T ++ [S]))) := zaa (K5.out.on Lr E.out)
      have E0 : Hid (OwnB x3 B1 (.slice ba bn bc) Q) := zaa (D5.out.on Lr E.out)
      have O2 := zaa (zbz (.slice ba bn bc) B1 Q R yo rn yc x3 E0.out (own_sl7 A4.out S1.out (by rw [S2.out]; have := F9.out; omega)) (zcl D5.out A4.out Lr) (by rw [H.out]; have := F9.out; omega) D8)
      clear A3 A4 E J4 D5 K5 K4 hR J5 d0 d1 d2 d3 d4
      go_wp2_with (go_at_call 101; refine O2.out.mono ?_; rintro e x4 ⟨v4, rfl, B5, G1⟩; refine Hid.out ?_)
      apply zaa
      have S3 : Hid (Below B1 w3 x4) := zaa (O1.out.trans (G1.out.below E0.out D8))
      have Q2 : Hid (OwnB x4 B1 v2 (L8 ++ sloB (qst m f A (cs.take (j + 1))))) := zaa (by rw [F8.out]; exact zcx D9.out G1.out D7.out.symm)
      have K6 : Hid (Apt v4 v2) := zaa (Apt.symm (D7.out.symm.gr D9.out G1.out))
      have E1 : Hid (OwnB x4 B1 v4 (qbd m f (cs.take (j + 1)))) := zaa (by rw [F7.out]; exact B5.out)
      obtain ⟨zo, zc, X⟩ := zch E1.out
      subst X
      obtain ⟨zn, O3⟩ : ∃ zn, (qbd m f (cs.take (j + 1))).length = zn := ⟨_, rfl⟩
      rw [O3] at E1 K6 ⊢
      clear O2 B5 G1 D9 E0 O1 D8 D7 O3
      go_wp2
      go_roundw
      case rel => exact ⟨j + 1, zo, zn, zc, zq, by go_num, rfl, Q2, E1, K6, S3⟩
      case measure => simp [RowKit.intOf]; omega
     ·have S4 : j = cn := zq
      subst S4
      have U7 : ¬ (j : Int) < (j : Int) := zq
      have O4 : Hid (cs.take j = cs) := zaa (List.take_of_length_le (by rw [A5.out]; exact Lr))
      rw [O4.out] at HO G H
      obtain ⟨Q, hQ⟩ : ∃ Q, qbd m f cs = Q := ⟨_, rfl⟩
      obtain ⟨T, hT⟩ : ∃ T, qst m f A cs = T := ⟨_, rfl⟩
      rw [hQ] at G H
      rw [hT] at HO
      have O5 : Hid (T.length = j) := zaa (by rw [← hT, zbi, A5.out])
      have O6 : Hid (Wf Q) := zaa (by rw [← hQ]; exact qbd_wf7 _ _ _ G8.out A9.out)
      have O7 : Hid (Sl wr ba bn bc Q) := zaa (own_sl7 G.out O6.out (by rw [H.out]; omega))
      have HA := zaa (zbz _ B1 (L8 ++ sloB T) Q ba bn bc wr HO.out O7.out (apt_far B9.out) (by rw [zG, zbl, D0.out, O5.out]; omega) V)
      have J6 : Hid ((L8 ++ sloB T) ++ Q ++ zs (N - Z) = pkL k N P cs) := zaa (by
       rw [← N5.out, ← N2.out, ← M8.out, ← hT, ← hQ]
       unfold pkL
       rw [HM.out.1, HM.out.2, A5.out, G6.out, N7.out, show szQ k m cs = Z from by rw [← HM.out.1, Q1.out]; exact Q0.out]
       simp only [zM])
      have T7 := zaa E7.out
      have G2 : Hid (((L8 ++ sloB T) ++ Q).length = Z - 4) := zaa (by
       rw [zG, zG, zbl, D0.out, O5.out, ← hQ]
       have := E7.out
       omega)
      clear J2 N8 hQ hT O4
      go_wp2_with (go_at_call 101; refine HA.out.mono ?_; rintro e x1 ⟨v1, rfl, I, O8⟩; refine Hid.out ?_)
      apply zaa
      have C3 : Hid (Below B1 w3 x1) := zaa (HB.out.trans (O8.out.below HO.out V))
      obtain ⟨Y0, J7⟩ : ∃ Y0, (L8 ++ sloB T) ++ Q = Y0 := ⟨_, rfl⟩
      rw [J7] at I J6 G2
      have Q3 : Hid (Wf Y0) := zaa (by
       rw [← J7, ← N5.out, ← N2.out, ← M8.out]
       exact (((((two_wf7 R0.out G6.out).append (zbb _ _)).append (zbb _ _)).append H8.out).append (sloB_wf _)).append O6.out)
      obtain ⟨yo, yc, X⟩ := zch I.out
      subst X
      obtain ⟨z0, J8⟩ : ∃ z0, Z - 4 = z0 := ⟨_, rfl⟩
      rw [G2.out, J8] at I ⊢
      rw [J8] at G2
      have O9 : Z = z0 + 4 := by have := E7.out; omega
      have T8 : z0 + 4 ≤ N := zq
      have Q4 := zaa O9
      clear HA HO G O7 B9 O8 HB J7 J8 O9
      obtain ⟨pad, K7⟩ : ∃ pad, N - Z = pad := ⟨_, rfl⟩
      rw [K7] at J6
      have G7 : z0 + pad + 4 = N := by have := Q4.out; omega
      have J9 := zaa G7
      clear K7 G7
      go_wp2_with fail
      go_loopw [14] (fun v wr => ∃ (t : Nat) (vo : Option Addr) (vc : Nat), t ≤ pad ∧ v = .slice vo (z0 + t) vc ∧ Hid (OwnB wr B1 (.slice vo (z0 + t) vc) (Y0 ++ zs t)) ∧ Hid (Below B1 w3 wr)) (fun v _ => N - lnOf7 v)
      case atStart => exact ⟨0, yo, yc, zq, rfl, zaa (by simpa [zs] using I.out), C3⟩
      case round =>
       clear I C3
       rename_i wr0 wr
       obtain ⟨t, vo, vc, ht, rfl, HO, HB⟩ := hrel
       have V : B1 ≤ wr.heap.size := zN D.out HB.out.size
       obtain ⟨q, hq⟩ : ∃ q, z0 + t = q := ⟨_, rfl⟩
       have C6 : Hid ((Y0 ++ zs t).length = q) := zaa (by rw [zG, G2.out, zbc, hq])
       obtain ⟨Y, hY⟩ : ∃ Y, Y0 ++ zs t = Y := ⟨_, rfl⟩
       have P0 := zaa hY
       have P1 : Hid (Wf Y) := zaa (by rw [← hY]; exact Q3.out.append (zs_wf t))
       rw [hY] at C6 HO
       rw [hq] at HO ⊢
       have P2 := zaa hq
       have U9 : q + 4 ≤ N := by have := J9.out; omega
       have V0 : (q : Int) ≤ 65536 := zq
       clear hY
       by_cases E3 : t < pad
       ·have C8 : (q : Int) < (N : Int) - 4 := by have := J9.out; omega
        obtain ⟨x, hx⟩ : ∃ x, wr.alloc (.cells #[.int .u8 0] 5) = x := ⟨_, rfl⟩
        have G3 : Below wr.heap.size wr x := by rw [← hx]; exact zab Br Lr _
        have P3 : Hid (Sl x (some ⟨wr.heap.size, 0, none⟩) 1 1 [0]) := zaa (by rw [← hx]; exact one_sl7 wr 0 zq)
        have K0 := zaa (HO.out.on Lr G3)
        have P4 : B1 ≤ x.heap.size := zN V G3.size
        have S5 := zaa (zae HB.out D.out G3)
        have S6 : q + 1 ≤ 140737488355328 := zq
        clear G3 hq
        go_wp2_with (at_builtin; refine zat _ rfl _ _ rfl B1 Y [0] _ (some ⟨wr.heap.size, 0, none⟩) 1 1 rfl rfl K0.out P3.out (by rw [C6.out]; exact S6) P4 ?_; refine Hid.out ?_)
        apply zaa
        intro v' w' ho hg
        have E4 : Hid (Below B1 w3 w') := zaa (S5.out.trans (hg.below K0.out P4))
        obtain ⟨vo2, vc2, X⟩ := zch ho
        subst X
        have P6 : (Y ++ [0]).length = q + 1 := by rw [zG, C6.out]; rfl
        rw [P6] at ho ⊢
        have G0 : Hid (OwnB w' B1 (.slice vo2 (z0 + (t + 1)) vc2) (Y0 ++ zs (t + 1))) := zaa (by
         rw [show z0 + (t + 1) = q + 1 from by have := P2.out; omega, show zs (t + 1) = zs t ++ [0] from zs_add t 1, ← zM, P0.out]
         exact ho)
        have S7 : Hid (q + 1 = z0 + (t + 1)) := zaa (by have := P2.out; omega)
        clear ho hg hx K0 P3 P6
        go_wp2
        go_roundw
        case rel => exact ⟨t + 1, vo2, vc2, zq, by rw [S7.out], G0, E4⟩
        case measure => simp [lnOf7]; omega
       ·have C8 : ¬ (q : Int) < (N : Int) - 4 := by have := J9.out; omega
        have HH : Hid (Y = pkL k N P cs) := zaa (by rw [← P0.out, ← J6.out, show t = pad from by omega])
        have K8 : Hid (Sl wr vo q vc Y) := zaa (own_sl7 HO.out P1.out (by rw [C6.out]; omega))
        have E2 := zaa (rSumOf_any vo q vc Y wr K8.out)
        have Q6 := sumN_lt Y P1.out
        obtain ⟨SN, hS⟩ : ∃ SN, sumN [Y] = SN := ⟨_, rfl⟩
        rw [hS] at Q6 E2
        have S9 := zaa hS
        have V1 : IntKind.u64.wrap ((SN : Nat) : Int) = (SN : Int) := by rw [IntKind.wrap_u64]; omega
        have B4 := zaa (fixed_4 (SN : Int) wr zq zq)
        clear hS K8 hq
        go_wp2_with (first
         | (go_at_call 99; refine zad E2.out ?_)
         | (go_at_call 97; refine B4.out.mono ?_; rintro e w6 ⟨fo3, fc3, rfl, T0, T1, C7⟩; refine Hid.out ?_))
        apply zaa
        have B6 := zaa (zbz (.slice vo q vc) B1 Y (fB 4 (SN : Int)) fo3 4 fc3 w6 (HO.out.on Lr C7.out) T1.out (zcl HO.out T0.out Lr) (by rw [C6.out]; omega) (zN V C7.out.size))
        have F3 := zaa (zae HB.out D.out C7.out)
        have F1 := zaa (HO.out.on Lr C7.out)
        have B7 : B1 ≤ w6.heap.size := zN V C7.out.size
        clear B4 E2
        go_wp2_with (go_at_call 101; refine B6.out.mono ?_; rintro e w7 ⟨v7, rfl, U, P7⟩; refine Hid.out ?_)
        apply zaa
        have B8 : Hid (Below B1 w3 w7) := zaa (F3.out.trans (P7.out.below F1.out B7))
        have T2 : Hid (OwnB w7 w.heap.size v7 (pkB k N cs)) := zaa (by
         rw [M3.out]
         unfold sealB
         rw [← HH.out, S9.out]
         exact U.out.low (by have := A6.out; have := O.out.size; omega))
        have T3 : Hid (Below w.heap.size w w7) := zaa (O.out.trans (B8.out.mono (by have := A6.out; have := O.out.size; omega)))
        clear B6 U P7
        go_wp2
        go_ret2
        exact ⟨v7, rfl, T2, T3⟩
end Go.Proofs.YtbkhjeacmmbabaaGreatDoor
