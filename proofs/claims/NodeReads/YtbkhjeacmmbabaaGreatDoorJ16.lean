import Derived.Test.YtbkhjeacmmbabaaGreatDoorJ15
import Derived.Deep.QuietTactic
import Derived.Handy
import Derived.BigQuiet
import Derived.Deep.DeepAppendWide
namespace Go.Proofs.YtbkhjeacmmbabaaGreatDoor
set_option maxRecDepth 100000
open Go.RowKit
def RDecO (l : List Int) (w : World) (e : Ending) (w' : World) : Prop :=
 ∃ (k : Int) (co : Option Addr) (cn cc : Nat) (c : Int), e = .returned (.tuple #[.int .i64 k, .slice co cn cc, .int .i64 c]) ∧ Hid (Below w.heap.size w w') ∧
  Hid ((c = 60 ∧ k = 0 ∧ co = none ∧ cn = 0 ∧ cc = 0 ∧ ¬ ∃ cs, Is (l.getD 0 0) l.length cs l) ∨ ∃ cs, c = 0 ∧ k = l.getD 0 0 ∧ Is (l.getD 0 0) l.length cs l ∧ SlC w' co cn cc cs ∧ OwnD w' w.heap.size (.slice co cn cc) cs)
theorem RDecO.no {l : List Int} {w w' : World} (hb : Below w.heap.size w w') (h : ¬ ∃ cs, Is (l.getD 0 0) l.length cs l) : RDecO l w (.returned (.tuple #[.int .i64 0, .slice none 0 0, .int .i64 60])) w' := ⟨0, none, 0, 0, 60, rfl, zaa hb, zaa (.inl ⟨rfl, rfl, rfl, rfl, rfl, h⟩)⟩
set_option maxHeartbeats 8000000 in
theorem rdec6o_any (ao : Option Addr) (n cap : Nat) (l : List Int) (w : World) (hs : Sl w ao n cap l) :
  Calls Tryz.prog 21 #[.slice ao n cap] w fun e w' => RDecO l w e w' := by
 have HS := zaa hs
 have I := zaa hs.hlen
 have F9 := hs.hroom
 have K := zaa (zds (n : Int) w)
 by_cases F : pw (n : Int)
 ·have hd : decide (pw (n : Int)) = true := decide_eq_true F
  rw [hd] at K
  have D9 := pw_le F
  have E0 : n ≤ 65536 := zq
  have G0 : 512 ≤ n := zq
  obtain ⟨g, off, rfl, E1, A6⟩ : ∃ g off, ao = some ⟨g, off, none⟩ ∧ g < w.heap.size ∧ ∀ i, i < n → w.cell? ⟨g, off + i, none⟩ = some (.int .u8 (l.getD i 0)) := by
   rcases hs.hat with h0 | h0
   ·omega
   ·exact h0
  have V := zbk l hs.wf 2 2
  obtain ⟨N, hN⟩ := Int.eq_ofNat_of_zero_le V.1
  have G1 : (N : Int) < 65536 := by have := V.2; rw [hN] at this; simpa using this
  have HN : Hid (rdN l 2 2 = (N : Int)) := zaa hN
  have A7 : Hid (∀ (u : World) (j d : Int), Below w.heap.size w u → 0 ≤ j → j + d ≤ n → (d = 2 ∨ d = 4) → Calls Tryz.prog 52 #[.slice (some ⟨g, off, none⟩) n cap, .int .i64 j, .int .i64 d] u fun e w' => e = .returned (.int .i64 (rdN l j.toNat d.toNat)) ∧ Hid (w' = u)) := zaa (fun u j d hu h0 h1 h2 => (rnumb6_any (some ⟨g, off, none⟩) n cap l j d u (HS.out.on Lr hu) h0 h1 h2).mono (fun e w' hh => ⟨hh.1, zaa hh.2⟩))
  have h2 := A7.out w 2 2 Br zq zq (.inl rfl)
  rw [show (2 : Int).toNat = 2 from rfl, hN] at h2
  have H2 := zaa h2
  have L : Hid (∀ u, Below w.heap.size w u → u.cell? ⟨g, off, none⟩ = some (.int .u8 (l.getD 0 0))) := zaa (fun u hu => (hu.cell (p := ⟨g, off, none⟩) E1).trans (by have := A6 0 zq; simpa using this))
  have hx : 0 ≤ l.getD 0 0 ∧ l.getD 0 0 ≤ 255 := by
   have h := zbk l hs.wf 0 1
   rw [rdN_one l 0 (by rw [I.out]; omega)] at h
   simp at h
   simp
   omega
  have W := zaa hs.wf
  obtain ⟨x, M⟩ : ∃ x, l.getD 0 0 = x := ⟨_, rfl⟩
  rw [M] at hx L
  obtain ⟨E2, E3⟩ := hx
  have A8 := zaa M
  have O : Hid (∀ w', Below w.heap.size w w' → (∀ cs, Is x n cs l → False) → RDecO l w (.returned (.tuple #[.int .i64 0, .slice none 0 0, .int .i64 60])) w') := zaa (fun w' hb h => RDecO.no hb (by rw [M, I.out]; rintro ⟨cs, hc⟩; exact h cs hc))
  clear hs A6 hN V h2 F D9 M hd
  go_enter Tryz.func21, Tryz.ntmps21
  go_wp2_with (first
   | (go_at_call 51; refine zad K.out ?_)
   | (go_at_call 52; refine H2.out.mono ?_; rintro e w1 ⟨rfl, A9⟩; refine Hid.out ?_))
  apply zaa
  have X : w = w1 := A9.out.symm
  subst X
  clear A9 H2 K
  go_wp2_with fail
  go_loopw [7, 8] (fun v i wr => ∃ (ov : Value) (j : Nat) (ds : List Cl), ov = v ∧ j ≤ N ∧ i = .int .i64 j ∧ Hid (OwnD wr w.heap.size ov ds) ∧ Hid (Rdd l ds j) ∧ Hid (Below w.heap.size w wr)) (fun _ i _ => N - (RowKit.intOf i).toNat)
  case atStart => exact ⟨_, 0, [], rfl, zq, rfl, zaa (OwnD.nil _ _), zaa (Rdd.nil l), zaa Br⟩
  case round =>
   obtain ⟨ov, j, ds, E4, hj, rfl, HO, HR, HB⟩ := hrel
   subst E4
   have bj : (j : Int) ≤ 65536 := zq
   by_cases B0 : j < N
   ·have D4 : (j : Int) < (N : Int) := zq
    by_cases h4 : n < 4 + 2 * j + 2
    ·have E5 : (n : Int) < 4 + 2 * (j : Int) + 2 := zq
     go_wp2
     go_ret3
     exact O.out _ HB.out (fun cs hc => by have := (hc.goes HN.out B0).1; omega)
    ·have E5 : ¬ (n : Int) < 4 + 2 * (j : Int) + 2 := zq
     have hA := A7.out wr (4 + 2 * (j : Int)) 2 HB.out zq zq (.inl rfl)
     rw [show (4 + 2 * (j : Int)).toNat = 4 + 2 * j by omega, show (2 : Int).toNat = 2 from rfl] at hA
     have D := zbk l W.out (4 + 2 * j) 2
     obtain ⟨s, A⟩ := Int.eq_ofNat_of_zero_le D.1
     have E7 : s ≤ 65536 := by
      have := D.2
      rw [A] at this
      simp at this
      omega
     rw [A] at hA
     have B1 : Hid (rdN l (4 + 2 * j) 2 = (s : Int)) := zaa A
     have HA := zaa hA
     have B2 := zaa (cellAt_any (some ⟨g, off, none⟩) n cap l s wr (HS.out.on Lr HB.out) E7)
     clear hA D A
     go_wp2_with (go_at_call 52; refine HA.out.mono ?_; rintro e w2 ⟨rfl, B3⟩; refine Hid.out ?_)
     apply zaa
     have X : wr = w2 := B3.out.symm
     subst X
     clear B3 HA
     go_wp2_with (go_at_call 53; refine B2.out.mono ?_; rintro e w3 ⟨ko, kn, kc, kd, vo, vn, vc, pg, ct, ok, rfl, C, HQ⟩; refine Hid.out ?_)
     apply zaa
     clear B2
     have B : Hid (Below w.heap.size w w3) := zaa (zae HB.out Lr C.out)
     cases ok with
     | false =>
      have E8 : Hid (zaj (l.drop s) = none) := zaa (by
       rcases HQ.out with h | h
       ·exact h.2
       ·cases h.1)
      clear HQ
      go_wp2
      go_ret3
      exact O.out _ (zab B.out Lr _) (fun cs hc => by
       obtain ⟨_, c, r, hr⟩ := hc.goes HN.out B0
       rw [B1.out, Int.toNat_natCast, E8.out] at hr
       cases hr)
     | true =>
      obtain ⟨key, val, r, B4, Q, R⟩ : ∃ key val r, zaj (l.drop s) = some (⟨key, kd, val, pg, ct⟩, r) ∧ OwnB w3 wr.heap.size (.slice ko kn kc) key ∧ OwnB w3 wr.heap.size (.slice vo vn vc) val := by
       rcases HQ.out with h | h
       ·cases h.1
       ·exact h.2
      have Y : kn = key.length := by
       obtain ⟨a, c, e⟩ := zbr Q
       injection e
      have Z : vn = val.length := by
       obtain ⟨a, c, e⟩ := zbr R
       injection e
      have B5 : Hid (R5B w3 w.heap.size [.slice ko kn kc, .int .i64 kd, .slice vo vn vc, .int .i64 pg, .int .i64 ct] [⟨key, kd, val, pg, ct⟩]) := zaa ⟨ko, kc, vo, vc, [], by simp only [Y, Z], by rw [Y] at Q; exact Q.low HB.out.size, by rw [Z] at R; exact R.low HB.out.size, rfl⟩
      have E9 : Hid (Rdd l (ds ++ [⟨key, kd, val, pg, ct⟩]) (j + 1)) := zaa (HR.out.step (r := r) (by rw [B1.out, Int.toNat_natCast]; exact B4))
      have F0 : Hid (ds.length + 1 ≤ 200000) := zaa (by rw [HR.out.1]; omega)
      obtain ⟨y1, T⟩ : ∃ y, w3.alloc (.cells #[.slice ko kn kc, .int .i64 kd, .slice vo vn vc, .int .i64 pg, .int .i64 ct] 50) = y := ⟨_, rfl⟩
      have B6 : y1.heap.size = w3.heap.size + 1 := by rw [← T]; simp
      have B7 : Below w3.heap.size w3 y1 := by rw [← T]; exact zab Br Lr _
      have B8 : C5 y1 w3.heap.size (.slice ko kn kc) (.int .i64 kd) (.slice vo vn vc) (.int .i64 pg) (.int .i64 ct) := by rw [← T]; exact C5.box w3 _ _ _ _ _
      obtain ⟨y2, A0⟩ : ∃ y, y1.alloc (.cells #[.slice ko kn kc, .int .i64 kd, .slice vo vn vc, .int .i64 pg, .int .i64 ct] 50) = y := ⟨_, rfl⟩
      have B9 : Below y1.heap.size y1 y2 := by rw [← A0]; exact zab Br Lr _
      have J : Below w3.heap.size w3 y2 := zae B7 Lr B9
      have C0 : Hid (OwnD y2 w.heap.size ov ds) := zaa ((HO.out.on C.out).on J)
      have C1 : Hid (R5B y2 w.heap.size [.slice ko kn kc, .int .i64 kd, .slice vo vn vc, .int .i64 pg, .int .i64 ct] [⟨key, kd, val, pg, ct⟩]) := zaa (B5.out.keep (fun v l h => h.on Lr J))
      have A1 : Hid (Below w.heap.size w y2) := zaa (zae B.out Lr J)
      have C2 : Hid (∀ i u, ([.slice ko kn kc, .int .i64 kd, .slice vo vn vc, .int .i64 pg, .int .i64 ct] : List Value)[i]? = some u → y2.cell? ⟨w3.heap.size + 1, 0 + i, none⟩ = some u) := zaa (by
       obtain ⟨f0, f1, f2, f3, f4⟩ := (C5.box y1 (.slice ko kn kc) (.int .i64 kd) (.slice vo vn vc) (.int .i64 pg) (.int .i64 ct)).cells
       rw [A0, B6] at f0 f1 f2 f3 f4
       intro i u hu
       have G2 : i < 5 := (zH.1 hu).1
       have hj' : i = 0 ∨ i = 1 ∨ i = 2 ∨ i = 3 ∨ i = 4 := zq
       rcases hj' with rfl | rfl | rfl | rfl | rfl <;> (simp only [List.getElem?_cons_zero, List.getElem?_cons_succ, Option.some.injEq] at hu; subst hu; assumption))
      obtain ⟨c0, c1, c2, c3, c4⟩ := B8.cells
      clear HQ B4 Q R Y Z B7 B9 J B5 HO HR B8
      go_wp2_with (at_builtin; refine app_cd _ rfl _ _ rfl w.heap.size ds ⟨key, kd, val, pg, ct⟩ ov (w3.heap.size + 1) _ rfl rfl C0.out C1.out C2.out F0.out A1.out.size ?_; intro v2 u2 F1 A5; refine Hid.out ?_)
      apply zaa
      have F2 : Hid (Below w.heap.size w u2) := zaa (A1.out.trans A5.out)
      clear C0 A1 C2 C1 T A0 B6 c0 c1 c2 c3 c4 A5
      go_wp2
      go_roundw
      case rel => exact ⟨_, j + 1, _, rfl, zq, by go_num, F1, E9, F2⟩
      case measure => simp [RowKit.intOf]; omega
   ·obtain rfl : j = N := zq
    have D4 : ¬ (j : Int) < (j : Int) := zq
    have C3 := zaa (HR.out.wf W.out)
    have F3 : Hid (szN ds ≤ 1099511627776) := zaa (by have := szN_most HR.out W.out; rw [HR.out.1] at this; omega)
    obtain ⟨co, cc, hv, G⟩ := HO.out.slc C3.out (by rw [HR.out.1]; omega)
    subst hv
    have C4 := HR.out.1
    obtain ⟨dn, A2⟩ : ∃ dn, ds.length = dn := ⟨_, rfl⟩
    rw [A2] at G HO ⊢
    have C6 : dn ≤ 900000 := zq
    have F4 := zaa G
    have b0 := L.out wr HB.out
    have G3 : (0 : Int) < (n : Int) := zq
    have U : Hid (∀ cs, Is x n cs l → ds = cs) := zaa (fun cs hc => hc.read HN.out HR.out)
    have D5 := Classical.em (encE x n ds = 0)
    rcases D5 with he | he
    ·have HE := zaa (rencode6_yes x n co dn cc ds wr G C6 he)
     have A3 := zaa he
     have C7 : Hid (Wf (pgB x n ds)) := zaa (pgB_wf ⟨E2, E3⟩ (fun c hc => (C3.out c hc).1))
     have C8 : Hid ((pgB x n ds).length ≤ 65536) := zaa (by
      by_cases hz : szN ds ≤ n
      ·rw [zdj _ _ _ hz]; exact E0
      ·unfold encE at he
       exfalso
       split at he
       ·split at he
        ·split at he
         ·cases he
         ·rename_i h; omega
        ·rename_i h; exact h he
       ·cases he)
     clear G C4 A2 he
     go_wp2_with (go_at_call 54; refine HE.out.mono ?_; rintro e w3 ⟨v, rfl, HP, C⟩; refine Hid.out ?_)
     apply zaa
     obtain ⟨P, hP⟩ : ∃ P, pgB x n ds = P := ⟨_, rfl⟩
     rw [hP] at HP C7 C8
     have C9 := zaa hP
     obtain ⟨po, pc, hv⟩ := zbr HP.out
     subst hv
     obtain ⟨pn, D0⟩ : ∃ pn, P.length = pn := ⟨_, rfl⟩
     rw [D0] at HP ⊢
     have A4 : Sl w3 po pn pc P := own_sl6 HP.out C7.out (by have := C8.out; omega)
     have B : Hid (Below w.heap.size w w3) := zaa (zae HB.out Lr C.out)
     have D := HS.out.on Lr B.out
     have k1 := zar A4
     have k2 := zar D
     have A := str_beq A4.wf D.wf
     have b1 := L.out w3 B.out
     have D7 := zaa (F4.out.on C.out)
     have F5 := zaa (HO.out.on C.out)
     clear HO
     clear hP D0 A4 D b0 HE
     by_cases H : P = l
     ·have D8 : ((strOfNums P).toList == (strOfNums l).toList) = true := by rw [A]; simpa using H
      have F6 : Hid (Is x n ds l) := zaa (enc_is6 A3.out (C9.out.trans H))
      clear A H
      go_wp2
      go_ret3
      exact ⟨x, co, dn, cc, 0, rfl, B, zaa (.inr ⟨ds, rfl, A8.out.symm, by rw [A8.out, I.out]; exact F6.out, D7.out, F5.out⟩)⟩
     ·have D8 : ((strOfNums P).toList == (strOfNums l).toList) = false := by rw [A]; simpa using H
      have F7 := zaa H
      clear A H
      go_wp2
      go_ret3
      exact O.out _ B.out (fun cs hc => by
       have e := U.out cs hc
       subst e
       exact F7.out (C9.out.symm.trans hc.eq))
    ·have HE := zaa (rencode6_no x n co dn cc ds wr G C6 F3.out he)
     unfold RNo6 at HE
     have A3 := zaa he
     obtain ⟨E, D3⟩ : ∃ E, encE x n ds = E := ⟨_, rfl⟩
     rw [D3] at HE he
     clear G C4 A2 D3 HO
     go_wp2_with (go_at_call 54; refine HE.out.mono ?_; rintro e w3 ⟨rfl, C⟩; refine Hid.out ?_)
     apply zaa
     have B : Hid (Below w.heap.size w w3) := zaa (zae HB.out Lr C.out)
     clear b0 HE
     go_wp2
     go_ret3
     exact O.out _ B.out (fun cs hc => by
      have e := U.out cs hc
      subst e
      exact A3.out hc.enc6)
 ·have hd : decide (pw (n : Int)) = false := decide_eq_false F
  rw [hd] at K
  have F8 : Hid (¬ ∃ cs, Is (l.getD 0 0) l.length cs l) := zaa (by rintro ⟨cs, hc⟩; have := hc.sz; rw [I.out] at this; exact F this)
  clear hs F hd
  go_enter Tryz.func21, Tryz.ntmps21
  go_wp2_with (go_at_call 51; refine zad K.out ?_)
  go_ret3
  exact RDecO.no Br F8.out
def mkB (i k : Nat) : Int := (((i + k / 251) % 256 : Nat) : Int)
def mkL (i : Nat) : Nat → List Int
 | 0 => []
 | n + 1 => mkL i n ++ [mkB i n]
theorem mkB_ok (i k : Nat) : 0 ≤ mkB i k ∧ mkB i k ≤ 255 := by
 unfold mkB
 omega
theorem zav (i : Nat) : ∀ n, (mkL i n).length = n
 | 0 => rfl
 | n + 1 => by simp [mkL, zav i n]
theorem mkL_wf (i : Nat) : ∀ n, Wf (mkL i n)
 | 0 => Wf.nil
 | n + 1 => (mkL_wf i n).append (Wf.cons (mkB_ok i n) Wf.nil)
theorem mkL_get (i : Nat) : ∀ n k, k < n → (mkL i n).getD k 0 = mkB i k
 | 0, k, h => by omega
 | n + 1, k, h => by
  unfold mkL
  by_cases e : k < n
  ·rw [show (mkL i n ++ [mkB i n]).getD k 0 = (mkL i n).getD k 0 from by simp [List.getD, zL (show k < (mkL i n).length by rw [zav]; exact e)]]
   exact mkL_get i n k e
  ·obtain rfl : k = n := zq
   simp [List.getD, zav]
theorem mark_run (i k : Nat) (_ : i ≤ 1300000000000) (_ : k ≤ 140737488355328) : Int.tdiv (k : Int) 251 = ((k / 251 : Nat) : Int) ∧ IntKind.u8.wrap ((i : Int) + ((k / 251 : Nat) : Int)) = mkB i k := by
 constructor
 ·rw [Int.tdiv_eq_ediv_of_nonneg zq]
  rfl
 ·rw [IntKind.wrap_u8]
  unfold mkB
  omega
theorem marked_any (ao : Option Addr) (n cap i : Nat) (w : World) (hs : Sl w ao n cap (mkL i n)) (hi : i ≤ 1300000000000) : Calls Tryz.prog 68 #[.slice ao n cap, .int .i64 (i : Int)] w fun e u => e = .returned (.bool true) ∧ u = w := by
 have HS := zaa hs
 have hr := hs.hroom
 have D : (n : Int) ≤ 140737488355328 := zq
 have E : (i : Int) ≤ 1300000000000 := zq
 clear hs
 go_enter Tryz.func68, Tryz.ntmps68
 go_wp2_with fail
 go_loop [5] (fun x => ∃ k : Nat, k ≤ n ∧ x = .int .i64 (k : Int)) (fun x => n - (RowKit.intOf x).toNat)
 case atStart => exact ⟨0, zq, rfl⟩
 case round =>
  obtain ⟨k, hk, rfl⟩ := hrel
  by_cases A : k < n
  ·have C : (k : Int) < (n : Int) := zq
   obtain ⟨b, off, rfl, hb, hc⟩ : ∃ b off, ao = some ⟨b, off, none⟩ ∧ b < w.heap.size ∧ ∀ j, j < n → w.cell? ⟨b, off + j, none⟩ = some (.int .u8 ((mkL i n).getD j 0)) := by
    rcases HS.out.hat with h | h
    ·omega
    ·exact h
   have B := hc k A
   rw [mkL_get i n k A] at B
   obtain ⟨m1, m2⟩ := mark_run i k hi zq
   have m3 := mkB_ok i k
   obtain ⟨q, hq⟩ : ∃ q, k / 251 = q := ⟨_, rfl⟩
   rw [hq] at m1 m2
   have F : (q : Int) ≤ (k : Int) := by have := Nat.div_le_self k 251; omega
   have m4 : IntKind.i64.wrap ((i : Int) + (q : Int)) = (i : Int) + (q : Int) := by rw [IntKind.wrap_i64]; omega
   have m5 : IntKind.i64.wrap (q : Int) = (q : Int) := by rw [IntKind.wrap_i64]; omega
   generalize mkB i k = y at *
   clear hc hq
   go_wp2
   go_round
   case rel => exact ⟨k + 1, zq, by go_num⟩
   case measure => simp [RowKit.intOf]; omega
  ·obtain rfl : k = n := zq
   have G : ¬ (k : Int) < (k : Int) := zq
   go_wp2
   go_ret
   exact ⟨rfl, rfl⟩
theorem app_one (w : World) (B : Nat) (ty : TypeId) (v : Value) (l : List Int) (y : Int) (b : Nat) (D : OwnB w B v l) (hc : w.cell? ⟨b, 0, none⟩ = some (.int .u8 y)) (hb : l.length + 1 ≤ 140737488355328) (hB : B ≤ w.heap.size) :
  ∃ v' w', (Builtin.append_ #[22, 22] ty #[v, .slice (some ⟨b, 0, none⟩) 1 1]).run Tryz.prog w = .ok v' w' ∧ OwnB w' B v' (l ++ [y]) ∧
   ((v'.ownBlock = v.ownBlock ∧ w.grownBy w' v.ownBlock) ∨ (Below w.heap.size w w' ∧ ∀ k, v'.ownBlock = some k → w.heap.size ≤ k)) := by
 obtain ⟨i0, hi, E, C, F⟩ := info_parts info5
 have A : ∀ j u, (By [y])[j]? = some u → w.cell? ((⟨b, 0, none⟩ : Addr).add j) = some u := fun j u hu => by
  obtain ⟨h1, rfl⟩ := getElem?_By [y] j u hu
  have hj : j = 0 := by simpa using h1
  subst hj
  simpa [Addr.add_lit] using hc
 obtain ⟨v', w', hr, h2, h3, h4⟩ := run_append_own (P := Tryz.prog) w B 22 ty 5 i0 (.int .u8 0) 1 1 Tryz.underlying22 hi E C F rfl zd v l.length (By l) D ⟨b, 0, none⟩ 1 1 (By [y]) rfl A (zbt [y]) zml zq hB
 refine ⟨v', w', hr, ?_, ?_⟩
 ·unfold OwnB
  rw [zdb, zG]
  exact h2
 ·rcases D.2 with ⟨rfl, h0⟩ | ⟨g, cap, cur, rfl, J, hg, K, L, M, I⟩
  ·have hr' := run_append_nil (P := Tryz.prog) w 22 ty 5 i0 (.int .u8 0) Tryz.underlying22 hi E ⟨b, 0, none⟩ 1 1 (By [y]) (by rw [C]; rfl) A zq zq (by rw [F]; omega)
   rw [hr] at hr'
   injection hr' with e1 e2
   refine .inr ⟨by rw [e2]; exact Br.drew.alloc Lr _, fun k hk => ?_⟩
   rw [e1] at hk
   injection hk with hk
   have : w.heap.size = k := hk
   omega
  ·by_cases G : l.length + 1 ≤ cap
   ·have hr' := run_append_room (P := Tryz.prog) w 22 ty 5 i0 Tryz.underlying22 hi g l.length cap cur hg ⟨b, 0, none⟩ 1 1 (By [y]) (by rw [C]; rfl) A (zbt [y]) G (by rw [C]; simp only [zbd, List.length_cons, List.length_nil]; omega)
    rw [hr] at hr'
    injection hr' with e1 e2
    exact .inl ⟨by rw [e1]; rfl, h3⟩
   ·have H : ∀ j u, (By l)[j]? = some u → w.cell? ((⟨g, 0, none⟩ : Addr).add j) = some u := World.ownsRow.cells (show w.ownsRow B 5 1 _ _ _ from D) (g := g) rfl
    have hr' := run_append_grow (P := Tryz.prog) w 22 ty 5 i0 (.int .u8 0) Tryz.underlying22 hi E ⟨g, 0, none⟩ l.length cap (By l) (by rw [C]; simp [By]) H ⟨b, 0, none⟩ 1 1 (By [y]) (by rw [C]; rfl) A zq zq (by rw [F]; exact growslice_fits zq zq)
    rw [hr] at hr'
    injection hr' with e1 e2
    refine .inr ⟨by rw [e2]; exact Br.drew.alloc Lr _, fun k hk => ?_⟩
    rw [e1] at hk
    injection hk with hk
    have : w.heap.size = k := hk
    omega
structure Pk9 (w : World) (x : Value) (i L : Nat) (ao : Option Addr) (n cap j : Nat) : Prop where
 sl : Sl w ao n cap (mkL j n)
 far : Far ao n x ∨ (j = i ∧ n ≤ L ∧ ∃ g, ao = some ⟨g, 0, none⟩ ∧ x.ownBlock = some g)
theorem OwnB.marks {w : World} {B : Nat} {x : Value} {i L g : Nat} (h : OwnB w B x (mkL i L)) (hg : x.ownBlock = some g) {n cap : Nat} (hn : n ≤ L) (hc : n ≤ cap) (hr : n ≤ 140737488355328) : Sl w (some ⟨g, 0, none⟩) n cap (mkL i n) := by
 have hb := h
 unfold OwnB at hb
 rcases hb.2 with ⟨rfl, _⟩ | ⟨g', c, cur, rfl, _, hh, _⟩
 ·cases hg
 ·injection hg with hg
  have hg' : g' = g := hg
  subst hg'
  refine ⟨zav i n, hc, hr, mkL_wf i n, (by intro h; cases h), .inr ⟨g', 0, rfl, zaf hh, fun k hk => ?_⟩⟩
  rw [Nat.zero_add, own_cell h rfl (by rw [zav]; omega), mkL_get i L k zq, mkL_get i n k hk]
theorem Pk9.app {w w' : World} {B : Nat} {x x' : Value} {i L : Nat} {ao : Option Addr} {n cap j : Nat} (h : Pk9 w x i L ao n cap j) (ho : OwnB w' B x' (mkL i (L + 1)))
  (hc : (x'.ownBlock = x.ownBlock ∧ w.grownBy w' x.ownBlock) ∨ (Below w.heap.size w w' ∧ ∀ k, x'.ownBlock = some k → w.heap.size ≤ k)) : Pk9 w' x' i (L + 1) ao n cap j := by
 rcases hc with ⟨e, hg⟩ | ⟨hb, hn⟩
 ·rcases h.far with hf | ⟨rfl, hl, g, rfl, hx⟩
  ·refine ⟨h.sl.gr (v' := x') ⟨hg, .inl e⟩ hf, .inl ?_⟩
   rcases hf with hf | hf
   ·exact .inl hf
   ·right
    rw [e]
    exact hf
  ·exact ⟨ho.marks (by rw [e]; exact hx) zq h.sl.hcap h.sl.hroom, .inr ⟨rfl, zq, g, rfl, by rw [e]; exact hx⟩⟩
 ·refine ⟨h.sl.on Lr hb, .inl ?_⟩
  rcases h.sl.hat with h0 | ⟨b, off, rfl, A, _⟩
  ·exact .inl h0
  ·right
   intro p hp e
   cases hp
   have := hn _ e
   simp only at this
   omega
theorem Pk9.on {w w' : World} {x : Value} {i L : Nat} {ao : Option Addr} {n cap j : Nat} (h : Pk9 w x i L ao n cap j) (hb : Below w.heap.size w w') : Pk9 w' x i L ao n cap j := ⟨h.sl.on Lr hb, h.far⟩
theorem infoSl9 : (Tryz.prog.info? 22).map (fun i => (i.zero, i.size, i.bytes)) = some (some (.slice none 0 0), 1, 24) := by kernel_rfl
def OwnX (w : World) (B : Nat) (v : Value) (xs : List Value) : Prop := w.ownsRow B 22 1 v xs.length xs
theorem OwnX.nil (w : World) (B : Nat) : OwnX w B (.slice none 0 0) [] := World.ownsRow_nil w B 22 1
theorem u8_neX : 5 ≠ 22 := by decide
theorem bk_neX : 39 ≠ 22 := by decide
theorem bk_ne8 : 39 ≠ 5 := by decide
theorem OwnX.noty {w : World} {B : Nat} {v : Value} {xs : List Value} (h : OwnX w B v xs) {g : Nat} {c : Array Value} {t : TypeId} {fz : Nat × Nat} (hg : w.heap[g]? = some (.cells c t fz)) (ht : t ≠ 22) : v.ownBlock ≠ some g := by
 intro e
 rcases h.2 with ⟨rfl, _⟩ | ⟨k, cap, cur, rfl, _, hk, _⟩
 ·cases e
 ·injection e with e
  have e' : k = g := e
  rw [← e', hk] at hg
  injection hg with hg
  injection hg with _ h2 _
  exact ht h2.symm
theorem OwnB.noty {w : World} {B : Nat} {v : Value} {l : List Int} (h : OwnB w B v l) {g : Nat} {c : Array Value} {t : TypeId} {fz : Nat × Nat} (hg : w.heap[g]? = some (.cells c t fz)) (ht : t ≠ 5) : v.ownBlock ≠ some g := by
 intro e
 unfold OwnB at h
 rcases h.2 with ⟨rfl, _⟩ | ⟨k, cap, cur, rfl, _, hk, _⟩
 ·cases e
 ·injection e with e
  have e' : k = g := e
  rw [← e', hk] at hg
  injection hg with hg
  injection hg with _ h2 _
  exact ht h2.symm
theorem OwnX.noB {w : World} {B C : Nat} {v u : Value} {xs : List Value} {l : List Int} (h : OwnX w B v xs) (k : OwnB w C u l) : v.ownBlock = none ∨ v.ownBlock ≠ u.ownBlock := by
 have k2 := k
 unfold OwnB at k2
 rcases k2.2 with ⟨rfl, _⟩ | ⟨g, cap, cur, rfl, _, hk, _⟩
 ·cases e : v.ownBlock with
  | none => exact .inl rfl
  | some _ => right; simp [Value.ownBlock]
 ·exact .inr (h.noty hk u8_neX)
theorem OwnX.kept {w w' : World} {B : Nat} {v : Value} {xs : List Value} {row : Option Nat} (h : OwnX w B v xs) (hg : w.grownBy w' row) (A : v.ownBlock = none ∨ v.ownBlock ≠ row) : OwnX w' B v xs := World.ownsRow.kept h hg A
theorem OwnX.on {w w' : World} {B : Nat} {v : Value} {xs : List Value} (h : OwnX w B v xs) (hb : Below w.heap.size w w') : OwnX w' B v xs := h.kept (row := none) ⟨hb.os, hb.tape, hb.output, hb.size, fun k hk _ => hb.block k hk⟩ (by
 cases e : v.ownBlock with
 | none => exact .inl rfl
 | some k => exact .inr zv)
theorem OwnX.cells {w : World} {B : Nat} {v : Value} {xs : List Value} (h : OwnX w B v xs) : ∃ ao cap, v = .slice ao xs.length cap ∧ (xs.length = 0 ∨ ∃ g, ao = some ⟨g, 0, none⟩ ∧ xs.length ≤ cap ∧ ∀ (t : Nat) (u : Value), xs[t]? = some u → w.cell? ⟨g, t, none⟩ = some u) := by
 rcases h.2 with ⟨rfl, h0⟩ | ⟨g, cap, cur, rfl, hg, hh, A, hm, hs, ht⟩
 ·exact ⟨none, 0, by rw [h0], .inl h0⟩
 ·refine ⟨_, cap, rfl, .inr ⟨g, rfl, A, fun t u hu => ?_⟩⟩
  have C := (zH.1 hu).1
  have := World.ownsRow.cellAt h t zq
  rw [this]
  exact hu
theorem own_at9 {w : World} (B : Nat) (t ty e : TypeId) (i : TypeInfo) (z : Value) (bytes : Nat) (ht : Tryz.prog.underlying t = some (.slice e)) (hi : Tryz.prog.info? e = some i) (hz : i.zero = some z)
  (A : i.size = 1) (F : i.bytes = bytes) (v : Value) (n : Nat) (xs : List Value) (D : w.ownsRow B e 1 v n xs) (a : Addr) (y : Value) (hc : ∀ j u, [y][j]? = some u → w.cell? (a.add j) = some u) (h1 : ∀ u ∈ [y], u.oneCell' = true)
  (I : n + 1 ≤ maxLen) (C : ((n + 1) + (n + 1) / 4 + 192) * bytes ≤ 281474976710656) {v' : Value} {w' : World} (hr : (Builtin.append_ #[t, t] ty #[v, .slice (some a) 1 1]).run Tryz.prog w = .ok v' w') :
  v'.ownBlock = v.ownBlock ∨ v'.ownBlock = some w.heap.size := by
 have hm : maxLen ≤ 9223372036854775807 := by unfold maxLen; omega
 subst F
 rcases D.2 with ⟨rfl, rfl⟩ | ⟨g, cap, cur, rfl, J, hg, K, L, G, H⟩
 ·rw [run_append_nil (P := Tryz.prog) w t ty e i z ht hi hz a 1 1 [y] (by simp [A]) hc zq zq (zN (Nat.mul_le_mul_right _ zq) C)] at hr
  injection hr with e1 e2
  rw [← e1]
  exact .inr rfl
 ·by_cases E : n + 1 ≤ cap
  ·rw [run_append_room (P := Tryz.prog) w t ty e i ht hi g n cap cur hg a 1 1 [y] (by simp [A]) hc h1 E (by simp [A, G]; omega)] at hr
   injection hr with e1 e2
   rw [← e1]
   exact .inl rfl
  ·rw [run_append_grow (P := Tryz.prog) w t ty e i z ht hi hz ⟨g, 0, none⟩ n cap xs (by rw [A]; exact D.1) (D.cells (g := g) rfl) a 1 1 [y] (by simp [A]) hc zq zq (growslice_fits_wide zq C)] at hr
   injection hr with e1 e2
   rw [← e1]
   exact .inr rfl
theorem app_x {ops : Array Oper} {rest : List Oper} {o : Oper} {a : Act} {Q : Exit → Act → World → Prop} (w : World) (J : o.guard = none) (s x : Operand)
  (ho : o.op = .call { callee := .builtin .append, args := #[s, x], argTypes := #[37, 37] }) (B : Nat) (xs : List Value) (v y : Value) (hs : a.eval s = v) (h1 : y.oneCell' = true)
  (A : OwnX w B v xs) (b : Nat) (hx : a.eval x = .slice (some ⟨b, 0, none⟩) 1 1) (hc : w.cell? ⟨b, 0, none⟩ = some y) (hb : xs.length + 1 ≤ 6500000000000) (C : B ≤ w.heap.size)
  (h : ∀ v' w', OwnX w' B v' (xs ++ [y]) → Gr w v w' v' → wpList Tryz.prog ops Q rest (a.put o.dst v') w') : wpList Tryz.prog ops Q (o :: rest) a w := by
 obtain ⟨i0, hi, D, E, F⟩ := info_parts infoSl9
 have G : ∀ j u, [y][j]? = some u → w.cell? ((⟨b, 0, none⟩ : Addr).add j) = some u := fun j u hu => by
   have hj : j = 0 := by
    have := (zH.1 hu).1
    simpa using this
   subst hj
   simp at hu
   subst hu
   simpa [Addr.add_lit] using hc
 have h1' : ∀ u ∈ [y], u.oneCell' = true := fun u hu => by simp at hu; subst hu; exact h1
 have H : xs.length + 1 ≤ maxLen := by unfold maxLen; omega
 have I : ((xs.length + 1) + (xs.length + 1) / 4 + 192) * 24 ≤ 281474976710656 := zq
 refine wpList_plain J fun K hK => ?_
 obtain ⟨v', w', hr, h2, h3, h4⟩ := run_append_own_wide (P := Tryz.prog) w B 37 o.type 22 i0 (.slice none 0 0) 1 24 Tryz.underlying37 hi D E F rfl zd v xs.length xs A ⟨b, 0, none⟩ 1 1 [y] rfl G h1' H I C
 have h5 := own_at9 B 37 o.type 22 i0 (.slice none 0 0) 24 Tryz.underlying37 hi D E F v xs.length xs A ⟨b, 0, none⟩ y G h1' H I hr
 unfold Oper.wp execOp
 simp only [ho, resolve, invoke, builtin, Sem.run_bind, Sem.run_pure, Result.andThen_ok, List.map_toArray, List.map_cons, List.map_nil, hs, hx, hr]
 refine hK _ _ (h v' w' ?_ ⟨h3, h5.imp id fun e => ⟨_, e, Lr⟩⟩)
 unfold OwnX
 rw [zG]
 exact h2
structure Bo9 (w : World) (B bk : Nat) (v : Value) (V : List Value) (D : Nat → List Int) : Prop where
 box : w.heap[bk]? = some (.cells #[v] 39 (0, 0))
 row : OwnX w B v V
 own : ∀ (t : Nat) (u : Value), V[t]? = some u → OwnB w B u (D t) ∧ Wf (D t) ∧ (D t).length ≤ 65536
 ne : ∀ (t t' : Nat) (u u' : Value), V[t]? = some u → V[t']? = some u' → t ≠ t' → u.ownBlock = none ∨ u.ownBlock ≠ u'.ownBlock
theorem zcq {w : World} {B : Nat} {u : Value} {l : List Int} (h : OwnB w B u l) : ∃ ao c, u = .slice ao l.length c ∧ (l.length = 0 ∨ ∃ g, ao = some ⟨g, 0, none⟩ ∧ B ≤ g) := by
 have h2 := h
 unfold OwnB at h2
 rcases h2.2 with ⟨rfl, h0⟩ | ⟨g, cap, cur, rfl, hg, _⟩
 ·exact ⟨none, 0, by rw [h0], .inl h0⟩
 ·exact ⟨_, cap, rfl, .inr ⟨g, rfl, hg⟩⟩
theorem Bo9.set {w : World} {B bk : Nat} {v : Value} {V : List Value} {D : Nat → List Int} (h : Bo9 w B bk v V D) {i g n c k : Nat} {y : Int} (hi : V[i]? = some (.slice (some ⟨g, 0, none⟩) n c)) (hn : (D i).length = n) (hk : k < n) (hy : 0 ≤ y ∧ y ≤ 255) :
  Bo9 (w.setCell ⟨g, k, none⟩ (.int .u8 y)) B bk v V (fun t => if t = i then (D i).set k y else D t) := by
 obtain ⟨ho, hw, hl⟩ := h.own i _ hi
 have C : (Value.slice (some ⟨g, 0, none⟩) n c).ownBlock = some g := rfl
 have hc : Cf (· = g) w (w.setCell ⟨g, k, none⟩ (.int .u8 y)) := Cf.setCell (F := (· = g)) w (p := ⟨g, k, none⟩) rfl _
 have A : w.grownBy (w.setCell ⟨g, k, none⟩ (.int .u8 y)) (some g) := ⟨hc.os, hc.tape, hc.output, hc.size, fun q hq E => hc.block q hq (fun e => E (by rw [e]))⟩
 refine ⟨(hc.block bk (zaf h.box) (fun e => ho.noty h.box bk_ne8 (by rw [C, e]))).trans h.box, h.row.kept A ?_, fun t u ht => ?_, h.ne⟩
 ·rcases h.row.noB ho with e | e
  ·exact .inl e
  ·exact .inr e
 ·by_cases e : t = i
  ·subst e
   rw [hi] at ht
   cases ht
   simp only [if_true]
   refine ⟨own_set ho hn hk, ?_, by rw [List.length_set]; exact hl⟩
   intro z hz
   rcases List.mem_or_eq_of_mem_set hz with hz | hz
   ·exact hw z hz
   ·rw [hz]; exact hy
  ·simp only [if_neg e]
   obtain ⟨o2, w2, l2⟩ := h.own t u ht
   exact ⟨World.ownsRow.kept o2 A (by
    rcases h.ne t i u _ ht hi e with e2 | e2
    ·exact .inl e2
    ·exact .inr e2), w2, l2⟩
theorem Bo9.on {w w' : World} {B bk : Nat} {v : Value} {V : List Value} {D : Nat → List Int} (h : Bo9 w B bk v V D) (hb : Below w.heap.size w w') : Bo9 w' B bk v V D :=
 ⟨(hb.block _ (zaf h.box)).trans h.box, h.row.on hb, fun t u ht => ⟨(h.own t u ht).1.on Lr hb, (h.own t u ht).2⟩, h.ne⟩
theorem Bo9.cong {w : World} {B bk : Nat} {v : Value} {V : List Value} {D E : Nat → List Int} (h : Bo9 w B bk v V D) (he : ∀ t, t < V.length → D t = E t) : Bo9 w B bk v V E :=
 ⟨h.box, h.row, fun t u ht => by rw [← he t (zH.1 ht).1]; exact h.own t u ht, h.ne⟩
theorem take9G (w : World) (B bk : Nat) (v : Value) (V : List Value) (D : Nat → List Int) (ao : Option Addr) (n c : Nat) (l : List Int) (h : Bo9 w B bk v V D) (hn : V.length ≤ 1300000000000) (hB : B ≤ w.heap.size) (ho : OwnB w B (.slice ao n c) l) (hw : Wf l) (hl : l.length ≤ 65536)
  (E : ∀ (t : Nat) (u : Value), V[t]? = some u → u.ownBlock = none ∨ u.ownBlock ≠ (Value.slice ao n c).ownBlock) :
  Calls Tryz.prog 60 #[.pointer (some ⟨bk, 0, none⟩), .slice ao n c] w fun e w' => e = .returned (.tuple #[]) ∧ Hid (∃ v', Bo9 w' B bk v' (V ++ [.slice ao n c]) (fun t => if t < V.length then D t else l) ∧ Cf (fun k => k = bk ∨ v.ownBlock = some k) w w' ∧ ∀ g, v'.ownBlock = some g → v.ownBlock = some g ∨ w.heap.size ≤ g) := by
 have I := h.box
 have c0 : w.cell? ⟨bk, 0, none⟩ = some v := by rw [cell_of_row _ _ 0 _ _ _ I]; rfl
 have f0 : w.frozen? ⟨bk, 0, none⟩ = false := by simp [World.frozen?, I]
 obtain ⟨x, hx⟩ : ∃ x, w.alloc (.cells #[.slice ao n c] 22) = x := ⟨_, rfl⟩
 have C : Below w.heap.size w x := by rw [← hx]; exact zab Br Lr _
 have L : x.cell? ⟨w.heap.size, 0, none⟩ = some (.slice ao n c) := by rw [← hx]; simp
 have HX := zaa (h.on C)
 have R : Hid (OwnB x B (.slice ao n c) l) := zaa (ho.on Lr C)
 have T : B ≤ x.heap.size := zN hB C.size
 have M := zaa C
 have N := zaa E
 have c0x : x.cell? ⟨bk, 0, none⟩ = some v := (C.cell (p := ⟨bk, 0, none⟩) (zaf I)).trans c0
 clear h ho E I C
 go_enter Tryz.func60, Tryz.ntmps60
 go_wp2_with (at_builtin; refine app_x _ rfl _ _ rfl B V v (.slice ao n c) rfl rfl HX.out.row w.heap.size rfl L zq T ?_; refine Hid.out ?_)
 apply zaa
 intro v' w1 J H
 obtain ⟨vo, vn, vc, rfl⟩ : ∃ vo vn vc, v' = .slice vo vn vc := by
  obtain ⟨vo, vc, e, _⟩ := J.cells
  exact ⟨vo, _, vc, e⟩
 have P : v.ownBlock ≠ some bk := HX.out.row.noty HX.out.box bk_neX
 have A : w1.heap[bk]? = some (.cells #[v] 39 (0, 0)) := (H.cf.block bk (zaf HX.out.box) P).trans HX.out.box
 have c1 : ∃ z, w1.cell? ⟨bk, 0, none⟩ = some z := ⟨v, by rw [cell_of_row _ _ 0 _ _ _ A]; rfl⟩
 obtain ⟨z, c1⟩ := c1
 have f1 : w1.frozen? ⟨bk, 0, none⟩ = false := by simp [World.frozen?, A]
 have Q : (Value.slice vo vn vc).ownBlock ≠ some bk := J.noty A bk_neX
 have HF : Hid (Bo9 (w1.setCell ⟨bk, 0, none⟩ (.slice vo vn vc)) B bk (.slice vo vn vc) (V ++ [.slice ao n c]) (fun t => if t < V.length then D t else l) ∧ Cf (fun k => k = bk ∨ v.ownBlock = some k) w (w1.setCell ⟨bk, 0, none⟩ (.slice vo vn vc)) ∧ ∀ g, (Value.slice vo vn vc).ownBlock = some g → v.ownBlock = some g ∨ w.heap.size ≤ g) := zaa (by
  have G : Cf (· = bk) w1 (w1.setCell ⟨bk, 0, none⟩ (.slice vo vn vc)) := Cf.setCell (F := (· = bk)) w1 (p := ⟨bk, 0, none⟩) rfl _
  have K : w1.grownBy (w1.setCell ⟨bk, 0, none⟩ (.slice vo vn vc)) (some bk) := ⟨G.os, G.tape, G.output, G.size, fun q hq E => G.block q hq (fun e => E (by rw [e]))⟩
  have keep : ∀ u d, OwnB x B u d → OwnB (w1.setCell ⟨bk, 0, none⟩ (.slice vo vn vc)) B u d := by
   intro u d hu
   have h1 : OwnB w1 B u d := World.ownsRow.kept hu H.grow (by
    rcases HX.out.row.noB hu with e | e
    ·rw [e]
     cases e2 : u.ownBlock with
     | none => exact .inl rfl
     | some _ => exact .inr zv
    ·exact .inr fun e2 => e e2.symm)
   exact World.ownsRow.kept h1 K (.inr (h1.noty A bk_ne8))
  refine ⟨⟨?_, J.kept K (.inr Q), fun t u ht => ?_, fun t t' u u' ht ht' E => ?_⟩, ((Cf.of_below M.out).go (H.cf.wide (fun k hk => .inr hk))).go (G.wide (fun k hk => .inl hk)), fun g e => by
   rcases H.own with e1 | ⟨k, e1, hk⟩
   ·exact .inl (e1.symm.trans e)
   ·rw [e1] at e
    injection e with e
    subst e
    exact .inr (zN M.out.size hk)⟩
  ·have := zau (w := w1) (a := bk) (cs := [v]) (i := 0) (u := .slice vo vn vc) A
   simpa using this
  ·by_cases e : t < V.length
   ·rw [zL e] at ht
    rw [if_pos e]
    obtain ⟨a1, a2, a3⟩ := HX.out.own t u ht
    exact ⟨keep u _ a1, a2, a3⟩
   ·have O := (zH.1 ht).1
    rw [zG] at O
    simp only [List.length_cons, List.length_nil] at O
    obtain rfl : t = V.length := zq
    rw [List.getElem?_concat_length] at ht
    cases ht
    rw [if_neg e]
    exact ⟨keep _ _ R.out, hw, hl⟩
  ·have l1 := (zH.1 ht).1
   have l2 := (zH.1 ht').1
   rw [zG] at l1 l2
   simp only [List.length_cons, List.length_nil] at l1 l2
   by_cases e : t < V.length
   ·rw [zL e] at ht
    by_cases e' : t' < V.length
    ·rw [zL e'] at ht'
     exact HX.out.ne t t' u u' ht ht' E
    ·obtain rfl : t' = V.length := zq
     rw [List.getElem?_concat_length] at ht'
     cases ht'
     exact N.out t u ht
   ·obtain rfl : t = V.length := zq
    rw [List.getElem?_concat_length] at ht
    cases ht
    have e' : t' < V.length := zq
    rw [zL e'] at ht'
    rcases N.out t' u' ht' with e2 | e2
    ·rw [e2]
     cases e3 : (Value.slice ao n c).ownBlock with
     | none => exact .inl rfl
     | some _ => exact .inr zv
    ·exact .inr fun e3 => e2 e3.symm)
 clear J H hx L c0 f0
 go_wp2
 go_end0
 exact ⟨rfl, zaa ⟨_, HF.out⟩⟩
theorem take9 (w : World) (B bk : Nat) (v : Value) (V : List Value) (D : Nat → List Int) (ao : Option Addr) (n c : Nat) (l : List Int) (h : Bo9 w B bk v V D) (hn : V.length ≤ 1300000000000) (hB : B ≤ w.heap.size) (ho : OwnB w B (.slice ao n c) l) (hw : Wf l) (hl : l.length ≤ 65536)
  (A : ∀ (t : Nat) (u : Value), V[t]? = some u → u.ownBlock = none ∨ u.ownBlock ≠ (Value.slice ao n c).ownBlock) :
  Calls Tryz.prog 60 #[.pointer (some ⟨bk, 0, none⟩), .slice ao n c] w fun e w' => e = .returned (.tuple #[]) ∧ Hid (∃ v', Bo9 w' B bk v' (V ++ [.slice ao n c]) (fun t => if t < V.length then D t else l) ∧ Cf (fun k => k = bk ∨ v.ownBlock = some k) w w') := by
 refine (take9G w B bk v V D ao n c l h hn hB ho hw hl A).mono ?_
 rintro e w' ⟨rfl, hq⟩
 obtain ⟨v', h1, h2, _⟩ := hq.out
 exact ⟨rfl, zaa ⟨v', h1, h2⟩⟩
end Go.Proofs.YtbkhjeacmmbabaaGreatDoor
