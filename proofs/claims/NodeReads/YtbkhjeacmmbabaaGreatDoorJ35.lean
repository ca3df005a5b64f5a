import Derived.Test.YtbkhjeacmmbabaaGreatDoorJ34
namespace Go.Proofs.YtbkhjeacmmbabaaGreatDoor
set_option maxRecDepth 100000
set_option maxHeartbeats 8000000
open Go.RowKit
theorem rIsSize_any (n : Int) (w : World) :
  Calls Tryz.prog 55 #[.int .i64 n] w fun e w' => e = .returned (.bool (decide (pw n))) ∧ w' = w := by
 obtain ⟨r, hr⟩ : ∃ r, decide (pw n) = r := ⟨_, rfl⟩
 rw [hr]
 have HR := zaa hr
 clear hr
 go_enter Tryz.func55, Tryz.ntmps55
 go_wp2_with fail
 go_loop [3] (fun v => ∃ x : Int, v = .int .i64 x ∧ (x = 512 ∨ x = 1024 ∨ x = 2048 ∨ x = 4096 ∨ x = 8192 ∨ x = 16384 ∨ x = 32768 ∨ x = 65536 ∨ x = 131072) ∧ Hid (pw n → x ≤ n)) (fun v => (131072 - intOf v).toNat)
 case atStart => exact ⟨512, rfl, .inl rfl, zaa (by unfold pw; omega)⟩
 case round =>
  obtain ⟨x, rfl, hx, HX⟩ := hrel
  by_cases hn : x = 131072
  ·have e : r = false := by
    rw [← HR.out, zP]
    intro h
    have := HX.out h
    unfold pw at h
    omega
   subst hn
   subst e
   clear hx
   go_wp2
   go_ret
   exact ⟨rfl, rfl⟩
  ·have hle : x ≤ 65536 := by omega
   have hge : 512 ≤ x := by omega
   by_cases he : x = n
   ·have e : r = true := by
     rw [← HR.out, zQ]
     unfold pw
     omega
    subst e
    subst he
    clear hx
    go_wp2
    go_ret
    exact ⟨rfl, rfl⟩
   ·have heb : (x == n) = false := by simpa using he
    have HX2 : Hid (pw n → x * 2 ≤ n) := zaa (fun h => by
     have := HX.out h
     unfold pw at h
     omega)
    have hx2 : x * 2 = 512 ∨ x * 2 = 1024 ∨ x * 2 = 2048 ∨ x * 2 = 4096 ∨ x * 2 = 8192 ∨ x * 2 = 16384 ∨ x * 2 = 32768 ∨ x * 2 = 65536 ∨ x * 2 = 131072 := by omega
    have HX3 := zaa hx2
    clear hx hx2 he HX hn
    go_wp2
    go_round
    case rel => exact ⟨x * 2, rfl, HX3.out, HX2⟩
    case measure => simp [intOf]; omega
theorem rahead_any (ao bo : Option Addr) (n m c d : Nat) (la lb : List Int) (w : World) (ha : Sl w ao n c la) (hb : Sl w bo m d lb) :
  Calls Tryz.prog 103 #[.slice ao n c, .slice bo m d] w fun e w' => e = .returned (.bool (decide (kl la lb))) ∧ ∃ q, w' = w.drewN q := by
 have HO := zaa (order_any ao bo n m c d la lb w ha hb)
 have h3 := ordL_three la lb
 have e : decide (kl la lb) = decide (ordL la lb < 0) := by
  rw [Bool.eq_iff_iff, zQ, zQ]
  unfold kl
  omega
 rw [e]
 obtain ⟨o, ho⟩ : ∃ o, ordL la lb = o := ⟨_, rfl⟩
 rw [ho] at HO ⊢
 clear ha hb ho h3 e
 go_enter Tryz.func103, Tryz.ntmps103
 go_wp2_with (go_at_call 140; refine zcs HO.out ?_; intro q; refine Hid.out ?_)
 apply zaa
 clear HO
 go_wp2
 go_ret
 exact ⟨rfl, _, rfl⟩
theorem rmay_any (k page : Int) (c : Cl) (ka va : Option Addr) (kc vc : Nat) (w : World) (h0 : 512 ≤ page) (h1 : page ≤ 65536) (hk : c.key.length ≤ 140737488355328) (hv : c.val.length ≤ 140737488355328) :
  Calls Tryz.prog 102 #[.int .i64 k, .agg #[.slice ka c.key.length kc, .int .i64 c.kd, .slice va c.val.length vc, .int .i64 c.pg, .int .i64 c.ct], .int .i64 page] w fun e w' => e = .returned (.bool (decide (mayP k page c))) ∧ Below w.heap.size w w' := by
 obtain ⟨key, kd, val, pg, ct⟩ := c
 simp only at hk hv ⊢
 have hvn : (val = []) = (val.length = 0) := by rw [List.length_eq_zero_iff]
 have hal := (Below.refl w.heap.size w).alloc Lr (.cells #[.slice ka key.length kc, .int .i64 kd, .slice va val.length vc, .int .i64 pg, .int .i64 ct] 50)
 obtain ⟨r, hr⟩ : ∃ r, decide (mayP k page ⟨key, kd, val, pg, ct⟩) = r := ⟨_, rfl⟩
 rw [hr]
 unfold mayP zcc zcg at hr
 simp only [hvn] at hr
 clear hvn
 obtain ⟨kn, hkn⟩ : ∃ kn, key.length = kn := ⟨_, rfl⟩
 obtain ⟨vn, hvn⟩ : ∃ vn, val.length = vn := ⟨_, rfl⟩
 rw [hkn] at hr hk hal ⊢
 rw [hvn] at hr hv hal ⊢
 clear hkn hvn
 have hw1 : IntKind.i64.wrap (page / 16 * 3) = page / 16 * 3 := by rw [IntKind.wrap_i64]; omega
 rcases (by omega : (2 ≤ pg ∧ pg < 65536) ∨ pg < 2 ∨ 65535 < pg) with ⟨hp1, hp2⟩ | hp1 | hp1
 ·have hpb : (pg == 0) = false := by simp; omega
  by_cases c1 : k = 3
  ·subst c1
   by_cases c2 : kd = 3
   ·subst c2
    by_cases c3 : (kn : Int) ≤ page / 8
    ·have c3d : decide ((kn : Int) ≤ page / 8) = true := decide_eq_true c3
     by_cases c4 : 1 ≤ ct
     ·have c4d : decide (1 ≤ ct) = true := decide_eq_true c4
      by_cases c5 : ct ≤ 1073741824
      ·have c5d : decide (ct ≤ 1073741824) = true := decide_eq_true c5
       by_cases c6 : vn = 0
       ·subst c6
        first
        | (have e : r = true := by (rw [← hr, zQ]; omega)
          subst e; clear hr; go_enter Tryz.func102, Tryz.ntmps102; go_wp2; go_ret; exact ⟨rfl, hal⟩)
        | (have e : r = false := by (rw [← hr, zP]; omega)
          subst e; clear hr; go_enter Tryz.func102, Tryz.ntmps102; go_wp2; go_ret; exact ⟨rfl, hal⟩)
       ·have c6b : ((vn : Int) == 0) = false := by simp; omega
        have c6p : 0 < (vn : Int) := by omega
        first
        | (have e : r = true := by (rw [← hr, zQ]; omega)
          subst e; clear hr; go_enter Tryz.func102, Tryz.ntmps102; go_wp2; go_ret; exact ⟨rfl, hal⟩)
        | (have e : r = false := by (rw [← hr, zP]; omega)
          subst e; clear hr; go_enter Tryz.func102, Tryz.ntmps102; go_wp2; go_ret; exact ⟨rfl, hal⟩)
      ·have c5n : 1073741824 < ct := by omega
       have c5d : decide (ct ≤ 1073741824) = false := decide_eq_false c5
       first
       | (have e : r = true := by (rw [← hr, zQ]; omega)
         subst e; clear hr; go_enter Tryz.func102, Tryz.ntmps102; go_wp2; go_ret; exact ⟨rfl, hal⟩)
       | (have e : r = false := by (rw [← hr, zP]; omega)
         subst e; clear hr; go_enter Tryz.func102, Tryz.ntmps102; go_wp2; go_ret; exact ⟨rfl, hal⟩)
     ·have c4n : ct < 1 := by omega
      have c4d : decide (1 ≤ ct) = false := decide_eq_false c4
      first
      | (have e : r = true := by (rw [← hr, zQ]; omega)
        subst e; clear hr; go_enter Tryz.func102, Tryz.ntmps102; go_wp2; go_ret; exact ⟨rfl, hal⟩)
      | (have e : r = false := by (rw [← hr, zP]; omega)
        subst e; clear hr; go_enter Tryz.func102, Tryz.ntmps102; go_wp2; go_ret; exact ⟨rfl, hal⟩)
    ·have c3n : page / 8 < (kn : Int) := by omega
     have c3d : decide ((kn : Int) ≤ page / 8) = false := decide_eq_false c3
     first
     | (have e : r = true := by (rw [← hr, zQ]; omega)
       subst e; clear hr; go_enter Tryz.func102, Tryz.ntmps102; go_wp2; go_ret; exact ⟨rfl, hal⟩)
     | (have e : r = false := by (rw [← hr, zP]; omega)
       subst e; clear hr; go_enter Tryz.func102, Tryz.ntmps102; go_wp2; go_ret; exact ⟨rfl, hal⟩)
   ·have c2b : (kd == 3) = false := by simpa using c2
    first
    | (have e : r = true := by (rw [← hr, zQ]; omega)
      subst e; clear hr; go_enter Tryz.func102, Tryz.ntmps102; go_wp2; go_ret; exact ⟨rfl, hal⟩)
    | (have e : r = false := by (rw [← hr, zP]; omega)
      subst e; clear hr; go_enter Tryz.func102, Tryz.ntmps102; go_wp2; go_ret; exact ⟨rfl, hal⟩)
  ·have c1b : (k == 3) = false := by simpa using c1
   by_cases c7 : 0 < kn
   ·have c7p : 0 < (kn : Int) := by omega
    have c7d : decide ((kn : Int) < 1) = false := decide_eq_false (by omega)
    by_cases c8 : (kn : Int) ≤ page / 8
    ·have c8d : decide ((kn : Int) ≤ page / 8) = true := decide_eq_true c8
     have c8e : decide (page / 8 < (kn : Int)) = false := decide_eq_false (by omega)
     by_cases c9 : kd = 1
     ·subst c9
      by_cases c10 : (vn : Int) ≤ page / 16 * 3
      ·have c10d : decide ((vn : Int) ≤ page / 16 * 3) = true := decide_eq_true c10
       first
       | (have e : r = true := by (rw [← hr, zQ]; omega)
         subst e; clear hr; go_enter Tryz.func102, Tryz.ntmps102; go_wp2; go_ret; exact ⟨rfl, hal⟩)
       | (have e : r = false := by (rw [← hr, zP]; omega)
         subst e; clear hr; go_enter Tryz.func102, Tryz.ntmps102; go_wp2; go_ret; exact ⟨rfl, hal⟩)
      ·have c10n : page / 16 * 3 < (vn : Int) := by omega
       have c10d : decide ((vn : Int) ≤ page / 16 * 3) = false := decide_eq_false c10
       first
       | (have e : r = true := by (rw [← hr, zQ]; omega)
         subst e; clear hr; go_enter Tryz.func102, Tryz.ntmps102; go_wp2; go_ret; exact ⟨rfl, hal⟩)
       | (have e : r = false := by (rw [← hr, zP]; omega)
         subst e; clear hr; go_enter Tryz.func102, Tryz.ntmps102; go_wp2; go_ret; exact ⟨rfl, hal⟩)
     ·have c9b : (kd == 1) = false := by simpa using c9
      by_cases c11 : kd = 2
      ·subst c11
       by_cases c12 : vn = 0
       ·subst c12
        by_cases c13 : page / 16 * 3 < ct
        ·have c13d : decide (page / 16 * 3 < ct) = true := decide_eq_true c13
         by_cases c14 : ct ≤ 65536
         ·have c14d : decide (ct ≤ 65536) = true := decide_eq_true c14
          first
          | (have e : r = true := by (rw [← hr, zQ]; omega)
            subst e; clear hr; go_enter Tryz.func102, Tryz.ntmps102; go_wp2; go_ret; exact ⟨rfl, hal⟩)
          | (have e : r = false := by (rw [← hr, zP]; omega)
            subst e; clear hr; go_enter Tryz.func102, Tryz.ntmps102; go_wp2; go_ret; exact ⟨rfl, hal⟩)
         ·have c14n : 65536 < ct := by omega
          have c14d : decide (ct ≤ 65536) = false := decide_eq_false c14
          first
          | (have e : r = true := by (rw [← hr, zQ]; omega)
            subst e; clear hr; go_enter Tryz.func102, Tryz.ntmps102; go_wp2; go_ret; exact ⟨rfl, hal⟩)
          | (have e : r = false := by (rw [← hr, zP]; omega)
            subst e; clear hr; go_enter Tryz.func102, Tryz.ntmps102; go_wp2; go_ret; exact ⟨rfl, hal⟩)
        ·have c13n : ct ≤ page / 16 * 3 := by omega
         have c13d : decide (page / 16 * 3 < ct) = false := decide_eq_false c13
         first
         | (have e : r = true := by (rw [← hr, zQ]; omega)
           subst e; clear hr; go_enter Tryz.func102, Tryz.ntmps102; go_wp2; go_ret; exact ⟨rfl, hal⟩)
         | (have e : r = false := by (rw [← hr, zP]; omega)
           subst e; clear hr; go_enter Tryz.func102, Tryz.ntmps102; go_wp2; go_ret; exact ⟨rfl, hal⟩)
       ·have c12b : ((vn : Int) == 0) = false := by simp; omega
        have c12p : 0 < (vn : Int) := by omega
        first
        | (have e : r = true := by (rw [← hr, zQ]; omega)
          subst e; clear hr; go_enter Tryz.func102, Tryz.ntmps102; go_wp2; go_ret; exact ⟨rfl, hal⟩)
        | (have e : r = false := by (rw [← hr, zP]; omega)
          subst e; clear hr; go_enter Tryz.func102, Tryz.ntmps102; go_wp2; go_ret; exact ⟨rfl, hal⟩)
      ·have c11b : (kd == 2) = false := by simpa using c11
       by_cases c15 : kd = 4
       ·subst c15
        by_cases c16 : vn = 0
        ·subst c16
         by_cases c17 : 1 ≤ ct
         ·have c17d : decide (1 ≤ ct) = true := decide_eq_true c17
          by_cases c18 : ct ≤ 1073741824
          ·have c18d : decide (ct ≤ 1073741824) = true := decide_eq_true c18
           first
           | (have e : r = true := by (rw [← hr, zQ]; omega)
             subst e; clear hr; go_enter Tryz.func102, Tryz.ntmps102; go_wp2; go_ret; exact ⟨rfl, hal⟩)
           | (have e : r = false := by (rw [← hr, zP]; omega)
             subst e; clear hr; go_enter Tryz.func102, Tryz.ntmps102; go_wp2; go_ret; exact ⟨rfl, hal⟩)
          ·have c18n : 1073741824 < ct := by omega
           have c18d : decide (ct ≤ 1073741824) = false := decide_eq_false c18
           first
           | (have e : r = true := by (rw [← hr, zQ]; omega)
             subst e; clear hr; go_enter Tryz.func102, Tryz.ntmps102; go_wp2; go_ret; exact ⟨rfl, hal⟩)
           | (have e : r = false := by (rw [← hr, zP]; omega)
             subst e; clear hr; go_enter Tryz.func102, Tryz.ntmps102; go_wp2; go_ret; exact ⟨rfl, hal⟩)
         ·have c17n : ct < 1 := by omega
          have c17d : decide (1 ≤ ct) = false := decide_eq_false c17
          first
          | (have e : r = true := by (rw [← hr, zQ]; omega)
            subst e; clear hr; go_enter Tryz.func102, Tryz.ntmps102; go_wp2; go_ret; exact ⟨rfl, hal⟩)
          | (have e : r = false := by (rw [← hr, zP]; omega)
            subst e; clear hr; go_enter Tryz.func102, Tryz.ntmps102; go_wp2; go_ret; exact ⟨rfl, hal⟩)
        ·have c16b : ((vn : Int) == 0) = false := by simp; omega
         have c16p : 0 < (vn : Int) := by omega
         first
         | (have e : r = true := by (rw [← hr, zQ]; omega)
           subst e; clear hr; go_enter Tryz.func102, Tryz.ntmps102; go_wp2; go_ret; exact ⟨rfl, hal⟩)
         | (have e : r = false := by (rw [← hr, zP]; omega)
           subst e; clear hr; go_enter Tryz.func102, Tryz.ntmps102; go_wp2; go_ret; exact ⟨rfl, hal⟩)
       ·have c15b : (kd == 4) = false := by simpa using c15
        first
        | (have e : r = true := by (rw [← hr, zQ]; omega)
          subst e; clear hr; go_enter Tryz.func102, Tryz.ntmps102; go_wp2; go_ret; exact ⟨rfl, hal⟩)
        | (have e : r = false := by (rw [← hr, zP]; omega)
          subst e; clear hr; go_enter Tryz.func102, Tryz.ntmps102; go_wp2; go_ret; exact ⟨rfl, hal⟩)
    ·have c8n : page / 8 < (kn : Int) := by omega
     have c8d : decide ((kn : Int) ≤ page / 8) = false := decide_eq_false c8
     have c8e : decide (page / 8 < (kn : Int)) = true := decide_eq_true (by omega)
     first
     | (have e : r = true := by (rw [← hr, zQ]; omega)
       subst e; clear hr; go_enter Tryz.func102, Tryz.ntmps102; go_wp2; go_ret; exact ⟨rfl, hal⟩)
     | (have e : r = false := by (rw [← hr, zP]; omega)
       subst e; clear hr; go_enter Tryz.func102, Tryz.ntmps102; go_wp2; go_ret; exact ⟨rfl, hal⟩)
   ·obtain rfl : kn = 0 := by omega
    first
    | (have e : r = true := by (rw [← hr, zQ]; omega)
      subst e; clear hr; go_enter Tryz.func102, Tryz.ntmps102; go_wp2; go_ret; exact ⟨rfl, hal⟩)
    | (have e : r = false := by (rw [← hr, zP]; omega)
      subst e; clear hr; go_enter Tryz.func102, Tryz.ntmps102; go_wp2; go_ret; exact ⟨rfl, hal⟩)
 ·have hpd : decide (2 ≤ pg) = false := decide_eq_false (by omega)
  by_cases c19 : k = 3
  ·subst c19
   by_cases c20 : kd = 3
   ·subst c20
    by_cases c21 : (kn : Int) ≤ page / 8
    ·have c21d : decide ((kn : Int) ≤ page / 8) = true := decide_eq_true c21
     first
     | (have e : r = true := by (rw [← hr, zQ]; omega)
       subst e; clear hr; go_enter Tryz.func102, Tryz.ntmps102; go_wp2; go_ret; exact ⟨rfl, hal⟩)
     | (have e : r = false := by (rw [← hr, zP]; omega)
       subst e; clear hr; go_enter Tryz.func102, Tryz.ntmps102; go_wp2; go_ret; exact ⟨rfl, hal⟩)
    ·have c21n : page / 8 < (kn : Int) := by omega
     have c21d : decide ((kn : Int) ≤ page / 8) = false := decide_eq_false c21
     first
     | (have e : r = true := by (rw [← hr, zQ]; omega)
       subst e; clear hr; go_enter Tryz.func102, Tryz.ntmps102; go_wp2; go_ret; exact ⟨rfl, hal⟩)
     | (have e : r = false := by (rw [← hr, zP]; omega)
       subst e; clear hr; go_enter Tryz.func102, Tryz.ntmps102; go_wp2; go_ret; exact ⟨rfl, hal⟩)
   ·have c20b : (kd == 3) = false := by simpa using c20
    first
    | (have e : r = true := by (rw [← hr, zQ]; omega)
      subst e; clear hr; go_enter Tryz.func102, Tryz.ntmps102; go_wp2; go_ret; exact ⟨rfl, hal⟩)
    | (have e : r = false := by (rw [← hr, zP]; omega)
      subst e; clear hr; go_enter Tryz.func102, Tryz.ntmps102; go_wp2; go_ret; exact ⟨rfl, hal⟩)
  ·have c19b : (k == 3) = false := by simpa using c19
   by_cases c22 : 0 < kn
   ·have c22p : 0 < (kn : Int) := by omega
    have c22d : decide ((kn : Int) < 1) = false := decide_eq_false (by omega)
    by_cases c23 : (kn : Int) ≤ page / 8
    ·have c23d : decide ((kn : Int) ≤ page / 8) = true := decide_eq_true c23
     have c23e : decide (page / 8 < (kn : Int)) = false := decide_eq_false (by omega)
     by_cases c24 : kd = 1
     ·subst c24
      by_cases c25 : (vn : Int) ≤ page / 16 * 3
      ·have c25d : decide ((vn : Int) ≤ page / 16 * 3) = true := decide_eq_true c25
       by_cases c26 : pg = 0
       ·subst c26
        by_cases c27 : ct = 0
        ·subst c27
         first
         | (have e : r = true := by (rw [← hr, zQ]; omega)
           subst e; clear hr; go_enter Tryz.func102, Tryz.ntmps102; go_wp2; go_ret; exact ⟨rfl, hal⟩)
         | (have e : r = false := by (rw [← hr, zP]; omega)
           subst e; clear hr; go_enter Tryz.func102, Tryz.ntmps102; go_wp2; go_ret; exact ⟨rfl, hal⟩)
        ·have c27b : (ct == 0) = false := by simpa using c27
         first
         | (have e : r = true := by (rw [← hr, zQ]; omega)
           subst e; clear hr; go_enter Tryz.func102, Tryz.ntmps102; go_wp2; go_ret; exact ⟨rfl, hal⟩)
         | (have e : r = false := by (rw [← hr, zP]; omega)
           subst e; clear hr; go_enter Tryz.func102, Tryz.ntmps102; go_wp2; go_ret; exact ⟨rfl, hal⟩)
       ·have c26b : (pg == 0) = false := by simpa using c26
        first
        | (have e : r = true := by (rw [← hr, zQ]; omega)
          subst e; clear hr; go_enter Tryz.func102, Tryz.ntmps102; go_wp2; go_ret; exact ⟨rfl, hal⟩)
        | (have e : r = false := by (rw [← hr, zP]; omega)
          subst e; clear hr; go_enter Tryz.func102, Tryz.ntmps102; go_wp2; go_ret; exact ⟨rfl, hal⟩)
      ·have c25n : page / 16 * 3 < (vn : Int) := by omega
       have c25d : decide ((vn : Int) ≤ page / 16 * 3) = false := decide_eq_false c25
       first
       | (have e : r = true := by (rw [← hr, zQ]; omega)
         subst e; clear hr; go_enter Tryz.func102, Tryz.ntmps102; go_wp2; go_ret; exact ⟨rfl, hal⟩)
       | (have e : r = false := by (rw [← hr, zP]; omega)
         subst e; clear hr; go_enter Tryz.func102, Tryz.ntmps102; go_wp2; go_ret; exact ⟨rfl, hal⟩)
     ·have c24b : (kd == 1) = false := by simpa using c24
      by_cases c28 : kd = 2
      ·subst c28
       by_cases c29 : vn = 0
       ·subst c29
        first
        | (have e : r = true := by (rw [← hr, zQ]; omega)
          subst e; clear hr; go_enter Tryz.func102, Tryz.ntmps102; go_wp2; go_ret; exact ⟨rfl, hal⟩)
        | (have e : r = false := by (rw [← hr, zP]; omega)
          subst e; clear hr; go_enter Tryz.func102, Tryz.ntmps102; go_wp2; go_ret; exact ⟨rfl, hal⟩)
       ·have c29b : ((vn : Int) == 0) = false := by simp; omega
        have c29p : 0 < (vn : Int) := by omega
        first
        | (have e : r = true := by (rw [← hr, zQ]; omega)
          subst e; clear hr; go_enter Tryz.func102, Tryz.ntmps102; go_wp2; go_ret; exact ⟨rfl, hal⟩)
        | (have e : r = false := by (rw [← hr, zP]; omega)
          subst e; clear hr; go_enter Tryz.func102, Tryz.ntmps102; go_wp2; go_ret; exact ⟨rfl, hal⟩)
      ·have c28b : (kd == 2) = false := by simpa using c28
       by_cases c30 : kd = 4
       ·subst c30
        by_cases c31 : vn = 0
        ·subst c31
         by_cases c32 : pg = 0
         ·subst c32
          by_cases c33 : ct = 0
          ·subst c33
           first
           | (have e : r = true := by (rw [← hr, zQ]; omega)
             subst e; clear hr; go_enter Tryz.func102, Tryz.ntmps102; go_wp2; go_ret; exact ⟨rfl, hal⟩)
           | (have e : r = false := by (rw [← hr, zP]; omega)
             subst e; clear hr; go_enter Tryz.func102, Tryz.ntmps102; go_wp2; go_ret; exact ⟨rfl, hal⟩)
          ·have c33b : (ct == 0) = false := by simpa using c33
           first
           | (have e : r = true := by (rw [← hr, zQ]; omega)
             subst e; clear hr; go_enter Tryz.func102, Tryz.ntmps102; go_wp2; go_ret; exact ⟨rfl, hal⟩)
           | (have e : r = false := by (rw [← hr, zP]; omega)
             subst e; clear hr; go_enter Tryz.func102, Tryz.ntmps102; go_wp2; go_ret; exact ⟨rfl, hal⟩)
         ·have c32b : (pg == 0) = false := by simpa using c32
          first
          | (have e : r = true := by (rw [← hr, zQ]; omega)
            subst e; clear hr; go_enter Tryz.func102, Tryz.ntmps102; go_wp2; go_ret; exact ⟨rfl, hal⟩)
          | (have e : r = false := by (rw [← hr, zP]; omega)
            subst e; clear hr; go_enter Tryz.func102, Tryz.ntmps102; go_wp2; go_ret; exact ⟨rfl, hal⟩)
        ·have c31b : ((vn : Int) == 0) = false := by simp; omega
         have c31p : 0 < (vn : Int) := by omega
         first
         | (have e : r = true := by (rw [← hr, zQ]; omega)
           subst e; clear hr; go_enter Tryz.func102, Tryz.ntmps102; go_wp2; go_ret; exact ⟨rfl, hal⟩)
         | (have e : r = false := by (rw [← hr, zP]; omega)
           subst e; clear hr; go_enter Tryz.func102, Tryz.ntmps102; go_wp2; go_ret; exact ⟨rfl, hal⟩)
       ·have c30b : (kd == 4) = false := by simpa using c30
        first
        | (have e : r = true := by (rw [← hr, zQ]; omega)
          subst e; clear hr; go_enter Tryz.func102, Tryz.ntmps102; go_wp2; go_ret; exact ⟨rfl, hal⟩)
        | (have e : r = false := by (rw [← hr, zP]; omega)
          subst e; clear hr; go_enter Tryz.func102, Tryz.ntmps102; go_wp2; go_ret; exact ⟨rfl, hal⟩)
    ·have c23n : page / 8 < (kn : Int) := by omega
     have c23d : decide ((kn : Int) ≤ page / 8) = false := decide_eq_false c23
     have c23e : decide (page / 8 < (kn : Int)) = true := decide_eq_true (by omega)
     first
     | (have e : r = true := by (rw [← hr, zQ]; omega)
       subst e; clear hr; go_enter Tryz.func102, Tryz.ntmps102; go_wp2; go_ret; exact ⟨rfl, hal⟩)
     | (have e : r = false := by (rw [← hr, zP]; omega)
       subst e; clear hr; go_enter Tryz.func102, Tryz.ntmps102; go_wp2; go_ret; exact ⟨rfl, hal⟩)
   ·obtain rfl : kn = 0 := by omega
    first
    | (have e : r = true := by (rw [← hr, zQ]; omega)
      subst e; clear hr; go_enter Tryz.func102, Tryz.ntmps102; go_wp2; go_ret; exact ⟨rfl, hal⟩)
    | (have e : r = false := by (rw [← hr, zP]; omega)
      subst e; clear hr; go_enter Tryz.func102, Tryz.ntmps102; go_wp2; go_ret; exact ⟨rfl, hal⟩)
 ·have hpb : (pg == 0) = false := by simp; omega
  have hpd : decide (2 ≤ pg) = true := decide_eq_true (by omega)
  have hpe : decide (pg < 65536) = false := decide_eq_false (by omega)
  have hpf : 2 ≤ pg := by omega
  have hpg : 65536 ≤ pg := by omega
  by_cases c34 : k = 3
  ·subst c34
   by_cases c35 : kd = 3
   ·subst c35
    by_cases c36 : (kn : Int) ≤ page / 8
    ·have c36d : decide ((kn : Int) ≤ page / 8) = true := decide_eq_true c36
     first
     | (have e : r = true := by (rw [← hr, zQ]; omega)
       subst e; clear hr; go_enter Tryz.func102, Tryz.ntmps102; go_wp2; go_ret; exact ⟨rfl, hal⟩)
     | (have e : r = false := by (rw [← hr, zP]; omega)
       subst e; clear hr; go_enter Tryz.func102, Tryz.ntmps102; go_wp2; go_ret; exact ⟨rfl, hal⟩)
    ·have c36n : page / 8 < (kn : Int) := by omega
     have c36d : decide ((kn : Int) ≤ page / 8) = false := decide_eq_false c36
     first
     | (have e : r = true := by (rw [← hr, zQ]; omega)
       subst e; clear hr; go_enter Tryz.func102, Tryz.ntmps102; go_wp2; go_ret; exact ⟨rfl, hal⟩)
     | (have e : r = false := by (rw [← hr, zP]; omega)
       subst e; clear hr; go_enter Tryz.func102, Tryz.ntmps102; go_wp2; go_ret; exact ⟨rfl, hal⟩)
   ·have c35b : (kd == 3) = false := by simpa using c35
    first
    | (have e : r = true := by (rw [← hr, zQ]; omega)
      subst e; clear hr; go_enter Tryz.func102, Tryz.ntmps102; go_wp2; go_ret; exact ⟨rfl, hal⟩)
    | (have e : r = false := by (rw [← hr, zP]; omega)
      subst e; clear hr; go_enter Tryz.func102, Tryz.ntmps102; go_wp2; go_ret; exact ⟨rfl, hal⟩)
  ·have c34b : (k == 3) = false := by simpa using c34
   by_cases c37 : 0 < kn
   ·have c37p : 0 < (kn : Int) := by omega
    have c37d : decide ((kn : Int) < 1) = false := decide_eq_false (by omega)
    by_cases c38 : (kn : Int) ≤ page / 8
    ·have c38d : decide ((kn : Int) ≤ page / 8) = true := decide_eq_true c38
     have c38e : decide (page / 8 < (kn : Int)) = false := decide_eq_false (by omega)
     by_cases c39 : kd = 1
     ·subst c39
      by_cases c40 : (vn : Int) ≤ page / 16 * 3
      ·have c40d : decide ((vn : Int) ≤ page / 16 * 3) = true := decide_eq_true c40
       first
       | (have e : r = true := by (rw [← hr, zQ]; omega)
         subst e; clear hr; go_enter Tryz.func102, Tryz.ntmps102; go_wp2; go_ret; exact ⟨rfl, hal⟩)
       | (have e : r = false := by (rw [← hr, zP]; omega)
         subst e; clear hr; go_enter Tryz.func102, Tryz.ntmps102; go_wp2; go_ret; exact ⟨rfl, hal⟩)
      ·have c40n : page / 16 * 3 < (vn : Int) := by omega
       have c40d : decide ((vn : Int) ≤ page / 16 * 3) = false := decide_eq_false c40
       first
       | (have e : r = true := by (rw [← hr, zQ]; omega)
         subst e; clear hr; go_enter Tryz.func102, Tryz.ntmps102; go_wp2; go_ret; exact ⟨rfl, hal⟩)
       | (have e : r = false := by (rw [← hr, zP]; omega)
         subst e; clear hr; go_enter Tryz.func102, Tryz.ntmps102; go_wp2; go_ret; exact ⟨rfl, hal⟩)
     ·have c39b : (kd == 1) = false := by simpa using c39
      by_cases c41 : kd = 2
      ·subst c41
       by_cases c42 : vn = 0
       ·subst c42
        first
        | (have e : r = true := by (rw [← hr, zQ]; omega)
          subst e; clear hr; go_enter Tryz.func102, Tryz.ntmps102; go_wp2; go_ret; exact ⟨rfl, hal⟩)
        | (have e : r = false := by (rw [← hr, zP]; omega)
          subst e; clear hr; go_enter Tryz.func102, Tryz.ntmps102; go_wp2; go_ret; exact ⟨rfl, hal⟩)
       ·have c42b : ((vn : Int) == 0) = false := by simp; omega
        have c42p : 0 < (vn : Int) := by omega
        first
        | (have e : r = true := by (rw [← hr, zQ]; omega)
          subst e; clear hr; go_enter Tryz.func102, Tryz.ntmps102; go_wp2; go_ret; exact ⟨rfl, hal⟩)
        | (have e : r = false := by (rw [← hr, zP]; omega)
          subst e; clear hr; go_enter Tryz.func102, Tryz.ntmps102; go_wp2; go_ret; exact ⟨rfl, hal⟩)
      ·have c41b : (kd == 2) = false := by simpa using c41
       by_cases c43 : kd = 4
       ·subst c43
        by_cases c44 : vn = 0
        ·subst c44
         first
         | (have e : r = true := by (rw [← hr, zQ]; omega)
           subst e; clear hr; go_enter Tryz.func102, Tryz.ntmps102; go_wp2; go_ret; exact ⟨rfl, hal⟩)
         | (have e : r = false := by (rw [← hr, zP]; omega)
           subst e; clear hr; go_enter Tryz.func102, Tryz.ntmps102; go_wp2; go_ret; exact ⟨rfl, hal⟩)
        ·have c44b : ((vn : Int) == 0) = false := by simp; omega
         have c44p : 0 < (vn : Int) := by omega
         first
         | (have e : r = true := by (rw [← hr, zQ]; omega)
           subst e; clear hr; go_enter Tryz.func102, Tryz.ntmps102; go_wp2; go_ret; exact ⟨rfl, hal⟩)
         | (have e : r = false := by (rw [← hr, zP]; omega)
           subst e; clear hr; go_enter Tryz.func102, Tryz.ntmps102; go_wp2; go_ret; exact ⟨rfl, hal⟩)
       ·have c43b : (kd == 4) = false := by simpa using c43
        first
        | (have e : r = true := by (rw [← hr, zQ]; omega)
          subst e; clear hr; go_enter Tryz.func102, Tryz.ntmps102; go_wp2; go_ret; exact ⟨rfl, hal⟩)
        | (have e : r = false := by (rw [← hr, zP]; omega)
          subst e; clear hr; go_enter Tryz.func102, Tryz.ntmps102; go_wp2; go_ret; exact ⟨rfl, hal⟩)
    ·have c38n : page / 8 < (kn : Int) := by omega
     have c38d : decide ((kn : Int) ≤ page / 8) = false := decide_eq_false c38
     have c38e : decide (page / 8 < (kn : Int)) = true := decide_eq_true (by omega)
     first
     | (have e : r = true := by (rw [← hr, zQ]; omega)
       subst e; clear hr; go_enter Tryz.func102, Tryz.ntmps102; go_wp2; go_ret; exact ⟨rfl, hal⟩)
     | (have e : r = false := by (rw [← hr, zP]; omega)
       subst e; clear hr; go_enter Tryz.func102, Tryz.ntmps102; go_wp2; go_ret; exact ⟨rfl, hal⟩)
   ·obtain rfl : kn = 0 := by omega
    first
    | (have e : r = true := by (rw [← hr, zQ]; omega)
      subst e; clear hr; go_enter Tryz.func102, Tryz.ntmps102; go_wp2; go_ret; exact ⟨rfl, hal⟩)
    | (have e : r = false := by (rw [← hr, zP]; omega)
      subst e; clear hr; go_enter Tryz.func102, Tryz.ntmps102; go_wp2; go_ret; exact ⟨rfl, hal⟩)
def encQ (k n : Int) (cs : List Cl) : Int := if isKd k ∧ pw n then (if chk k n none cs = 0 then (if n < szQ k (shP k cs).length cs then 61 else 0) else chk k n none cs) else 1
theorem qbd_take1 (m : Nat) : ∀ (cs : List Cl) (f : Bool) (j : Nat) (c : Cl), cs[j]? = some c → qbd m f (cs.take (j + 1)) = qbd m f (cs.take j) ++ qB (if f = true ∧ j = 0 then 0 else m) c
 | [], f, j, c, h => by simp at h
 | d :: r, f, 0, c, h => by
  simp at h
  subst h
  simp [qbd]
 | d :: r, f, j + 1, c, h => by
  have ih := qbd_take1 m r false j c (by simpa using h)
  simp only [List.take_succ_cons, qbd]
  rw [ih]
  simp
theorem qst_take1 (m : Nat) : ∀ (cs : List Cl) (f : Bool) (b j : Nat) (c : Cl), cs[j]? = some c → qst m f b (cs.take (j + 1)) = qst m f b (cs.take j) ++ [b + (qbd m f (cs.take j)).length]
 | [], f, b, j, c, h => by simp at h
 | d :: r, f, b, 0, c, h => by simp [qst, qbd]
 | d :: r, f, b, j + 1, c, h => by
  have ih := qst_take1 m r false (b + (qB (if f then 0 else m) d).length) j c (by simpa using h)
  simp only [List.take_succ_cons, qst, qbd]
  rw [ih]
  simp [Nat.add_assoc]
theorem qbd_take_le (m : Nat) : ∀ (cs : List Cl) (f : Bool) (j : Nat), (qbd m f (cs.take j)).length ≤ (qbd m f cs).length
 | [], f, j => by simp
 | d :: r, f, 0 => by simp [qbd]
 | d :: r, f, j + 1 => by
  have ih := qbd_take_le m r false j
  simp only [List.take_succ_cons, qbd, zG]
  omega
theorem fixed_sl (n : Int) (x : Nat) (w : World) (h0 : 0 ≤ n) (hn : n < 18446744073709551616) (h1 : 1 ≤ x) (h2 : x ≤ 8) :
  Calls Tryz.prog 97 #[.int .u64 n, .int .i64 (x : Int)] w fun e w' => ∃ ao c, e = .returned (.slice ao x c) ∧ Hid (OwnB w' w.heap.size (.slice ao x c) (fB x n)) ∧ Hid (Sl w' ao x c (fB x n)) ∧ Hid (Below w.heap.size w w') := by
 refine (refFixed_yes n (x : Int) w h0 hn (by omega) (by omega)).mono ?_
 rintro e w' ⟨v, rfl, ho, hb⟩
 rw [Int.toNat_natCast] at ho
 obtain ⟨ao, cap, rfl, hs, _⟩ := ho.sl (zbf _ _) (by rw [zah]; omega)
 rw [zah] at hs ho ⊢
 exact ⟨ao, cap, rfl, zaa ho, zaa hs, zaa hb⟩
theorem fixed_2 (n : Int) (w : World) (h0 : 0 ≤ n) (hn : n < 18446744073709551616) : Calls Tryz.prog 97 #[.int .u64 n, .int .i64 2] w fun e w' => ∃ ao c, e = .returned (.slice ao 2 c) ∧ Hid (OwnB w' w.heap.size (.slice ao 2 c) (fB 2 n)) ∧ Hid (Sl w' ao 2 c (fB 2 n)) ∧ Hid (Below w.heap.size w w') := fixed_sl n 2 w h0 hn (by omega) (by omega)
theorem fixed_4 (n : Int) (w : World) (h0 : 0 ≤ n) (hn : n < 18446744073709551616) : Calls Tryz.prog 97 #[.int .u64 n, .int .i64 4] w fun e w' => ∃ ao c, e = .returned (.slice ao 4 c) ∧ Hid (OwnB w' w.heap.size (.slice ao 4 c) (fB 4 n)) ∧ Hid (Sl w' ao 4 c (fB 4 n)) ∧ Hid (Below w.heap.size w w') := fixed_sl n 4 w h0 hn (by omega) (by omega)
theorem own_two8 (w : World) (x y : Int) : OwnB (w.alloc (.cells #[.int .u8 x, .int .u8 y] 5)) w.heap.size (.slice (some ⟨w.heap.size, 0, none⟩) 2 2) [x, y] :=
 zct (l := [x, y]) (heap_alloc_last w _) Lr (by unfold maxLen; simp)
def REnc (k n : Int) (cs : List Cl) (w : World) (e : Ending) (w' : World) : Prop :=
 ∃ v c, e = .returned (.tuple #[v, .int .i64 c]) ∧ Hid (Below w.heap.size w w') ∧ Hid (c = encQ k n cs ∧ ((c ≠ 0 ∧ v = .slice none 0 0) ∨ (c = 0 ∧ OwnB w' w.heap.size v (pkB k n.toNat cs))))
theorem REnc.no {k n : Int} {cs : List Cl} {w w' : World} {c : Int} (hb : Below w.heap.size w w') (hc : c = encQ k n cs) (h0 : c ≠ 0) : REnc k n cs w (.returned (.tuple #[.slice none 0 0, .int .i64 c])) w' := ⟨_, c, rfl, zaa hb, zaa ⟨hc, .inl ⟨h0, rfl⟩⟩⟩
theorem rencode_no (k n : Int) (co : Option Addr) (cn cc : Nat) (cs : List Cl) (w : World) (hs : SlC w co cn cc cs) (hcn : cn ≤ 900000) (hkv : ∀ c ∈ cs, c.key.length + c.val.length ≤ 35184372088832) (hz : szQ k (shP k cs).length cs ≤ 1099511627776) (hne : encQ k n cs ≠ 0) :
  Calls Tryz.prog 59 #[.int .i64 k, .slice co cn cc, .int .i64 n] w fun e w' => REnc k n cs w e w' := by
 have HS := zaa hs
 have HZ := zaa hz
 have HKV := zaa hkv
 have HLEN := zaa hs.hlen
 have HWF := zaa hs.wf
 have HSZ := zaa (rIsSize_any n w)
 have HNE := zaa hne
 clear hs hz hkv hne
 by_cases hkd : isKd k
 ·cases h2 : decide (pw n) with
  | false =>
   have HE : Hid ((1 : Int) = encQ k n cs) := zaa (by unfold encQ; rw [if_neg (fun h => by simp [h.2] at h2)])
   rw [h2] at HSZ
   unfold isKd at hkd
   clear h2
   rcases hkd with rfl | rfl
   all_goals
    go_enter Tryz.func59, Tryz.ntmps59
    go_wp2_with (go_at_call 55; refine zac HSZ.out ?_)
    go_ret2
    exact REnc.no Br HE.out (by omega)
  | true =>
   have hn : pw n := by simpa using h2
   have hpn := pw_le hn
   obtain ⟨N, rfl⟩ := Int.eq_ofNat_of_zero_le (show 0 ≤ n by omega)
   have HPN := zaa hn
   have HE0 : Hid (encQ k N cs = if chk k N none cs = 0 then (if (N : Int) < szQ k (shP k cs).length cs then 61 else 0) else chk k N none cs) := zaa (by unfold encQ; rw [if_pos ⟨hkd, hn⟩])
   have hN1 : (N : Int) ≤ 65536 := hpn.2
   have hN2 : 512 ≤ N := by omega
   have hN3 : 512 ≤ (N : Int) := by omega
   rw [h2] at HSZ
   have HKD := zaa hkd
   have hkb : (k != 2) = false ∨ ((k != 2) = true ∧ (k != 3) = false) := by unfold isKd at hkd; rcases hkd with rfl | rfl <;> simp
   clear hn hpn h2 hkd
   rcases hkb with hk2 | ⟨hk2, hk3⟩
   all_goals
    go_enter Tryz.func59, Tryz.ntmps59
    go_wp2_with (go_at_call 55; refine zac HSZ.out ?_)
    clear HSZ
    go_loopw [9] (fun i wr => ∃ j : Nat, j ≤ cn ∧ i = .int .i64 j ∧ Hid (chk k N none cs = chk k N (prv (cs.take j)) (cs.drop j)) ∧ Hid (Below w.heap.size w wr)) (fun i _ => cn - (intOf i).toNat)
    case atStart => exact ⟨0, by omega, rfl, zaa (by simp [prv]), zaa Br⟩
    case round =>
     obtain ⟨j, hj, rfl, HC, HBW⟩ := hrel
     have bj : (j : Int) ≤ 900000 := by omega
     by_cases hlt : j < cn
     ·have hltI : (j : Int) < (cn : Int) := by omega
      obtain ⟨b, off, c, ka, kc, va, vc, rfl, hb, hci, c0, c1, c2, c3, c4, hkS, hvS⟩ := (HS.out.on HBW.out).item j hlt
      have HCS := zaa (chk_step k N cs j c hci)
      have HCI := zaa hci
      have HKS := zaa hkS
      have HMB := zaa (rmay_any k (N : Int) c ka va kc vc wr hN3 hN1 hkS.hroom hvS.hroom)
      clear hci hkS hvS
      cases hm : decide (mayP k N c) with
      | false =>
       have HE : Hid ((62 : Int) = encQ k N cs) := by
        have : ¬ mayP k N c := by simpa using hm
        have e : chk k N none cs = 62 := by rw [HC.out, HCS.out, if_neg this]
        exact zaa (by rw [HE0.out, e]; simp)
       rw [hm] at HMB
       go_wp2_with (go_at_call 102; refine HMB.out.mono ?_; rintro e w2 ⟨rfl, hb2⟩; have HB2 := zaa (zae HBW.out Lr hb2); clear hb2)
       go_ret2
       exact REnc.no HB2.out HE.out (by omega)
      | true =>
       have hmp : mayP k N c := by simpa using hm
       have HMP := zaa hmp
       rw [hm] at HMB
       clear hmp hm
       go_wp2_with (go_at_call 102; refine HMB.out.mono ?_; rintro e w2 ⟨rfl, hb2⟩; have HBR := zaa hb2; have HBW2 := zaa (zae HBW.out Lr hb2); clear hb2; refine Hid.out ?_)
       apply zaa
       have d0 := (HBR.out.cell (p := ⟨b, off + j * 5, none⟩) hb).trans c0
       clear c0 c1 c2 c3 c4 HMB
       by_cases hj0 : j = 0
       ·subst hj0
        have HNX : Hid (chk k N none cs = chk k N (prv (cs.take (0 + 1))) (cs.drop (0 + 1))) := zaa (by rw [HC.out, HCS.out, if_pos HMP.out, if_pos (by simp [prv, zar])])
        go_wp2
        go_roundw
        case rel => exact ⟨1, by omega, by go_num, HNX, HBW2⟩
        case measure => simp [intOf]; omega
       ·obtain ⟨i, rfl⟩ : ∃ i, j = i + 1 := ⟨j - 1, by omega⟩
        obtain ⟨b', off', c', ka', kc', va', vc', hbo, hb', hci', e0, e1, e2, e3, e4, hk', hv'⟩ := (HS.out.on HBW2.out).item i (by omega)
        injection hbo with hbo
        injection hbo with hb1 hb2
        subst hb1 hb2
        have hprv : prv (cs.take (i + 1)) = some c'.key := by rw [List.take_add_one, hci']; simp [prv]
        have HRI : Hid (∀ q, Calls Tryz.prog 103 #[.slice ka' c'.key.length kc', .slice ka c.key.length kc] (w2.drewN q) fun e w' => e = .returned (.bool (decide (kl c'.key c.key))) ∧ ∃ q', w' = (w2.drewN q).drewN q') :=
         zaa fun q => rahead_any _ _ _ _ _ _ _ _ _ (hk'.drewN q) ((HKS.out.on Lr HBR.out).drewN q)
        have HPR := zaa hprv
        have i1 : (i : Int) < (cn : Int) := by omega
        have i2 : i < cn := by omega
        have i3 : (i : Int) ≤ 900000 := by omega
        clear hk' hv' hprv hci' e1 e2 e3 e4 hj0
        cases hkl : decide (kl c'.key c.key) with
        | true =>
         have HNX : Hid (chk k N none cs = chk k N (prv (cs.take (i + 1 + 1))) (cs.drop (i + 1 + 1))) := zaa (by
          rw [HC.out, HCS.out, if_pos HMP.out, if_pos (by rw [HPR.out]; simpa [zar] using hkl)])
         rw [hkl] at HRI
         go_wp2_with fail
         go_quiet (first | (go_at_call 103; exact Calls.quiet_of (HRI.out _)))
         all_goals
          go_wp2
          go_roundw
          case rel => exact ⟨i + 1 + 1, by omega, by go_num, HNX, zaa (by first | exact HBW2.out | exact zab HBW2.out _ | exact zab (zab HBW2.out _) _)⟩
          case measure => simp [intOf]; omega
        | false =>
         have HE : Hid ((63 : Int) = encQ k N cs) := by
          have e : chk k N none cs = 63 := by rw [HC.out, HCS.out, if_pos HMP.out, if_neg (by rw [HPR.out]; simpa [zar] using hkl)]
          exact zaa (by rw [HE0.out, e]; simp)
         rw [hkl] at HRI
         go_wp2_with fail
         go_quiet (first | (go_at_call 103; exact Calls.quiet_of (HRI.out _)))
         all_goals
          go_wp2
          go_ret2
          exact REnc.no (by first | exact HBW2.out | exact zab HBW2.out _ | exact zab (zab HBW2.out _) _) HE.out (by omega)
     ·have HC0 : Hid (chk k N none cs = 0) := zaa (by rw [HC.out, List.drop_eq_nil_of_le (by rw [HLEN.out]; omega)]; rfl)
      have HE1 : Hid (encQ k N cs = if (N : Int) < szQ k (shP k cs).length cs then 61 else 0) := zaa (by rw [HE0.out, if_pos HC0.out])
      have HSW := zaa (HS.out.on HBW.out)
      have HZS := zaa (rsize_any k co cn cc cs wr HSW.out hcn HKV.out HZ.out)
      obtain ⟨Z, hZ⟩ : ∃ Z : Nat, szQ k (shP k cs).length cs = Z := ⟨_, rfl⟩
      rw [hZ] at HZS HE1
      have hZb : (Z : Int) ≤ 1099511627776 := by have := HZ.out; omega
      have HZZ := zaa hZ
      clear HC HC0 HE0 hZ
      go_wp2_with (go_at_call 104; refine HZS.out.mono ?_; rintro e w2 ⟨rfl, HB2⟩; refine Hid.out ?_)
      apply zaa
      have HW2 := zaa (zae HBW.out Lr HB2.out)
      clear HZS HB2 HBW HSW
      by_cases hfit : (N : Int) < (Z : Int)
      ·have HE : Hid ((61 : Int) = encQ k N cs) := zaa (by rw [HE1.out, if_pos hfit])
       go_wp2
       go_ret2
       exact REnc.no HW2.out HE.out (by omega)
      ·exact absurd (by rw [HE1.out, if_neg hfit]) HNE.out
 ·have HE : Hid ((1 : Int) = encQ k n cs) := zaa (by unfold encQ; rw [if_neg (fun h => hkd h.1)])
  have h2 : (k != 2) = true := by unfold isKd at hkd; simp; omega
  have h3 : (k != 3) = true := by unfold isKd at hkd; simp; omega
  clear hkd
  go_enter Tryz.func59, Tryz.ntmps59
  go_wp2_with (go_at_call 55; refine zac HSZ.out ?_)
  go_ret2
  exact REnc.no Br HE.out (by omega)
end Go.Proofs.YtbkhjeacmmbabaaGreatDoor
