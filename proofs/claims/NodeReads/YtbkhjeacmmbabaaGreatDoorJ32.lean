import Derived.Test.YtbkhjeacmmbabaaGreatDoorJ31
namespace Go.Proofs.YtbkhjeacmmbabaaGreatDoor
set_option maxRecDepth 100000
set_option maxHeartbeats 4000000
open Go.RowKit
theorem rIsSize_any (n : Int) (w : World) :
  Calls Tryz.prog 55 #[.int .i64 n] w fun e w' => e = .returned (.bool (decide (pw n))) ∧ w' = w := by
 obtain ⟨r, hr⟩ : ∃ r, decide (pw n) = r := ⟨_, rfl⟩
 rw [hr]
 have HR := zaa hr
 clear hr
 go_enter Tryz.func55, Tryz.ntmps55
 go_wp2_with fail
 go_loop [3] (fun v => ∃ x : Int, v = .int .i64 x ∧ (x = 512 ∨ x = 1024 ∨ x = 2048 ∨ x = 4096 ∨ x = 8192 ∨ x = 16384 ∨ x = 32768 ∨ x = 65536 ∨ x = 131072) ∧ Hid (pw n → x ≤ n)) (fun v => (131072 - intOf v).toNat)
 case atStart => exact ⟨512, rfl, .inl rfl, zaa (by unfold pw; omega)⟩
 case round =>
  obtain ⟨x, rfl, hx, HX⟩ := hrel
  by_cases hn : x = 131072
  ·have e : r = false := by
    rw [← HR.out, zP]
    intro h
    have := HX.out h
    unfold pw at h
    omega
   subst hn
   subst e
   clear hx
   go_wp2
   go_ret
   exact ⟨rfl, rfl⟩
  ·have D : x ≤ 65536 := zq
   have E : 512 ≤ x := zq
   by_cases he : x = n
   ·have e : r = true := by
     rw [← HR.out, zQ]
     unfold pw
     omega
    subst e
    subst he
    clear hx
    go_wp2
    go_ret
    exact ⟨rfl, rfl⟩
   ·have F : (x == n) = false := by simpa using he
    have B : Hid (pw n → x * 2 ≤ n) := zaa (fun h => by
     have := HX.out h
     unfold pw at h
     omega)
    have A : x * 2 = 512 ∨ x * 2 = 1024 ∨ x * 2 = 2048 ∨ x * 2 = 4096 ∨ x * 2 = 8192 ∨ x * 2 = 16384 ∨ x * 2 = 32768 ∨ x * 2 = 65536 ∨ x * 2 = 131072 := zq
    have C := zaa A
    clear hx A he HX hn
    go_wp2
    go_round
    case rel => exact ⟨x * 2, rfl, C.out, B⟩
    case measure => simp [intOf]; omega
theorem rahead_any (ao bo : Option Addr) (n m c d : Nat) (la lb : List Int) (w : World) (ha : Sl w ao n c la) (hb : Sl w bo m d lb) :
  Calls Tryz.prog 103 #[.slice ao n c, .slice bo m d] w fun e w' => e = .returned (.bool (decide (kl la lb))) ∧ ∃ q, w' = w.drewN q := by
 have HO := zaa (order_any ao bo n m c d la lb w ha hb)
 have h3 := ordL_three la lb
 have e : decide (kl la lb) = decide (ordL la lb < 0) := by
  rw [Bool.eq_iff_iff, zQ, zQ]
  unfold kl
  omega
 rw [e]
 obtain ⟨o, ho⟩ : ∃ o, ordL la lb = o := ⟨_, rfl⟩
 rw [ho] at HO ⊢
 clear ha hb ho h3 e
 go_enter Tryz.func103, Tryz.ntmps103
 go_wp2_with (go_at_call 140; refine zcm HO.out ?_; intro q; refine Hid.out ?_)
 apply zaa
 clear HO
 go_wp2
 go_ret
 exact ⟨rfl, _, rfl⟩
theorem rmay_any (k page : Int) (c : Cl) (ka va : Option Addr) (kc vc : Nat) (w : World) (h0 : 512 ≤ page) (h1 : page ≤ 65536) (hk : c.key.length ≤ 140737488355328) (hv : c.val.length ≤ 140737488355328) :
  Calls Tryz.prog 102 #[.int .i64 k, .agg #[.slice ka c.key.length kc, .int .i64 c.kd, .slice va c.val.length vc, .int .i64 c.pg, .int .i64 c.ct], .int .i64 page] w fun e w' => e = .returned (.bool (decide (mayP k page c))) ∧ Below w.heap.size w w' := by
 obtain ⟨key, kd, val, pg, ct⟩ := c
 simp only at hk hv ⊢
 have B : (val = []) = (val.length = 0) := by rw [List.length_eq_zero_iff]
 have A := (Below.refl w.heap.size w).alloc Lr (.cells #[.slice ka key.length kc, .int .i64 kd, .slice va val.length vc, .int .i64 pg, .int .i64 ct] 50)
 obtain ⟨r, hr⟩ : ∃ r, decide (mayP k page ⟨key, kd, val, pg, ct⟩) = r := ⟨_, rfl⟩
 rw [hr]
 unfold mayP zbx zca at hr
 simp only [B] at hr
 clear B
 obtain ⟨kn, C⟩ : ∃ kn, key.length = kn := ⟨_, rfl⟩
 obtain ⟨vn, B⟩ : ∃ vn, val.length = vn := ⟨_, rfl⟩
 rw [C] at hr hk A ⊢
 rw [B] at hr hv A ⊢
 clear C B
 have G : IntKind.i64.wrap (page / 16 * 3) = page / 16 * 3 := by rw [IntKind.wrap_i64]; omega
 rcases (by omega : (2 ≤ pg ∧ pg < 65536) ∨ pg < 2 ∨ 65535 < pg) with ⟨D, H⟩ | D | D
 ·have E : (pg == 0) = false := by simp; omega
  by_cases c1 : k = 3
  ·subst c1
   by_cases c2 : kd = 3
   ·subst c2
    by_cases c3 : (kn : Int) ≤ page / 8
    ·have c3d : decide ((kn : Int) ≤ page / 8) = true := decide_eq_true c3
     by_cases c4 : 1 ≤ ct
     ·have c4d : decide (1 ≤ ct) = true := decide_eq_true c4
      by_cases c5 : ct ≤ 1073741824
      ·have c5d : decide (ct ≤ 1073741824) = true := decide_eq_true c5
       by_cases c6 : vn = 0
       ·subst c6
        first
        | (have e : r = true := by (rw [← hr, zQ]; omega)
           subst e; clear hr; go_enter Tryz.func102, Tryz.ntmps102; go_wp2; go_ret; exact ⟨rfl, A⟩)
        | (have e : r = false := by (rw [← hr, zP]; omega)
           subst e; clear hr; go_enter Tryz.func102, Tryz.ntmps102; go_wp2; go_ret; exact ⟨rfl, A⟩)
       ·have c6b : ((vn : Int) == 0) = false := by simp; omega
        have c6p : 0 < (vn : Int) := zq
        first
        | (have e : r = true := by (rw [← hr, zQ]; omega)
           subst e; clear hr; go_enter Tryz.func102, Tryz.ntmps102; go_wp2; go_ret; exact ⟨rfl, A⟩)
        | (have e : r = false := by (rw [← hr, zP]; omega)
           subst e; clear hr; go_enter Tryz.func102, Tryz.ntmps102; go_wp2; go_ret; exact ⟨rfl, A⟩)
      ·have c5n : 1073741824 < ct := zq
       have c5d : decide (ct ≤ 1073741824) = false := decide_eq_false c5
       first
       | (have e : r = true := by (rw [← hr, zQ]; omega)
          subst e; clear hr; go_enter Tryz.func102, Tryz.ntmps102; go_wp2; go_ret; exact ⟨rfl, A⟩)
       | (have e : r = false := by (rw [← hr, zP]; omega)
          subst e; clear hr; go_enter Tryz.func102, Tryz.ntmps102; go_wp2; go_ret; exact ⟨rfl, A⟩)
     ·have c4n : ct < 1 := zq
      have c4d : decide (1 ≤ ct) = false := decide_eq_false c4
      first
      | (have e : r = true := by (rw [← hr, zQ]; omega)
         subst e; clear hr; go_enter Tryz.func102, Tryz.ntmps102; go_wp2; go_ret; exact ⟨rfl, A⟩)
      | (have e : r = false := by (rw [← hr, zP]; omega)
         subst e; clear hr; go_enter Tryz.func102, Tryz.ntmps102; go_wp2; go_ret; exact ⟨rfl, A⟩)
    ·have c3n : page / 8 < (kn : Int) := zq
     have c3d : decide ((kn : Int) ≤ page / 8) = false := decide_eq_false c3
     first
     | (have e : r = true := by (rw [← hr, zQ]; omega)
        subst e; clear hr; go_enter Tryz.func102, Tryz.ntmps102; go_wp2; go_ret; exact ⟨rfl, A⟩)
     | (have e : r = false := by (rw [← hr, zP]; omega)
        subst e; clear hr; go_enter Tryz.func102, Tryz.ntmps102; go_wp2; go_ret; exact ⟨rfl, A⟩)
   ·have c2b : (kd == 3) = false := by simpa using c2
    first
    | (have e : r = true := by (rw [← hr, zQ]; omega)
       subst e; clear hr; go_enter Tryz.func102, Tryz.ntmps102; go_wp2; go_ret; exact ⟨rfl, A⟩)
    | (have e : r = false := by (rw [← hr, zP]; omega)
       subst e; clear hr; go_enter Tryz.func102, Tryz.ntmps102; go_wp2; go_ret; exact ⟨rfl, A⟩)
  ·have c1b : (k == 3) = false := by simpa using c1
   by_cases c7 : 0 < kn
   ·have c7p : 0 < (kn : Int) := zq
    have c7d : decide ((kn : Int) < 1) = false := decide_eq_false zq
    by_cases c8 : (kn : Int) ≤ page / 8
    ·have c8d : decide ((kn : Int) ≤ page / 8) = true := decide_eq_true c8
     have c8e : decide (page / 8 < (kn : Int)) = false := decide_eq_false zq
     by_cases c9 : kd = 1
     ·subst c9
      by_cases c10 : (vn : Int) ≤ page / 16 * 3
      ·have c10d : decide ((vn : Int) ≤ page / 16 * 3) = true := decide_eq_true c10
       first
       | (have e : r = true := by (rw [← hr, zQ]; omega)
          subst e; clear hr; go_enter Tryz.func102, Tryz.ntmps102; go_wp2; go_ret; exact ⟨rfl, A⟩)
       | (have e : r = false := by (rw [← hr, zP]; omega)
          subst e; clear hr; go_enter Tryz.func102, Tryz.ntmps102; go_wp2; go_ret; exact ⟨rfl, A⟩)
      ·have c10n : page / 16 * 3 < (vn : Int) := zq
       have c10d : decide ((vn : Int) ≤ page / 16 * 3) = false := decide_eq_false c10
       first
       | (have e : r = true := by (rw [← hr, zQ]; omega)
          subst e; clear hr; go_enter Tryz.func102, Tryz.ntmps102; go_wp2; go_ret; exact ⟨rfl, A⟩)
       | (have e : r = false := by (rw [← hr, zP]; omega)
          subst e; clear hr; go_enter Tryz.func102, Tryz.ntmps102; go_wp2; go_ret; exact ⟨rfl, A⟩)
     ·have c9b : (kd == 1) = false := by simpa using c9
      by_cases c11 : kd = 2
      ·subst c11
       by_cases c12 : vn = 0
       ·subst c12
        by_cases c13 : page / 16 * 3 < ct
        ·have c13d : decide (page / 16 * 3 < ct) = true := decide_eq_true c13
         by_cases c14 : ct ≤ 65536
         ·have c14d : decide (ct ≤ 65536) = true := decide_eq_true c14
          first
          | (have e : r = true := by (rw [← hr, zQ]; omega)
             subst e; clear hr; go_enter Tryz.func102, Tryz.ntmps102; go_wp2; go_ret; exact ⟨rfl, A⟩)
          | (have e : r = false := by (rw [← hr, zP]; omega)
             subst e; clear hr; go_enter Tryz.func102, Tryz.ntmps102; go_wp2; go_ret; exact ⟨rfl, A⟩)
         ·have c14n : 65536 < ct := zq
          have c14d : decide (ct ≤ 65536) = false := decide_eq_false c14
          first
          | (have e : r = true := by (rw [← hr, zQ]; omega)
             subst e; clear hr; go_enter Tryz.func102, Tryz.ntmps102; go_wp2; go_ret; exact ⟨rfl, A⟩)
          | (have e : r = false := by (rw [← hr, zP]; omega)
             subst e; clear hr; go_enter Tryz.func102, Tryz.ntmps102; go_wp2; go_ret; exact ⟨rfl, A⟩)
        ·have c13n : ct ≤ page / 16 * 3 := zq
         have c13d : decide (page / 16 * 3 < ct) = false := decide_eq_false c13
         first
         | (have e : r = true := by (rw [← hr, zQ]; omega)
            subst e; clear hr; go_enter Tryz.func102, Tryz.ntmps102; go_wp2; go_ret; exact ⟨rfl, A⟩)
         | (have e : r = false := by (rw [← hr, zP]; omega)
            subst e; clear hr; go_enter Tryz.func102, Tryz.ntmps102; go_wp2; go_ret; exact ⟨rfl, A⟩)
       ·have c12b : ((vn : Int) == 0) = false := by simp; omega
        have c12p : 0 < (vn : Int) := zq
        first
        | (have e : r = true := by (rw [← hr, zQ]; omega)
           subst e; clear hr; go_enter Tryz.func102, Tryz.ntmps102; go_wp2; go_ret; exact ⟨rfl, A⟩)
        | (have e : r = false := by (rw [← hr, zP]; omega)
           subst e; clear hr; go_enter Tryz.func102, Tryz.ntmps102; go_wp2; go_ret; exact ⟨rfl, A⟩)
      ·have c11b : (kd == 2) = false := by simpa using c11
       by_cases c15 : kd = 4
       ·subst c15
        by_cases c16 : vn = 0
        ·subst c16
         by_cases c17 : 1 ≤ ct
         ·have c17d : decide (1 ≤ ct) = true := decide_eq_true c17
          by_cases c18 : ct ≤ 1073741824
          ·have c18d : decide (ct ≤ 1073741824) = true := decide_eq_true c18
           first
           | (have e : r = true := by (rw [← hr, zQ]; omega)
              subst e; clear hr; go_enter Tryz.func102, Tryz.ntmps102; go_wp2; go_ret; exact ⟨rfl, A⟩)
           | (have e : r = false := by (rw [← hr, zP]; omega)
              subst e; clear hr; go_enter Tryz.func102, Tryz.ntmps102; go_wp2; go_ret; exact ⟨rfl, A⟩)
          ·have c18n : 1073741824 < ct := zq
           have c18d : decide (ct ≤ 1073741824) = false := decide_eq_false c18
           first
           | (have e : r = true := by (rw [← hr, zQ]; omega)
              subst e; clear hr; go_enter Tryz.func102, Tryz.ntmps102; go_wp2; go_ret; exact ⟨rfl, A⟩)
           | (have e : r = false := by (rw [← hr, zP]; omega)
              subst e; clear hr; go_enter Tryz.func102, Tryz.ntmps102; go_wp2; go_ret; exact ⟨rfl, A⟩)
         ·have c17n : ct < 1 := zq
          have c17d : decide (1 ≤ ct) = false := decide_eq_false c17
          first
          | (have e : r = true := by (rw [← hr, zQ]; omega)
             subst e; clear hr; go_enter Tryz.func102, Tryz.ntmps102; go_wp2; go_ret; exact ⟨rfl, A⟩)
          | (have e : r = false := by (rw [← hr, zP]; omega)
             subst e; clear hr; go_enter Tryz.func102, Tryz.ntmps102; go_wp2; go_ret; exact ⟨rfl, A⟩)
        ·have c16b : ((vn : Int) == 0) = false := by simp; omega
         have c16p : 0 < (vn : Int) := zq
         first
         | (have e : r = true := by (rw [← hr, zQ]; omega)
            subst e; clear hr; go_enter Tryz.func102, Tryz.ntmps102; go_wp2; go_ret; exact ⟨rfl, A⟩)
         | (have e : r = false := by (rw [← hr, zP]; omega)
            subst e; clear hr; go_enter Tryz.func102, Tryz.ntmps102; go_wp2; go_ret; exact ⟨rfl, A⟩)
       ·have c15b : (kd == 4) = false := by simpa using c15
        first
        | (have e : r = true := by (rw [← hr, zQ]; omega)
           subst e; clear hr; go_enter Tryz.func102, Tryz.ntmps102; go_wp2; go_ret; exact ⟨rfl, A⟩)
        | (have e : r = false := by (rw [← hr, zP]; omega)
           subst e; clear hr; go_enter Tryz.func102, Tryz.ntmps102; go_wp2; go_ret; exact ⟨rfl, A⟩)
    ·have c8n : page / 8 < (kn : Int) := zq
     have c8d : decide ((kn : Int) ≤ page / 8) = false := decide_eq_false c8
     have c8e : decide (page / 8 < (kn : Int)) = true := decide_eq_true zq
     first
     | (have e : r = true := by (rw [← hr, zQ]; omega)
        subst e; clear hr; go_enter Tryz.func102, Tryz.ntmps102; go_wp2; go_ret; exact ⟨rfl, A⟩)
     | (have e : r = false := by (rw [← hr, zP]; omega)
        subst e; clear hr; go_enter Tryz.func102, Tryz.ntmps102; go_wp2; go_ret; exact ⟨rfl, A⟩)
   ·obtain rfl : kn = 0 := zq
    first
    | (have e : r = true := by (rw [← hr, zQ]; omega)
       subst e; clear hr; go_enter Tryz.func102, Tryz.ntmps102; go_wp2; go_ret; exact ⟨rfl, A⟩)
    | (have e : r = false := by (rw [← hr, zP]; omega)
       subst e; clear hr; go_enter Tryz.func102, Tryz.ntmps102; go_wp2; go_ret; exact ⟨rfl, A⟩)
 ·have F : decide (2 ≤ pg) = false := decide_eq_false zq
  by_cases c19 : k = 3
  ·subst c19
   by_cases c20 : kd = 3
   ·subst c20
    by_cases c21 : (kn : Int) ≤ page / 8
    ·have c21d : decide ((kn : Int) ≤ page / 8) = true := decide_eq_true c21
     first
     | (have e : r = true := by (rw [← hr, zQ]; omega)
        subst e; clear hr; go_enter Tryz.func102, Tryz.ntmps102; go_wp2; go_ret; exact ⟨rfl, A⟩)
     | (have e : r = false := by (rw [← hr, zP]; omega)
        subst e; clear hr; go_enter Tryz.func102, Tryz.ntmps102; go_wp2; go_ret; exact ⟨rfl, A⟩)
    ·have c21n : page / 8 < (kn : Int) := zq
     have c21d : decide ((kn : Int) ≤ page / 8) = false := decide_eq_false c21
     first
     | (have e : r = true := by (rw [← hr, zQ]; omega)
        subst e; clear hr; go_enter Tryz.func102, Tryz.ntmps102; go_wp2; go_ret; exact ⟨rfl, A⟩)
     | (have e : r = false := by (rw [← hr, zP]; omega)
        subst e; clear hr; go_enter Tryz.func102, Tryz.ntmps102; go_wp2; go_ret; exact ⟨rfl, A⟩)
   ·have c20b : (kd == 3) = false := by simpa using c20
    first
    | (have e : r = true := by (rw [← hr, zQ]; omega)
       subst e; clear hr; go_enter Tryz.func102, Tryz.ntmps102; go_wp2; go_ret; exact ⟨rfl, A⟩)
    | (have e : r = false := by (rw [← hr, zP]; omega)
       subst e; clear hr; go_enter Tryz.func102, Tryz.ntmps102; go_wp2; go_ret; exact ⟨rfl, A⟩)
  ·have c19b : (k == 3) = false := by simpa using c19
   by_cases c22 : 0 < kn
   ·have c22p : 0 < (kn : Int) := zq
    have c22d : decide ((kn : Int) < 1) = false := decide_eq_false zq
    by_cases c23 : (kn : Int) ≤ page / 8
    ·have c23d : decide ((kn : Int) ≤ page / 8) = true := decide_eq_true c23
     have c23e : decide (page / 8 < (kn : Int)) = false := decide_eq_false zq
     by_cases c24 : kd = 1
     ·subst c24
      by_cases c25 : (vn : Int) ≤ page / 16 * 3
      ·have c25d : decide ((vn : Int) ≤ page / 16 * 3) = true := decide_eq_true c25
       by_cases c26 : pg = 0
       ·subst c26
        by_cases c27 : ct = 0
        ·subst c27
         first
         | (have e : r = true := by (rw [← hr, zQ]; omega)
            subst e; clear hr; go_enter Tryz.func102, Tryz.ntmps102; go_wp2; go_ret; exact ⟨rfl, A⟩)
         | (have e : r = false := by (rw [← hr, zP]; omega)
            subst e; clear hr; go_enter Tryz.func102, Tryz.ntmps102; go_wp2; go_ret; exact ⟨rfl, A⟩)
        ·have c27b : (ct == 0) = false := by simpa using c27
         first
         | (have e : r = true := by (rw [← hr, zQ]; omega)
            subst e; clear hr; go_enter Tryz.func102, Tryz.ntmps102; go_wp2; go_ret; exact ⟨rfl, A⟩)
         | (have e : r = false := by (rw [← hr, zP]; omega)
            subst e; clear hr; go_enter Tryz.func102, Tryz.ntmps102; go_wp2; go_ret; exact ⟨rfl, A⟩)
       ·have c26b : (pg == 0) = false := by simpa using c26
        first
        | (have e : r = true := by (rw [← hr, zQ]; omega)
           subst e; clear hr; go_enter Tryz.func102, Tryz.ntmps102; go_wp2; go_ret; exact ⟨rfl, A⟩)
        | (have e : r = false := by (rw [← hr, zP]; omega)
           subst e; clear hr; go_enter Tryz.func102, Tryz.ntmps102; go_wp2; go_ret; exact ⟨rfl, A⟩)
      ·have c25n : page / 16 * 3 < (vn : Int) := zq
       have c25d : decide ((vn : Int) ≤ page / 16 * 3) = false := decide_eq_false c25
       first
       | (have e : r = true := by (rw [← hr, zQ]; omega)
          subst e; clear hr; go_enter Tryz.func102, Tryz.ntmps102; go_wp2; go_ret; exact ⟨rfl, A⟩)
       | (have e : r = false := by (rw [← hr, zP]; omega)
          subst e; clear hr; go_enter Tryz.func102, Tryz.ntmps102; go_wp2; go_ret; exact ⟨rfl, A⟩)
     ·have c24b : (kd == 1) = false := by simpa using c24
      by_cases c28 : kd = 2
      ·subst c28
       by_cases c29 : vn = 0
       ·subst c29
        first
        | (have e : r = true := by (rw [← hr, zQ]; omega)
           subst e; clear hr; go_enter Tryz.func102, Tryz.ntmps102; go_wp2; go_ret; exact ⟨rfl, A⟩)
        | (have e : r = false := by (rw [← hr, zP]; omega)
           subst e; clear hr; go_enter Tryz.func102, Tryz.ntmps102; go_wp2; go_ret; exact ⟨rfl, A⟩)
       ·have c29b : ((vn : Int) == 0) = false := by simp; omega
        have c29p : 0 < (vn : Int) := zq
        first
        | (have e : r = true := by (rw [← hr, zQ]; omega)
           subst e; clear hr; go_enter Tryz.func102, Tryz.ntmps102; go_wp2; go_ret; exact ⟨rfl, A⟩)
        | (have e : r = false := by (rw [← hr, zP]; omega)
           subst e; clear hr; go_enter Tryz.func102, Tryz.ntmps102; go_wp2; go_ret; exact ⟨rfl, A⟩)
      ·have c28b : (kd == 2) = false := by simpa using c28
       by_cases c30 : kd = 4
       ·subst c30
        by_cases c31 : vn = 0
        ·subst c31
         by_cases c32 : pg = 0
         ·subst c32
          by_cases c33 : ct = 0
          ·subst c33
           first
           | (have e : r = true := by (rw [← hr, zQ]; omega)
              subst e; clear hr; go_enter Tryz.func102, Tryz.ntmps102; go_wp2; go_ret; exact ⟨rfl, A⟩)
           | (have e : r = false := by (rw [← hr, zP]; omega)
              subst e; clear hr; go_enter Tryz.func102, Tryz.ntmps102; go_wp2; go_ret; exact ⟨rfl, A⟩)
          ·have c33b : (ct == 0) = false := by simpa using c33
           first
           | (have e : r = true := by (rw [← hr, zQ]; omega)
              subst e; clear hr; go_enter Tryz.func102, Tryz.ntmps102; go_wp2; go_ret; exact ⟨rfl, A⟩)
           | (have e : r = false := by (rw [← hr, zP]; omega)
              subst e; clear hr; go_enter Tryz.func102, Tryz.ntmps102; go_wp2; go_ret; exact ⟨rfl, A⟩)
         ·have c32b : (pg == 0) = false := by simpa using c32
          first
          | (have e : r = true := by (rw [← hr, zQ]; omega)
             subst e; clear hr; go_enter Tryz.func102, Tryz.ntmps102; go_wp2; go_ret; exact ⟨rfl, A⟩)
          | (have e : r = false := by (rw [← hr, zP]; omega)
             subst e; clear hr; go_enter Tryz.func102, Tryz.ntmps102; go_wp2; go_ret; exact ⟨rfl, A⟩)
        ·have c31b : ((vn : Int) == 0) = false := by simp; omega
         have c31p : 0 < (vn : Int) := zq
         first
         | (have e : r = true := by (rw [← hr, zQ]; omega)
            subst e; clear hr; go_enter Tryz.func102, Tryz.ntmps102; go_wp2; go_ret; exact ⟨rfl, A⟩)
         | (have e : r = false := by (rw [← hr, zP]; omega)
            subst e; clear hr; go_enter Tryz.func102, Tryz.ntmps102; go_wp2; go_ret; exact ⟨rfl, A⟩)
       ·have c30b : (kd == 4) = false := by simpa using c30
        first
        | (have e : r = true := by (rw [← hr, zQ]; omega)
           subst e; clear hr; go_enter Tryz.func102, Tryz.ntmps102; go_wp2; go_ret; exact ⟨rfl, A⟩)
        | (have e : r = false := by (rw [← hr, zP]; omega)
           subst e; clear hr; go_enter Tryz.func102, Tryz.ntmps102; go_wp2; go_ret; exact ⟨rfl, A⟩)
    ·have c23n : page / 8 < (kn : Int) := zq
     have c23d : decide ((kn : Int) ≤ page / 8) = false := decide_eq_false c23
     have c23e : decide (page / 8 < (kn : Int)) = true := decide_eq_true zq
     first
     | (have e : r = true := by (rw [← hr, zQ]; omega)
        subst e; clear hr; go_enter Tryz.func102, Tryz.ntmps102; go_wp2; go_ret; exact ⟨rfl, A⟩)
     | (have e : r = false := by (rw [← hr, zP]; omega)
        subst e; clear hr; go_enter Tryz.func102, Tryz.ntmps102; go_wp2; go_ret; exact ⟨rfl, A⟩)
   ·obtain rfl : kn = 0 := zq
    first
    | (have e : r = true := by (rw [← hr, zQ]; omega)
       subst e; clear hr; go_enter Tryz.func102, Tryz.ntmps102; go_wp2; go_ret; exact ⟨rfl, A⟩)
    | (have e : r = false := by (rw [← hr, zP]; omega)
       subst e; clear hr; go_enter Tryz.func102, Tryz.ntmps102; go_wp2; go_ret; exact ⟨rfl, A⟩)
 ·have E : (pg == 0) = false := by simp; omega
  have F : decide (2 ≤ pg) = true := decide_eq_true zq
  have I : decide (pg < 65536) = false := decide_eq_false zq
  have J : 2 ≤ pg := zq
  have K : 65536 ≤ pg := zq
  by_cases c34 : k = 3
  ·subst c34
   by_cases c35 : kd = 3
   ·subst c35
    by_cases c36 : (kn : Int) ≤ page / 8
    ·have c36d : decide ((kn : Int) ≤ page / 8) = true := decide_eq_true c36
     first
     | (have e : r = true := by (rw [← hr, zQ]; omega)
        subst e; clear hr; go_enter Tryz.func102, Tryz.ntmps102; go_wp2; go_ret; exact ⟨rfl, A⟩)
     | (have e : r = false := by (rw [← hr, zP]; omega)
        subst e; clear hr; go_enter Tryz.func102, Tryz.ntmps102; go_wp2; go_ret; exact ⟨rfl, A⟩)
    ·have c36n : page / 8 < (kn : Int) := zq
     have c36d : decide ((kn : Int) ≤ page / 8) = false := decide_eq_false c36
     first
     | (have e : r = true := by (rw [← hr, zQ]; omega)
        subst e; clear hr; go_enter Tryz.func102, Tryz.ntmps102; go_wp2; go_ret; exact ⟨rfl, A⟩)
     | (have e : r = false := by (rw [← hr, zP]; omega)
        subst e; clear hr; go_enter Tryz.func102, Tryz.ntmps102; go_wp2; go_ret; exact ⟨rfl, A⟩)
   ·have c35b : (kd == 3) = false := by simpa using c35
    first
    | (have e : r = true := by (rw [← hr, zQ]; omega)
       subst e; clear hr; go_enter Tryz.func102, Tryz.ntmps102; go_wp2; go_ret; exact ⟨rfl, A⟩)
    | (have e : r = false := by (rw [← hr, zP]; omega)
       subst e; clear hr; go_enter Tryz.func102, Tryz.ntmps102; go_wp2; go_ret; exact ⟨rfl, A⟩)
  ·have c34b : (k == 3) = false := by simpa using c34
   by_cases c37 : 0 < kn
   ·have c37p : 0 < (kn : Int) := zq
    have c37d : decide ((kn : Int) < 1) = false := decide_eq_false zq
    by_cases c38 : (kn : Int) ≤ page / 8
    ·have c38d : decide ((kn : Int) ≤ page / 8) = true := decide_eq_true c38
     have c38e : decide (page / 8 < (kn : Int)) = false := decide_eq_false zq
     by_cases c39 : kd = 1
     ·subst c39
      by_cases c40 : (vn : Int) ≤ page / 16 * 3
      ·have c40d : decide ((vn : Int) ≤ page / 16 * 3) = true := decide_eq_true c40
       first
       | (have e : r = true := by (rw [← hr, zQ]; omega)
          subst e; clear hr; go_enter Tryz.func102, Tryz.ntmps102; go_wp2; go_ret; exact ⟨rfl, A⟩)
       | (have e : r = false := by (rw [← hr, zP]; omega)
          subst e; clear hr; go_enter Tryz.func102, Tryz.ntmps102; go_wp2; go_ret; exact ⟨rfl, A⟩)
      ·have c40n : page / 16 * 3 < (vn : Int) := zq
       have c40d : decide ((vn : Int) ≤ page / 16 * 3) = false := decide_eq_false c40
       first
       | (have e : r = true := by (rw [← hr, zQ]; omega)
          subst e; clear hr; go_enter Tryz.func102, Tryz.ntmps102; go_wp2; go_ret; exact ⟨rfl, A⟩)
       | (have e : r = false := by (rw [← hr, zP]; omega)
          subst e; clear hr; go_enter Tryz.func102, Tryz.ntmps102; go_wp2; go_ret; exact ⟨rfl, A⟩)
     ·have c39b : (kd == 1) = false := by simpa using c39
      by_cases c41 : kd = 2
      ·subst c41
       by_cases c42 : vn = 0
       ·subst c42
        first
        | (have e : r = true := by (rw [← hr, zQ]; omega)
           subst e; clear hr; go_enter Tryz.func102, Tryz.ntmps102; go_wp2; go_ret; exact ⟨rfl, A⟩)
        | (have e : r = false := by (rw [← hr, zP]; omega)
           subst e; clear hr; go_enter Tryz.func102, Tryz.ntmps102; go_wp2; go_ret; exact ⟨rfl, A⟩)
       ·have c42b : ((vn : Int) == 0) = false := by simp; omega
        have c42p : 0 < (vn : Int) := zq
        first
        | (have e : r = true := by (rw [← hr, zQ]; omega)
           subst e; clear hr; go_enter Tryz.func102, Tryz.ntmps102; go_wp2; go_ret; exact ⟨rfl, A⟩)
        | (have e : r = false := by (rw [← hr, zP]; omega)
           subst e; clear hr; go_enter Tryz.func102, Tryz.ntmps102; go_wp2; go_ret; exact ⟨rfl, A⟩)
      ·have c41b : (kd == 2) = false := by simpa using c41
       by_cases c43 : kd = 4
       ·subst c43
        by_cases c44 : vn = 0
        ·subst c44
         first
         | (have e : r = true := by (rw [← hr, zQ]; omega)
            subst e; clear hr; go_enter Tryz.func102, Tryz.ntmps102; go_wp2; go_ret; exact ⟨rfl, A⟩)
         | (have e : r = false := by (rw [← hr, zP]; omega)
            subst e; clear hr; go_enter Tryz.func102, Tryz.ntmps102; go_wp2; go_ret; exact ⟨rfl, A⟩)
        ·have c44b : ((vn : Int) == 0) = false := by simp; omega
         have c44p : 0 < (vn : Int) := zq
         first
         | (have e : r = true := by (rw [← hr, zQ]; omega)
            subst e; clear hr; go_enter Tryz.func102, Tryz.ntmps102; go_wp2; go_ret; exact ⟨rfl, A⟩)
         | (have e : r = false := by (rw [← hr, zP]; omega)
            subst e; clear hr; go_enter Tryz.func102, Tryz.ntmps102; go_wp2; go_ret; exact ⟨rfl, A⟩)
       ·have c43b : (kd == 4) = false := by simpa using c43
        first
        | (have e : r = true := by (rw [← hr, zQ]; omega)
           subst e; clear hr; go_enter Tryz.func102, Tryz.ntmps102; go_wp2; go_ret; exact ⟨rfl, A⟩)
        | (have e : r = false := by (rw [← hr, zP]; omega)
           subst e; clear hr; go_enter Tryz.func102, Tryz.ntmps102; go_wp2; go_ret; exact ⟨rfl, A⟩)
    ·have c38n : page / 8 < (kn : Int) := zq
     have c38d : decide ((kn : Int) ≤ page / 8) = false := decide_eq_false c38
     have c38e : decide (page / 8 < (kn : Int)) = true := decide_eq_true zq
     first
     | (have e : r = true := by (rw [← hr, zQ]; omega)
        subst e; clear hr; go_enter Tryz.func102, Tryz.ntmps102; go_wp2; go_ret; exact ⟨rfl, A⟩)
     | (have e : r = false := by (rw [← hr, zP]; omega)
        subst e; clear hr; go_enter Tryz.func102, Tryz.ntmps102; go_wp2; go_ret; exact ⟨rfl, A⟩)
   ·obtain rfl : kn = 0 := zq
    first
    | (have e : r = true := by (rw [← hr, zQ]; omega)
       subst e; clear hr; go_enter Tryz.func102, Tryz.ntmps102; go_wp2; go_ret; exact ⟨rfl, A⟩)
    | (have e : r = false := by (rw [← hr, zP]; omega)
       subst e; clear hr; go_enter Tryz.func102, Tryz.ntmps102; go_wp2; go_ret; exact ⟨rfl, A⟩)
def encQ (k n : Int) (cs : List Cl) : Int := if isKd k ∧ pw n then (if chk k n none cs = 0 then (if n < szQ k (shP k cs).length cs then 61 else 0) else chk k n none cs) else 1
end Go.Proofs.YtbkhjeacmmbabaaGreatDoor
