import Derived.Test.YtbkhjeacmmbabaaGreatDoorJ09
import Derived.Deep.QuietTactic
namespace Go.Proofs.YtbkhjeacmmbabaaGreatDoor
set_option maxRecDepth 100000
set_option maxHeartbeats 8000000
open Go.RowKit
theorem rmk6_any (page : Int) (w : World) (h0 : 512 ≤ page) (h1 : page ≤ 65536) : Calls Tryz.prog 136 #[.int .i64 page] w fun e w' => e = .returned (.int .i64 (page / 8)) ∧ w' = w := by
 have e : Int.tdiv page 8 = page / 8 := Int.tdiv_eq_ediv_of_nonneg zq
 have e2 : IntKind.i64.wrap (page / 8) = page / 8 := by rw [IntKind.wrap_i64]; omega
 go_enter Tryz.func136, Tryz.ntmps136
 go_wp2
 go_ret
 exact ⟨by first | rfl | (rw [e]), rfl⟩
theorem rmv6_any (page : Int) (w : World) (h0 : 512 ≤ page) (h1 : page ≤ 65536) : Calls Tryz.prog 138 #[.int .i64 page] w fun e w' => e = .returned (.int .i64 (page / 16 * 3)) ∧ w' = w := by
 have e : Int.tdiv page 16 = page / 16 := Int.tdiv_eq_ediv_of_nonneg zq
 have e2 : IntKind.i64.wrap (page / 16) = page / 16 := by rw [IntKind.wrap_i64]; omega
 obtain ⟨q, hq⟩ : ∃ q, page / 16 = q := ⟨_, rfl⟩
 have A : 0 ≤ q ∧ q ≤ 4096 := zq
 have e3 : IntKind.i64.wrap (3 * q) = 3 * q := by rw [IntKind.wrap_i64]; omega
 rw [hq] at e e2 ⊢
 rw [show q * 3 = 3 * q from by omega]
 clear hq
 go_enter Tryz.func138, Tryz.ntmps138
 go_wp2
 go_ret
 exact ⟨by first | rfl | simp, rfl⟩
theorem rnum6_any (n : Int) (w : World) : Calls Tryz.prog 137 #[.int .i64 n] w fun e w' => e = .returned (.bool (decide (2 ≤ n ∧ n < 65536))) ∧ w' = w := by
 by_cases h1 : 2 ≤ n
 ·have d1 : decide (2 ≤ n) = true := by simpa using h1
  have e : decide (2 ≤ n ∧ n < 65536) = decide (n < 65536) := by simp [h1]
  rw [e]
  clear e
  go_enter Tryz.func137, Tryz.ntmps137
  go_wp2_with fail
  go_ret
  exact ⟨rfl, rfl⟩
 ·have d1 : decide (2 ≤ n) = false := by simpa using h1
  have e : decide (2 ≤ n ∧ n < 65536) = false := by simp; omega
  rw [e]
  go_enter Tryz.func137, Tryz.ntmps137
  go_wp2_with fail
  go_ret
  exact ⟨rfl, rfl⟩
theorem rmay6_any (k page : Int) (c : Cl) (ka va : Option Addr) (kc vc : Nat) (w : World) (h0 : 512 ≤ page) (h1 : page ≤ 65536) (hk : c.key.length ≤ 140737488355328) (hv : c.val.length ≤ 140737488355328) :
  Calls Tryz.prog 95 #[.int .i64 k, .int .i64 page, .agg #[.slice ka c.key.length kc, .int .i64 c.kd, .slice va c.val.length vc, .int .i64 c.pg, .int .i64 c.ct]] w fun e w' => e = .returned (.bool (decide (mayP k page c))) ∧ Below w.heap.size w w' := by
 obtain ⟨key, kd, val, pg, ct⟩ := c
 simp only at hk hv ⊢
 have F : (val = []) = (val.length = 0) := by rw [List.length_eq_zero_iff]
 have G := (Below.refl w.heap.size w).alloc Lr (.cells #[.slice ka key.length kc, .int .i64 kd, .slice va val.length vc, .int .i64 pg, .int .i64 ct] 50)
 obtain ⟨r, hr⟩ : ∃ r, decide (mayP k page ⟨key, kd, val, pg, ct⟩) = r := ⟨_, rfl⟩
 rw [hr]
 unfold mayP zbx zca at hr
 simp only [F] at hr
 clear F
 obtain ⟨kn, H⟩ : ∃ kn, key.length = kn := ⟨_, rfl⟩
 obtain ⟨vn, F⟩ : ∃ vn, val.length = vn := ⟨_, rfl⟩
 rw [H] at hr hk G ⊢
 rw [F] at hr hv G ⊢
 clear H F
 have A := zaa G
 have C := zaa (fun u => rmk6_any page u h0 h1)
 have E := zaa (fun u => rmv6_any page u h0 h1)
 have B := zaa (fun u => rnum6_any pg u)
 obtain ⟨mk, I⟩ : ∃ mk, page / 8 = mk := ⟨_, rfl⟩
 obtain ⟨mv, J⟩ : ∃ mv, page / 16 * 3 = mv := ⟨_, rfl⟩
 rw [I] at C hr
 rw [J] at E hr
 clear G I J
 by_cases km : (kn : Int) ≤ mk
 ·have kmd : decide (mk < (kn : Int)) = false := decide_eq_false zq
  by_cases k3 : k = 3
  ·subst k3
   by_cases kd3 : kd = 3
   ·subst kd3
    by_cases v0 : vn = 0
    ·subst v0
     by_cases nb : (2 ≤ pg ∧ pg < 65536)
     ·rw [show decide (2 ≤ pg ∧ pg < 65536) = true from by simpa using nb] at B
      by_cases t1 : 1 ≤ ct
      ·have t1d : decide (1 ≤ ct) = true := decide_eq_true t1
       by_cases t2 : ct ≤ 1073741824
       ·have t2d : decide (ct ≤ 1073741824) = true := decide_eq_true t2
        have HR : Hid (r = true) := zaa (by rw [← hr]; first | (rw [zQ]; omega) | (rw [zP]; omega))
        rw [HR.out]
        clear hr
        go_enter Tryz.func95, Tryz.ntmps95
        go_wp2_with fail
        go_quiet (first | (go_at_call 136; exact Calls.quiet_of_same (C.out _)))
        go_wp2_with (go_at_call 137; refine zad (B.out _) ?_)
        go_ret
        exact ⟨rfl, by (first | exact A.out | exact zac A.out _ | exact zac (zac A.out _) _)⟩
       ·have t2d : decide (ct ≤ 1073741824) = false := decide_eq_false t2
        have HR : Hid (r = false) := zaa (by rw [← hr]; first | (rw [zQ]; omega) | (rw [zP]; omega))
        rw [HR.out]
        clear hr
        go_enter Tryz.func95, Tryz.ntmps95
        go_wp2_with fail
        go_quiet (first | (go_at_call 136; exact Calls.quiet_of_same (C.out _)))
        go_wp2_with (go_at_call 137; refine zad (B.out _) ?_)
        go_ret
        exact ⟨rfl, by (first | exact A.out | exact zac A.out _ | exact zac (zac A.out _) _)⟩
      ·have t1d : decide (1 ≤ ct) = false := decide_eq_false t1
       have HR : Hid (r = false) := zaa (by rw [← hr]; first | (rw [zQ]; omega) | (rw [zP]; omega))
       rw [HR.out]
       clear hr
       go_enter Tryz.func95, Tryz.ntmps95
       go_wp2_with fail
       go_quiet (first | (go_at_call 136; exact Calls.quiet_of_same (C.out _)))
       go_wp2_with (go_at_call 137; refine zad (B.out _) ?_)
       go_ret
       exact ⟨rfl, by (first | exact A.out | exact zac A.out _ | exact zac (zac A.out _) _)⟩
     ·rw [show decide (2 ≤ pg ∧ pg < 65536) = false from by simpa using nb] at B
      have HR : Hid (r = false) := zaa (by rw [← hr]; first | (rw [zQ]; omega) | (rw [zP]; omega))
      rw [HR.out]
      clear hr
      go_enter Tryz.func95, Tryz.ntmps95
      go_wp2_with fail
      go_quiet (first | (go_at_call 136; exact Calls.quiet_of_same (C.out _)))
      go_wp2_with (go_at_call 137; refine zad (B.out _) ?_)
      go_ret
      exact ⟨rfl, by (first | exact A.out | exact zac A.out _ | exact zac (zac A.out _) _)⟩
    ·have v0b : ((vn : Int) == 0) = false := by simp; omega
     have HR : Hid (r = false) := zaa (by rw [← hr]; first | (rw [zQ]; omega) | (rw [zP]; omega))
     rw [HR.out]
     clear hr
     go_enter Tryz.func95, Tryz.ntmps95
     go_wp2_with fail
     go_quiet (first | (go_at_call 136; exact Calls.quiet_of_same (C.out _)))
     go_wp2_with (go_at_call 137; refine zad (B.out _) ?_)
     go_ret
     exact ⟨rfl, by (first | exact A.out | exact zac A.out _ | exact zac (zac A.out _) _)⟩
   ·have kd3b : (kd == 3) = false := by simpa using kd3
    have HR : Hid (r = false) := zaa (by rw [← hr]; first | (rw [zQ]; omega) | (rw [zP]; omega))
    rw [HR.out]
    clear hr
    go_enter Tryz.func95, Tryz.ntmps95
    go_wp2_with fail
    go_quiet (first | (go_at_call 136; exact Calls.quiet_of_same (C.out _)))
    go_wp2_with (go_at_call 137; refine zad (B.out _) ?_)
    go_ret
    exact ⟨rfl, by (first | exact A.out | exact zac A.out _ | exact zac (zac A.out _) _)⟩
  ·have k3b : (k == 3) = false := by simpa using k3
   by_cases kz : kn = 0
   ·subst kz
    have HR : Hid (r = false) := zaa (by rw [← hr]; first | (rw [zQ]; omega) | (rw [zP]; omega))
    rw [HR.out]
    clear hr
    go_enter Tryz.func95, Tryz.ntmps95
    go_wp2_with fail
    go_quiet (first | (go_at_call 136; exact Calls.quiet_of_same (C.out _)))
    go_wp2_with (go_at_call 137; refine zad (B.out _) ?_)
    go_ret
    exact ⟨rfl, by (first | exact A.out | exact zac A.out _ | exact zac (zac A.out _) _)⟩
   ·have kzd : decide ((kn : Int) < 1) = false := decide_eq_false zq
    have kzI : ¬ (kn : Int) < 1 := zq
    by_cases d1 : kd = 1
    ·subst d1
     by_cases vm : (vn : Int) ≤ mv
     ·have vmd : decide ((vn : Int) ≤ mv) = true := decide_eq_true vm
      by_cases p0 : pg = 0
      ·subst p0
       by_cases c0 : ct = 0
       ·subst c0
        have HR : Hid (r = true) := zaa (by rw [← hr]; first | (rw [zQ]; omega) | (rw [zP]; omega))
        rw [HR.out]
        clear hr
        go_enter Tryz.func95, Tryz.ntmps95
        go_wp2_with fail
        go_quiet (first | (go_at_call 136; exact Calls.quiet_of_same (C.out _)))
        generalize hx1 : (World.drewN _ nq) = x1
        have d0 : x1.cell? ⟨w.heap.size, 0, none⟩ = some (.slice ka kn kc) := by rw [← hx1]; simp
        have d1 : x1.cell? ⟨w.heap.size, 1, none⟩ = some (.int .i64 1) := by rw [← hx1]; simp
        have d2 : x1.cell? ⟨w.heap.size, 2, none⟩ = some (.slice va vn vc) := by rw [← hx1]; simp
        have d3 : x1.cell? ⟨w.heap.size, 3, none⟩ = some (.int .i64 0) := by rw [← hx1]; simp
        have d4 : x1.cell? ⟨w.heap.size, 4, none⟩ = some (.int .i64 0) := by rw [← hx1]; simp
        have D : Hid (Below w.heap.size w x1) := zaa (by rw [← hx1]; exact zac A.out _)
        clear hx1
        go_wp2_with (go_at_call 137; refine zad (B.out _) ?_)
        go_quiet (first | (go_at_call 138; exact Calls.quiet_of_same (E.out _)) | (go_at_call 137; exact Calls.quiet_of_same (B.out _)))
        go_wp2
        go_ret
        exact ⟨rfl, by (first | exact D.out | exact zac D.out _)⟩
       ·have c0b : (ct == 0) = false := by simpa using c0
        have HR : Hid (r = false) := zaa (by rw [← hr]; first | (rw [zQ]; omega) | (rw [zP]; omega))
        rw [HR.out]
        clear hr
        go_enter Tryz.func95, Tryz.ntmps95
        go_wp2_with fail
        go_quiet (first | (go_at_call 136; exact Calls.quiet_of_same (C.out _)))
        generalize hx1 : (World.drewN _ nq) = x1
        have d0 : x1.cell? ⟨w.heap.size, 0, none⟩ = some (.slice ka kn kc) := by rw [← hx1]; simp
        have d1 : x1.cell? ⟨w.heap.size, 1, none⟩ = some (.int .i64 1) := by rw [← hx1]; simp
        have d2 : x1.cell? ⟨w.heap.size, 2, none⟩ = some (.slice va vn vc) := by rw [← hx1]; simp
        have d3 : x1.cell? ⟨w.heap.size, 3, none⟩ = some (.int .i64 0) := by rw [← hx1]; simp
        have d4 : x1.cell? ⟨w.heap.size, 4, none⟩ = some (.int .i64 ct) := by rw [← hx1]; simp
        have D : Hid (Below w.heap.size w x1) := zaa (by rw [← hx1]; exact zac A.out _)
        clear hx1
        go_wp2_with (go_at_call 137; refine zad (B.out _) ?_)
        go_quiet (first | (go_at_call 138; exact Calls.quiet_of_same (E.out _)) | (go_at_call 137; exact Calls.quiet_of_same (B.out _)))
        go_wp2
        go_ret
        exact ⟨rfl, by (first | exact D.out | exact zac D.out _)⟩
      ·have p0b : (pg == 0) = false := by simpa using p0
       have HR : Hid (r = false) := zaa (by rw [← hr]; first | (rw [zQ]; omega) | (rw [zP]; omega))
       rw [HR.out]
       clear hr
       go_enter Tryz.func95, Tryz.ntmps95
       go_wp2_with fail
       go_quiet (first | (go_at_call 136; exact Calls.quiet_of_same (C.out _)))
       generalize hx1 : (World.drewN _ nq) = x1
       have d0 : x1.cell? ⟨w.heap.size, 0, none⟩ = some (.slice ka kn kc) := by rw [← hx1]; simp
       have d1 : x1.cell? ⟨w.heap.size, 1, none⟩ = some (.int .i64 1) := by rw [← hx1]; simp
       have d2 : x1.cell? ⟨w.heap.size, 2, none⟩ = some (.slice va vn vc) := by rw [← hx1]; simp
       have d3 : x1.cell? ⟨w.heap.size, 3, none⟩ = some (.int .i64 pg) := by rw [← hx1]; simp
       have d4 : x1.cell? ⟨w.heap.size, 4, none⟩ = some (.int .i64 ct) := by rw [← hx1]; simp
       have D : Hid (Below w.heap.size w x1) := zaa (by rw [← hx1]; exact zac A.out _)
       clear hx1
       go_wp2_with (go_at_call 137; refine zad (B.out _) ?_)
       go_quiet (first | (go_at_call 138; exact Calls.quiet_of_same (E.out _)) | (go_at_call 137; exact Calls.quiet_of_same (B.out _)))
       go_wp2
       go_ret
       exact ⟨rfl, by (first | exact D.out | exact zac D.out _)⟩
     ·have vmd : decide ((vn : Int) ≤ mv) = false := decide_eq_false vm
      have HR : Hid (r = false) := zaa (by rw [← hr]; first | (rw [zQ]; omega) | (rw [zP]; omega))
      rw [HR.out]
      clear hr
      go_enter Tryz.func95, Tryz.ntmps95
      go_wp2_with fail
      go_quiet (first | (go_at_call 136; exact Calls.quiet_of_same (C.out _)))
      generalize hx1 : (World.drewN _ nq) = x1
      have d0 : x1.cell? ⟨w.heap.size, 0, none⟩ = some (.slice ka kn kc) := by rw [← hx1]; simp
      have d1 : x1.cell? ⟨w.heap.size, 1, none⟩ = some (.int .i64 1) := by rw [← hx1]; simp
      have d2 : x1.cell? ⟨w.heap.size, 2, none⟩ = some (.slice va vn vc) := by rw [← hx1]; simp
      have d3 : x1.cell? ⟨w.heap.size, 3, none⟩ = some (.int .i64 pg) := by rw [← hx1]; simp
      have d4 : x1.cell? ⟨w.heap.size, 4, none⟩ = some (.int .i64 ct) := by rw [← hx1]; simp
      have D : Hid (Below w.heap.size w x1) := zaa (by rw [← hx1]; exact zac A.out _)
      clear hx1
      go_wp2_with (go_at_call 137; refine zad (B.out _) ?_)
      go_quiet (first | (go_at_call 138; exact Calls.quiet_of_same (E.out _)) | (go_at_call 137; exact Calls.quiet_of_same (B.out _)))
      go_wp2
      go_ret
      exact ⟨rfl, by (first | exact D.out | exact zac D.out _)⟩
    ·have d1b : (kd == 1) = false := by simpa using d1
     by_cases d2 : kd = 2
     ·subst d2
      by_cases v0 : vn = 0
      ·subst v0
       by_cases nb : (2 ≤ pg ∧ pg < 65536)
       ·rw [show decide (2 ≤ pg ∧ pg < 65536) = true from by simpa using nb] at B
        by_cases t1 : mv < ct
        ·have t1d : decide (mv < ct) = true := decide_eq_true t1
         by_cases t2 : ct ≤ 65536
         ·have t2d : decide (ct ≤ 65536) = true := decide_eq_true t2
          have HR : Hid (r = true) := zaa (by rw [← hr]; first | (rw [zQ]; omega) | (rw [zP]; omega))
          rw [HR.out]
          clear hr
          go_enter Tryz.func95, Tryz.ntmps95
          go_wp2_with fail
          go_quiet (first | (go_at_call 136; exact Calls.quiet_of_same (C.out _)))
          generalize hx1 : (World.drewN _ nq) = x1
          have d0 : x1.cell? ⟨w.heap.size, 0, none⟩ = some (.slice ka kn kc) := by rw [← hx1]; simp
          have d1 : x1.cell? ⟨w.heap.size, 1, none⟩ = some (.int .i64 2) := by rw [← hx1]; simp
          have d2 : x1.cell? ⟨w.heap.size, 2, none⟩ = some (.slice va 0 vc) := by rw [← hx1]; simp
          have d3 : x1.cell? ⟨w.heap.size, 3, none⟩ = some (.int .i64 pg) := by rw [← hx1]; simp
          have d4 : x1.cell? ⟨w.heap.size, 4, none⟩ = some (.int .i64 ct) := by rw [← hx1]; simp
          have D : Hid (Below w.heap.size w x1) := zaa (by rw [← hx1]; exact zac A.out _)
          clear hx1
          go_wp2_with (go_at_call 137; refine zad (B.out _) ?_)
          go_quiet (first | (go_at_call 138; exact Calls.quiet_of_same (E.out _)) | (go_at_call 137; exact Calls.quiet_of_same (B.out _)))
          go_wp2
          go_ret
          exact ⟨rfl, by (first | exact D.out | exact zac D.out _)⟩
         ·have t2d : decide (ct ≤ 65536) = false := decide_eq_false t2
          have HR : Hid (r = false) := zaa (by rw [← hr]; first | (rw [zQ]; omega) | (rw [zP]; omega))
          rw [HR.out]
          clear hr
          go_enter Tryz.func95, Tryz.ntmps95
          go_wp2_with fail
          go_quiet (first | (go_at_call 136; exact Calls.quiet_of_same (C.out _)))
          generalize hx1 : (World.drewN _ nq) = x1
          have d0 : x1.cell? ⟨w.heap.size, 0, none⟩ = some (.slice ka kn kc) := by rw [← hx1]; simp
          have d1 : x1.cell? ⟨w.heap.size, 1, none⟩ = some (.int .i64 2) := by rw [← hx1]; simp
          have d2 : x1.cell? ⟨w.heap.size, 2, none⟩ = some (.slice va 0 vc) := by rw [← hx1]; simp
          have d3 : x1.cell? ⟨w.heap.size, 3, none⟩ = some (.int .i64 pg) := by rw [← hx1]; simp
          have d4 : x1.cell? ⟨w.heap.size, 4, none⟩ = some (.int .i64 ct) := by rw [← hx1]; simp
          have D : Hid (Below w.heap.size w x1) := zaa (by rw [← hx1]; exact zac A.out _)
          clear hx1
          go_wp2_with (go_at_call 137; refine zad (B.out _) ?_)
          go_quiet (first | (go_at_call 138; exact Calls.quiet_of_same (E.out _)) | (go_at_call 137; exact Calls.quiet_of_same (B.out _)))
          go_wp2
          go_ret
          exact ⟨rfl, by (first | exact D.out | exact zac D.out _)⟩
        ·have t1d : decide (mv < ct) = false := decide_eq_false t1
         have HR : Hid (r = false) := zaa (by rw [← hr]; first | (rw [zQ]; omega) | (rw [zP]; omega))
         rw [HR.out]
         clear hr
         go_enter Tryz.func95, Tryz.ntmps95
         go_wp2_with fail
         go_quiet (first | (go_at_call 136; exact Calls.quiet_of_same (C.out _)))
         generalize hx1 : (World.drewN _ nq) = x1
         have d0 : x1.cell? ⟨w.heap.size, 0, none⟩ = some (.slice ka kn kc) := by rw [← hx1]; simp
         have d1 : x1.cell? ⟨w.heap.size, 1, none⟩ = some (.int .i64 2) := by rw [← hx1]; simp
         have d2 : x1.cell? ⟨w.heap.size, 2, none⟩ = some (.slice va 0 vc) := by rw [← hx1]; simp
         have d3 : x1.cell? ⟨w.heap.size, 3, none⟩ = some (.int .i64 pg) := by rw [← hx1]; simp
         have d4 : x1.cell? ⟨w.heap.size, 4, none⟩ = some (.int .i64 ct) := by rw [← hx1]; simp
         have D : Hid (Below w.heap.size w x1) := zaa (by rw [← hx1]; exact zac A.out _)
         clear hx1
         go_wp2_with (go_at_call 137; refine zad (B.out _) ?_)
         go_quiet (first | (go_at_call 138; exact Calls.quiet_of_same (E.out _)) | (go_at_call 137; exact Calls.quiet_of_same (B.out _)))
         go_wp2
         go_ret
         exact ⟨rfl, by (first | exact D.out | exact zac D.out _)⟩
       ·rw [show decide (2 ≤ pg ∧ pg < 65536) = false from by simpa using nb] at B
        have HR : Hid (r = false) := zaa (by rw [← hr]; first | (rw [zQ]; omega) | (rw [zP]; omega))
        rw [HR.out]
        clear hr
        go_enter Tryz.func95, Tryz.ntmps95
        go_wp2_with fail
        go_quiet (first | (go_at_call 136; exact Calls.quiet_of_same (C.out _)))
        generalize hx1 : (World.drewN _ nq) = x1
        have d0 : x1.cell? ⟨w.heap.size, 0, none⟩ = some (.slice ka kn kc) := by rw [← hx1]; simp
        have d1 : x1.cell? ⟨w.heap.size, 1, none⟩ = some (.int .i64 2) := by rw [← hx1]; simp
        have d2 : x1.cell? ⟨w.heap.size, 2, none⟩ = some (.slice va 0 vc) := by rw [← hx1]; simp
        have d3 : x1.cell? ⟨w.heap.size, 3, none⟩ = some (.int .i64 pg) := by rw [← hx1]; simp
        have d4 : x1.cell? ⟨w.heap.size, 4, none⟩ = some (.int .i64 ct) := by rw [← hx1]; simp
        have D : Hid (Below w.heap.size w x1) := zaa (by rw [← hx1]; exact zac A.out _)
        clear hx1
        go_wp2_with (go_at_call 137; refine zad (B.out _) ?_)
        go_quiet (first | (go_at_call 138; exact Calls.quiet_of_same (E.out _)) | (go_at_call 137; exact Calls.quiet_of_same (B.out _)))
        go_wp2
        go_ret
        exact ⟨rfl, by (first | exact D.out | exact zac D.out _)⟩
      ·have v0b : ((vn : Int) == 0) = false := by simp; omega
       have HR : Hid (r = false) := zaa (by rw [← hr]; first | (rw [zQ]; omega) | (rw [zP]; omega))
       rw [HR.out]
       clear hr
       go_enter Tryz.func95, Tryz.ntmps95
       go_wp2_with fail
       go_quiet (first | (go_at_call 136; exact Calls.quiet_of_same (C.out _)))
       generalize hx1 : (World.drewN _ nq) = x1
       have d0 : x1.cell? ⟨w.heap.size, 0, none⟩ = some (.slice ka kn kc) := by rw [← hx1]; simp
       have d1 : x1.cell? ⟨w.heap.size, 1, none⟩ = some (.int .i64 2) := by rw [← hx1]; simp
       have d2 : x1.cell? ⟨w.heap.size, 2, none⟩ = some (.slice va vn vc) := by rw [← hx1]; simp
       have d3 : x1.cell? ⟨w.heap.size, 3, none⟩ = some (.int .i64 pg) := by rw [← hx1]; simp
       have d4 : x1.cell? ⟨w.heap.size, 4, none⟩ = some (.int .i64 ct) := by rw [← hx1]; simp
       have D : Hid (Below w.heap.size w x1) := zaa (by rw [← hx1]; exact zac A.out _)
       clear hx1
       go_wp2_with (go_at_call 137; refine zad (B.out _) ?_)
       go_quiet (first | (go_at_call 138; exact Calls.quiet_of_same (E.out _)) | (go_at_call 137; exact Calls.quiet_of_same (B.out _)))
       go_wp2
       go_ret
       exact ⟨rfl, by (first | exact D.out | exact zac D.out _)⟩
     ·have d2b : (kd == 2) = false := by simpa using d2
      by_cases d4 : kd = 4
      ·subst d4
       by_cases v0 : vn = 0
       ·subst v0
        by_cases p0 : pg = 0
        ·subst p0
         by_cases c0 : ct = 0
         ·subst c0
          have HR : Hid (r = true) := zaa (by rw [← hr]; first | (rw [zQ]; omega) | (rw [zP]; omega))
          rw [HR.out]
          clear hr
          go_enter Tryz.func95, Tryz.ntmps95
          go_wp2_with fail
          go_quiet (first | (go_at_call 136; exact Calls.quiet_of_same (C.out _)))
          go_wp2_with (go_at_call 137; refine zad (B.out _) ?_)
          go_ret
          exact ⟨rfl, by (first | exact A.out | exact zac A.out _ | exact zac (zac A.out _) _)⟩
         ·have c0b : (ct == 0) = false := by simpa using c0
          rw [show decide (2 ≤ (0 : Int) ∧ (0 : Int) < 65536) = false from by decide] at B
          have HR : Hid (r = false) := zaa (by rw [← hr]; first | (rw [zQ]; omega) | (rw [zP]; omega))
          rw [HR.out]
          clear hr
          go_enter Tryz.func95, Tryz.ntmps95
          go_wp2_with fail
          go_quiet (first | (go_at_call 136; exact Calls.quiet_of_same (C.out _)))
          go_wp2_with (go_at_call 137; refine zad (B.out _) ?_)
          go_ret
          exact ⟨rfl, by (first | exact A.out | exact zac A.out _ | exact zac (zac A.out _) _)⟩
        ·have p0b : (pg == 0) = false := by simpa using p0
         by_cases nb : (2 ≤ pg ∧ pg < 65536)
         ·rw [show decide (2 ≤ pg ∧ pg < 65536) = true from by simpa using nb] at B
          by_cases t1 : 1 ≤ ct
          ·have t1d : decide (1 ≤ ct) = true := decide_eq_true t1
           by_cases t2 : ct ≤ 1073741824
           ·have t2d : decide (ct ≤ 1073741824) = true := decide_eq_true t2
            have HR : Hid (r = true) := zaa (by rw [← hr]; first | (rw [zQ]; omega) | (rw [zP]; omega))
            rw [HR.out]
            clear hr
            go_enter Tryz.func95, Tryz.ntmps95
            go_wp2_with fail
            go_quiet (first | (go_at_call 136; exact Calls.quiet_of_same (C.out _)))
            go_wp2_with (go_at_call 137; refine zad (B.out _) ?_)
            go_ret
            exact ⟨rfl, by (first | exact A.out | exact zac A.out _ | exact zac (zac A.out _) _)⟩
           ·have t2d : decide (ct ≤ 1073741824) = false := decide_eq_false t2
            have HR : Hid (r = false) := zaa (by rw [← hr]; first | (rw [zQ]; omega) | (rw [zP]; omega))
            rw [HR.out]
            clear hr
            go_enter Tryz.func95, Tryz.ntmps95
            go_wp2_with fail
            go_quiet (first | (go_at_call 136; exact Calls.quiet_of_same (C.out _)))
            go_wp2_with (go_at_call 137; refine zad (B.out _) ?_)
            go_ret
            exact ⟨rfl, by (first | exact A.out | exact zac A.out _ | exact zac (zac A.out _) _)⟩
          ·have t1d : decide (1 ≤ ct) = false := decide_eq_false t1
           have HR : Hid (r = false) := zaa (by rw [← hr]; first | (rw [zQ]; omega) | (rw [zP]; omega))
           rw [HR.out]
           clear hr
           go_enter Tryz.func95, Tryz.ntmps95
           go_wp2_with fail
           go_quiet (first | (go_at_call 136; exact Calls.quiet_of_same (C.out _)))
           go_wp2_with (go_at_call 137; refine zad (B.out _) ?_)
           go_ret
           exact ⟨rfl, by (first | exact A.out | exact zac A.out _ | exact zac (zac A.out _) _)⟩
         ·rw [show decide (2 ≤ pg ∧ pg < 65536) = false from by simpa using nb] at B
          have HR : Hid (r = false) := zaa (by rw [← hr]; first | (rw [zQ]; omega) | (rw [zP]; omega))
          rw [HR.out]
          clear hr
          go_enter Tryz.func95, Tryz.ntmps95
          go_wp2_with fail
          go_quiet (first | (go_at_call 136; exact Calls.quiet_of_same (C.out _)))
          go_wp2_with (go_at_call 137; refine zad (B.out _) ?_)
          go_ret
          exact ⟨rfl, by (first | exact A.out | exact zac A.out _ | exact zac (zac A.out _) _)⟩
       ·have v0b : ((vn : Int) == 0) = false := by simp; omega
        have HR : Hid (r = false) := zaa (by rw [← hr]; first | (rw [zQ]; omega) | (rw [zP]; omega))
        rw [HR.out]
        clear hr
        go_enter Tryz.func95, Tryz.ntmps95
        go_wp2_with fail
        go_quiet (first | (go_at_call 136; exact Calls.quiet_of_same (C.out _)))
        go_wp2_with (go_at_call 137; refine zad (B.out _) ?_)
        go_ret
        exact ⟨rfl, by (first | exact A.out | exact zac A.out _ | exact zac (zac A.out _) _)⟩
      ·have d4b : (kd == 4) = false := by simpa using d4
       have HR : Hid (r = false) := zaa (by rw [← hr]; first | (rw [zQ]; omega) | (rw [zP]; omega))
       rw [HR.out]
       clear hr
       go_enter Tryz.func95, Tryz.ntmps95
       go_wp2_with fail
       go_quiet (first | (go_at_call 136; exact Calls.quiet_of_same (C.out _)))
       go_wp2_with (go_at_call 137; refine zad (B.out _) ?_)
       go_ret
       exact ⟨rfl, by (first | exact A.out | exact zac A.out _ | exact zac (zac A.out _) _)⟩
 ·have kmd : decide (mk < (kn : Int)) = true := decide_eq_true zq
  have HR : Hid (r = false) := zaa (by rw [← hr]; first | (rw [zQ]; omega) | (rw [zP]; omega))
  rw [HR.out]
  clear hr
  go_enter Tryz.func95, Tryz.ntmps95
  go_wp2_with fail
  go_quiet (first | (go_at_call 136; exact Calls.quiet_of_same (C.out _)))
  go_wp2_with (go_at_call 137; refine zad (B.out _) ?_)
  go_ret
  exact ⟨rfl, by (first | exact A.out | exact zac A.out _ | exact zac (zac A.out _) _)⟩
theorem zdo (n : Int) (w : World) (h0 : 0 ≤ n) (hn : n < 18446744073709551616) :
  Calls Tryz.prog 142 #[.int .u64 n] w fun e w' => ∃ v, e = .returned v ∧ OwnB w' w.heap.size v (uB n) ∧ Below w.heap.size w w' := by
 go_enter Tryz.func142, Tryz.ntmps142
 go_wp2_with fail
 go_loopw [0, 3] (fun x v wr => ∃ (m : Int) (acc : List Int), 0 ≤ m ∧ m < 18446744073709551616 ∧ x = .int .u64 m ∧ acc ++ uB m = uB n ∧ OwnB wr w.heap.size v acc ∧ Below w.heap.size w wr) (fun x _ _ => (intOf x).toNat)
 case atStart => exact ⟨n, [], h0, hn, rfl, rfl, OwnB.nil _ _, Br⟩
 case round =>
  obtain ⟨m, acc, G, hm, rfl, D, C, hb⟩ := hrel
  have HA : Hid (acc ++ uB m = uB n) := D
  clear D
  have hsz := hb.size
  have F : acc.length + 1 ≤ 10 := by
   have h1 := congrArg List.length HA.out
   have h2 := zba m
   have h3 := zba n
   simp only [zG] at h1
   omega
  by_cases E : m < 128
  ·go_wp2_with (at_builtin; refine zdi _ rfl _ _ rfl w.heap.size acc _ rfl (C.alloc _) _ 1 1 [m] rfl rfl (one_cell _ _) zq zso ?_)
   intro v' w2 A B
   rw [← uB_small E, HA.out] at A
   have R : Below w.heap.size w w2 := (hb.alloc hsz _).trans B
   clear B
   go_wp2
   go_ret
   exact ⟨_, rfl, A, R⟩
  ·have H : 127 < m := zq
   go_wp2_with (at_builtin; refine zdi _ rfl _ _ rfl w.heap.size acc _ rfl (C.alloc _) _ 1 1 [128 + m % 128] rfl rfl (one_cell _ _) zq zso ?_)
   intro v' w2 A B
   have R : Below w.heap.size w w2 := (hb.alloc hsz _).trans B
   rw [Int.add_comm 128 (m % 128)] at A
   clear B
   go_wp2
   go_roundw
   case rel => exact ⟨m / 128, acc ++ [m % 128 + 128], zq, zq, rfl, by rw [← HA.out, uB_step zq hm]; simp, A, R⟩
   case measure => simp [intOf]; omega
theorem refFixed_yes (n x : Int) (w : World) (h0 : 0 ≤ n) (hn : n < 18446744073709551616) (h1 : 1 ≤ x) (h2 : x ≤ 8) :
  Calls Tryz.prog 97 #[.int .u64 n, .int .i64 x] w fun e w' => ∃ v, e = .returned v ∧ OwnB w' w.heap.size v (fB x.toNat n) ∧ Below w.heap.size w w' := by
 obtain ⟨width, rfl⟩ := Int.eq_ofNat_of_zero_le (show 0 ≤ x by omega)
 rw [Int.toNat_natCast]
 go_enter Tryz.func97, Tryz.ntmps97
 go_wp2_with fail
 go_loopw [5, 6] (fun v i wr => ∃ (k : Nat) (acc : List Int), k ≤ width ∧ i = .int .i64 ((k : Int) - 1) ∧ acc ++ fB k n = fB width n ∧ OwnB wr w.heap.size v acc ∧ Below w.heap.size w wr) (fun _ i _ => (intOf i + 1).toNat)
 case atStart => exact ⟨width, [], Lr, rfl, rfl, OwnB.nil _ _, Br⟩
 case round =>
  obtain ⟨k, acc, hk, rfl, C, A, hb⟩ := hrel
  have HA := zaa C
  clear C
  have hsz := hb.size
  have F : acc.length ≤ 8 := by
   have h1 := congrArg List.length HA.out
   simp only [zG, zah] at h1
   omega
  by_cases E : k = 0
  ·subst E
   have e : acc = fB width n := by have := HA.out; simpa [fB] using this
   rw [e] at A
   clear e HA
   go_wp2
   go_ret
   exact ⟨_, rfl, A, hb⟩
  ·obtain ⟨j, rfl⟩ : ∃ j, k = j + 1 := ⟨k - 1, zq⟩
   go_wp2_with fail
   go_loopw [7, 8] (fun x i w' => ∃ t : Nat, t ≤ j ∧ i = .int .i64 t ∧ x = .int .u64 (n / 256 ^ t) ∧ w' = wr) (fun _ i _ => j - (intOf i).toNat)
   case atStart => exact ⟨0, zq, rfl, zv, rfl⟩
   case round =>
    obtain ⟨t, ht, rfl, rfl, rfl⟩ := hrel
    have G : 0 ≤ n / 256 ^ t := Int.ediv_nonneg h0 (Int.le_of_lt (Int.pow_pos zq))
    have H : n / 256 ^ t ≤ n := Int.ediv_le_self _ h0
    have HP := zaa (pow256 n t)
    by_cases I : t < j
    ·generalize n / 256 ^ t = y at *
     go_wp2
     go_roundw
     case rel => exact ⟨t + 1, zq, by go_num, by rw [← HP.out], trivial⟩
     case measure => simp [intOf]; omega
    ·obtain rfl : t = j := zq
     generalize hy : n / 256 ^ t = y at *
     have HY := zaa hy
     clear hy
     go_wp2_with (at_builtin; refine zdi _ rfl _ _ rfl w.heap.size acc _ rfl (A.alloc _) _ 1 1 [y % 256] rfl rfl (one_cell _ _) zq zso ?_)
     intro v2 w2 B D
     have R2 : Below w.heap.size w w2 := (hb.alloc hsz _).trans D
     clear D A
     go_wp2
     go_roundw
     case rel => exact ⟨t, acc ++ [y % 256], zq, by go_num, by rw [← HA.out, fB, HY.out]; simp, B, R2⟩
     case measure => simp [intOf]
end Go.Proofs.YtbkhjeacmmbabaaGreatDoor
