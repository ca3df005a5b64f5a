import Derived.Test.YtjpmfgoodcldcaaGreatDoorJ06
namespace Go.Proofs.YtjpmfgoodcldcaaGreatDoor
set_option maxRecDepth 100000
open Go.RowKit
theorem box5 {w w1 : World} {x0 x1 x2 x3 x4 : Value} {t : TypeId} (hb : Below (w.alloc (.cells #[x0, x1, x2, x3, x4] t)).heap.size (w.alloc (.cells #[x0, x1, x2, x3, x4] t)) w1) :
  w1.cell? ⟨w.heap.size, 0, none⟩ = some x0 ∧ w1.cell? ⟨w.heap.size, 1, none⟩ = some x1 ∧ w1.cell? ⟨w.heap.size, 2, none⟩ = some x2 ∧ w1.cell? ⟨w.heap.size, 3, none⟩ = some x3 ∧ w1.cell? ⟨w.heap.size, 4, none⟩ = some x4 := by
 have hl : w.heap.size < (w.alloc (.cells #[x0, x1, x2, x3, x4] t)).heap.size := by simp
 refine ⟨(hb.cell (p := ⟨w.heap.size, 0, none⟩) hl).trans (by simp), (hb.cell (p := ⟨w.heap.size, 1, none⟩) hl).trans (by simp), (hb.cell (p := ⟨w.heap.size, 2, none⟩) hl).trans (by simp), (hb.cell (p := ⟨w.heap.size, 3, none⟩) hl).trans (by simp), (hb.cell (p := ⟨w.heap.size, 4, none⟩) hl).trans (by simp)⟩
theorem al5 {w w1 : World} {o : Obj} (hb : Below (w.alloc o).heap.size (w.alloc o) w1) : Below w.heap.size w w1 := bl_go (bl_al (Below.refl _ w) (Nat.le_refl _) _) (Nat.le_refl _) hb
instance (p k : Int) (v : Nat) (a b : Int) : Decidable (leafN p k v a b) := by unfold leafN; infer_instance
instance (k p : Int) (n : Nat) (kd : Int) (v : Nat) (a b : Int) : Decidable (mayN k p n kd v a b) := by unfold mayN; infer_instance
set_option maxHeartbeats 1000000 in
theorem inLeaf_any (page : Int) (ka : Option Addr) (kn kc : Nat) (kd : Int) (va : Option Addr) (vn vc : Nat) (pg ct : Int) (w : World) (h0 : 0 ≤ page) (h1 : page ≤ 65536) (hv : vn ≤ 140737488355328) :
  Calls Tryz.prog 101 #[.int .i64 page, .agg #[.slice ka kn kc, .int .i64 kd, .slice va vn vc, .int .i64 pg, .int .i64 ct]] w fun e w' => e = .returned (.bool (decide (leafN page kd vn pg ct))) ∧ Below w.heap.size w w' := by
 have hm : 0 ≤ page / 16 * 3 ∧ page / 16 * 3 ≤ 65535 := by omega
 have hal := (Below.refl w.heap.size w).alloc (Nat.le_refl _) (.cells #[.slice ka kn kc, .int .i64 kd, .slice va vn vc, .int .i64 pg, .int .i64 ct] 32)
 by_cases k1 : kd = 1
 ·have hq : decide (leafN page kd vn pg ct) = (decide ((vn : Int) ≤ page / 16 * 3) && decide (pg = 0 ∧ ct = 0)) := by rw [Bool.eq_iff_iff, decide_eq_true_iff]; simp [leafN, k1]
  rw [hq]
  subst k1
  clear hq
  by_cases h : (vn : Int) ≤ page / 16 * 3
  ·rw [decide_eq_true h, Bool.true_and]
   have d1 : decide ((vn : Int) ≤ page / 16 * 3) = true := decide_eq_true h
   cases hr : decide (pg = 0 ∧ ct = 0)
   all_goals
    go_enter Tryz.func101, Tryz.ntmps101
    go_wp2_with fail
    go_region_with (first | (go_at_call 125; refine same_call (mostValue_any _ _ h0 h1) ?_) | (go_at_call 126; refine (leadsNowhere_any _ _ _ _ _ _ _ _ _ _).mono ?_; rintro e w1 ⟨rfl, hb1⟩; have hbw := bl_go (show Below w.heap.size w _ from by first | exact hal | exact hal.drew | exact bl_dr hal _ | exact (bl_dr hal _).drew | go_grown) (Nat.le_refl _) hb1; rw [hr]))
    all_goals (try go_wp2); all_goals (go_ret; exact ⟨rfl, by first | exact hbw | exact hbw.drew | exact bl_dr hbw _⟩)
  ·rw [decide_eq_false h, Bool.false_and]
   have d1 : decide ((vn : Int) ≤ page / 16 * 3) = false := decide_eq_false h
   go_enter Tryz.func101, Tryz.ntmps101
   go_wp2_with fail
   go_quiet (first | (go_at_call 125; exact Calls.quiet_of_same (mostValue_any _ _ h0 h1)))
   go_wp2
   go_ret
   exact ⟨rfl, by first | exact hal | exact bl_dr hal _⟩
 ·by_cases hz : vn = 0
  ·subst hz
   by_cases k2 : kd = 2
   ·have hq : decide (leafN page kd 0 pg ct) = decide (leadsN pg ct (page / 16 * 3 + 1) 65536) := by rw [Bool.eq_iff_iff, decide_eq_true_iff]; simp [leafN, k2]
    rw [hq]
    subst k2
    clear hq
    have hw1 : IntKind.i64.wrap (page / 16 * 3 + 1) = page / 16 * 3 + 1 := by rw [IntKind.wrap_i64]; omega
    have hw2 : wrap64 (page / 16 * 3 + 1) = page / 16 * 3 + 1 := by simp [wrap64]; omega
    generalize hr : decide (leadsN pg ct (page / 16 * 3 + 1) 65536) = r
    go_enter Tryz.func101, Tryz.ntmps101
    go_wp2_with fail
    go_region_with (first | (go_at_call 125; refine same_call (mostValue_any _ _ h0 h1) ?_) | (go_at_call 100; refine (leads_any _ _ _ _ _ _ _ _ _ _ _ _).mono ?_; rintro e w1 ⟨rfl, hb1⟩; have hbw := bl_go (show Below w.heap.size w _ from by first | exact hal | exact hal.drew | exact bl_dr hal _ | exact (bl_dr hal _).drew | go_grown) (Nat.le_refl _) hb1; first | rw [hr] | rw [hw1, hr] | rw [hw2, hr]))
    all_goals (try go_wp2); all_goals (go_ret; exact ⟨rfl, by first | exact hbw | exact hbw.drew | exact bl_dr hbw _⟩)
   ·by_cases k4 : kd = 4
    ·have hq : decide (leafN page kd 0 pg ct) = (decide (pg = 0 ∧ ct = 0) || decide (leadsN pg ct 1 1073741824)) := by rw [Bool.eq_iff_iff, decide_eq_true_iff]; simp [leafN, k4]
     rw [hq]
     subst k4
     clear hq
     cases hr : decide (pg = 0 ∧ ct = 0)
     ·cases hs : decide (leadsN pg ct 1 1073741824)
      all_goals
       go_enter Tryz.func101, Tryz.ntmps101
       go_wp2_with (first | (go_at_call 126; refine (leadsNowhere_any _ _ _ _ _ _ _ _ _ _).mono ?_; rintro e w1 ⟨rfl, hb1⟩; rw [hr]; obtain ⟨c0, c1, c2, c3, c4⟩ := box5 hb1) | (go_at_call 100; refine (leads_any _ _ _ _ _ _ _ _ _ _ _ _).mono ?_; rintro e w2 ⟨rfl, hb2⟩; rw [hs]))
       go_ret
       exact ⟨rfl, bl_go (al5 hb1) (Nat.le_refl _) hb2⟩
     ·go_enter Tryz.func101, Tryz.ntmps101
      go_wp2_with (go_at_call 126; refine (leadsNowhere_any _ _ _ _ _ _ _ _ _ _).mono ?_; rintro e w1 ⟨rfl, hb1⟩; rw [hr])
      go_ret
      exact ⟨rfl, al5 hb1⟩
    ·have hq : decide (leafN page kd 0 pg ct) = false := by rw [decide_eq_false_iff_not]; simp [leafN, k1, k2, k4]
     rw [hq]
     clear hq
     go_enter Tryz.func101, Tryz.ntmps101
     go_wp2
     go_ret
     exact ⟨rfl, hal⟩
  ·have hq : decide (leafN page kd vn pg ct) = false := by rw [decide_eq_false_iff_not]; simp [leafN, k1, hz]
   rw [hq]
   clear hq
   have hz' : 0 < (vn : Int) := by omega
   go_enter Tryz.func101, Tryz.ntmps101
   go_wp2
   go_ret
   exact ⟨rfl, hal⟩
set_option maxHeartbeats 1000000 in
theorem mayBe_any (kind page : Int) (ka : Option Addr) (kn kc : Nat) (kd : Int) (va : Option Addr) (vn vc : Nat) (pg ct : Int) (w : World) (h0 : 0 ≤ page) (h1 : page ≤ 65536) (hk : kn ≤ 140737488355328) (hv : vn ≤ 140737488355328) :
  Calls Tryz.prog 76 #[.int .i64 kind, .int .i64 page, .agg #[.slice ka kn kc, .int .i64 kd, .slice va vn vc, .int .i64 pg, .int .i64 ct]] w fun e w' => e = .returned (.bool (decide (mayN kind page kn kd vn pg ct))) ∧ Below w.heap.size w w' := by
 have hm : 0 ≤ page / 8 ∧ page / 8 ≤ 65535 := by omega
 have hal := (Below.refl w.heap.size w).alloc (Nat.le_refl _) (.cells #[.slice ka kn kc, .int .i64 kd, .slice va vn vc, .int .i64 pg, .int .i64 ct] 32)
 by_cases h : (kn : Int) ≤ page / 8
 ·have d1 : decide (page / 8 < (kn : Int)) = false := decide_eq_false (by omega)
  by_cases k3 : kind = 3
  ·have hq : decide (mayN kind page kn kd vn pg ct) = (decide (kd = 3) && (decide (vn = 0) && decide (leadsN pg ct 1 1073741824))) := by rw [Bool.eq_iff_iff, decide_eq_true_iff]; simp [mayN, h, k3]
   rw [hq]
   subst k3
   clear hq
   by_cases d3 : kd = 3
   ·subst d3
    by_cases hz : vn = 0
    ·subst hz
     cases hs : decide (leadsN pg ct 1 1073741824)
     all_goals
      go_enter Tryz.func76, Tryz.ntmps76
      go_wp2_with fail
      go_quiet (first | (go_at_call 125; exact Calls.quiet_of_same (mostValue_any _ _ h0 h1)) | (go_at_call 99; exact Calls.quiet_of_same (mostKey_any _ _ h0 h1)))
      go_wp2_with (first | (go_at_call 100; refine (leads_any _ _ _ _ _ _ _ _ _ _ _ _).mono ?_; rintro e w1 ⟨rfl, hb1⟩; have hbw := bl_go (show Below w.heap.size w _ from by first | exact hal | exact hal.drew | exact bl_dr hal _ | exact (bl_dr hal _).drew | go_grown) (Nat.le_refl _) hb1; rw [hs]))
      all_goals (try go_wp2); all_goals (go_ret; exact ⟨rfl, by first | exact hbw | exact hbw.drew | exact bl_dr hbw _⟩)
    ·have hz' : 0 < (vn : Int) := by omega
     have hz2 : ¬ (vn : Int) = 0 := by omega
     rw [decide_eq_false hz]
     go_enter Tryz.func76, Tryz.ntmps76
     go_wp2_with fail
     go_quiet (first | (go_at_call 125; exact Calls.quiet_of_same (mostValue_any _ _ h0 h1)) | (go_at_call 99; exact Calls.quiet_of_same (mostKey_any _ _ h0 h1)))
     go_wp2
     go_ret
     exact ⟨rfl, by first | exact hal | exact bl_dr hal _⟩
   ·rw [decide_eq_false d3]
    go_enter Tryz.func76, Tryz.ntmps76
    go_wp2_with fail
    go_quiet (first | (go_at_call 125; exact Calls.quiet_of_same (mostValue_any _ _ h0 h1)) | (go_at_call 99; exact Calls.quiet_of_same (mostKey_any _ _ h0 h1)))
    go_wp2
    go_ret
    exact ⟨rfl, by first | exact hal | exact bl_dr hal _⟩
  ·have hq : decide (mayN kind page kn kd vn pg ct) = (decide (0 < kn) && decide (leafN page kd vn pg ct)) := by rw [Bool.eq_iff_iff, decide_eq_true_iff]; simp [mayN, h, k3]
   rw [hq]
   clear hq
   by_cases hz : 0 < kn
   ·have hz' : 0 < (kn : Int) := by omega
    rw [decide_eq_true hz]
    cases hs : decide (leafN page kd vn pg ct)
    all_goals
     go_enter Tryz.func76, Tryz.ntmps76
     go_wp2_with fail
     go_quiet (first | (go_at_call 125; exact Calls.quiet_of_same (mostValue_any _ _ h0 h1)) | (go_at_call 99; exact Calls.quiet_of_same (mostKey_any _ _ h0 h1)))
     go_wp2_with (first | (go_at_call 101; refine (inLeaf_any _ _ _ _ _ _ _ _ _ _ _ h0 h1 hv).mono ?_; rintro e w1 ⟨rfl, hb1⟩; have hbw := bl_go (show Below w.heap.size w _ from by first | exact hal | exact hal.drew | exact bl_dr hal _ | exact (bl_dr hal _).drew | go_grown) (Nat.le_refl _) hb1; rw [hs]))
     all_goals (try go_wp2); all_goals (go_ret; exact ⟨rfl, by first | exact hbw | exact hbw.drew | exact bl_dr hbw _⟩)
   ·obtain rfl : kn = 0 := by omega
    go_enter Tryz.func76, Tryz.ntmps76
    go_wp2_with fail
    go_quiet (first | (go_at_call 125; exact Calls.quiet_of_same (mostValue_any _ _ h0 h1)) | (go_at_call 99; exact Calls.quiet_of_same (mostKey_any _ _ h0 h1)))
    go_wp2
    go_ret
    exact ⟨rfl, by first | exact hal | exact bl_dr hal _⟩
 ·have d1 : decide (page / 8 < (kn : Int)) = true := decide_eq_true (by omega)
  have hq : decide (mayN kind page kn kd vn pg ct) = false := by rw [decide_eq_false_iff_not]; simp [mayN, h]
  rw [hq]
  clear hq
  go_enter Tryz.func76, Tryz.ntmps76
  go_wp2_with fail
  go_quiet (first | (go_at_call 125; exact Calls.quiet_of_same (mostValue_any _ _ h0 h1)) | (go_at_call 99; exact Calls.quiet_of_same (mostKey_any _ _ h0 h1)))
  go_wp2
  go_ret
  exact ⟨rfl, by first | exact hal | exact bl_dr hal _⟩
end Go.Proofs.YtjpmfgoodcldcaaGreatDoor
