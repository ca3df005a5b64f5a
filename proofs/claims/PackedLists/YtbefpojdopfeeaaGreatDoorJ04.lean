/- Package cell: what its functions answer; cells in memory. -/
import Derived.Test.YtbefpojdopfeeaaGreatDoorJ03
import Derived.Lib.BytesEntry
import Derived.Laws.Externs
import Derived.Test.YtbefpojdopfeeaaGreatDoorJ01
namespace Go.Proofs.YtbefpojdopfeeaaGreatDoor
open Go.RowKit

/-- What a cell may be, by its numbers. -/
def leadsN (pg ct lo hi : Int) : Prop := (2 ≤ pg ∧ pg ≤ 65535) ∧ (lo ≤ ct ∧ ct ≤ hi)
def leafN (page : Int) (kd : Int) (vn : Nat) (pg ct : Int) : Prop :=
  (kd = 1 ∧ (vn : Int) ≤ page / 16 * 3 ∧ (pg = 0 ∧ ct = 0)) ∨ (kd = 2 ∧ vn = 0 ∧ leadsN pg ct (page / 16 * 3 + 1) 65536) ∨ (kd = 4 ∧ vn = 0 ∧ ((pg = 0 ∧ ct = 0) ∨ leadsN pg ct 1 1073741824))
def mayN (kind page : Int) (kn : Nat) (kd : Int) (vn : Nat) (pg ct : Int) : Prop :=
  (kn : Int) ≤ page / 8 ∧ ((kind = 3 ∧ kd = 3 ∧ vn = 0 ∧ leadsN pg ct 1 1073741824) ∨ (kind ≠ 3 ∧ 0 < kn ∧ leafN page kd vn pg ct))
set_option maxRecDepth 100000 in
theorem mayP_iff (k p : Int) (c : Cl) : mayN k p c.key.length c.kd c.val.length c.pg c.ct ↔ mayP k p c := by
  simp only [mayN, mayP, leafN, leadsN, leadsP, nowhere, List.length_eq_zero_iff]
set_option maxRecDepth 100000 in
theorem ret_bool {b c : Bool} (h : b = c) : Ending.returned (.bool b) = .returned (.bool c) := by rw [h]
set_option maxRecDepth 100000 in
theorem within_any (n lo hi : Int) (w : World) : Calls Tryz.prog 67 #[.int .i64 n, .int .i64 lo, .int .i64 hi] w fun e w' => e = .returned (.bool (decide (lo ≤ n ∧ n ≤ hi))) ∧ w' = w := by
  go_enter Tryz.func67, Tryz.ntmps67
  go_wp2
  all_goals go_ret
  all_goals refine ⟨ret_bool ?_, rfl⟩
  all_goals (rw [Bool.eq_iff_iff]; first | (simp; done) | (simp; omega) | (simp_all; done) | (simp_all; omega))
set_option maxRecDepth 100000 in
theorem isKind_any (k : Int) (w : World) : Calls Tryz.prog 27 #[.int .i64 k] w fun e w' => e = .returned (.bool (decide (isKd k))) ∧ w' = w := by
  go_enter Tryz.func27, Tryz.ntmps27
  go_wp2
  all_goals go_ret
  all_goals refine ⟨ret_bool ?_, rfl⟩
  all_goals (rw [Bool.eq_iff_iff]; first | (simp [isKd]; done) | (simp [isKd]; omega) | (simp_all [isKd]; done) | (simp_all [isKd]; omega))
set_option maxRecDepth 100000 in
theorem mostKey_any (p : Int) (w : World) (h0 : 0 ≤ p) (h1 : p ≤ 65536) : Calls Tryz.prog 103 #[.int .i64 p] w fun e w' => e = .returned (.int .i64 (p / 8)) ∧ w' = w := by
  go_enter Tryz.func103, Tryz.ntmps103
  go_wp2
  go_ret
  exact ⟨rfl, rfl⟩
set_option maxRecDepth 100000 in
theorem mostValue_any (p : Int) (w : World) (h0 : 0 ≤ p) (h1 : p ≤ 65536) : Calls Tryz.prog 139 #[.int .i64 p] w fun e w' => e = .returned (.int .i64 (p / 16 * 3)) ∧ w' = w := by
  go_enter Tryz.func139, Tryz.ntmps139
  go_wp2
  go_ret
  exact ⟨rfl, rfl⟩
set_option maxRecDepth 100000 in
theorem isSize_any (p : Int) (w : World) : Calls Tryz.prog 28 #[.int .i64 p] w fun e w' => e = .returned (.bool (decide (pw p))) ∧ w' = w := by
  by_cases h : 512 ≤ p ∧ p ≤ 65536
  · have hp := pow_iff p h.1 h.2
    have h1 := h.1
    have h2 := h.2
    have e : decide (512 ≤ p ∧ p ≤ 65536) = true := by simpa using h
    obtain ⟨z, hz⟩ : ∃ z, bits .and .i64 p (p - 1) = z := ⟨_, rfl⟩
    rw [hz] at hp
    rw [show decide (pw p) = decide (z = 0) from by simp [hp]]
    clear hp
    go_enter Tryz.func28, Tryz.ntmps28
    go_wp2_with (go_at_call 67; refine same_call (within_any _ _ _ _) ?_; rw [e])
    all_goals go_ret
    all_goals refine ⟨?_, rfl⟩
    all_goals (congr 2 <;> simp)
  · have e : decide (512 ≤ p ∧ p ≤ 65536) = false := by simpa using h
    have e2 : decide (pw p) = false := by
      rw [decide_eq_false_iff_not]
      exact fun hq => h (pw_le hq)
    rw [e2]
    go_enter Tryz.func28, Tryz.ntmps28
    go_wp2_with (go_at_call 67; refine same_call (within_any _ _ _ _) ?_; rw [e])
    go_ret
    exact ⟨rfl, rfl⟩
set_option maxRecDepth 100000 in
theorem leadsNowhere_any (ka : Option Addr) (kn kc : Nat) (kd : Int) (va : Option Addr) (vn vc : Nat) (pg ct : Int) (w : World) :
    Calls Tryz.prog 140 #[.agg #[.slice ka kn kc, .int .i64 kd, .slice va vn vc, .int .i64 pg, .int .i64 ct]] w fun e w' => e = .returned (.bool (decide (pg = 0 ∧ ct = 0))) ∧ Below w.heap.size w w' := by
  go_enter Tryz.func140, Tryz.ntmps140
  go_wp2
  all_goals go_ret
  all_goals refine ⟨ret_bool ?_, (Below.refl _ _).alloc (Nat.le_refl _) _⟩
  all_goals (rw [Bool.eq_iff_iff]; first | (simp; done) | (simp; omega) | (simp_all; done) | (simp_all; omega))
instance (a b c d : Int) : Decidable (leadsN a b c d) := by unfold leadsN; infer_instance
set_option maxRecDepth 100000 in
theorem leads_any (ka : Option Addr) (kn kc : Nat) (kd : Int) (va : Option Addr) (vn vc : Nat) (pg ct lo hi : Int) (w : World) :
    Calls Tryz.prog 104 #[.agg #[.slice ka kn kc, .int .i64 kd, .slice va vn vc, .int .i64 pg, .int .i64 ct], .int .i64 lo, .int .i64 hi] w fun e w' => e = .returned (.bool (decide (leadsN pg ct lo hi))) ∧ Below w.heap.size w w' := by
  have hq : decide (leadsN pg ct lo hi) = (decide (2 ≤ pg ∧ pg ≤ 65535) && decide (lo ≤ ct ∧ ct ≤ hi)) := by rw [Bool.eq_iff_iff, decide_eq_true_iff]; simp [leadsN]
  rw [hq]
  cases h1 : decide (2 ≤ pg ∧ pg ≤ 65535)
  · go_enter Tryz.func104, Tryz.ntmps104
    go_wp2_with (go_at_call 67; refine same_call (within_any _ _ _ _) ?_; rw [h1])
    go_ret
    exact ⟨rfl, (Below.refl _ _).alloc (Nat.le_refl _) _⟩
  · have W2 := fun u => within_any ct lo hi u
    cases h2 : decide (lo ≤ ct ∧ ct ≤ hi)
    all_goals
      go_enter Tryz.func104, Tryz.ntmps104
      go_wp2_with (go_at_call 67; refine same_call (within_any _ _ _ _) ?_; first | rw [h1] | rw [h2])
      go_ret
      exact ⟨rfl, (Below.refl _ _).alloc (Nat.le_refl _) _⟩
end Go.Proofs.YtbefpojdopfeeaaGreatDoor

/- cell.MayBe: what it answers. -/

namespace Go.Proofs.YtbefpojdopfeeaaGreatDoor
open Go.RowKit

set_option maxRecDepth 100000 in
/-- The five cells of a boxed cell, behind a call. -/
theorem box5 {w w1 : World} {x0 x1 x2 x3 x4 : Value} {t : TypeId} (hb : Below (w.alloc (.cells #[x0, x1, x2, x3, x4] t)).heap.size (w.alloc (.cells #[x0, x1, x2, x3, x4] t)) w1) :
    w1.cell? ⟨w.heap.size, 0, none⟩ = some x0 ∧ w1.cell? ⟨w.heap.size, 1, none⟩ = some x1 ∧ w1.cell? ⟨w.heap.size, 2, none⟩ = some x2 ∧ w1.cell? ⟨w.heap.size, 3, none⟩ = some x3 ∧ w1.cell? ⟨w.heap.size, 4, none⟩ = some x4 := by
  have hl : w.heap.size < (w.alloc (.cells #[x0, x1, x2, x3, x4] t)).heap.size := by simp
  refine ⟨(hb.cell (p := ⟨w.heap.size, 0, none⟩) hl).trans (by simp), (hb.cell (p := ⟨w.heap.size, 1, none⟩) hl).trans (by simp), (hb.cell (p := ⟨w.heap.size, 2, none⟩) hl).trans (by simp), (hb.cell (p := ⟨w.heap.size, 3, none⟩) hl).trans (by simp), (hb.cell (p := ⟨w.heap.size, 4, none⟩) hl).trans (by simp)⟩
set_option maxRecDepth 100000 in
theorem al5 {w w1 : World} {o : Obj} (hb : Below (w.alloc o).heap.size (w.alloc o) w1) : Below w.heap.size w w1 := bl_go (bl_al (Below.refl _ w) (Nat.le_refl _) _) (Nat.le_refl _) hb
instance (p k : Int) (v : Nat) (a b : Int) : Decidable (leafN p k v a b) := by unfold leafN; infer_instance
instance (k p : Int) (n : Nat) (kd : Int) (v : Nat) (a b : Int) : Decidable (mayN k p n kd v a b) := by unfold mayN; infer_instance
set_option maxRecDepth 100000 in
set_option maxHeartbeats 1000000 in
theorem inLeaf_any (page : Int) (ka : Option Addr) (kn kc : Nat) (kd : Int) (va : Option Addr) (vn vc : Nat) (pg ct : Int) (w : World) (h0 : 0 ≤ page) (h1 : page ≤ 65536) (hv : vn ≤ 140737488355328) :
    Calls Tryz.prog 105 #[.int .i64 page, .agg #[.slice ka kn kc, .int .i64 kd, .slice va vn vc, .int .i64 pg, .int .i64 ct]] w fun e w' => e = .returned (.bool (decide (leafN page kd vn pg ct))) ∧ Below w.heap.size w w' := by
  have hm : 0 ≤ page / 16 * 3 ∧ page / 16 * 3 ≤ 65535 := by omega
  have hal := (Below.refl w.heap.size w).alloc (Nat.le_refl _) (.cells #[.slice ka kn kc, .int .i64 kd, .slice va vn vc, .int .i64 pg, .int .i64 ct] 39)
  by_cases k1 : kd = 1
  · have hq : decide (leafN page kd vn pg ct) = (decide ((vn : Int) ≤ page / 16 * 3) && decide (pg = 0 ∧ ct = 0)) := by rw [Bool.eq_iff_iff, decide_eq_true_iff]; simp [leafN, k1]
    rw [hq]
    subst k1
    clear hq
    by_cases h : (vn : Int) ≤ page / 16 * 3
    · rw [decide_eq_true h, Bool.true_and]
      have d1 : decide ((vn : Int) ≤ page / 16 * 3) = true := decide_eq_true h
      cases hr : decide (pg = 0 ∧ ct = 0)
      all_goals
        go_enter Tryz.func105, Tryz.ntmps105
        go_wp2_with fail
        go_region_with (first | (go_at_call 139; refine same_call (mostValue_any _ _ h0 h1) ?_) | (go_at_call 140; refine (leadsNowhere_any _ _ _ _ _ _ _ _ _ _).mono ?_; rintro e w1 ⟨rfl, hb1⟩; have hbw := bl_go (show Below w.heap.size w _ from by first | exact hal | exact hal.drew | exact bl_dr hal _ | exact (bl_dr hal _).drew | go_grown) (Nat.le_refl _) hb1; rw [hr]))
        all_goals (try go_wp2); all_goals (go_ret; exact ⟨rfl, by first | exact hbw | exact hbw.drew | exact bl_dr hbw _⟩)
    · rw [decide_eq_false h, Bool.false_and]
      have d1 : decide ((vn : Int) ≤ page / 16 * 3) = false := decide_eq_false h
      go_enter Tryz.func105, Tryz.ntmps105
      go_wp2_with fail
      go_quiet (first | (go_at_call 139; exact Calls.quiet_of_same (mostValue_any _ _ h0 h1)))
      go_wp2
      go_ret
      exact ⟨rfl, by first | exact hal | exact bl_dr hal _⟩
  · by_cases hz : vn = 0
    · subst hz
      by_cases k2 : kd = 2
      · have hq : decide (leafN page kd 0 pg ct) = decide (leadsN pg ct (page / 16 * 3 + 1) 65536) := by rw [Bool.eq_iff_iff, decide_eq_true_iff]; simp [leafN, k2]
        rw [hq]
        subst k2
        clear hq
        have hw1 : IntKind.i64.wrap (page / 16 * 3 + 1) = page / 16 * 3 + 1 := by rw [IntKind.wrap_i64]; omega
        have hw2 : wrap64 (page / 16 * 3 + 1) = page / 16 * 3 + 1 := by simp [wrap64]; omega
        generalize hr : decide (leadsN pg ct (page / 16 * 3 + 1) 65536) = r
        go_enter Tryz.func105, Tryz.ntmps105
        go_wp2_with fail
        go_region_with (first | (go_at_call 139; refine same_call (mostValue_any _ _ h0 h1) ?_) | (go_at_call 104; refine (leads_any _ _ _ _ _ _ _ _ _ _ _ _).mono ?_; rintro e w1 ⟨rfl, hb1⟩; have hbw := bl_go (show Below w.heap.size w _ from by first | exact hal | exact hal.drew | exact bl_dr hal _ | exact (bl_dr hal _).drew | go_grown) (Nat.le_refl _) hb1; first | rw [hr] | rw [hw1, hr] | rw [hw2, hr]))
        all_goals (try go_wp2); all_goals (go_ret; exact ⟨rfl, by first | exact hbw | exact hbw.drew | exact bl_dr hbw _⟩)
      · by_cases k4 : kd = 4
        · have hq : decide (leafN page kd 0 pg ct) = (decide (pg = 0 ∧ ct = 0) || decide (leadsN pg ct 1 1073741824)) := by rw [Bool.eq_iff_iff, decide_eq_true_iff]; simp [leafN, k4]
          rw [hq]
          subst k4
          clear hq
          cases hr : decide (pg = 0 ∧ ct = 0)
          · cases hs : decide (leadsN pg ct 1 1073741824)
            all_goals
              go_enter Tryz.func105, Tryz.ntmps105
              go_wp2_with (first | (go_at_call 140; refine (leadsNowhere_any _ _ _ _ _ _ _ _ _ _).mono ?_; rintro e w1 ⟨rfl, hb1⟩; rw [hr]; obtain ⟨c0, c1, c2, c3, c4⟩ := box5 hb1) | (go_at_call 104; refine (leads_any _ _ _ _ _ _ _ _ _ _ _ _).mono ?_; rintro e w2 ⟨rfl, hb2⟩; rw [hs]))
              go_ret
              exact ⟨rfl, bl_go (al5 hb1) (Nat.le_refl _) hb2⟩
          · go_enter Tryz.func105, Tryz.ntmps105
            go_wp2_with (go_at_call 140; refine (leadsNowhere_any _ _ _ _ _ _ _ _ _ _).mono ?_; rintro e w1 ⟨rfl, hb1⟩; rw [hr])
            go_ret
            exact ⟨rfl, al5 hb1⟩
        · have hq : decide (leafN page kd 0 pg ct) = false := by rw [decide_eq_false_iff_not]; simp [leafN, k1, k2, k4]
          rw [hq]
          clear hq
          go_enter Tryz.func105, Tryz.ntmps105
          go_wp2
          go_ret
          exact ⟨rfl, hal⟩
    · have hq : decide (leafN page kd vn pg ct) = false := by rw [decide_eq_false_iff_not]; simp [leafN, k1, hz]
      rw [hq]
      clear hq
      have hz' : 0 < (vn : Int) := by omega
      go_enter Tryz.func105, Tryz.ntmps105
      go_wp2
      go_ret
      exact ⟨rfl, hal⟩
set_option maxRecDepth 100000 in
set_option maxHeartbeats 1000000 in
theorem mayBe_any (kind page : Int) (ka : Option Addr) (kn kc : Nat) (kd : Int) (va : Option Addr) (vn vc : Nat) (pg ct : Int) (w : World) (h0 : 0 ≤ page) (h1 : page ≤ 65536) (hk : kn ≤ 140737488355328) (hv : vn ≤ 140737488355328) :
    Calls Tryz.prog 63 #[.int .i64 kind, .int .i64 page, .agg #[.slice ka kn kc, .int .i64 kd, .slice va vn vc, .int .i64 pg, .int .i64 ct]] w fun e w' => e = .returned (.bool (decide (mayN kind page kn kd vn pg ct))) ∧ Below w.heap.size w w' := by
  have hm : 0 ≤ page / 8 ∧ page / 8 ≤ 65535 := by omega
  have hal := (Below.refl w.heap.size w).alloc (Nat.le_refl _) (.cells #[.slice ka kn kc, .int .i64 kd, .slice va vn vc, .int .i64 pg, .int .i64 ct] 39)
  by_cases h : (kn : Int) ≤ page / 8
  · have d1 : decide (page / 8 < (kn : Int)) = false := decide_eq_false (by omega)
    by_cases k3 : kind = 3
    · have hq : decide (mayN kind page kn kd vn pg ct) = (decide (kd = 3) && (decide (vn = 0) && decide (leadsN pg ct 1 1073741824))) := by rw [Bool.eq_iff_iff, decide_eq_true_iff]; simp [mayN, h, k3]
      rw [hq]
      subst k3
      clear hq
      by_cases d3 : kd = 3
      · subst d3
        by_cases hz : vn = 0
        · subst hz
          cases hs : decide (leadsN pg ct 1 1073741824)
          all_goals
            go_enter Tryz.func63, Tryz.ntmps63
            go_wp2_with fail
            go_quiet (first | (go_at_call 139; exact Calls.quiet_of_same (mostValue_any _ _ h0 h1)) | (go_at_call 103; exact Calls.quiet_of_same (mostKey_any _ _ h0 h1)))
            go_wp2_with (first | (go_at_call 104; refine (leads_any _ _ _ _ _ _ _ _ _ _ _ _).mono ?_; rintro e w1 ⟨rfl, hb1⟩; have hbw := bl_go (show Below w.heap.size w _ from by first | exact hal | exact hal.drew | exact bl_dr hal _ | exact (bl_dr hal _).drew | go_grown) (Nat.le_refl _) hb1; rw [hs]))
            all_goals (try go_wp2); all_goals (go_ret; exact ⟨rfl, by first | exact hbw | exact hbw.drew | exact bl_dr hbw _⟩)
        · have hz' : 0 < (vn : Int) := by omega
          have hz2 : ¬ (vn : Int) = 0 := by omega
          rw [decide_eq_false hz]
          go_enter Tryz.func63, Tryz.ntmps63
          go_wp2_with fail
          go_quiet (first | (go_at_call 139; exact Calls.quiet_of_same (mostValue_any _ _ h0 h1)) | (go_at_call 103; exact Calls.quiet_of_same (mostKey_any _ _ h0 h1)))
          go_wp2
          go_ret
          exact ⟨rfl, by first | exact hal | exact bl_dr hal _⟩
      · rw [decide_eq_false d3]
        go_enter Tryz.func63, Tryz.ntmps63
        go_wp2_with fail
        go_quiet (first | (go_at_call 139; exact Calls.quiet_of_same (mostValue_any _ _ h0 h1)) | (go_at_call 103; exact Calls.quiet_of_same (mostKey_any _ _ h0 h1)))
        go_wp2
        go_ret
        exact ⟨rfl, by first | exact hal | exact bl_dr hal _⟩
    · have hq : decide (mayN kind page kn kd vn pg ct) = (decide (0 < kn) && decide (leafN page kd vn pg ct)) := by rw [Bool.eq_iff_iff, decide_eq_true_iff]; simp [mayN, h, k3]
      rw [hq]
      clear hq
      by_cases hz : 0 < kn
      · have hz' : 0 < (kn : Int) := by omega
        rw [decide_eq_true hz]
        cases hs : decide (leafN page kd vn pg ct)
        all_goals
          go_enter Tryz.func63, Tryz.ntmps63
          go_wp2_with fail
          go_quiet (first | (go_at_call 139; exact Calls.quiet_of_same (mostValue_any _ _ h0 h1)) | (go_at_call 103; exact Calls.quiet_of_same (mostKey_any _ _ h0 h1)))
          go_wp2_with (first | (go_at_call 105; refine (inLeaf_any _ _ _ _ _ _ _ _ _ _ _ h0 h1 hv).mono ?_; rintro e w1 ⟨rfl, hb1⟩; have hbw := bl_go (show Below w.heap.size w _ from by first | exact hal | exact hal.drew | exact bl_dr hal _ | exact (bl_dr hal _).drew | go_grown) (Nat.le_refl _) hb1; rw [hs]))
          all_goals (try go_wp2); all_goals (go_ret; exact ⟨rfl, by first | exact hbw | exact hbw.drew | exact bl_dr hbw _⟩)
      · obtain rfl : kn = 0 := by omega
        go_enter Tryz.func63, Tryz.ntmps63
        go_wp2_with fail
        go_quiet (first | (go_at_call 139; exact Calls.quiet_of_same (mostValue_any _ _ h0 h1)) | (go_at_call 103; exact Calls.quiet_of_same (mostKey_any _ _ h0 h1)))
        go_wp2
        go_ret
        exact ⟨rfl, by first | exact hal | exact bl_dr hal _⟩
  · have d1 : decide (page / 8 < (kn : Int)) = true := decide_eq_true (by omega)
    have hq : decide (mayN kind page kn kd vn pg ct) = false := by rw [decide_eq_false_iff_not]; simp [mayN, h]
    rw [hq]
    clear hq
    go_enter Tryz.func63, Tryz.ntmps63
    go_wp2_with fail
    go_quiet (first | (go_at_call 139; exact Calls.quiet_of_same (mostValue_any _ _ h0 h1)) | (go_at_call 103; exact Calls.quiet_of_same (mostKey_any _ _ h0 h1)))
    go_wp2
    go_ret
    exact ⟨rfl, by first | exact hal | exact bl_dr hal _⟩
end Go.Proofs.YtbefpojdopfeeaaGreatDoor

/- How keys stand: bytes.Compare, plain.rise, and strings. -/

namespace Go.Proofs.YtbefpojdopfeeaaGreatDoor
open Go.RowKit

set_option maxRecDepth 100000 in
theorem u8_lt (x y : Int) (hx : 0 ≤ x ∧ x ≤ 255) (hy : 0 ≤ y ∧ y ≤ 255) : UInt8.ofNat x.toNat < UInt8.ofNat y.toNat ↔ x < y := by
  rw [UInt8.lt_iff_toNat_lt, UInt8.toNat_ofNat', UInt8.toNat_ofNat']
  omega
set_option maxRecDepth 100000 in
theorem cmp_ord : ∀ (a b : List Int), Wf a → Wf b → Lib.compareBytes (Lib.bytesOf a) (Lib.bytesOf b) = ordL a b
  | [], [], _, _ => rfl
  | [], _ :: _, _, _ => rfl
  | _ :: _, [], _, _ => rfl
  | x :: a, y :: b, ha, hb => by
    have hx := ha x (by simp)
    have hy := hb y (by simp)
    have ih := cmp_ord a b (fun z hz => ha z (by simp [hz])) (fun z hz => hb z (by simp [hz]))
    unfold Lib.bytesOf at ih ⊢
    simp only [List.map_cons, Lib.compareBytes, ordL, u8_lt x y hx hy, u8_lt y x hy hx, ih]
set_option maxRecDepth 100000 in
theorem run_bytes {w : World} {ao : Option Addr} {n cap : Nat} {l : List Int} (h : Sl w ao n cap l) : (Extern.Bytes.bytesOf (.slice ao n cap)).run Tryz.prog w = .ok ⟨(Lib.bytesOf l).toArray⟩ w := by
  obtain ⟨hlen, hcap, hroom, hwf, hnil, hat⟩ := h
  have he : (⟨ByteArray.empty.data ++ (Lib.bytesOf l).toArray⟩ : ByteArray) = ⟨(Lib.bytesOf l).toArray⟩ := by
    apply ByteArray.ext
    show (#[] : Array UInt8) ++ (Lib.bytesOf l).toArray = (Lib.bytesOf l).toArray
    simp
  cases ao with
  | none =>
    have : n = 0 := by have := hnil rfl; omega
    obtain rfl : l = [] := List.eq_nil_of_length_eq_zero (by omega)
    rfl
  | some a =>
    have hl := Lib.run_loadBytesX (P := Tryz.prog) w l a .empty (fun j x hj => by
      have hjl : j < l.length := (List.getElem?_eq_some_iff.1 hj).1
      rcases hat with h0 | ⟨b, off, e, hb, hc⟩
      · omega
      · injection e with e
        subst e
        rw [Addr.add_lit, hc j (by omega), List.getD_eq_getElem?_getD, hj]
        rfl)
    rw [hlen, he] at hl
    simpa [Extern.Bytes.bytesOf] using hl
set_option maxRecDepth 100000 in
theorem run_cmp {w : World} {ao bo : Option Addr} {n m c d : Nat} {la lb : List Int} (ha : Sl w ao n c la) (hb : Sl w bo m d lb) :
    (Extern.BytealgCompare.compare #[.slice ao n c, .slice bo m d]).run Tryz.prog w = .ok (.int .i64 (ordL la lb)) w := by
  change Sem.run Tryz.prog (do pure (goInt (Extern.BytealgCompare.cmp (← Extern.Bytes.bytesOf (.slice ao n c)) (← Extern.Bytes.bytesOf (.slice bo m d))))) w = _
  simp only [Sem.run_bind, run_bytes ha, run_bytes hb, Sem.run_pure, Result.andThen]
  rw [Lib.cmp_eq, show (⟨(Lib.bytesOf la).toArray⟩ : ByteArray).data.toList = Lib.bytesOf la from rfl, show (⟨(Lib.bytesOf lb).toArray⟩ : ByteArray).data.toList = Lib.bytesOf lb from rfl, cmp_ord la lb ha.wf hb.wf]
  rfl
set_option maxRecDepth 100000 in
theorem compare_any (ao bo : Option Addr) (n m c d : Nat) (la lb : List Int) (w : World) (ha : Sl w ao n c la) (hb : Sl w bo m d lb) :
    Calls Tryz.prog 106 #[.slice ao n c, .slice bo m d] w fun e w' => e = .returned (.int .i64 (ordL la lb)) ∧ w' = w := by
  have hr := run_cmp ha hb
  clear ha hb
  go_enter Tryz.func106, Tryz.ntmps106
  go_wp2
  rw [run_callFunc_extern Tryz.func141 (by kernel_rfl) (by kernel_rfl) (by kernel_rfl) (e := Extern.BytealgCompare.compare) (by kernel_rfl), hr]
  simp only [Result.andThen]
  rw [Oper.upon_value]
  go_wp2
  go_ret
  exact ⟨rfl, rfl⟩
end Go.Proofs.YtbefpojdopfeeaaGreatDoor

/- What ReadUint reads is what Uint writes. -/

namespace Go.Proofs.YtbefpojdopfeeaaGreatDoor

set_option maxRecDepth 100000 in
theorem rU_spec (l : List Int) : ∀ (p : Int) (i : Nat) (n : Int), Wf l → 0 ≤ n → n < 128 ^ i → i ≤ 9 →
    ((rU p l i n).2.2 ≠ 0 ∧ (rU p l i n).1 = 0 ∧ (rU p l i n).2.1 = 0) ∨
    ((rU p l i n).2.2 = 0 ∧ ∃ (k : Nat) (M : Int), 1 ≤ k ∧ k ≤ l.length ∧ (rU p l i n).2.1 = p + i + k ∧ 0 ≤ M ∧ (rU p l i n).1 = n + M * 128 ^ i ∧ (rU p l i n).1 < 18446744073709551616 ∧ l.take k = uB M ∧ (0 < i → 0 < M)) := by
  induction l with
  | nil => intro p i n _ _ _ _; left; simp [rU]
  | cons c r ih =>
    intro p i n hw h0 hn hi
    have hc := hw c (by simp)
    have hr : Wf r := fun x hx => hw x (by simp [hx])
    have hpos : (0 : Int) < 128 ^ i := Int.pow_pos (by omega)
    rw [rU]
    by_cases h9 : i = 9 ∧ 1 < c
    · left; rw [if_pos h9]; simp
    · rw [if_neg h9]
      by_cases h128 : 128 ≤ c
      · rw [if_pos h128]
        have hi8 : i < 9 := by omega
        have hup := or_up n (c - 128) i h0 hn (by omega) (by omega) (.inl hi8)
        have hnn : 0 ≤ n + (c - 128) * 128 ^ i := by
          have : 0 ≤ (c - 128) * 128 ^ i := Int.mul_nonneg (by omega) (Int.le_of_lt hpos)
          omega
        rcases ih p (i + 1) (n + (c - 128) * 128 ^ i) hr hnn hup.2.1 (by omega) with h | ⟨he, k, M, hk1, hk2, ht, hM0, hN, hlt, htk, hMp⟩
        · exact .inl h
        · right
          have hMp' := hMp (by omega)
          refine ⟨he, k + 1, (c - 128) + 128 * M, by omega, by simp; omega, by rw [ht]; push_cast; omega, by omega, ?_, hlt, ?_, fun _ => by omega⟩
          · rw [hN, Int.pow_succ, Int.add_mul, Int.mul_comm (128 ^ i) 128, ← Int.mul_assoc, Int.mul_comm M 128]
            omega
          · have hMlt : (c - 128) + 128 * M < 18446744073709551616 := by
              have h1 : (c - 128) + 128 * M ≤ ((c - 128) + 128 * M) * 128 ^ i := by
                have := Int.mul_le_mul_of_nonneg_left (show (1 : Int) ≤ 128 ^ i by omega) (show 0 ≤ (c - 128) + 128 * M by omega)
                omega
              have h2 : (rU p r (i + 1) (n + (c - 128) * 128 ^ i)).1 = n + ((c - 128) + 128 * M) * 128 ^ i := by
                rw [hN, Int.pow_succ, Int.add_mul, Int.mul_comm (128 ^ i) 128, ← Int.mul_assoc, Int.mul_comm M 128]
                omega
              omega
            rw [uB_step (by omega) hMlt, List.take_succ_cons, htk]
            congr 1
            · omega
            · congr 1
              omega
      · rw [if_neg h128]
        by_cases hz : c = 0 ∧ 0 < i
        · left; rw [if_pos hz]; simp
        · right
          rw [if_neg hz]
          have hup := or_up n c i h0 hn (by omega) (by omega) (by omega)
          have hlt : n + c * 128 ^ i < 18446744073709551616 := by
            rcases hup.2.2 with h | h
            · have h2 : i = 0 ∨ i = 1 ∨ i = 2 ∨ i = 3 ∨ i = 4 ∨ i = 5 ∨ i = 6 ∨ i = 7 ∨ i = 8 := by omega
              have h3 := hup.2.1
              rcases h2 with rfl | rfl | rfl | rfl | rfl | rfl | rfl | rfl | rfl <;> simp at h3 ⊢ <;> omega
            · exact h
          exact ⟨rfl, 1, c, by omega, by simp, by simp, by omega, rfl, hlt, by rw [uB_small (by omega)]; rfl, fun h => by omega⟩
end Go.Proofs.YtbefpojdopfeeaaGreatDoor
