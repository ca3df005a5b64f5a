/- Package cell: what its functions answer; cells in memory. -/
import Derived.Test.YtdmpbdppdcaabaaDoorFb
import Derived.Test.YtdmpbdppdcaabaaDoorMi
namespace Go.Proofs.YtdmpbdppdcaabaaDoor
open Go.RowKit

/-- What a cell may be, by its numbers. -/
def leadsN (pg ct lo hi : Int) : Prop := (2 ≤ pg ∧ pg ≤ 65535) ∧ (lo ≤ ct ∧ ct ≤ hi)
def leafN (page : Int) (kd : Int) (vn : Nat) (pg ct : Int) : Prop :=
  (kd = 1 ∧ (vn : Int) ≤ page / 16 * 3 ∧ (pg = 0 ∧ ct = 0)) ∨ (kd = 2 ∧ vn = 0 ∧ leadsN pg ct (page / 16 * 3 + 1) 65536) ∨ (kd = 4 ∧ vn = 0 ∧ ((pg = 0 ∧ ct = 0) ∨ leadsN pg ct 1 1073741824))
def mayN (kind page : Int) (kn : Nat) (kd : Int) (vn : Nat) (pg ct : Int) : Prop :=
  (kn : Int) ≤ page / 8 ∧ ((kind = 3 ∧ kd = 3 ∧ vn = 0 ∧ leadsN pg ct 1 1073741824) ∨ (kind ≠ 3 ∧ 0 < kn ∧ leafN page kd vn pg ct))
set_option maxRecDepth 100000 in
theorem mayP_iff (k p : Int) (c : Cl) : mayN k p c.key.length c.kd c.val.length c.pg c.ct ↔ mayP k p c := by
  simp only [mayN, mayP, leafN, leadsN, leadsP, nowhere, List.length_eq_zero_iff]

set_option maxRecDepth 100000 in
theorem ret_bool {b c : Bool} (h : b = c) : Ending.returned (.bool b) = .returned (.bool c) := by rw [h]
set_option maxRecDepth 100000 in
theorem within_any (n lo hi : Int) (w : World) : Calls Tryd.prog 63 #[.int .i64 n, .int .i64 lo, .int .i64 hi] w fun e w' => e = .returned (.bool (decide (lo ≤ n ∧ n ≤ hi))) ∧ w' = w := by
  go_enter Tryd.func63, Tryd.ntmps63
  go_wp2
  all_goals go_ret
  all_goals refine ⟨ret_bool ?_, rfl⟩
  all_goals (rw [Bool.eq_iff_iff]; first | (simp; done) | (simp; omega) | (simp_all; done) | (simp_all; omega))
set_option maxRecDepth 100000 in
theorem isKind_any (k : Int) (w : World) : Calls Tryd.prog 35 #[.int .i64 k] w fun e w' => e = .returned (.bool (decide (isKd k))) ∧ w' = w := by
  go_enter Tryd.func35, Tryd.ntmps35
  go_wp2
  all_goals go_ret
  all_goals refine ⟨ret_bool ?_, rfl⟩
  all_goals (rw [Bool.eq_iff_iff]; first | (simp [isKd]; done) | (simp [isKd]; omega) | (simp_all [isKd]; done) | (simp_all [isKd]; omega))
set_option maxRecDepth 100000 in
theorem mostKey_any (p : Int) (w : World) (h0 : 0 ≤ p) (h1 : p ≤ 65536) : Calls Tryd.prog 56 #[.int .i64 p] w fun e w' => e = .returned (.int .i64 (p / 8)) ∧ w' = w := by
  go_enter Tryd.func56, Tryd.ntmps56
  go_wp2
  go_ret
  exact ⟨rfl, rfl⟩
set_option maxRecDepth 100000 in
theorem mostValue_any (p : Int) (w : World) (h0 : 0 ≤ p) (h1 : p ≤ 65536) : Calls Tryd.prog 76 #[.int .i64 p] w fun e w' => e = .returned (.int .i64 (p / 16 * 3)) ∧ w' = w := by
  go_enter Tryd.func76, Tryd.ntmps76
  go_wp2
  go_ret
  exact ⟨rfl, rfl⟩
set_option maxRecDepth 100000 in
theorem isSize_any (p : Int) (w : World) : Calls Tryd.prog 36 #[.int .i64 p] w fun e w' => e = .returned (.bool (decide (pw p))) ∧ w' = w := by
  by_cases h : 512 ≤ p ∧ p ≤ 65536
  · have hp := pow_iff p h.1 h.2
    have h1 := h.1
    have h2 := h.2
    have e : decide (512 ≤ p ∧ p ≤ 65536) = true := by simpa using h
    obtain ⟨z, hz⟩ : ∃ z, bits .and .i64 p (p - 1) = z := ⟨_, rfl⟩
    rw [hz] at hp
    rw [show decide (pw p) = decide (z = 0) from by simp [hp]]
    clear hp
    go_enter Tryd.func36, Tryd.ntmps36
    go_wp2_with (go_at_call 63; refine same_call (within_any _ _ _ _) ?_; rw [e])
    all_goals go_ret
    all_goals refine ⟨?_, rfl⟩
    all_goals (congr 2 <;> simp)
  · have e : decide (512 ≤ p ∧ p ≤ 65536) = false := by simpa using h
    have e2 : decide (pw p) = false := by
      rw [decide_eq_false_iff_not]
      exact fun hq => h (pw_le hq)
    rw [e2]
    go_enter Tryd.func36, Tryd.ntmps36
    go_wp2_with (go_at_call 63; refine same_call (within_any _ _ _ _) ?_; rw [e])
    go_ret
    exact ⟨rfl, rfl⟩

/-- A cell as a value. -/
def cV (ka : Option Addr) (kn kc : Nat) (kd : Int) (va : Option Addr) (vn vc : Nat) (pg ct : Int) : Value := .agg #[.slice ka kn kc, .int .i64 kd, .slice va vn vc, .int .i64 pg, .int .i64 ct]
def cC (ka : Option Addr) (kn kc : Nat) (kd : Int) (va : Option Addr) (vn vc : Nat) (pg ct : Int) : Array Value := #[.slice ka kn kc, .int .i64 kd, .slice va vn vc, .int .i64 pg, .int .i64 ct]

set_option maxRecDepth 100000 in
theorem leadsNowhere_any (ka : Option Addr) (kn kc : Nat) (kd : Int) (va : Option Addr) (vn vc : Nat) (pg ct : Int) (w : World) :
    Calls Tryd.prog 77 #[.agg #[.slice ka kn kc, .int .i64 kd, .slice va vn vc, .int .i64 pg, .int .i64 ct]] w fun e w' => e = .returned (.bool (decide (pg = 0 ∧ ct = 0))) ∧ Below w.heap.size w w' := by
  go_enter Tryd.func77, Tryd.ntmps77
  go_wp2
  all_goals go_ret
  all_goals refine ⟨ret_bool ?_, (Below.refl _ _).alloc (Nat.le_refl _) _⟩
  all_goals (rw [Bool.eq_iff_iff]; first | (simp; done) | (simp; omega) | (simp_all; done) | (simp_all; omega))
instance (a b c d : Int) : Decidable (leadsN a b c d) := by unfold leadsN; infer_instance
set_option maxRecDepth 100000 in
theorem leads_any (ka : Option Addr) (kn kc : Nat) (kd : Int) (va : Option Addr) (vn vc : Nat) (pg ct lo hi : Int) (w : World) :
    Calls Tryd.prog 57 #[.agg #[.slice ka kn kc, .int .i64 kd, .slice va vn vc, .int .i64 pg, .int .i64 ct], .int .i64 lo, .int .i64 hi] w fun e w' => e = .returned (.bool (decide (leadsN pg ct lo hi))) ∧ Below w.heap.size w w' := by
  have hq : decide (leadsN pg ct lo hi) = (decide (2 ≤ pg ∧ pg ≤ 65535) && decide (lo ≤ ct ∧ ct ≤ hi)) := by rw [Bool.eq_iff_iff, decide_eq_true_iff]; simp [leadsN]
  rw [hq]
  cases h1 : decide (2 ≤ pg ∧ pg ≤ 65535)
  · go_enter Tryd.func57, Tryd.ntmps57
    go_wp2_with (go_at_call 63; refine same_call (within_any _ _ _ _) ?_; rw [h1])
    go_ret
    exact ⟨rfl, (Below.refl _ _).alloc (Nat.le_refl _) _⟩
  · have W2 := fun u => within_any ct lo hi u
    cases h2 : decide (lo ≤ ct ∧ ct ≤ hi)
    all_goals
      go_enter Tryd.func57, Tryd.ntmps57
      go_wp2_with (go_at_call 63; refine same_call (within_any _ _ _ _) ?_; first | rw [h1] | rw [h2])
      go_ret
      exact ⟨rfl, (Below.refl _ _).alloc (Nat.le_refl _) _⟩
end Go.Proofs.YtdmpbdppdcaabaaDoor
