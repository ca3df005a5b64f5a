/- The document's Compare answers as the program's does. -/
import Derived.Test.YtgiabigdockeoaaGreatDoorCmp3
namespace Go.Proofs.YtgiabigdockeoaaGreatDoor
open Go.RowKit

def sgB (a b : Bool) : Int := if a then -1 else if b then 1 else 0

theorem sign_any (a b : Bool) (w : World) : Calls Tryz.prog 41 #[.bool a, .bool b] w fun e w' => e = .returned (.int .i64 (sgB a b)) ∧ w' = w := by
  cases a <;> cases b
  all_goals
    go_enter Tryz.func41, Tryz.ntmps41
    go_wp2
    go_ret
    exact ⟨rfl, rfl⟩
theorem turned_any (n : Int) (w : World) (h0 : -9223372036854775808 ≤ n) (h1 : n ≤ 9223372036854775807) : Calls Tryz.prog 53 #[.int .i64 n] w fun e w' => e = .returned (.int .u64 (frk n)) ∧ w' = w := by
  by_cases hn : n < 0
  · have hx := not64 n h0 hn
    go_enter Tryz.func53, Tryz.ntmps53
    go_wp2
    go_ret
    refine ⟨?_, rfl⟩
    rw [frk, if_pos hn, ← hx]
    rfl
  · go_enter Tryz.func53, Tryz.ntmps53
    go_wp2
    go_ret
    refine ⟨?_, rfl⟩
    rw [frk, if_neg (by omega)]
    first | rfl | (congr 2; first | omega | (rw [IntKind.wrap_u64]; omega))

theorem sgn3_eq (a b : Int) : sgB (decide (a < b)) (decide (b < a)) = sgn3 a b := by simp [sgn3, sgB]

set_option maxHeartbeats 400000 in
set_option maxRecDepth 100000 in
theorem refcompare_of (k n : Int) (t : ByteArray) (so : Option Addr) (m c : Nat) (s : Its) (k' n' : Int) (t' : ByteArray) (so' : Option Addr) (m' c' : Nat) (s' : Its) (w : World) (hs : SlI w Tp so m c s) (hs' : SlI w Tp so' m' c' s')
    (hn : -9223372036854775808 ≤ n ∧ n ≤ 9223372036854775807) (hn' : -9223372036854775808 ≤ n' ∧ n' ≤ 9223372036854775807)
    (hrec : k = 7 → ∀ w', SlI w' Tp so m c s → SlI w' Tp so' m' c' s' → Calls Tryz.prog 24 #[.slice so m c, .slice so' m' c'] w' fun e w'' => e = .returned (.int .i64 (cmpL s s')) ∧ Below w'.heap.size w' w'') :
    Calls Tryz.prog 40 #[.agg #[.int .i64 k, .int .i64 n, .string t, .slice so m c], .agg #[.int .i64 k', .int .i64 n', .string t', .slice so' m' c']] w fun e w' => e = .returned (.int .i64 (cmp1 k n t s k' n' t' s')) ∧ Below w.heap.size w w' := by
  have b0 : ∀ o o', Below w.heap.size w ((w.alloc o).alloc o') := fun o o' => ((Below.refl _ _).alloc (Nat.le_refl _) o).alloc (by simp) o'
  have Hrec := hidden hrec
  have Hs := hidden hs
  have Hs' := hidden hs'
  clear hrec hs hs'
  by_cases hk : k = k'
  · subst hk
    have hkb : (k != k) = false := by simp
    by_cases h3 : k = 3
    · subst h3
      go_enter Tryz.func40, Tryz.ntmps40
      go_wp2_with (go_at_call 41; refine same_call (sign_any _ _ _) ?_)
      go_ret
      refine ⟨?_, b0 _ _⟩
      rw [show cmp1 3 n t s 3 n' t' s' = sgn3 n n' from by simp [cmp1], ← sgn3_eq]
      rfl
    by_cases h4 : k = 4
    · subst h4
      go_enter Tryz.func40, Tryz.ntmps40
      go_wp2_with fail
      go_quiet (first | (go_at_call 53; exact Calls.quiet_of_same (turned_any _ _ (by omega) (by omega))) | (go_at_call 41; exact Calls.quiet_of_same (sign_any _ _ _)))
      go_wp2
      go_ret
      refine ⟨?_, below_draws (b0 _ _) _⟩
      rw [show cmp1 4 n t s 4 n' t' s' = sgn3 (frk n) (frk n') from by simp [cmp1], ← sgn3_eq]
      rfl
    by_cases h56 : k = 5 ∨ k = 6
    · have e : cmp1 k n t s k n' t' s' = sgS t t' := by rcases h56 with rfl | rfl <;> simp [cmp1]
      rw [e]
      rcases h56 with rfl | rfl
      all_goals
        go_enter Tryz.func40, Tryz.ntmps40
        go_wp2_with (go_at_call 41; refine same_call (sign_any _ _ _) ?_)
        go_ret
        refine ⟨?_, b0 _ _⟩
        simp [sgS, sgB]
        try (split <;> simp_all)
    by_cases h7 : k = 7
    · subst h7
      have HR := hidden (Hrec.out rfl)
      go_enter Tryz.func40, Tryz.ntmps40
      go_wp2_with (go_at_call 24; refine (HR.out _ (Hs.out.on (Nat.le_refl _) (b0 _ _)) (Hs'.out.on (Nat.le_refl _) (b0 _ _))).mono ?_; rintro e w1 ⟨rfl, hb1⟩)
      go_ret
      exact ⟨by simp [cmp1], (b0 _ _).trans (hb1.mono (b0 _ _).size)⟩
    · have h5 : ¬ k = 5 := fun h => h56 (.inl h)
      have h6 : ¬ k = 6 := fun h => h56 (.inr h)
      go_enter Tryz.func40, Tryz.ntmps40
      go_wp2_with fail
      go_ret
      exact ⟨by simp [cmp1, h3, h4, h5, h6, h7], b0 _ _⟩
  · have hkb : (k != k') = true := by simp [hk]
    go_enter Tryz.func40, Tryz.ntmps40
    go_wp2_with (go_at_call 41; refine same_call (sign_any _ _ _) ?_)
    go_ret
    refine ⟨?_, b0 _ _⟩
    rw [show cmp1 k n t s k' n' t' s' = sgn3 k k' from by simp [cmp1, hk]]
    by_cases hlt : k < k'
    · simp [sgn3, sgB, hlt]
    · simp [sgn3, sgB, hlt, show k' < k by omega]
end Go.Proofs.YtgiabigdockeoaaGreatDoor
