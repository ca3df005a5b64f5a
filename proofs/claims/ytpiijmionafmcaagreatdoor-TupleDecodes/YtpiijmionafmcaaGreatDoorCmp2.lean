/- tuple.Compare: what it answers of items in memory. -/
import Derived.Test.YtpiijmionafmcaaGreatDoorCheck
import Derived.Test.YtpiijmionafmcaaGreatDoorCmp
import Derived.Handy
namespace Go.Proofs.YtpiijmionafmcaaGreatDoor
open Go.RowKit

set_option maxRecDepth 100000 in
theorem below_draws {B : Nat} {a w : World} (h : Below B a w) (q : Nat) : Below B a (w.drewN q) := h.trans ⟨rfl, rfl, rfl, Nat.le_refl _, fun _ _ => rfl⟩

/-- How two rows of items stand to one another. -/
def cmpL : Its → Its → Int
  | .nil, .nil => 0
  | .nil, .cons _ _ _ _ _ => -1
  | .cons _ _ _ _ _, .nil => 1
  | .cons k n t s r, .cons k' n' t' s' r' =>
    let c := if k ≠ k' then sgn3 k k' else if k = 3 then sgn3 n n' else if k = 4 then sgn3 (frk n) (frk n') else if k = 5 ∨ k = 6 then sgS t t' else if k = 7 then cmpL s s' else 0
    if c ≠ 0 then c else cmpL r r'
/-- Of two items. -/
def cmp1 (k n : Int) (t : ByteArray) (s : Its) (k' n' : Int) (t' : ByteArray) (s' : Its) : Int :=
  if k ≠ k' then sgn3 k k' else if k = 3 then sgn3 n n' else if k = 4 then sgn3 (frk n) (frk n') else if k = 5 ∨ k = 6 then sgS t t' else if k = 7 then cmpL s s' else 0
set_option maxRecDepth 100000 in
theorem cmpL_cons (k n : Int) (t : ByteArray) (s r : Its) (k' n' : Int) (t' : ByteArray) (s' r' : Its) :
    cmpL (.cons k n t s r) (.cons k' n' t' s' r') = if cmp1 k n t s k' n' t' s' ≠ 0 then cmp1 k n t s k' n' t' s' else cmpL r r' := by
  rw [cmpL]; rfl

set_option maxRecDepth 100000 in
set_option maxHeartbeats 400000 in
theorem compareItem_of (k n : Int) (t : ByteArray) (so : Option Addr) (m c : Nat) (s : Its) (k' n' : Int) (t' : ByteArray) (so' : Option Addr) (m' c' : Nat) (s' : Its) (w : World) (hs : SlI w Tp so m c s) (hs' : SlI w Tp so' m' c' s')
    (hn : -9223372036854775808 ≤ n ∧ n ≤ 9223372036854775807) (hn' : -9223372036854775808 ≤ n' ∧ n' ≤ 9223372036854775807)
    (hrec : k = 7 → ∀ w', SlI w' Tp so m c s → SlI w' Tp so' m' c' s' → Calls Tryz.prog 13 #[.slice so m c, .slice so' m' c'] w' fun e w'' => e = .returned (.int .i64 (cmpL s s')) ∧ Below w'.heap.size w' w'') :
    Calls Tryz.prog 23 #[.agg #[.int .i64 k, .int .i64 n, .string t, .slice so m c], .agg #[.int .i64 k', .int .i64 n', .string t', .slice so' m' c']] w fun e w' => e = .returned (.int .i64 (cmp1 k n t s k' n' t' s')) ∧ Below w.heap.size w w' := by
  have b0 : ∀ o o', Below w.heap.size w ((w.alloc o).alloc o') := fun o o' => ((Below.refl _ _).alloc (Nat.le_refl _) o).alloc (by simp) o'
  have Hrec := hidden hrec
  have Hs := hidden hs
  have Hs' := hidden hs'
  clear hrec hs hs'
  by_cases hk : k = k'
  · subst hk
    have hkb : (k != k) = false := by simp
    by_cases h3 : k = 3
    · subst h3
      go_enter Tryz.func23, Tryz.ntmps23
      go_wp2_with (go_at_call 33; refine same_call (cmpInt64_any _ _ _) ?_)
      go_ret
      exact ⟨by simp [cmp1], b0 _ _⟩
    by_cases h4 : k = 4
    · subst h4
      go_enter Tryz.func23, Tryz.ntmps23
      go_wp2_with fail
      go_quiet (first | (go_at_call 35; exact Calls.quiet_of_same (floatRank_any _ _ (by omega) (by omega))) | (go_at_call 34; exact Calls.quiet_of_same (cmpUint64_any _ _ _)))
      go_wp2
      go_ret
      exact ⟨by simp [cmp1], below_draws (b0 _ _) _⟩
    by_cases h56 : k = 5 ∨ k = 6
    · rcases h56 with rfl | rfl
      all_goals
        go_enter Tryz.func23, Tryz.ntmps23
        go_wp2_with (go_at_call 36; refine same_call (cmpString_any _ _ _) ?_)
        go_ret
        exact ⟨by simp [cmp1], b0 _ _⟩
    by_cases h7 : k = 7
    · subst h7
      have HR := hidden (Hrec.out rfl)
      go_enter Tryz.func23, Tryz.ntmps23
      go_wp2_with (go_at_call 13; refine (HR.out _ (Hs.out.on (Nat.le_refl _) (b0 _ _)) (Hs'.out.on (Nat.le_refl _) (b0 _ _))).mono ?_; rintro e w1 ⟨rfl, hb1⟩)
      go_ret
      exact ⟨by simp [cmp1], (b0 _ _).trans (hb1.mono (b0 _ _).size)⟩
    · have h5 : ¬ k = 5 := fun h => h56 (.inl h)
      have h6 : ¬ k = 6 := fun h => h56 (.inr h)
      go_enter Tryz.func23, Tryz.ntmps23
      go_wp2_with fail
      go_ret
      exact ⟨by simp [cmp1, h3, h4, h5, h6, h7], b0 _ _⟩
  · have hkb : (k != k') = true := by simp [hk]
    go_enter Tryz.func23, Tryz.ntmps23
    go_wp2_with (go_at_call 32; refine same_call (cmpInt_any _ _ _) ?_)
    go_ret
    exact ⟨by simp [cmp1, hk], b0 _ _⟩
end Go.Proofs.YtpiijmionafmcaaGreatDoor
