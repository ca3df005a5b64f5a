/- The order of items, turned round; each with itself. -/
import Derived.Test.YtpiijmionafmcaaGreatDoorRefCmp2
import Derived.Sort.Walk0
namespace Go.Proofs.YtpiijmionafmcaaGreatDoor
open Go.RowKit

set_option maxRecDepth 100000 in
theorem bytesLess_total (a b : List UInt8) : (Op.bytesLess a b = true ∧ Op.bytesLess b a = false ∧ a ≠ b) ∨ (Op.bytesLess a b = false ∧ Op.bytesLess b a = true ∧ a ≠ b) ∨ (Op.bytesLess a b = false ∧ Op.bytesLess b a = false ∧ a = b) := by
  rw [bytesLess_eq, bytesLess_eq]
  by_cases h1 : a < b
  · have h2 : ¬ b < a := List.lt_asymm h1
    have h3 : a ≠ b := by rintro rfl; exact List.lt_irrefl _ h1
    simp [h1, h2, h3]
  · by_cases h2 : b < a
    · have h3 : a ≠ b := by rintro rfl; exact List.lt_irrefl _ h2
      simp [h1, h2, h3]
    · have h3 : a = b := List.le_antisymm (List.not_lt.1 h2) (List.not_lt.1 h1)
      subst h3
      simp [h1]
set_option maxRecDepth 100000 in
theorem sgS_turn (a b : ByteArray) : sgS b a = -sgS a b := by
  rcases bytesLess_total a.toList b.toList with ⟨h1, h2, h3⟩ | ⟨h1, h2, h3⟩ | ⟨h1, h2, h3⟩
  · simp [sgS, h1, h2, Ne.symm h3]
  · simp [sgS, h1, h2, h3]
  · rw [h3] at h1
    simp [sgS, h1, h3]
set_option maxRecDepth 100000 in
theorem sgn3_self (a : Int) : sgn3 a a = 0 := by simp [sgn3]
set_option maxRecDepth 100000 in
theorem sgS_self (a : ByteArray) : sgS a a = 0 := by
  have := sgS_turn a a
  omega

set_option maxRecDepth 100000 in
theorem cmpL_turn : ∀ a b : Its, cmpL b a = -cmpL a b
  | .nil, .nil => by simp [cmpL]
  | .nil, .cons _ _ _ _ _ => by simp [cmpL]
  | .cons _ _ _ _ _, .nil => by simp [cmpL]
  | .cons k n t s r, .cons k' n' t' s' r' => by
    have hs := cmpL_turn s s'
    have hr := cmpL_turn r r'
    have h1 : cmp1 k' n' t' s' k n t s = -cmp1 k n t s k' n' t' s' := by
      by_cases hk : k = k'
      · subst hk
        simp only [cmp1, ne_eq, not_true_eq_false, if_false]
        split
        · exact sgn3_turn _ _
        · split
          · exact sgn3_turn _ _
          · split
            · exact sgS_turn _ _
            · split
              · exact hs
              · rfl
      · have hk' : ¬ k' = k := fun h => hk h.symm
        simp only [cmp1, ne_eq, hk, hk', not_false_eq_true, if_true]
        exact sgn3_turn _ _
    rw [cmpL_cons, cmpL_cons, h1, hr]
    by_cases h0 : cmp1 k n t s k' n' t' s' = 0
    · simp [h0]
    · simp [h0]
set_option maxRecDepth 100000 in
theorem cmpL_self (a : Its) : cmpL a a = 0 := by
  have := cmpL_turn a a
  omega
set_option maxRecDepth 100000 in
theorem cmpL_range : ∀ a b : Its, -1 ≤ cmpL a b ∧ cmpL a b ≤ 1
  | .nil, .nil => by simp [cmpL]
  | .nil, .cons _ _ _ _ _ => by simp [cmpL]
  | .cons _ _ _ _ _, .nil => by simp [cmpL]
  | .cons k n t s r, .cons k' n' t' s' r' => by
    have hs := cmpL_range s s'
    have hr := cmpL_range r r'
    have g : ∀ x y, -1 ≤ sgn3 x y ∧ sgn3 x y ≤ 1 := by intro x y; simp only [sgn3]; split <;> (try split) <;> omega
    have g2 : -1 ≤ sgS t t' ∧ sgS t t' ≤ 1 := by simp only [sgS]; split <;> (try split) <;> omega
    have h1 : -1 ≤ cmp1 k n t s k' n' t' s' ∧ cmp1 k n t s k' n' t' s' ≤ 1 := by
      simp only [cmp1]
      split
      · exact g _ _
      · split
        · exact g _ _
        · split
          · exact g _ _
          · split
            · exact g2
            · split
              · exact hs
              · omega
    rw [cmpL_cons]
    split
    · exact h1
    · exact hr
end Go.Proofs.YtpiijmionafmcaaGreatDoor
