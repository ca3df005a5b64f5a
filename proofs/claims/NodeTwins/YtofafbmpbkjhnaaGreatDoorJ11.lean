import Derived.Test.YtofafbmpbkjhnaaGreatDoorJ04
namespace Go.Proofs.YtofafbmpbkjhnaaGreatDoor
set_option maxRecDepth 100000
theorem rU_spec (l : List Int) : ∀ (p : Int) (i : Nat) (n : Int), Wf l → 0 ≤ n → n < 128 ^ i → i ≤ 9 →
  ((rU p l i n).2.2 ≠ 0 ∧ (rU p l i n).1 = 0 ∧ (rU p l i n).2.1 = 0) ∨
  ((rU p l i n).2.2 = 0 ∧ ∃ (k : Nat) (M : Int), 1 ≤ k ∧ k ≤ l.length ∧ (rU p l i n).2.1 = p + i + k ∧ 0 ≤ M ∧ (rU p l i n).1 = n + M * 128 ^ i ∧ (rU p l i n).1 < 18446744073709551616 ∧ l.take k = uB M ∧ (0 < i → 0 < M)) := by
 induction l with
 | nil => intro p i n _ _ _ _; left; simp [rU]
 | cons c r ih =>
  intro p i n hw h0 hn hi
  have hc := hw c (by simp)
  have hr : Wf r := fun x hx => hw x (by simp [hx])
  have hpos : (0 : Int) < 128 ^ i := Int.pow_pos (by omega)
  rw [rU]
  by_cases h9 : i = 9 ∧ 1 < c
  ·left; rw [if_pos h9]; simp
  ·rw [if_neg h9]
   by_cases h128 : 128 ≤ c
   ·rw [if_pos h128]
    have hi8 : i < 9 := by omega
    have hup := or_up n (c - 128) i h0 hn (by omega) (by omega) (.inl hi8)
    have hnn : 0 ≤ n + (c - 128) * 128 ^ i := by
     have : 0 ≤ (c - 128) * 128 ^ i := Int.mul_nonneg (by omega) (Int.le_of_lt hpos)
     omega
    rcases ih p (i + 1) (n + (c - 128) * 128 ^ i) hr hnn hup.2.1 (by omega) with h | ⟨he, k, M, hk1, hk2, ht, hM0, hN, hlt, htk, hMp⟩
    ·exact .inl h
    ·right
     have hMp' := hMp (by omega)
     refine ⟨he, k + 1, (c - 128) + 128 * M, by omega, by simp; omega, by rw [ht]; push_cast; omega, by omega, ?_, hlt, ?_, fun _ => by omega⟩
     ·rw [hN, Int.pow_succ, Int.add_mul, Int.mul_comm (128 ^ i) 128, ← Int.mul_assoc, Int.mul_comm M 128]
      omega
     ·have hMlt : (c - 128) + 128 * M < 18446744073709551616 := by
       have h1 : (c - 128) + 128 * M ≤ ((c - 128) + 128 * M) * 128 ^ i := by
        have := Int.mul_le_mul_of_nonneg_left (show (1 : Int) ≤ 128 ^ i by omega) (show 0 ≤ (c - 128) + 128 * M by omega)
        omega
       have h2 : (rU p r (i + 1) (n + (c - 128) * 128 ^ i)).1 = n + ((c - 128) + 128 * M) * 128 ^ i := by
        rw [hN, Int.pow_succ, Int.add_mul, Int.mul_comm (128 ^ i) 128, ← Int.mul_assoc, Int.mul_comm M 128]
        omega
       omega
      rw [uB_step (by omega) hMlt, List.take_succ_cons, htk]
      congr 1
      ·omega
      ·congr 1
       omega
   ·rw [if_neg h128]
    by_cases hz : c = 0 ∧ 0 < i
    ·left; rw [if_pos hz]; simp
    ·right
     rw [if_neg hz]
     have hup := or_up n c i h0 hn (by omega) (by omega) (by omega)
     have hlt : n + c * 128 ^ i < 18446744073709551616 := by
      rcases hup.2.2 with h | h
      ·have h2 : i = 0 ∨ i = 1 ∨ i = 2 ∨ i = 3 ∨ i = 4 ∨ i = 5 ∨ i = 6 ∨ i = 7 ∨ i = 8 := by omega
       have h3 := hup.2.1
       rcases h2 with rfl | rfl | rfl | rfl | rfl | rfl | rfl | rfl | rfl <;> simp at h3 ⊢ <;> omega
      ·exact h
     exact ⟨rfl, 1, c, by omega, by simp, by simp, by omega, rfl, hlt, by rw [zcr (by omega)]; rfl, fun h => by omega⟩
end Go.Proofs.YtofafbmpbkjhnaaGreatDoor
