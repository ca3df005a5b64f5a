/- What Between and Behind come to, in the order of texts. -/
import Derived.Test.YtfofkgdhepdjeabDoorLive
import Derived.Test.YtfofkgdhepdjeabDoorOrder
namespace Go.Proofs.YtfofkgdhepdjeabDoor
open Go.RowKit

theorem lcp_take (a b : List Int) : a.take (lcp a b) = b.take (lcp a b) := by
  have h := lcp_le a b
  apply List.ext_getElem?
  intro i
  by_cases hi : i < lcp a b
  · have := lcp_alike a b i hi
    rw [List.getElem?_take_of_lt hi, List.getElem?_take_of_lt hi, List.getElem?_eq_getElem (by omega), List.getElem?_eq_getElem (by omega)]
    simpa [List.getD, List.getElem?_eq_getElem (show i < a.length by omega), List.getElem?_eq_getElem (show i < b.length by omega)] using this
  · rw [List.getElem?_eq_none (by simp; omega), List.getElem?_eq_none (by simp; omega)]
theorem ord_at (a b : List Int) (k : Nat) (h : a.take k = b.take k) : ordL a b = ordL (a.drop k) (b.drop k) := by
  have e := ordL_pre (a.take k) (a.drop k) (b.drop k)
  rw [List.take_append_drop, h, List.take_append_drop] at e
  exact e
theorem ord_split (a b : List Int) : ordL a b = ordL (a.drop (lcp a b)) (b.drop (lcp a b)) := ord_at a b _ (lcp_take a b)
/-- How two texts stand, told by the first place at which they part. -/
theorem ord_cases (a b : List Int) : (lcp a b < b.length ∧ (a.length ≤ lcp a b ∨ a.getD (lcp a b) 0 < b.getD (lcp a b) 0) ∧ ordL a b = -1) ∨
    ((lcp a b = b.length ∨ lcp a b < a.length ∧ lcp a b < b.length ∧ b.getD (lcp a b) 0 < a.getD (lcp a b) 0) ∧ 0 ≤ ordL a b) := by
  have h := lcp_le a b
  rw [ord_split]
  by_cases hb : lcp a b < b.length
  · by_cases ha : lcp a b < a.length
    · have hne := lcp_next a b ha hb
      rw [drop_cons a _ ha, drop_cons b _ hb, ordL]
      rcases Int.lt_or_gt_of_ne hne with hlt | hgt
      · exact .inl ⟨hb, .inr hlt, by rw [if_pos hlt]⟩
      · exact .inr ⟨.inr ⟨ha, hb, hgt⟩, by rw [if_neg (by omega), if_pos hgt]; omega⟩
    · rw [List.drop_eq_nil_of_le (show a.length ≤ lcp a b by omega), drop_cons b _ hb, ordL]
      exact .inl ⟨hb, .inl (by omega), rfl⟩
  · rw [List.drop_eq_nil_of_le (show b.length ≤ lcp a b by omega)]
    refine .inr ⟨.inl (by omega), ?_⟩
    cases a.drop (lcp a b) <;> simp [ordL]
theorem between_facts (a b : List Int) (hb : lcp a b < b.length) (h : a.length ≤ lcp a b ∨ a.getD (lcp a b) 0 < b.getD (lcp a b) 0) :
    ordL a (b.take (lcp a b + 1)) = -1 ∧ ordL (b.take (lcp a b + 1)) b ≤ 0 ∧ 0 ≤ ordL a (b.take (lcp a b)) := by
  have hle := lcp_le a b
  have hc : b.take (lcp a b + 1) = b.take (lcp a b) ++ [b.getD (lcp a b) 0] := take_snoc b _ hb
  have hlt : (b.take (lcp a b)).length = lcp a b := by simp; omega
  have hck : (b.take (lcp a b + 1)).take (lcp a b) = b.take (lcp a b) := by rw [List.take_take, Nat.min_eq_left (by omega)]
  have hcd : (b.take (lcp a b + 1)).drop (lcp a b) = [b.getD (lcp a b) 0] := by
    rw [hc, List.drop_append_of_le_length (by omega), List.drop_eq_nil_of_le (by omega)]
    rfl
  have hpd : (b.take (lcp a b)).drop (lcp a b) = [] := List.drop_eq_nil_of_le (by omega)
  have h1 : ordL a (b.take (lcp a b + 1)) = ordL (a.drop (lcp a b)) [b.getD (lcp a b) 0] := by
    rw [ord_at a (b.take (lcp a b + 1)) (lcp a b) (by rw [hck]; exact lcp_take a b), hcd]
  have h2 : ordL (b.take (lcp a b + 1)) b = ordL [b.getD (lcp a b) 0] (b.drop (lcp a b)) := by
    rw [ord_at (b.take (lcp a b + 1)) b (lcp a b) hck, hcd]
  have h3 : ordL a (b.take (lcp a b)) = ordL (a.drop (lcp a b)) [] := by
    rw [ord_at a (b.take (lcp a b)) (lcp a b) (by rw [List.take_take, Nat.min_self]; exact lcp_take a b), hpd]
  refine ⟨?_, ?_, ?_⟩
  · rw [h1]
    by_cases hal : a.length ≤ lcp a b
    · rw [List.drop_eq_nil_of_le hal, ordL]
    · rw [drop_cons a _ (by omega), ordL, if_pos (by omega)]
  · rw [h2, drop_cons b _ hb]
    generalize b.getD (lcp a b) 0 = y
    simp only [ordL, Int.lt_irrefl, if_false]
    cases b.drop (lcp a b + 1) <;> simp [ordL]
  · rw [h3]
    cases a.drop (lcp a b) <;> simp [ordL]
/-- Where the bytes FF at the end begin. -/
theorem strip (l : List Int) : ∀ n, n ≤ l.length → (∀ i, i < n → l.getD i 0 = 255) ∨ ∃ k, 0 < k ∧ k ≤ n ∧ l.getD (k - 1) 0 ≠ 255 ∧ ∀ i, k ≤ i → i < n → l.getD i 0 = 255 := by
  intro n
  induction n with
  | zero => intro _; left; intro i hi; omega
  | succ n ih =>
    intro hn
    by_cases h : l.getD n 0 = 255
    · rcases ih (by omega) with h1 | ⟨k, h1, h2, h3, h4⟩
      · left
        intro i hi
        by_cases hin : i = n
        · rw [hin]; exact h
        · exact h1 i (by omega)
      · refine .inr ⟨k, h1, by omega, h3, fun i hi1 hi2 => ?_⟩
        by_cases hin : i = n
        · rw [hin]; exact h
        · exact h4 i hi1 (by omega)
    · exact .inr ⟨n + 1, by omega, Nat.le_refl _, by simpa using h, fun i h1 h2 => by omega⟩
/-- What stands behind all that begin so. -/
theorem behind_facts (a more : List Int) (k : Nat) (h0 : 0 < k) (hk : k ≤ a.length) :
    ordL (a ++ more) ((a.take k).set (k - 1) (a.getD (k - 1) 0 + 1)) = -1 ∧ ((a.take k).set (k - 1) (a.getD (k - 1) 0 + 1)).set (k - 1) (a.getD (k - 1) 0) = a.take k ∧ ((a.take k).set (k - 1) (a.getD (k - 1) 0 + 1)).getD (k - 1) 0 = a.getD (k - 1) 0 + 1 := by
  obtain ⟨j, rfl⟩ : ∃ j, k = j + 1 := ⟨k - 1, by omega⟩
  simp only [Nat.add_sub_cancel]
  have ht := take_snoc a j (by omega)
  have hl : (a.take j).length = j := by simp; omega
  have ha : a = a.take j ++ (a.getD j 0 :: a.drop (j + 1)) := by rw [← drop_cons a j (by omega), List.take_append_drop]
  have hz : (a.take (j + 1)).set j (a.getD j 0 + 1) = a.take j ++ [a.getD j 0 + 1] := by
    rw [ht, List.set_append_right _ _ (by omega), hl]
    simp
  rw [hz]
  refine ⟨?_, ?_, ?_⟩
  · have h1 : a ++ more = a.take j ++ (a.getD j 0 :: (a.drop (j + 1) ++ more)) := by
      conv => lhs; rw [ha]
      simp
    rw [h1, ordL_pre, ordL, if_pos (by omega)]
  · rw [List.set_append_right _ _ (by omega), hl, ht]
    simp
  · rw [List.getD_eq_getElem?_getD, List.getElem?_append_right (by omega), hl]
    simp
theorem behind_wf (a : List Int) (k : Nat) (h : Wf a) (hne : a.getD (k - 1) 0 ≠ 255) : Wf ((a.take k).set (k - 1) (a.getD (k - 1) 0 + 1)) := by
  intro x hx
  rcases List.mem_or_eq_of_mem_set hx with hx | rfl
  · exact h x (List.mem_of_mem_take hx)
  · have := h.getD (k - 1)
    omega
end Go.Proofs.YtfofkgdhepdjeabDoor
