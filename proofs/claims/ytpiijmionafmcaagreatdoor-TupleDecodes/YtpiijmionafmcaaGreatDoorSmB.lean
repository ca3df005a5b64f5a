/- Items in one order; what begins with some items. -/
import Derived.Test.YtpiijmionafmcaaGreatDoorSmA
namespace Go.Proofs.YtpiijmionafmcaaGreatDoor
open Go.RowKit

/-- Of three, how the first stands to the last. -/
def Ch (x y z : Int) : Prop := (x ≤ 0 → y ≤ 0 → z ≤ 0 ∧ (x < 0 ∨ y < 0 → z < 0)) ∧ (x = 0 → y = 0 → z = 0)
set_option maxRecDepth 100000 in
theorem Ch.lex {x y z u v g : Int} (h : Ch x y z) (k : Ch u v g) : Ch (lex x u) (lex y v) (lex z g) := by
  obtain ⟨h1, h2⟩ := h
  obtain ⟨k1, k2⟩ := k
  by_cases ex : x = 0
  · rw [ex, lex_zero]
    by_cases ey : y = 0
    · rw [h2 ex ey, ey, lex_zero, lex_zero]
      exact ⟨k1, k2⟩
    · rw [lex_ne _ ey]
      refine ⟨fun _ hy => ?_, fun _ hy => absurd hy ey⟩
      have := (h1 (by omega) hy).2 (.inr (by omega))
      rw [lex_ne _ (by omega)]
      exact ⟨by omega, fun _ => this⟩
  · rw [lex_ne _ ex]
    refine ⟨fun hx hy => ?_, fun hx => absurd hx ex⟩
    have hy2 : y ≤ 0 := by
      by_cases ey : y = 0
      · omega
      · rw [lex_ne _ ey] at hy
        exact hy
    have := (h1 hx hy2).2 (.inl (by omega))
    rw [lex_ne _ (by omega)]
    exact ⟨by omega, fun _ => this⟩
set_option maxRecDepth 100000 in
theorem sgn3_le (a b : Int) : (sgn3 a b ≤ 0 ↔ a ≤ b) ∧ (sgn3 a b < 0 ↔ a < b) ∧ (sgn3 a b = 0 ↔ a = b) := by
  unfold sgn3
  split
  · omega
  · split <;> omega
set_option maxRecDepth 100000 in
theorem Ch.num (x y z : Int) : Ch (sgn3 x y) (sgn3 y z) (sgn3 x z) := by
  have u1 := sgn3_le x y
  have u2 := sgn3_le y z
  have u3 := sgn3_le x z
  unfold Ch
  rw [u1.1, u2.1, u3.1, u1.2.1, u2.2.1, u3.2.1, u1.2.2, u2.2.2, u3.2.2]
  omega
set_option maxRecDepth 100000 in
theorem Ch.right (x : Int) {y : Int} (h : y ≠ 0) : Ch x y y := ⟨fun _ h2 => ⟨h2, fun _ => by omega⟩, fun _ h2 => h2⟩
set_option maxRecDepth 100000 in
theorem Ch.left {x : Int} (y : Int) (h : x ≠ 0) : Ch x y x := ⟨fun h1 _ => ⟨h1, fun _ => by omega⟩, fun h1 _ => h1⟩
set_option maxRecDepth 100000 in
theorem ordL_chain : ∀ (a b c : List Int), Ch (ordL a b) (ordL b c) (ordL a c)
  | [], [], [] => by simp [ordL, Ch]
  | [], [], _ :: _ => by simp [ordL, Ch]
  | [], _ :: _, [] => by simp [ordL, Ch]
  | [], _ :: _, _ :: _ => by simp [ordL, Ch]
  | _ :: _, [], [] => by simp [ordL, Ch]
  | _ :: _, [], _ :: _ => by simp [ordL, Ch]
  | _ :: _, _ :: _, [] => by simp [ordL, Ch]
  | x :: a, y :: b, z :: c => by
    rw [ord_head, ord_head, ord_head]
    exact (Ch.num x y z).lex (ordL_chain a b c)
set_option maxRecDepth 100000 in
theorem cmp1_ne (k n : Int) (t : ByteArray) (s : Its) (k' n' : Int) (t' : ByteArray) (s' : Its) (h : ¬ k = k') : cmp1 k n t s k' n' t' s' = sgn3 k k' ∧ sgn3 k k' ≠ 0 := by
  refine ⟨?_, fun e => h (sgn3_is e)⟩
  unfold cmp1
  rw [if_pos h]
set_option maxRecDepth 100000 in
theorem cmp1_chain (k n : Int) (t : ByteArray) (s : Its) (k' n' : Int) (t' : ByteArray) (s' : Its) (k2 n2 : Int) (t2 : ByteArray) (s2 : Its) (hs : Ch (cmpL s s') (cmpL s' s2) (cmpL s s2)) :
    Ch (cmp1 k n t s k' n' t' s') (cmp1 k' n' t' s' k2 n2 t2 s2) (cmp1 k n t s k2 n2 t2 s2) := by
  by_cases e1 : k = k'
  · subst e1
    by_cases e2 : k = k2
    · subst e2
      unfold cmp1
      simp only [ne_eq, not_true_eq_false, if_false]
      by_cases h3 : k = 3
      · rw [if_pos h3, if_pos h3, if_pos h3]
        exact Ch.num _ _ _
      · rw [if_neg h3, if_neg h3, if_neg h3]
        by_cases h4 : k = 4
        · rw [if_pos h4, if_pos h4, if_pos h4]
          exact Ch.num _ _ _
        · rw [if_neg h4, if_neg h4, if_neg h4]
          by_cases h5 : k = 5 ∨ k = 6
          · rw [if_pos h5, if_pos h5, if_pos h5, sgS_ord, sgS_ord, sgS_ord]
            exact ordL_chain _ _ _
          · rw [if_neg h5, if_neg h5, if_neg h5]
            by_cases h7 : k = 7
            · rw [if_pos h7, if_pos h7, if_pos h7]
              exact hs
            · rw [if_neg h7, if_neg h7, if_neg h7]
              simp [Ch]
    · obtain ⟨q1, q2⟩ := cmp1_ne k n' t' s' k2 n2 t2 s2 e2
      obtain ⟨q3, _⟩ := cmp1_ne k n t s k2 n2 t2 s2 e2
      rw [q1, q3]
      exact Ch.right _ q2
  · obtain ⟨q1, q2⟩ := cmp1_ne k n t s k' n' t' s' e1
    by_cases e2 : k' = k2
    · subst e2
      obtain ⟨q3, _⟩ := cmp1_ne k n t s k' n2 t2 s2 e1
      rw [q1, q3]
      exact Ch.left _ q2
    · obtain ⟨q3, q4⟩ := cmp1_ne k' n' t' s' k2 n2 t2 s2 e2
      rw [q1, q3]
      by_cases e3 : k = k2
      · subst e3
        have u1 := sgn3_le k k'
        have u2 := sgn3_le k' k
        refine ⟨fun h1 h2 => ?_, fun h1 _ => absurd h1 q2⟩
        rw [u1.1] at h1
        rw [u2.1] at h2
        omega
      · obtain ⟨q5, _⟩ := cmp1_ne k n t s k2 n2 t2 s2 e3
        rw [q5]
        exact Ch.num _ _ _
set_option maxRecDepth 100000 in
/-- ONE ORDER. -/
theorem cmpL_chain : ∀ (a b c : Its), Ch (cmpL a b) (cmpL b c) (cmpL a c)
  | .nil, .nil, .nil => by simp [cmpL, Ch]
  | .nil, .nil, .cons _ _ _ _ _ => by simp [cmpL, Ch]
  | .nil, .cons _ _ _ _ _, .nil => by simp [cmpL, Ch]
  | .nil, .cons _ _ _ _ _, .cons _ _ _ _ _ => by simp [cmpL, Ch]
  | .cons _ _ _ _ _, .nil, .nil => by simp [cmpL, Ch]
  | .cons _ _ _ _ _, .nil, .cons _ _ _ _ _ => by simp [cmpL, Ch]
  | .cons _ _ _ _ _, .cons _ _ _ _ _, .nil => by simp [cmpL, Ch]
  | .cons k n t s r, .cons k' n' t' s' r', .cons k2 n2 t2 s2 r2 => by
    rw [cmpL_cons, cmpL_cons, cmpL_cons]
    exact (cmp1_chain k n t s k' n' t' s' k2 n2 t2 s2 (cmpL_chain s s' s2)).lex (cmpL_chain r r' r2)
set_option maxRecDepth 100000 in
theorem cmpL_one (a b c : Its) : ¬ ((cmpL a b ≤ 0 ∧ cmpL b c ≤ 0 ∧ 0 < cmpL a c) ∨ (0 ≤ cmpL a b ∧ 0 ≤ cmpL b c ∧ cmpL a c < 0)) := by
  rintro (⟨h1, h2, h3⟩ | ⟨h1, h2, h3⟩)
  · have := ((cmpL_chain a b c).1 h1 h2).1
    omega
  · have t1 := cmpL_turn a b
    have t2 := cmpL_turn b c
    have t3 := cmpL_turn a c
    have := ((cmpL_chain c b a).1 (by omega) (by omega)).1
    omega
/-- The first m of a row. -/
def Its.fst : Its → Nat → Its
  | _, 0 => .nil
  | .nil, _ + 1 => .nil
  | .cons k n t s r, m + 1 => .cons k n t s (r.fst m)
set_option maxRecDepth 100000 in
theorem take_EI : ∀ (a : Its) (m : Nat), ∃ r, EI a = EI (a.fst m) ++ r
  | a, 0 => ⟨EI a, by simp [Its.fst, EI]⟩
  | .nil, _ + 1 => ⟨[], by simp [Its.fst, EI]⟩
  | .cons k n t s r, m + 1 => by
    obtain ⟨q, h⟩ := take_EI r m
    refine ⟨q, ?_⟩
    rw [Its.fst, EI_cons, EI_cons, h]
    simp
set_option maxRecDepth 100000 in
/-- A ROW BEGINS WITH SOME ITEMS just where its bytes begin with theirs. -/
theorem begins_iff : ∀ (h a : Its), h.Kd → a.Kd → h.Ok → a.Ok → ((∃ r, EI a = EI h ++ r) ↔ (h.len ≤ a.len ∧ cmpL (a.fst h.len) h = 0))
  | .nil, a, _, _, _, _ => by
    refine ⟨fun _ => ⟨Nat.zero_le _, ?_⟩, fun _ => ⟨EI a, by simp [EI]⟩⟩
    cases a <;> simp [Its.len, Its.fst, cmpL]
  | .cons k n t s r, .nil, _, _, _, _ => by
    refine ⟨fun ⟨q, hq⟩ => ?_, fun ⟨h, _⟩ => ?_⟩
    · rw [EI_cons] at hq
      simp [EI] at hq
    · simp [Its.len] at h
  | .cons k n t s r, .cons k' n' t' s' r', hk, ak, ho, ao => by
    have hit : ∀ p q, ordL (((16 + k') :: pay k' n' t' s') ++ p) (((16 + k) :: pay k n t s) ++ q) = lex (cmp1 k' n' t' s' k n t s) (ordL p q) := fun p q =>
      item_order k' n' t' s' k n t s p q ao.2.1 ho.2.1 (fun h7 h7' p q hp hq => items_order s' s p q (ak.2.1 h7) (hk.2.1 h7') ao.2.2.2.2.1 ho.2.2.2.2.1 hp hq)
    have ih := begins_iff r r' hk.2.2 ak.2.2 ho.2.2.2.2.2 ao.2.2.2.2.2
    rw [Its.len, Its.len, Its.fst, cmpL_cons, EI_cons, EI_cons]
    constructor
    · rintro ⟨q, hq⟩
      have h1 := hit (EI r') (EI r ++ q)
      rw [hq, List.append_assoc, ordL_self] at h1
      have hc : cmp1 k' n' t' s' k n t s = 0 := by
        by_cases e : cmp1 k' n' t' s' k n t s = 0
        · exact e
        · rw [lex_ne _ e] at h1
          exact absurd h1.symm e
      have h2 := hit [] []
      rw [hc, lex_zero, ordL_self, List.append_nil, List.append_nil] at h2
      have h3 := ordL_eq _ _ h2
      rw [h3, List.append_assoc] at hq
      have h4 := List.append_cancel_left hq
      obtain ⟨h5, h6⟩ := ih.1 ⟨q, h4⟩
      refine ⟨by omega, ?_⟩
      rw [if_neg (by simp [hc])]
      exact h6
    · rintro ⟨h1, h2⟩
      have hc : cmp1 k' n' t' s' k n t s = 0 := by
        by_cases e : cmp1 k' n' t' s' k n t s = 0
        · exact e
        · rw [if_pos e] at h2
          exact h2
      rw [if_neg (by simp [hc])] at h2
      obtain ⟨q, hq⟩ := ih.2 ⟨by omega, h2⟩
      have h2 := hit [] []
      rw [hc, lex_zero, ordL_self, List.append_nil, List.append_nil] at h2
      exact ⟨q, by rw [ordL_eq _ _ h2, hq, List.append_assoc]⟩
set_option maxRecDepth 100000 in
theorem hiB_more (c : Int) (r : List Int) (h : lastNe r ≠ 0) : lastNe (c :: r) ≠ 0 ∧ hiB (c :: r) = c :: hiB r := by
  have e : lastNe (c :: r) = lastNe r + 1 := by rw [lastNe, if_pos h]
  refine ⟨by omega, ?_⟩
  unfold hiB
  rw [if_neg (by omega), if_neg h, e]
  obtain ⟨m, hm⟩ : ∃ m, lastNe r = m + 1 := ⟨lastNe r - 1, by omega⟩
  rw [hm]
  simp
set_option maxRecDepth 100000 in
theorem hiB_last (c : Int) (r : List Int) (h : lastNe r = 0) (hc : c ≠ 255) : lastNe (c :: r) ≠ 0 ∧ hiB (c :: r) = [c + 1] := by
  have e : lastNe (c :: r) = 1 := by rw [lastNe, if_neg (by omega), if_pos hc]
  refine ⟨by omega, ?_⟩
  unfold hiB
  rw [if_neg (by omega), e]
  simp
set_option maxRecDepth 100000 in
theorem range_out : ∀ (lo x : List Int), Wf x → 0 ≤ ordL x lo → (¬ ∃ r, x = lo ++ r) → lastNe lo ≠ 0 ∧ 0 ≤ ordL x (hiB lo)
  | [], x, _, _, h => absurd ⟨x, rfl⟩ h
  | c :: lo, [], _, h, _ => by simp [ordL] at h
  | c :: lo, d :: x, hx, h, hn => by
    have hd := hx d (by simp)
    have hx' : Wf x := fun z hz => hx z (by simp [hz])
    rw [ordL] at h
    by_cases h1 : d < c
    · rw [if_pos h1] at h
      omega
    · rw [if_neg h1] at h
      by_cases h2 : c < d
      · by_cases hz : lastNe lo = 0
        · obtain ⟨e1, e2⟩ := hiB_last c lo hz (by omega)
          refine ⟨e1, ?_⟩
          rw [e2, ordL]
          split
          · omega
          · split
            · omega
            · cases x <;> simp [ordL]
        · obtain ⟨e1, e2⟩ := hiB_more c lo hz
          refine ⟨e1, ?_⟩
          rw [e2, ordL, if_neg h1, if_pos h2]
          omega
      · rw [if_neg h2] at h
        obtain rfl : d = c := by omega
        obtain ⟨a1, a2⟩ := range_out lo x hx' h (fun ⟨r, hr⟩ => hn ⟨r, by rw [hr]; rfl⟩)
        obtain ⟨e1, e2⟩ := hiB_more d lo a1
        refine ⟨e1, ?_⟩
        rw [e2, ordL, if_neg h1, if_neg h2]
        exact a2
set_option maxRecDepth 100000 in
/-- WHAT BEGINS WITH lo lies from lo up to what stands behind all such. -/
theorem range_iff (lo x : List Int) (hx : Wf x) : (∃ r, x = lo ++ r) ↔ (0 ≤ ordL x lo ∧ (lastNe lo = 0 ∨ ordL x (hiB lo) < 0)) := by
  obtain ⟨s1, s2, s3⟩ := lastNe_spec lo
  constructor
  · rintro ⟨r, rfl⟩
    refine ⟨?_, ?_⟩
    · have := ordL_pre lo r []
      rw [List.append_nil] at this
      rw [this]
      cases r <;> simp [ordL]
    · by_cases h : lastNe lo = 0
      · exact .inl h
      · right
        unfold hiB
        rw [if_neg h, (behind_facts lo r (lastNe lo) (by omega) s1).1]
        omega
  · rintro ⟨h1, h2⟩
    by_cases e : ∃ r, x = lo ++ r
    · exact e
    · obtain ⟨a1, a2⟩ := range_out lo x hx h1 e
      rcases h2 with h2 | h2
      · exact absurd h2 a1
      · omega
end Go.Proofs.YtpiijmionafmcaaGreatDoor
