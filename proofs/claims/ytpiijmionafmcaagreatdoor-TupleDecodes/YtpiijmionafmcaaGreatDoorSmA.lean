/- The order of items' bytes: it is the items' own. -/
import Derived.Test.YtpiijmionafmcaaGreatDoorCmpMath
import Derived.Test.YtpiijmionafmcaaGreatDoorEnc5
namespace Go.Proofs.YtpiijmionafmcaaGreatDoor
open Go.RowKit

/-- How two texts stand. -/
def ordL : List Int → List Int → Int
  | [], [] => 0
  | [], _ :: _ => -1
  | _ :: _, [] => 1
  | x :: a, y :: b => if x < y then -1 else if y < x then 1 else ordL a b
set_option maxRecDepth 100000 in
theorem ordL_self : ∀ (a : List Int), ordL a a = 0
  | [] => rfl
  | x :: a => by simp [ordL, ordL_self a]
set_option maxRecDepth 100000 in
theorem ordL_eq : ∀ (a b : List Int), ordL a b = 0 → a = b
  | [], [], _ => rfl
  | [], _ :: _, h => by simp [ordL] at h
  | _ :: _, [], h => by simp [ordL] at h
  | x :: a, y :: b, h => by
    simp only [ordL] at h
    split at h
    · simp at h
    · split at h
      · simp at h
      · rw [ordL_eq a b h, show x = y by omega]
set_option maxRecDepth 100000 in
theorem ordL_three (a b : List Int) : ordL a b = 0 ∨ ordL a b = -1 ∨ ordL a b = 1 := by
  induction a generalizing b with
  | nil => cases b <;> simp [ordL]
  | cons x a ih =>
    cases b with
    | nil => simp [ordL]
    | cons y b =>
      simp only [ordL]
      split
      · simp
      · split
        · simp
        · exact ih b
set_option maxRecDepth 100000 in
theorem ordL_pre (p u v : List Int) : ordL (p ++ u) (p ++ v) = ordL u v := by
  induction p with
  | nil => rfl
  | cons x p ih => simp [ordL, ih]

set_option maxRecDepth 100000 in
/-- What stands behind all that begin so. -/
theorem behind_facts (a more : List Int) (k : Nat) (h0 : 0 < k) (hk : k ≤ a.length) :
    ordL (a ++ more) ((a.take k).set (k - 1) (a.getD (k - 1) 0 + 1)) = -1 ∧ ((a.take k).set (k - 1) (a.getD (k - 1) 0 + 1)).set (k - 1) (a.getD (k - 1) 0) = a.take k ∧ ((a.take k).set (k - 1) (a.getD (k - 1) 0 + 1)).getD (k - 1) 0 = a.getD (k - 1) 0 + 1 := by
  obtain ⟨j, rfl⟩ : ∃ j, k = j + 1 := ⟨k - 1, by omega⟩
  simp only [Nat.add_sub_cancel]
  have ht := take_snoc a j (by omega)
  have hl : (a.take j).length = j := by simp; omega
  have ha : a = a.take j ++ (a.getD j 0 :: a.drop (j + 1)) := by rw [← drop_cons a j (by omega), List.take_append_drop]
  have hz : (a.take (j + 1)).set j (a.getD j 0 + 1) = a.take j ++ [a.getD j 0 + 1] := by
    rw [ht, List.set_append_right _ _ (by omega), hl]
    simp
  rw [hz]
  refine ⟨?_, ?_, ?_⟩
  · have h1 : a ++ more = a.take j ++ (a.getD j 0 :: (a.drop (j + 1) ++ more)) := by
      conv => lhs; rw [ha]
      simp
    rw [h1, ordL_pre, ordL, if_pos (by omega)]
  · rw [List.set_append_right _ _ (by omega), hl, ht]
    simp
  · rw [List.getD_eq_getElem?_getD, List.getElem?_append_right (by omega), hl]
    simp
set_option maxRecDepth 100000 in
theorem oB_cons (x : Int) (a : List Int) : oB (x :: a) = oC x ++ oB a := by simp [oB, oM]
set_option maxRecDepth 100000 in
theorem ord_o : ∀ (a b c d : List Int), Wf a → Wf b → a ≠ b → ordL (oB a ++ c) (oB b ++ d) = ordL a b
  | [], [], _, _, _, _, h => (h rfl).elim
  | [], y :: b, c, d, _, hb, _ => by
    have hy := hb y (by simp)
    rw [oB_cons]
    unfold oC
    split
    · simp [oB, oM, ordL]
    · simp [oB, oM, ordL]; omega
  | x :: a, [], c, d, ha, _, _ => by
    have hx := ha x (by simp)
    rw [oB_cons]
    unfold oC
    split
    · simp [oB, oM, ordL]
    · have h1 : ¬ x < 0 := by omega
      have h2 : 0 < x := by omega
      simp [oB, oM, ordL, h1, h2]
  | x :: a, y :: b, c, d, ha, hb, h => by
    have hx := ha x (by simp)
    have hy := hb y (by simp)
    by_cases e : x = y
    · subst e
      rw [oB_cons, oB_cons, List.append_assoc, List.append_assoc, ordL_pre, ord_o a b c d (fun z hz => ha z (by simp [hz])) (fun z hz => hb z (by simp [hz])) (fun e => h (by rw [e]))]
      simp [ordL]
    · rw [oB_cons, oB_cons]
      rcases Int.lt_or_gt_of_ne e with hlt | hgt
      · have hy0 : ¬ y = 0 := by omega
        unfold oC
        rw [if_neg hy0]
        split
        · rename_i h0
          subst h0
          simp [ordL, hlt]
        · simp [ordL, hlt]
      · have hx0 : ¬ x = 0 := by omega
        have hn : ¬ x < y := by omega
        unfold oC
        rw [if_neg hx0]
        split
        · rename_i h0
          subst h0
          simp [ordL, hgt, hn]
        · simp [ordL, hgt, hn]
/-- What stands first, then what stands behind. -/
def lex (c d : Int) : Int := if c ≠ 0 then c else d
set_option maxRecDepth 100000 in
theorem fB_mod (m : Nat) (x : Int) : ∀ j, j ≤ m → fB j (x % 256 ^ m) = fB j x
  | 0, _ => rfl
  | i + 1, h => by
    rw [fB, fB, fB_mod m x i (by omega)]
    congr 1
    obtain ⟨d, rfl⟩ : ∃ d, m = i + (1 + d) := ⟨m - (i + 1), by omega⟩
    have hA : (256 : Int) ^ i ≠ 0 := by have : (0 : Int) < 256 ^ i := Int.pow_pos (by omega); omega
    have hx := Int.mul_ediv_add_emod x (256 ^ (i + (1 + d)))
    rw [Int.pow_add, Int.pow_add, Int.pow_one] at *
    generalize (256 : Int) ^ i = A at *
    generalize (256 : Int) ^ d = D at *
    generalize x % (A * (256 * D)) = r at *
    generalize x / (A * (256 * D)) = q at *
    have e : x / A = r / A + 256 * (D * q) := by
      rw [← hx, show A * (256 * D) * q + r = r + A * (256 * (D * q)) from by simp [Int.mul_assoc, Int.add_comm], Int.add_mul_ediv_left _ _ hA]
    rw [e]
    omega
set_option maxRecDepth 100000 in
theorem fB_order : ∀ (j : Nat) (x y : Int) (p q : List Int), 0 ≤ x → x < 256 ^ j → 0 ≤ y → y < 256 ^ j → ordL (fB j x ++ p) (fB j y ++ q) = lex (sgn3 x y) (ordL p q)
  | 0, x, y, p, q, h0, h1, h2, h3 => by
    have hx : x = 0 := by simp at h1; omega
    have hy : y = 0 := by simp at h3; omega
    subst hx hy
    simp [fB, lex, sgn3]
  | j + 1, x, y, p, q, h0, h1, h2, h3 => by
    have hp : (0 : Int) < 256 ^ j := Int.pow_pos (by omega)
    rw [Int.pow_succ] at h1 h3
    have ih := fB_order j (x % 256 ^ j) (y % 256 ^ j) p q (Int.emod_nonneg _ (by omega)) (Int.emod_lt_of_pos _ hp) (Int.emod_nonneg _ (by omega)) (Int.emod_lt_of_pos _ hp)
    rw [fB_mod j x j (Nat.le_refl _), fB_mod j y j (Nat.le_refl _)] at ih
    rw [fB, fB, List.cons_append, List.cons_append, ordL, ih]
    have hx := Int.mul_ediv_add_emod x (256 ^ j)
    have hy := Int.mul_ediv_add_emod y (256 ^ j)
    have hx1 := Int.emod_nonneg x (show (256 : Int) ^ j ≠ 0 by omega)
    have hy1 := Int.emod_nonneg y (show (256 : Int) ^ j ≠ 0 by omega)
    have hx2 := Int.emod_lt_of_pos x hp
    have hy2 := Int.emod_lt_of_pos y hp
    have hx3 : x / 256 ^ j < 256 := Int.ediv_lt_of_lt_mul hp (by rw [Int.mul_comm]; exact h1)
    have hy3 : y / 256 ^ j < 256 := Int.ediv_lt_of_lt_mul hp (by rw [Int.mul_comm]; exact h3)
    have hx4 : 0 ≤ x / 256 ^ j := Int.ediv_nonneg h0 (by omega)
    have hy4 : 0 ≤ y / 256 ^ j := Int.ediv_nonneg h2 (by omega)
    rw [Int.emod_eq_of_lt hx4 hx3, Int.emod_eq_of_lt hy4 hy3]
    generalize (256 : Int) ^ j = P at *
    generalize x / P = a at *
    generalize y / P = b at *
    generalize x % P = r at *
    generalize y % P = s at *
    by_cases h : a < b
    · have : P * a + P ≤ P * b := by
        have := Int.mul_le_mul_of_nonneg_left (show a + 1 ≤ b by omega) (show 0 ≤ P by omega)
        rw [Int.mul_add, Int.mul_one] at this
        exact this
      rw [if_pos h]
      have : x < y := by omega
      simp [lex, sgn3, this]
    · by_cases h' : b < a
      · have : P * b + P ≤ P * a := by
          have := Int.mul_le_mul_of_nonneg_left (show b + 1 ≤ a by omega) (show 0 ≤ P by omega)
          rw [Int.mul_add, Int.mul_one] at this
          exact this
        rw [if_neg h, if_pos h']
        have h1 : ¬ x < y := by omega
        have h2 : y < x := by omega
        simp [lex, sgn3, h1, h2]
      · have e : a = b := by omega
        subst e
        rw [if_neg h, if_neg h']
        have e1 : (r < s) = (x < y) := by apply propext; constructor <;> intro _ <;> omega
        have e2 : (s < r) = (y < x) := by apply propext; constructor <;> intro _ <;> omega
        unfold sgn3
        simp only [e1, e2]
set_option maxRecDepth 100000 in
/-- How many bytes a number takes. -/
theorem wd_iff (n : Int) (j : Nat) (h0 : 0 ≤ n) (h1 : n ≤ 18446744073709551615) (hj : j ≤ 8) : wd n ≤ j ↔ n < 256 ^ j := by
  have e : ((256 : Int) ^ j) = ((2 ^ (8 * j) : Nat) : Int) := by rw [Nat.pow_mul]; simp
  rw [e]
  constructor
  · intro h
    unfold wd at h
    have hb : ∀ (f x : Nat), x < 2 ^ f → x < 2 ^ Lib.bitLenAux f x := by
      intro f
      induction f with
      | zero => intro x hx; simpa [Lib.bitLenAux] using hx
      | succ f ih =>
        intro x hx
        unfold Lib.bitLenAux
        split
        · rename_i h0
          subst h0
          simp
        · have := ih (x / 2) (by rw [Nat.pow_succ] at hx; omega)
          rw [Nat.pow_add, Nat.pow_one]
          omega
    have h2 : n.toNat < 2 ^ Lib.bitLen n.toNat := hb 64 n.toNat (by omega)
    have h3 : 2 ^ Lib.bitLen n.toNat ≤ 2 ^ (8 * j) := Nat.pow_le_pow_right (by omega) (by omega)
    omega
  · intro h
    have := Lib.bitLen_le n.toNat (8 * j) (by omega) (by omega)
    unfold wd
    omega
set_option maxRecDepth 100000 in
theorem lex_zero (d : Int) : lex 0 d = d := by simp [lex]
set_option maxRecDepth 100000 in
theorem lex_ne {c : Int} (d : Int) (h : c ≠ 0) : lex c d = c := by simp [lex, h]
set_option maxRecDepth 100000 in
theorem ord_head (x y : Int) (a b : List Int) : ordL (x :: a) (y :: b) = lex (sgn3 x y) (ordL a b) := by
  rw [ordL]
  unfold lex sgn3
  by_cases h : x < y
  · simp [h]
  · by_cases h' : y < x
    · simp [h, h']
    · simp [h, h']
set_option maxRecDepth 100000 in
theorem sgn3_is {a b : Int} (h : sgn3 a b = 0) : a = b := by
  unfold sgn3 at h
  split at h
  · omega
  · split at h
    · omega
    · omega
set_option maxRecDepth 100000 in
theorem low_mod (w : Nat) (hw : w ≤ 8) (m n : Int) (hm : m = -n - 1) (h0 : 0 ≤ m) (h1 : m < 256 ^ w) : n % 18446744073709551616 % 256 ^ w = 256 ^ w - 1 - m := by
  have : w = 0 ∨ w = 1 ∨ w = 2 ∨ w = 3 ∨ w = 4 ∨ w = 5 ∨ w = 6 ∨ w = 7 ∨ w = 8 := by omega
  rcases this with rfl | rfl | rfl | rfl | rfl | rfl | rfl | rfl | rfl <;> simp at h1 ⊢ <;> omega
set_option maxRecDepth 100000 in
theorem intB_order (n n' : Int) (p q : List Int) (h0 : -9223372036854775808 ≤ n) (h1 : n ≤ 9223372036854775807) (h2 : -9223372036854775808 ≤ n') (h3 : n' ≤ 9223372036854775807) :
    ordL (intB n ++ p) (intB n' ++ q) = lex (sgn3 n n') (ordL p q) := by
  have key : ∀ x y : Int, 0 ≤ x → x ≤ 18446744073709551615 → 0 ≤ y → y ≤ 18446744073709551615 → (wd x < wd y → x < y) ∧ x < 256 ^ wd x := by
    intro x y a1 a2 a3 a4
    have b1 := wd_le x a2
    have b2 := wd_le y a4
    have b3 := (wd_iff x (wd x) a1 a2 b1).1 (Nat.le_refl _)
    refine ⟨fun h => ?_, b3⟩
    have b4 : ¬ y < 256 ^ wd x := fun h2 => by have := (wd_iff y (wd x) a3 a4 b1).2 h2; omega
    omega
  unfold intB
  by_cases c : n < 0
  · rw [if_pos c]
    have k0 := wd_le (-n - 1) (by omega)
    by_cases c' : n' < 0
    · rw [if_pos c', List.cons_append, List.cons_append, ord_head]
      have k1 := key (-n - 1) (-n' - 1) (by omega) (by omega) (by omega) (by omega)
      have k2 := key (-n' - 1) (-n - 1) (by omega) (by omega) (by omega) (by omega)
      by_cases e : wd (-n - 1) = wd (-n' - 1)
      · rw [e, show sgn3 (127 - (wd (-n' - 1) : Int)) (127 - (wd (-n' - 1) : Int)) = 0 by simp [sgn3], lex_zero]
        rw [e] at k1 k0
        generalize wd (-n' - 1) = w at *
        rw [← fB_mod w (n % 18446744073709551616) w (Nat.le_refl _), ← fB_mod w (n' % 18446744073709551616) w (Nat.le_refl _), low_mod w k0 (-n - 1) n rfl (by omega) k1.2, low_mod w k0 (-n' - 1) n' rfl (by omega) k2.2, fB_order w _ _ p q (by omega) (by omega) (by omega) (by omega)]
        congr 1
        have e1 : ((256 : Int) ^ w - 1 - (-n - 1) < 256 ^ w - 1 - (-n' - 1)) = (n < n') := by apply propext; constructor <;> intro _ <;> omega
        have e2 : ((256 : Int) ^ w - 1 - (-n' - 1) < 256 ^ w - 1 - (-n - 1)) = (n' < n) := by apply propext; constructor <;> intro _ <;> omega
        unfold sgn3
        simp only [e1, e2]
      · rcases Nat.lt_or_gt_of_ne e with h | h
        · have h4 := k1.1 h
          have d1 : ¬ (127 - (wd (-n - 1) : Int)) < 127 - (wd (-n' - 1) : Int) := by omega
          have d2 : 127 - (wd (-n' - 1) : Int) < 127 - (wd (-n - 1) : Int) := by omega
          have d3 : ¬ n < n' := by omega
          have d4 : n' < n := by omega
          rw [sgn3, if_neg d1, if_pos d2, sgn3, if_neg d3, if_pos d4]
          rfl
        · have h4 := k2.1 h
          have d1 : (127 - (wd (-n - 1) : Int)) < 127 - (wd (-n' - 1) : Int) := by omega
          have d3 : n < n' := by omega
          rw [sgn3, if_pos d1, sgn3, if_pos d3]
          rfl
    · rw [if_neg c', List.cons_append, List.cons_append, ord_head]
      rw [sgn3, if_pos (by omega), sgn3, if_pos (by omega)]
      rfl
  · rw [if_neg c]
    by_cases c' : n' < 0
    · rw [if_pos c', List.cons_append, List.cons_append, ord_head]
      rw [sgn3, if_neg (by omega), if_pos (by omega), sgn3, if_neg (by omega), if_pos (by omega)]
      rfl
    · rw [if_neg c', List.cons_append, List.cons_append, ord_head]
      have k1 := key n n' (by omega) (by omega) (by omega) (by omega)
      have k2 := key n' n (by omega) (by omega) (by omega) (by omega)
      by_cases e : wd n = wd n'
      · rw [e] at k1 ⊢
        rw [show sgn3 (128 + (wd n' : Int)) (128 + (wd n' : Int)) = 0 by simp [sgn3], lex_zero]
        exact fB_order _ _ _ _ _ (by omega) k1.2 (by omega) k2.2
      · rcases Nat.lt_or_gt_of_ne e with h | h
        · have h4 := k1.1 h
          rw [sgn3, if_pos (by omega), sgn3, if_pos h4]
          rfl
        · have h4 := k2.1 h
          rw [sgn3, if_neg (by omega), if_pos (by omega), sgn3, if_neg (by omega), if_pos h4]
          rfl
set_option maxRecDepth 100000 in
theorem frk_order (n n' : Int) (p q : List Int) (h0 : -9223372036854775808 ≤ n) (h1 : n ≤ 9223372036854775807) (h2 : -9223372036854775808 ≤ n') (h3 : n' ≤ 9223372036854775807) :
    ordL (fB 8 (frk n) ++ p) (fB 8 (frk n') ++ q) = lex (sgn3 (frk n) (frk n')) (ordL p q) := by
  have e : (256 : Int) ^ 8 = 18446744073709551616 := by decide
  refine fB_order 8 _ _ p q ?_ ?_ ?_ ?_ <;> (first | rw [e] | skip) <;> (unfold frk; split <;> omega)

set_option maxRecDepth 100000 in
theorem ord_map : ∀ (a b : List UInt8), ordL (a.map fun x => (x.toNat : Int)) (b.map fun x => (x.toNat : Int)) = if Op.bytesLess a b = true then -1 else if a = b then 0 else 1
  | [], [] => by simp [ordL, Op.bytesLess]
  | [], _ :: _ => by simp [ordL, Op.bytesLess]
  | _ :: _, [] => by simp [ordL, Op.bytesLess]
  | x :: a, y :: b => by
    rw [List.map_cons, List.map_cons, ord_head, ord_map a b, bytesLess_eq, bytesLess_eq]
    have hlt : ∀ u v : UInt8, (u < v) = ((u.toNat : Int) < (v.toNat : Int)) := by
      intro u v
      rw [UInt8.lt_iff_toNat_lt]
      apply propext
      omega
    by_cases h1 : x = y
    · subst h1
      simp [sgn3, lex]
    · by_cases h2 : x < y
      · have h3 : ((x.toNat : Int) < (y.toNat : Int)) := by rw [← hlt]; exact h2
        simp [sgn3, lex, h3, List.cons_lt_cons_iff, h2]
      · have h3 : ¬ ((x.toNat : Int) < (y.toNat : Int)) := by rw [← hlt]; exact h2
        have h5 : ¬ ((x.toNat : Int) = (y.toNat : Int)) := fun e => h1 (UInt8.toNat_inj.1 (by omega))
        have h4 : ((y.toNat : Int) < (x.toNat : Int)) := by omega
        simp [sgn3, lex, h3, h4, List.cons_lt_cons_iff, h2, h1]
set_option maxRecDepth 100000 in
theorem sgS_ord (a b : ByteArray) : sgS a b = ordL (bL a) (bL b) := by
  unfold sgS bL
  rw [ord_map, ByteArray.toList_eq, ByteArray.toList_eq]
set_option maxRecDepth 100000 in
theorem tx_order (a b : ByteArray) (p q : List Int) : ordL (oB (bL a) ++ p) (oB (bL b) ++ q) = lex (sgS a b) (ordL p q) := by
  rw [sgS_ord]
  by_cases e : bL a = bL b
  · rw [e, ordL_self, ordL_pre, lex_zero]
  · rw [ord_o _ _ p q (bL_wf a) (bL_wf b) e, lex_ne]
    exact fun h => e (ordL_eq _ _ h)
/-- An item's bytes; items' bytes. -/
def EI : Its → List Int
  | .nil => []
  | .cons k n t sub r => (16 + k) :: ((if k = 3 then intB n else if k = 4 then fB 8 (frk n) else if k = 5 ∨ k = 6 then oB (bL t) else if k = 7 then EI sub ++ [0] else []) ++ EI r)
def pay (k n : Int) (t : ByteArray) (sub : Its) : List Int := if k = 3 then intB n else if k = 4 then fB 8 (frk n) else if k = 5 ∨ k = 6 then oB (bL t) else if k = 7 then EI sub ++ [0] else []
set_option maxRecDepth 100000 in
theorem EI_cons (k n : Int) (t : ByteArray) (sub r : Its) : EI (.cons k n t sub r) = ((16 + k) :: pay k n t sub) ++ EI r := by
  rw [EI]; rfl
/-- Bytes that stand ahead of any item's. -/
def Low (p : List Int) : Prop := p = [] ∨ ∃ c r, p = c :: r ∧ c < 16
set_option maxRecDepth 100000 in
theorem item_order (k n : Int) (t : ByteArray) (s : Its) (k' n' : Int) (t' : ByteArray) (s' : Its) (p q : List Int) (hn : -9223372036854775808 ≤ n ∧ n ≤ 9223372036854775807) (hn' : -9223372036854775808 ≤ n' ∧ n' ≤ 9223372036854775807)
    (hs : k = 7 → k' = 7 → ∀ p q, Low p → Low q → ordL (EI s ++ p) (EI s' ++ q) = lex (cmpL s s') (ordL p q)) :
    ordL (((16 + k) :: pay k n t s) ++ p) (((16 + k') :: pay k' n' t' s') ++ q) = lex (cmp1 k n t s k' n' t' s') (ordL p q) := by
  rw [List.cons_append, List.cons_append, ord_head]
  by_cases hk : k = k'
  · subst hk
    rw [show sgn3 (16 + k) (16 + k) = 0 by simp [sgn3], lex_zero]
    unfold pay cmp1
    simp only [ne_eq, not_true_eq_false, if_false]
    by_cases h3 : k = 3
    · simp only [h3, if_true]
      exact intB_order n n' p q hn.1 hn.2 hn'.1 hn'.2
    · simp only [h3, if_false]
      by_cases h4 : k = 4
      · simp only [h4, if_true]
        exact frk_order n n' p q hn.1 hn.2 hn'.1 hn'.2
      · simp only [h4, if_false]
        by_cases h5 : k = 5 ∨ k = 6
        · simp only [h5, if_true]
          exact tx_order t t' p q
        · simp only [h5, if_false]
          by_cases h7 : k = 7
          · simp only [h7, if_true]
            rw [List.append_assoc, List.append_assoc, List.singleton_append, List.singleton_append, hs h7 h7 _ _ (.inr ⟨0, p, rfl, by omega⟩) (.inr ⟨0, q, rfl, by omega⟩), ord_head, show sgn3 (0 : Int) 0 = 0 by simp [sgn3], lex_zero]
          · simp only [h7, if_false]
            rw [lex_zero]
            rfl
  · have e : sgn3 (16 + k) (16 + k') = sgn3 k k' := by
      unfold sgn3
      have e1 : (16 + k < 16 + k') = (k < k') := by apply propext; constructor <;> intro _ <;> omega
      have e2 : (16 + k' < 16 + k) = (k' < k) := by apply propext; constructor <;> intro _ <;> omega
      simp only [e1, e2]
    have h0 : sgn3 k k' ≠ 0 := fun h => hk (sgn3_is h)
    unfold cmp1
    rw [if_pos hk, e, lex_ne _ h0, lex_ne _ h0]
set_option maxRecDepth 100000 in
/-- ITEMS' BYTES STAND AS THE ITEMS DO, whatever stands behind that is no item's. -/
theorem items_order : ∀ (a b : Its) (p q : List Int), a.Kd → b.Kd → a.Ok → b.Ok → Low p → Low q → ordL (EI a ++ p) (EI b ++ q) = lex (cmpL a b) (ordL p q)
  | .nil, .nil, p, q, _, _, _, _, _, _ => by simp [EI, cmpL, lex]
  | .nil, .cons k n t s r, p, q, _, hb, _, _, hp, _ => by
    have h0 := hb.1.1
    simp only [EI, cmpL, List.nil_append]
    rw [lex_ne _ (by omega)]
    rcases hp with rfl | ⟨c, r', rfl, hc⟩
    · simp [ordL]
    · rw [List.cons_append, ordL, if_pos (by omega)]
  | .cons k n t s r, .nil, p, q, ha, _, _, _, _, hq => by
    have h0 := ha.1.1
    simp only [EI, cmpL, List.nil_append]
    rw [lex_ne _ (by omega)]
    rcases hq with rfl | ⟨c, r', rfl, hc⟩
    · simp [ordL]
    · rw [List.cons_append, ordL, if_neg (by omega), if_pos (by omega)]
  | .cons k n t s r, .cons k' n' t' s' r', p, q, ha, hb, oa, ob, hp, hq => by
    rw [EI_cons, EI_cons, List.append_assoc, List.append_assoc, item_order k n t s k' n' t' s' _ _ oa.2.1 ob.2.1 (fun h7 h7' p q hp hq => items_order s s' p q (ha.2.1 h7) (hb.2.1 h7') oa.2.2.2.2.1 ob.2.2.2.2.1 hp hq), items_order r r' p q ha.2.2 hb.2.2 oa.2.2.2.2.2 ob.2.2.2.2.2 hp hq, cmpL_cons]
    by_cases h : cmp1 k n t s k' n' t' s' = 0
    · simp [h, lex]
    · simp [h, lex]
set_option maxRecDepth 100000 in
theorem low_nil : Low [] := .inl rfl
set_option maxRecDepth 100000 in
theorem items_ord (a b : Its) (ha : a.Kd) (hb : b.Kd) (oa : a.Ok) (ob : b.Ok) : ordL (EI a) (EI b) = cmpL a b := by
  have := items_order a b [] [] ha hb oa ob low_nil low_nil
  rw [List.append_nil, List.append_nil, ordL_self] at this
  rw [this]
  unfold lex
  split <;> simp_all
set_option maxRecDepth 100000 in
theorem eI_ge : ∀ (l : Its) (b : List Int), b.length ≤ (eI l b).length
  | .nil, b => by simp [eI]
  | .cons k n t sub r, b => by
    rw [eI_cons]
    split
    · exact Nat.le_refl _
    · have h1 := eI_ge r (e1 k n t sub (b ++ [16 + k]))
      have h2 := eI_ge sub (b ++ [16 + k])
      refine Nat.le_trans ?_ h1
      unfold e1
      simp only [List.length_append, List.length_cons, List.length_nil] at h2
      split
      · simp only [List.length_append, List.length_cons, List.length_nil]; omega
      · split
        · simp only [List.length_append, List.length_cons, List.length_nil]; omega
        · split
          · simp only [List.length_append, List.length_cons, List.length_nil]; omega
          · split
            · simp only [List.length_append, List.length_cons, List.length_nil]; omega
            · simp only [List.length_append, List.length_cons, List.length_nil]; omega
set_option maxRecDepth 100000 in
theorem cutT_all (t : ByteArray) (h : (txB t).length ≤ 65536) : cutT t = t := by
  have h1 := (oB_length (bL (cutT t))).1
  rw [bL_length, cutT_size] at h1
  unfold txB at h
  unfold cutT
  rw [Nat.min_eq_left (by omega)]
  exact ByteArray.extract_zero_size
set_option maxRecDepth 100000 in
/-- Where nothing was left off, the bytes are the items'. -/
theorem eI_is : ∀ (l : Its) (b : List Int), (eI l b).length ≤ 65536 → eI l b = b ++ EI l
  | .nil, b, _ => by simp [eI, EI]
  | .cons k n t sub r, b, h => by
    rw [eI_cons] at h ⊢
    by_cases hb : 65536 < b.length
    · rw [if_pos hb] at h
      omega
    · rw [if_neg hb] at h ⊢
      have hg := eI_ge r (e1 k n t sub (b ++ [16 + k]))
      have he : e1 k n t sub (b ++ [16 + k]) = b ++ ((16 + k) :: pay k n t sub) := by
        have hl : (e1 k n t sub (b ++ [16 + k])).length ≤ 65536 := by omega
        unfold e1 pay at *
        by_cases h3 : k = 3
        · simp [h3]
        · simp only [h3, if_false] at hl ⊢
          by_cases h4 : k = 4
          · simp [h4]
          · simp only [h4, if_false] at hl ⊢
            by_cases h5 : k = 5 ∨ k = 6
            · simp only [h5, if_true] at hl ⊢
              rw [List.length_append] at hl
              unfold txB
              rw [cutT_all t (by omega)]
              simp
            · simp only [h5, if_false] at hl ⊢
              by_cases h7 : k = 7
              · simp only [h7, if_true] at hl ⊢
                rw [List.length_append] at hl
                rw [eI_is sub _ (by omega)]
                simp
              · simp only [h7, if_false] at hl ⊢
      rw [eI_is r _ h, he, EI_cons]
      simp
end Go.Proofs.YtpiijmionafmcaaGreatDoor
