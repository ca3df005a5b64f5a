/- What was written is read. -/
import Derived.Test.YtbnjojplfbibkaaGreatDoorMath
namespace Go.Proofs.YtbnjojplfbibkaaGreatDoor

set_option maxRecDepth 100000 in
theorem rdB_acc (l : List Int) : ∀ acc : Int, l.foldl (fun n c => n * 256 + c) acc = acc * 256 ^ l.length + rdB l := by
  induction l with
  | nil => intro acc; simp [rdB]
  | cons c l ih =>
    intro acc
    have h : rdB (c :: l) = c * 256 ^ l.length + rdB l := by
      show l.foldl _ (0 * 256 + c) = _
      rw [ih]
      simp
    rw [List.foldl_cons, ih, h, List.length_cons, Int.pow_succ, Int.add_mul, Int.mul_assoc, Int.mul_comm 256 (256 ^ l.length)]
    omega
set_option maxRecDepth 100000 in
theorem rdB_cons (c : Int) (l : List Int) : rdB (c :: l) = c * 256 ^ l.length + rdB l := by
  show l.foldl _ (0 * 256 + c) = _
  rw [rdB_acc]
  simp
set_option maxRecDepth 100000 in
theorem rdB_fB (w : Nat) (n : Int) (h : 0 ≤ n) : rdB (fB w n) = n % 256 ^ w := by
  induction w with
  | zero => simp [fB, rdB, Int.emod_one]
  | succ w ih =>
    rw [fB, rdB_cons, ih, fB_length]
    obtain ⟨N, rfl⟩ := Int.eq_ofNat_of_zero_le h
    have e : N % (256 ^ w * 256) = N % 256 ^ w + 256 ^ w * (N / 256 ^ w % 256) := Nat.mod_mul
    generalize hP : (256 : Nat) ^ w = P at *
    have hP2 : (256 : Int) ^ w = (P : Int) := by rw [← hP]; simp
    rw [Int.pow_succ, hP2]
    have e2 : (N : Int) % ((P : Int) * 256) = ((N % (P * 256) : Nat) : Int) := by simp
    rw [e2, e]
    rw [Int.natCast_add, Int.natCast_mul, Int.mul_comm]
    simp only [Int.natCast_emod, Int.natCast_ediv]
    rw [Int.add_comm]
    rfl

set_option maxRecDepth 100000 in
theorem rU_back (p : Int) (rest : List Int) : ∀ (k : Nat) (m : Int) (i : Nat) (acc : Int), m < 2 ^ k → 0 ≤ m → 0 ≤ acc → acc + m * 128 ^ i < 18446744073709551616 → (0 < i → 0 < m) → i ≤ 9 →
    rU p (uB m ++ rest) i acc = (acc + m * 128 ^ i, p + i + (uB m).length, 0) := by
  intro k
  induction k with
  | zero =>
    intro m i acc hk h0 ha hb hi hi9
    obtain rfl : m = 0 := by simp at hk; omega
    obtain rfl : i = 0 := by
      rcases Nat.eq_zero_or_pos i with h | h
      · exact h
      · have := hi h; omega
    rw [uB_small (by omega)]
    simp [rU]
  | succ k ih =>
    intro m i acc hk h0 ha hb hi hi9
    have hpos : (0 : Int) < 128 ^ i := Int.pow_pos (by omega)
    by_cases hm : m < 128
    · rw [uB_small hm, List.singleton_append, rU]
      have h9 : ¬ (i = 9 ∧ 1 < m) := by
        rintro ⟨rfl, h1⟩
        simp at hb
        omega
      rw [if_neg h9, if_neg (by omega), if_neg (by intro h; have := hi h.2; omega)]
      simp
    · have hmlt : m < 18446744073709551616 := by
        have h1 : m ≤ m * 128 ^ i := by
          have := Int.mul_le_mul_of_nonneg_left (show (1 : Int) ≤ 128 ^ i by omega) h0
          omega
        omega
      have h9 : i < 9 := by
        rcases Nat.lt_or_ge i 9 with h | h
        · exact h
        · obtain rfl : i = 9 := by omega
          simp at hb
          omega
      rw [uB_step hm hmlt, List.cons_append, rU, if_neg (by omega), if_pos (by omega)]
      have e : acc + (m % 128 + 128 - 128) * 128 ^ i + m / 128 * 128 ^ (i + 1) = acc + m * 128 ^ i := by
        rw [Int.pow_succ, Int.mul_comm (128 ^ i) 128, ← Int.mul_assoc]
        have : m * 128 ^ i = (m % 128 + m / 128 * 128) * 128 ^ i := by rw [show m % 128 + m / 128 * 128 = m by omega]
        rw [this, Int.add_mul]
        have e3 : m % 128 + 128 - 128 = m % 128 := by omega
        rw [e3]
        omega
      have hd : 0 ≤ (m % 128 + 128 - 128) * 128 ^ i := Int.mul_nonneg (by omega) (Int.le_of_lt hpos)
      rw [ih (m / 128) (i + 1) _ (by rw [Int.pow_succ] at hk; omega) (by omega) (by omega) (by rw [e]; exact hb) (fun _ => by omega) (by omega), e]
      simp only [List.length_cons]
      push_cast
      rw [show p + (i + 1) + ((uB (m / 128)).length : Int) = p + i + ((uB (m / 128)).length + 1) by omega]
set_option maxRecDepth 100000 in
theorem rU_uB (p n : Int) (rest : List Int) (h0 : 0 ≤ n) (h : n < 18446744073709551616) : rU p (uB n ++ rest) 0 0 = (n, p + (uB n).length, 0) := by
  have := rU_back p rest 64 n 0 0 (by simp; omega) h0 (by omega) (by simp; omega) (fun h => by omega) (by omega)
  simpa using this
set_option maxRecDepth 100000 in
theorem rU_open (p : Int) : ∀ (l : List Int) (i : Nat) (n : Int), (∀ x ∈ l, 128 ≤ x) → i + l.length ≤ 9 → rU p l i n = (0, 0, 10)
  | [], _, _, _, _ => rfl
  | c :: l, i, n, h, hl => by
    have hc := h c (by simp)
    simp only [List.length_cons] at hl
    rw [rU, if_neg (by omega), if_pos hc]
    exact rU_open p l (i + 1) _ (fun x hx => h x (by simp [hx])) (by omega)
set_option maxRecDepth 100000 in
theorem uBf_high (f : Nat) : ∀ n, 0 ≤ n → ∀ x ∈ (uBf f n).take ((uBf f n).length - 1), 128 ≤ x := by
  induction f with
  | zero => intro n _ x hx; simp [uBf] at hx
  | succ f ih =>
    intro n h0 x hx
    unfold uBf at hx
    split at hx
    · simp at hx
    · have hl := (uBf_length f (n / 128)).2
      rw [show ((n % 128 + 128) :: uBf f (n / 128)).length - 1 = (uBf f (n / 128)).length - 1 + 1 by simp; omega, List.take_succ_cons] at hx
      rcases List.mem_cons.1 hx with e | e
      · omega
      · exact ih (n / 128) (by omega) x e
set_option maxRecDepth 100000 in
theorem rU_cut (p n : Int) (h0 : 0 ≤ n) : rU p ((uB n).take ((uB n).length - 1)) 0 0 = (0, 0, 10) := by
  have h := (uB_length n)
  exact rU_open p _ 0 0 (uBf_high 9 n h0) (by simp; omega)

set_option maxRecDepth 100000 in
theorem rO_back (t rest : List Int) : ∀ (i : Int) (acc : List Int), rO (oB t ++ rest) i acc = (acc ++ t, i + (oB t).length, 0) := by
  induction t with
  | nil => intro i acc; simp [oB, oM, rO_two]
  | cons c t ih =>
    intro i acc
    have e : oB (c :: t) = oC c ++ oB t := by simp [oB, oM]
    rw [e]
    by_cases h : c = 0
    · subst h
      simp only [oC, if_pos, List.cons_append, List.nil_append, rO_two, ih, List.length_cons]
      simp
      omega
    · simp only [oC, if_neg h, List.cons_append, List.nil_append, rO_plain _ _ _ _ h, ih, List.length_cons]
      simp
      omega
set_option maxRecDepth 100000 in
theorem rO_open (t : List Int) : ∀ (i : Int) (acc : List Int), rO (oM t ++ [0]) i acc = ([], 0, 10) := by
  induction t with
  | nil => intro i acc; exact rO_cut i acc
  | cons c t ih =>
    intro i acc
    have e : oM (c :: t) = oC c ++ oM t := by simp [oM]
    rw [e]
    by_cases h : c = 0
    · subst h
      simp only [oC, if_pos, List.cons_append, List.nil_append, rO_two, ih]
    · simp only [oC, if_neg h, List.cons_append, List.nil_append, rO_plain _ _ _ _ h, ih]
set_option maxRecDepth 100000 in
theorem oB_cut (t : List Int) : (oB t).take ((oB t).length - 1) = oM t ++ [0] := by
  have h : oB t = (oM t ++ [0]) ++ [1] := by simp [oB]
  have hl : (oB t).length - 1 = (oM t ++ [0]).length := by simp [oB]
  rw [hl, h, List.take_left]
end Go.Proofs.YtbnjojplfbibkaaGreatDoor
