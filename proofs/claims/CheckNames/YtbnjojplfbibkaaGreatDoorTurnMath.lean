/- What is turned within 32 neighbouring places makes another sum. -/
import Derived.Test.YtbnjojplfbibkaaGreatDoorCrcMath
namespace Go.Proofs.YtbnjojplfbibkaaGreatDoor

/-- Bytes with a number's bytes xored in, the lowest first. -/
def xorV : List Nat → Nat → List Nat
  | [], _ => []
  | x :: l, V => (x ^^^ V % 256) :: xorV l (V / 256)
set_option maxRecDepth 100000 in
theorem xorV_length : ∀ (l : List Nat) (V : Nat), (xorV l V).length = l.length
  | [], _ => rfl
  | _ :: l, V => by simp [xorV, xorV_length l]
set_option maxRecDepth 100000 in
theorem xorV_zero : ∀ (l : List Nat), xorV l 0 = l
  | [] => rfl
  | x :: l => by simp [xorV, xorV_zero l]
set_option maxRecDepth 100000 in
theorem xorV_snoc : ∀ (l : List Nat) (x V : Nat), xorV (l ++ [x]) V = xorV l V ++ [x ^^^ V / 256 ^ l.length % 256]
  | [], x, V => by simp [xorV]
  | y :: l, x, V => by
    simp only [List.cons_append, xorV, xorV_snoc l, List.length_cons]
    rw [Nat.div_div_eq_div_mul, Nat.pow_succ, Nat.mul_comm 256]
set_option maxRecDepth 100000 in
theorem low_xor (V k : Nat) : V % 256 ^ (k + 1) = V % 256 ^^^ (V / 256 % 256 ^ k) * 2 ^ 8 := by
  rw [Nat.xor_comm, ← split_add _ _ 8 (by omega), Nat.pow_succ, Nat.mul_comm (256 ^ k), Nat.mod_mul]
  omega
set_option maxRecDepth 100000 in
/-- The register behind bytes that are turned: its turn goes on by itself. -/
theorem cr_turned : ∀ (l : List Nat) (r e V : Nat), cr (r ^^^ e) (xorV l V) = cr r l ^^^ Sn (8 * l.length) (e ^^^ V % 256 ^ l.length)
  | [], r, e, V => by simp [xorV, cr, Sn, Nat.mod_one]
  | x :: l, r, e, V => by
    show cr (Sn 8 (r ^^^ e ^^^ (x ^^^ V % 256))) (xorV l (V / 256)) = cr (Sn 8 (r ^^^ x)) l ^^^ _
    have h1 : r ^^^ e ^^^ (x ^^^ V % 256) = (r ^^^ x) ^^^ (e ^^^ V % 256) := by
      rw [Nat.xor_assoc, Nat.xor_assoc, ← Nat.xor_assoc e x, Nat.xor_comm e x, Nat.xor_assoc x e]
    rw [h1, Sn_xor, cr_turned l]
    congr 1
    rw [List.length_cons, low_xor, ← Nat.xor_assoc, show 8 * (l.length + 1) = 8 + 8 * l.length by omega, Sn_add, Sn_xor 8 (e ^^^ V % 256), Sn_shift]
set_option maxRecDepth 100000 in
theorem cr_on (l : List Nat) (r e : Nat) : cr (r ^^^ e) l = cr r l ^^^ Sn (8 * l.length) e := by
  have := cr_turned l r e 0
  rw [xorV_zero] at this
  simpa using this

/-- Bytes in whose middle a number's bytes are xored in. -/
def upd (l : List Nat) (a V : Nat) : Nat → List Nat
  | 0 => l
  | k + 1 => (upd l a V k).set (a + k) ((upd l a V k).getD (a + k) 0 ^^^ V / 256 ^ k % 256)
set_option maxRecDepth 100000 in
theorem upd_eq (l : List Nat) (a V : Nat) : ∀ m, a + m ≤ l.length → upd l a V m = l.take a ++ (xorV ((l.drop a).take m) V ++ l.drop (a + m)) := by
  intro m
  induction m with
  | zero => intro _; simp [upd, xorV]
  | succ m ih =>
    intro h
    have hl : a + m < l.length := by omega
    have hA : (l.take a).length = a := by simp; omega
    have hB : (xorV ((l.drop a).take m) V).length = m := by rw [xorV_length]; simp; omega
    have hC : l.drop (a + m) = l[a + m] :: l.drop (a + m + 1) := List.drop_eq_getElem_cons hl
    have ht : (l.drop a).take (m + 1) = (l.drop a).take m ++ [l[a + m]] := by
      rw [List.take_succ_eq_append_getElem (by simp; omega)]
      simp
    have hL : ((l.drop a).take m).length = m := by simp; omega
    rw [upd, ih (by omega), ht, xorV_snoc, hL, hC]
    have hg : (l.take a ++ (xorV ((l.drop a).take m) V ++ l[a + m] :: l.drop (a + m + 1))).getD (a + m) 0 = l[a + m] := by
      rw [List.getD_eq_getElem?_getD, List.getElem?_append_right (by omega), hA, List.getElem?_append_right (by omega), hB]
      simp [List.getElem?_eq_getElem hl]
    rw [hg, List.set_append_right _ _ (by omega), hA, List.set_append_right _ _ (by omega), hB]
    simp [Nat.add_assoc]
set_option maxRecDepth 100000 in
theorem upd_length (l : List Nat) (a V : Nat) : ∀ m, (upd l a V m).length = l.length
  | 0 => rfl
  | m + 1 => by simp [upd, upd_length l a V m]
set_option maxRecDepth 100000 in
theorem upd_lt (l : List Nat) (a V : Nat) (h : ∀ x ∈ l, x < 256) : ∀ m, ∀ x ∈ upd l a V m, x < 256
  | 0 => h
  | m + 1 => by
    intro x hx
    rw [upd] at hx
    rcases List.mem_or_eq_of_mem_set hx with hx | rfl
    · exact upd_lt l a V h m x hx
    · refine Nat.xor_lt_two_pow (n := 8) ?_ (by omega)
      rw [List.getD_eq_getElem?_getD]
      cases hg : (upd l a V m)[a + m]? with
      | none => simp
      | some y => exact upd_lt l a V h m y (List.mem_of_getElem? hg)
set_option maxRecDepth 100000 in
theorem pow_four (m : Nat) (h : m ≤ 4) (V : Nat) : V % 256 ^ m < 4294967296 := by
  have h2 : m = 0 ∨ m = 1 ∨ m = 2 ∨ m = 3 ∨ m = 4 := by omega
  rcases h2 with rfl | rfl | rfl | rfl | rfl <;> simp <;> omega

set_option maxRecDepth 100000 in
/-- THE SUMS PART JUST WHERE SOMETHING WAS TURNED. -/
theorem turned_told (l : List Nat) (a mask s m r : Nat) (hl : a + m ≤ l.length) (hm : m ≤ 5) (hm0 : 0 < mask) (hmask : mask < 4294967296) (hs : s < 8) :
    cr r (upd l a (mask * 2 ^ s) m) = cr r l ↔ (mask * 2 ^ s) % 256 ^ m = 0 := by
  have e : l = l.take a ++ ((l.drop a).take m ++ l.drop (a + m)) := by
    rw [← List.drop_drop, List.take_append_drop, List.take_append_drop]
  have hL : ((l.drop a).take m).length = m := by simp; omega
  have h1 := cr_turned ((l.drop a).take m) (cr r (l.take a)) 0 (mask * 2 ^ s)
  rw [Nat.xor_zero, Nat.zero_xor, hL] at h1
  rw [upd_eq l a _ m hl, cr_append, cr_append, h1, cr_on]
  have h2 : cr r l = cr (cr (cr r (l.take a)) ((l.drop a).take m)) (l.drop (a + m)) := by
    conv => lhs; rw [e, cr_append, cr_append]
  rw [h2]
  generalize cr (cr (cr r (l.take a)) ((l.drop a).take m)) (l.drop (a + m)) = Y
  have hz : ∀ Z, (Y ^^^ Z = Y) ↔ Z = 0 := by
    intro Z
    constructor
    · intro h
      have h' := congrArg (Y ^^^ ·) h
      simpa [← Nat.xor_assoc] using h'
    · rintro rfl; simp
  rw [hz]
  have hlow : Sn (8 * m) (mask * 2 ^ s % 256 ^ m) < 4294967296 ∧ (Sn (8 * m) (mask * 2 ^ s % 256 ^ m) = 0 → mask * 2 ^ s % 256 ^ m = 0) := by
    by_cases h4 : m ≤ 4
    · have := pow_four m h4 (mask * 2 ^ s)
      exact ⟨Sn_lt _ this, Sn_inj _ this⟩
    · obtain rfl : m = 5 := by omega
      have h128 : 2 ^ s ≤ 128 := by
        have h3 : s = 0 ∨ s = 1 ∨ s = 2 ∨ s = 3 ∨ s = 4 ∨ s = 5 ∨ s = 6 ∨ s = 7 := by omega
        rcases h3 with rfl | rfl | rfl | rfl | rfl | rfl | rfl | rfl <;> decide
      have hV : mask * 2 ^ s < 256 ^ 5 := by
        have : mask * 2 ^ s ≤ 4294967295 * 128 := Nat.mul_le_mul (by omega) h128
        simp only [Nat.reducePow]
        omega
      rw [Nat.mod_eq_of_lt hV, show 8 * 5 = s + (40 - s) by omega, Sn_add, Sn_shift]
      refine ⟨Sn_lt _ hmask, fun h => ?_⟩
      have := Sn_inj _ hmask h
      omega
  constructor
  · intro h
    exact hlow.2 (Sn_inj _ hlow.1 h)
  · intro h
    rw [h, Sn_zero, Sn_zero]
end Go.Proofs.YtbnjojplfbibkaaGreatDoor
