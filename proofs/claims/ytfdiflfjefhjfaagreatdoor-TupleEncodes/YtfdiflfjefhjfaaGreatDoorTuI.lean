/- The document's numbers; how long items' bytes are. -/
import Derived.Test.YtfdiflfjefhjfaaGreatDoorSmA
import Derived.Test.YtfdiflfjefhjfaaGreatDoorWeigh
namespace Go.Proofs.YtfdiflfjefhjfaaGreatDoor
open Go.RowKit

set_option maxRecDepth 100000 in
theorem fB_not : ∀ (k : Nat) (m n : Int), k ≤ 8 → 0 ≤ m → m ≤ 9223372036854775807 → m = -n - 1 → fB k (n % 18446744073709551616) = (fB k m).map (255 - ·)
  | 0, _, _, _, _, _, _ => rfl
  | i + 1, m, n, hk, h0, h1, h2 => by
    rw [fB, fB, List.map_cons, fB_not i m n (by omega) h0 h1 h2]
    congr 1
    have : i = 0 ∨ i = 1 ∨ i = 2 ∨ i = 3 ∨ i = 4 ∨ i = 5 ∨ i = 6 ∨ i = 7 := by omega
    rcases this with rfl | rfl | rfl | rfl | rfl | rfl | rfl | rfl <;> simp <;> omega
set_option maxRecDepth 100000 in
theorem intB_neg (n : Int) (h0 : -9223372036854775808 ≤ n) (hn : n < 0) : intB n = (127 - (wd (-n - 1) : Int)) :: (fB (wd (-n - 1)) (-n - 1)).map (255 - ·) := by
  unfold intB
  rw [if_pos hn, fB_not (wd (-n - 1)) (-n - 1) n (wd_le _ (by omega)) (by omega) (by omega) rfl]
set_option maxRecDepth 100000 in
theorem xor255 (x : Int) (h0 : 0 ≤ x) (h1 : x ≤ 255) : bits .xor .u8 x 255 = 255 - x := by
  have h : ∀ a : Fin 256, bits .xor .u8 ((a.val : Nat) : Int) 255 = 255 - ((a.val : Nat) : Int) := by decide +kernel
  have := h ⟨x.toNat, by omega⟩
  simpa [Int.toNat_of_nonneg h0] using this
set_option maxRecDepth 100000 in
theorem wd_lt_iff (n : Int) (j : Nat) (h0 : 0 ≤ n) (h1 : n ≤ 18446744073709551615) (hj : j ≤ 8) : j < wd n ↔ 0 < n / 256 ^ j := by
  have h := wd_iff n j h0 h1 hj
  have hp : (0 : Int) < 256 ^ j := Int.pow_pos (by omega)
  have h2 : 0 < n / 256 ^ j ↔ 256 ^ j ≤ n := by
    constructor
    · intro h3
      have := Int.mul_ediv_add_emod n (256 ^ j)
      have h4 := Int.emod_nonneg n (show (256 : Int) ^ j ≠ 0 by omega)
      have h5 : 256 ^ j * 1 ≤ 256 ^ j * (n / 256 ^ j) := Int.mul_le_mul_of_nonneg_left (by omega) (by omega)
      omega
    · intro h3
      have : 1 ≤ n / 256 ^ j := Int.le_ediv_of_mul_le hp (by omega)
      omega
  omega
set_option maxRecDepth 100000 in
/-- How long items' bytes are, by their weight. -/
theorem EI_len : ∀ (l : Its) (n : Int), l.Ok → 0 ≤ n → wgh l n ≤ 100000 → ((EI l).length : Int) + 200 * n ≤ 200 * wgh l n
  | .nil, n, _, _, _ => by simp [EI, wgh]
  | .cons k m t s r, n, ho, h0, h => by
    have hn : n ≤ 100000 := by
      by_cases e : n ≤ 100000
      · exact e
      · rw [wgh, if_neg e] at h
        exact h
    rw [wgh, if_pos hn] at h ⊢
    have hm := wgh_mono s (n + 1 + ((t.size / 64 : Nat) : Int))
    have hr := EI_len r (wgh s (n + 1 + ((t.size / 64 : Nat) : Int))) ho.2.2.2.2.2 (by omega) h
    have hr2 := wgh_mono r (wgh s (n + 1 + ((t.size / 64 : Nat) : Int)))
    have hs := EI_len s (n + 1 + ((t.size / 64 : Nat) : Int)) ho.2.2.2.2.1 (by omega) (by omega)
    have hp : (pay k m t s).length ≤ 2 * t.size + 12 + (EI s).length := by
      unfold pay
      have h1 := intB_length m ho.2.1.1 ho.2.1.2
      have h2 := (oB_length (bL t)).2
      rw [bL_length] at h2
      split
      · omega
      · split
        · rw [fB_length]; omega
        · split
          · omega
          · split
            · simp only [List.length_append, List.length_cons, List.length_nil]; omega
            · simp
    rw [EI_cons, List.length_append, List.length_cons]
    omega
end Go.Proofs.YtfdiflfjefhjfaaGreatDoor
