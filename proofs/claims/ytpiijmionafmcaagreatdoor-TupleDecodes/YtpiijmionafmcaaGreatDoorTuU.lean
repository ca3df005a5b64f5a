/- What bytes say of items: as a function, and within which bounds. -/
import Derived.Test.YtpiijmionafmcaaGreatDoorTuT
namespace Go.Proofs.YtpiijmionafmcaaGreatDoor
open Go.RowKit

/-- An item behind its first byte: number, text and List; the place behind it; the error. rec reads a List. -/
def rdX (V : ByteArray → Bool) (rec : Nat → Int → Its × Int × Int) (l : List Int) (p : Nat) (kind d : Int) : (Int × ByteArray × Its) × Int × Int :=
  if kind = 3 then (((rdI (l.drop p) p).1, ⟨#[]⟩, .nil), (rdI (l.drop p) p).2.1, (rdI (l.drop p) p).2.2)
  else if kind = 4 then (((rdF (l.drop p) p).1, ⟨#[]⟩, .nil), (rdF (l.drop p) p).2.1, (rdF (l.drop p) p).2.2)
  else if kind = 5 ∨ kind = 6 then ((0, (rdT V kind (l.drop p) p).1, .nil), (rdT V kind (l.drop p) p).2.1, (rdT V kind (l.drop p) p).2.2)
  else if kind = 7 then ((0, ⟨#[]⟩, (rec p (d + 1)).1), (rec p (d + 1)).2.1, (rec p (d + 1)).2.2)
  else ((0, ⟨#[]⟩, .nil), p, 0)
/-- Items from a place on in a depth, j of them stand ahead; the place behind them; the error. The first number is how many steps may be done. -/
def rdL (V : ByteArray → Bool) (l : List Int) : Nat → Nat → Int → Nat → Its × Int × Int
  | 0, _, _, _ => (.nil, 0, 0)
  | N + 1, p, d, j =>
    if l.length ≤ p then (if 0 < d then (.nil, 0, 21) else (.nil, p, 0))
    else if 0 < d ∧ l.getD p 0 = 0 then (.nil, p + 1, 0)
    else if l.getD p 0 < 16 ∨ 23 < l.getD p 0 then (.nil, 0, 21)
    else if j = 64 ∨ (l.getD p 0 = 23 ∧ d = 16) then (.nil, 0, 22)
    else if (rdX V (fun p d => rdL V l N p d 0) l (p + 1) (l.getD p 0 - 16) d).2.2 ≠ 0 then (.nil, 0, (rdX V (fun p d => rdL V l N p d 0) l (p + 1) (l.getD p 0 - 16) d).2.2)
    else if (rdL V l N (rdX V (fun p d => rdL V l N p d 0) l (p + 1) (l.getD p 0 - 16) d).2.1.toNat d (j + 1)).2.2 ≠ 0 then (.nil, 0, (rdL V l N (rdX V (fun p d => rdL V l N p d 0) l (p + 1) (l.getD p 0 - 16) d).2.1.toNat d (j + 1)).2.2)
    else (.cons (l.getD p 0 - 16) (rdX V (fun p d => rdL V l N p d 0) l (p + 1) (l.getD p 0 - 16) d).1.1 (rdX V (fun p d => rdL V l N p d 0) l (p + 1) (l.getD p 0 - 16) d).1.2.1 (rdX V (fun p d => rdL V l N p d 0) l (p + 1) (l.getD p 0 - 16) d).1.2.2
      (rdL V l N (rdX V (fun p d => rdL V l N p d 0) l (p + 1) (l.getD p 0 - 16) d).2.1.toNat d (j + 1)).1, (rdL V l N (rdX V (fun p d => rdL V l N p d 0) l (p + 1) (l.getD p 0 - 16) d).2.1.toNat d (j + 1)).2.1, 0)
set_option maxRecDepth 100000 in
theorem rO_at : ∀ (r : List Int) (i : Int) (acc : List Int), (rO r i acc).2.2 = 0 → i ≤ (rO r i acc).2.1 ∧ (rO r i acc).2.1 ≤ i + r.length
  | [], i, acc, h => by simp [rO] at h
  | [c], i, acc, h => by
    by_cases hc : c = 0
    · subst hc
      rw [rO_cut] at h
      simp at h
    · rw [rO_plain _ _ _ _ hc] at h
      simp [rO] at h
  | c :: d :: r, i, acc, h => by
    by_cases hc : c = 0
    · subst hc
      rw [rO_two] at h ⊢
      split at h
      · rename_i h2
        rw [if_pos h2]
        have := rO_at r (i + 2) _ h
        simp only [List.length_cons]
        omega
      · rename_i h2
        rw [if_neg h2]
        split at h
        · rename_i h3
          rw [if_pos h3]
          simp only [List.length_cons]
          omega
        · simp at h
    · rw [rO_plain _ _ _ _ hc] at h ⊢
      have := rO_at (d :: r) (i + 1) _ h
      simp only [List.length_cons] at this ⊢
      omega
set_option maxRecDepth 100000 in
theorem rdI_ok (r : List Int) (p : Int) (hw : Wf r) : (-9223372036854775808 ≤ (rdI r p).1 ∧ (rdI r p).1 ≤ 9223372036854775807) ∧ ((rdI r p).2.2 = 0 → p ≤ (rdI r p).2.1 ∧ (rdI r p).2.1 ≤ p + r.length) ∧ ((rdI r p).2.2 = 0 ∨ (rdI r p).2.2 = 21) := by
  cases r with
  | nil => simp [rdI]
  | cons c r =>
    have hc := hw c (by simp)
    have hwr : Wf r := fun x hx => hw x (by simp [hx])
    by_cases hcb : c < 128
    · obtain ⟨k, hk⟩ : ∃ k : Nat, 127 - c = (k : Int) := ⟨(127 - c).toNat, by omega⟩
      rw [rdI_b _ _ hcb hk]
      have hb := rdB_bound (r.take k) (fun x hx => hwr x (List.mem_of_mem_take hx))
      split
      · simp; omega
      · split
        · simp
        · rename_i h1 h2
          rw [show (r.take k).length = k by simp; omega] at hb
          split
          · simp
          · rename_i h3
            simp only [List.length_cons]
            refine ⟨by omega, fun _ => by omega, .inl trivial⟩
    · obtain ⟨k, hk⟩ : ∃ k : Nat, c - 128 = (k : Int) := ⟨(c - 128).toNat, by omega⟩
      rw [rdI_f _ _ hcb hk]
      have hb := rdB_bound (r.take k) (fun x hx => hwr x (List.mem_of_mem_take hx))
      split
      · simp; omega
      · split
        · simp
        · rename_i h1 h2
          split
          · simp
          · rename_i h3
            simp only [List.length_cons]
            refine ⟨by omega, fun _ => by omega, .inl trivial⟩
set_option maxRecDepth 100000 in
theorem rdF_ok (r : List Int) (p : Int) (hw : Wf r) : (-9223372036854775808 ≤ (rdF r p).1 ∧ (rdF r p).1 ≤ 9223372036854775807) ∧ ((rdF r p).2.2 = 0 → p ≤ (rdF r p).2.1 ∧ (rdF r p).2.1 ≤ p + r.length) ∧ ((rdF r p).2.2 = 0 ∨ (rdF r p).2.2 = 21) := by
  unfold rdF
  split
  · simp
  · rename_i h
    have hb := rdB_bound (r.take 8) (fun x hx => hw x (List.mem_of_mem_take hx))
    rw [show (r.take 8).length = 8 by simp; omega, show (256 : Int) ^ 8 = 18446744073709551616 by decide] at hb
    refine ⟨?_, fun _ => by simp only; omega, .inl rfl⟩
    simp only [fbt]
    split <;> omega
set_option maxRecDepth 100000 in
theorem rdT_ok (V : ByteArray → Bool) (kind : Int) (r : List Int) (p : Int) (hw : Wf r) : (rdT V kind r p).1.size ≤ r.length ∧ ((rdT V kind r p).2.2 = 0 → p ≤ (rdT V kind r p).2.1 ∧ (rdT V kind r p).2.1 ≤ p + r.length) ∧ ((rdT V kind r p).2.2 = 0 ∨ (rdT V kind r p).2.2 = 21) := by
  unfold rdT
  split
  · exact ⟨Nat.zero_le _, fun h => by simp at h, .inr rfl⟩
  · rename_i h
    have h0 : (rO r p []).2.2 = 0 := by
      rcases Decidable.em ((rO r p []).2.2 = 0) with h1 | h1
      · exact h1
      · exact absurd (Or.inl h1) h
    have h1 := rO_p r p [] hw Wf.nil
    refine ⟨?_, fun _ => rO_at r p [] h0, .inl rfl⟩
    simp only [strOfNums_size]
    simpa using h1.2
/-- What a reading answers lies within its bounds. -/
def RdOk (n p : Nat) (l : Its) (q e : Int) : Prop := l.Ok ∧ l.len ≤ 64 ∧ (e = 0 → (p : Int) ≤ q ∧ q ≤ n) ∧ (e = 0 ∨ e = 21 ∨ e = 22)
def XOk (n p : Nat) (x : Int × ByteArray × Its) (q e : Int) : Prop := (-9223372036854775808 ≤ x.1 ∧ x.1 ≤ 9223372036854775807) ∧ x.2.1.size ≤ n ∧ x.2.2.Ok ∧ x.2.2.len ≤ 64 ∧ (e = 0 → (p : Int) ≤ q ∧ q ≤ n) ∧ (e = 0 ∨ e = 21 ∨ e = 22)
set_option maxRecDepth 100000 in
theorem rdX_ok (V : ByteArray → Bool) (rec : Nat → Int → Its × Int × Int) (l : List Int) (p : Nat) (kind d : Int) (hw : Wf l) (hp : p ≤ l.length) (hr : kind = 7 → RdOk l.length p (rec p (d + 1)).1 (rec p (d + 1)).2.1 (rec p (d + 1)).2.2) :
    XOk l.length p (rdX V rec l p kind d).1 (rdX V rec l p kind d).2.1 (rdX V rec l p kind d).2.2 := by
  have hwd : Wf (l.drop p) := fun x hx => hw x (List.mem_of_mem_drop hx)
  have hld : (l.drop p).length = l.length - p := by simp
  have z : (⟨#[]⟩ : ByteArray).size ≤ l.length := Nat.zero_le _
  unfold rdX
  split
  · have h := rdI_ok (l.drop p) p hwd
    rw [hld] at h
    exact ⟨h.1, z, trivial, Nat.zero_le _, fun e => by have := h.2.1 e; simp only; omega, by rcases h.2.2 with h | h <;> simp [h]⟩
  · split
    · have h := rdF_ok (l.drop p) p hwd
      rw [hld] at h
      exact ⟨h.1, z, trivial, Nat.zero_le _, fun e => by have := h.2.1 e; simp only; omega, by rcases h.2.2 with h | h <;> simp [h]⟩
    · split
      · have h := rdT_ok V kind (l.drop p) p hwd
        rw [hld] at h
        exact ⟨by simp, by simp only; omega, trivial, Nat.zero_le _, fun e => by have := h.2.1 e; simp only; omega, by rcases h.2.2 with h | h <;> simp [h]⟩
      · split
        · rename_i hk
          have h := hr hk
          exact ⟨by simp, z, h.1, h.2.1, h.2.2.1, h.2.2.2⟩
        · exact ⟨by simp, z, trivial, Nat.zero_le _, fun _ => by simp only; omega, .inl rfl⟩
set_option maxRecDepth 100000 in
theorem rdL_ok (V : ByteArray → Bool) (l : List Int) (hw : Wf l) (hl : l.length ≤ 140737488355328) : ∀ (N p : Nat) (d : Int) (j : Nat), p ≤ l.length → j ≤ 64 → 2 * (l.length - p) + 2 ≤ N → RdOk l.length p (rdL V l N p d j).1 (rdL V l N p d j).2.1 (rdL V l N p d j).2.2 ∧ (rdL V l N p d j).1.len + j ≤ 64
  | 0, _, _, _, _, _, h => by omega
  | N + 1, p, d, j, hp, hj, hN => by
    rw [rdL]
    split
    · split
      · exact ⟨⟨trivial, Nat.zero_le _, fun h => by simp at h, .inr (.inl rfl)⟩, by simp only [Its.len]; omega⟩
      · exact ⟨⟨trivial, Nat.zero_le _, fun _ => by simp only; omega, .inl rfl⟩, by simp only [Its.len]; omega⟩
    · rename_i h1
      split
      · exact ⟨⟨trivial, Nat.zero_le _, fun _ => by simp only; omega, .inl rfl⟩, by simp only [Its.len]; omega⟩
      · split
        · exact ⟨⟨trivial, Nat.zero_le _, fun h => by simp at h, .inr (.inl rfl)⟩, by simp only [Its.len]; omega⟩
        · rename_i h2 h3
          split
          · exact ⟨⟨trivial, Nat.zero_le _, fun h => by simp at h, .inr (.inr rfl)⟩, by simp only [Its.len]; omega⟩
          · rename_i h4
            have hx := rdX_ok V (fun p d => rdL V l N p d 0) l (p + 1) (l.getD p 0 - 16) d hw (by omega) (fun _ => (rdL_ok V l hw hl N (p + 1) (d + 1) 0 (by omega) (by omega) (by omega)).1)
            generalize rdX V (fun p d => rdL V l N p d 0) l (p + 1) (l.getD p 0 - 16) d = x at *
            obtain ⟨x1, x2, x3, x4, x5, x6⟩ := hx
            split
            · rename_i h5
              exact ⟨⟨trivial, Nat.zero_le _, fun h => absurd h h5, x6⟩, by simp only [Its.len]; omega⟩
            · rename_i h5
              have h6 : x.2.2 = 0 := Decidable.not_not.1 h5
              have hq := x5 h6
              have hr := rdL_ok V l hw hl N x.2.1.toNat d (j + 1) (by omega) (by omega) (by omega)
              generalize rdL V l N x.2.1.toNat d (j + 1) = r at *
              obtain ⟨⟨r1, r2, r3, r4⟩, r5⟩ := hr
              split
              · rename_i h7
                exact ⟨⟨trivial, Nat.zero_le _, fun h => absurd h h7, r4⟩, by simp only [Its.len]; omega⟩
              · rename_i h7
                have h8 : r.2.2 = 0 := Decidable.not_not.1 h7
                have hq2 := r3 h8
                have hgp : 16 ≤ l.getD p 0 ∧ l.getD p 0 ≤ 23 := by omega
                refine ⟨⟨⟨by omega, x1, by omega, by omega, x3, r1⟩, by simp only [Its.len]; omega, fun _ => by simp only; omega, .inl rfl⟩, by simp only [Its.len]; omega⟩
end Go.Proofs.YtpiijmionafmcaaGreatDoor
