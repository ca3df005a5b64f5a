/- A spill page's bytes, and what a page says: plain mathematics. -/
import Derived.Test.YtllcbilhpijjhaaDoorFb
namespace Go.Proofs.YtllcbilhpijjhaaDoor

/-- The next page that a page may say. -/
def nxt (n : Int) : Prop := n = 0 ∨ 2 ≤ n ∧ n < 65536
instance (n : Int) : Decidable (nxt n) := by unfold nxt; infer_instance
/-- All ahead of the sum. -/
def spH (n : Int) (d : List Int) (p : Nat) : List Int := [4, 0, 0, 0] ++ (fB 4 n ++ (fB 4 d.length ++ (d ++ zs (p - 16 - d.length))))
/-- THE SPILL PAGE. -/
def spB (n : Int) (d : List Int) (p : Nat) : List Int := sealB (spH n d p)
/-- Encode's fault. -/
def spE (n : Int) (d : List Int) (p : Int) : Int := if ¬ pw p ∨ ¬ nxt n then 1 else if d.length = 0 ∨ p - 16 < d.length then 31 else 0
set_option maxRecDepth 100000 in
theorem spH_length (n : Int) (d : List Int) (p : Nat) (h : d.length + 16 ≤ p) : (spH n d p).length = p - 4 := by
  simp only [spH, List.length_append, fB_length, zs_length, List.length_cons, List.length_nil]
  omega
set_option maxRecDepth 100000 in
theorem spB_length (n : Int) (d : List Int) (p : Nat) (h : d.length + 16 ≤ p) : (spB n d p).length = p := by
  rw [spB, sealB_length, spH_length n d p h]
  omega
set_option maxRecDepth 100000 in
theorem spH_wf {n : Int} {d : List Int} (p : Nat) (h : Wf d) : Wf (spH n d p) := by
  refine Wf.append ?_ ((fB_wf _ _).append ((fB_wf _ _).append (h.append (zs_wf _))))
  intro x hx
  simp only [List.mem_cons, List.not_mem_nil, or_false] at hx
  omega
set_option maxRecDepth 100000 in
theorem spB_wf {n : Int} {d : List Int} (p : Nat) (h : Wf d) : Wf (spB n d p) := sealB_wf (spH_wf p h)
set_option maxRecDepth 100000 in
theorem spE_zero {n : Int} {d : List Int} {p : Int} : spE n d p = 0 ↔ pw p ∧ nxt n ∧ 1 ≤ d.length ∧ (d.length : Int) ≤ p - 16 := by
  unfold spE
  split
  · rename_i h
    constructor
    · intro h1; omega
    · rintro ⟨h1, h2, _⟩
      rcases h with h | h
      · exact absurd h1 h
      · exact absurd h2 h
  · rename_i h
    rw [not_or, Decidable.not_not, Decidable.not_not] at h
    split
    · rename_i h2
      constructor
      · intro h1; omega
      · rintro ⟨_, _, h3, h4⟩
        omega
    · rename_i h2
      exact ⟨fun _ => ⟨h.1, h.2, by omega, by omega⟩, fun _ => rfl⟩
/-- The bytes that a page would hold. -/
def spT (b : List Int) : List Int := (b.drop 12).take (rdN b 8 4).toNat
/-- b is the page of its next and its bytes. -/
def spIs (b : List Int) : Prop := pw b.length ∧ rdN b 8 4 ≤ (b.length : Int) - 16 ∧ spE (rdN b 4 4) (spT b) b.length = 0 ∧ spB (rdN b 4 4) (spT b) b.length = b
instance (b : List Int) : Decidable (spIs b) := by unfold spIs; infer_instance
/-- What a page says: the next one, its bytes. -/
def spD (b : List Int) : Option (Int × List Int) := if spIs b then some (rdN b 4 4, spT b) else none
set_option maxRecDepth 100000 in
theorem spB_reads (n : Int) (d : List Int) (p : Nat) (hn : nxt n) (hd : d.length + 16 ≤ p) (hp : p ≤ 65536) : rdN (spB n d p) 4 4 = n ∧ rdN (spB n d p) 8 4 = d.length ∧ spT (spB n d p) = d := by
  obtain ⟨Z, hZ⟩ : ∃ Z, Z = zs (p - 16 - d.length) ++ fB 4 (sumN [spH n d p]) := ⟨_, rfl⟩
  have e : spB n d p = [4, 0, 0, 0] ++ (fB 4 n ++ (fB 4 d.length ++ (d ++ Z))) := by
    rw [hZ]
    simp only [spB, sealB, spH, List.append_assoc]
  have e1 : rdN (spB n d p) 4 4 = n := by
    rw [e, rdN_mid [4, 0, 0, 0] (fB 4 n) _ 4 4 rfl (fB_length _ _), fB_read 4 _ (by unfold nxt at hn; omega) (by unfold nxt at hn; simp; omega)]
  have e2 : rdN (spB n d p) 8 4 = d.length := by
    rw [e, show [4, 0, 0, 0] ++ (fB 4 n ++ (fB 4 d.length ++ (d ++ Z))) = ([4, 0, 0, 0] ++ fB 4 n) ++ (fB 4 d.length ++ (d ++ Z)) from by simp only [List.append_assoc], rdN_mid _ (fB 4 d.length) _ 8 4 (by simp [fB_length]) (fB_length _ _), fB_read 4 _ (by omega) (by simp; omega)]
  refine ⟨e1, e2, ?_⟩
  unfold spT
  rw [e2, e, show [4, 0, 0, 0] ++ (fB 4 n ++ (fB 4 d.length ++ (d ++ Z))) = ([4, 0, 0, 0] ++ (fB 4 n ++ fB 4 d.length)) ++ (d ++ Z) from by simp only [List.append_assoc], List.drop_left' (by simp [fB_length]), Int.toNat_natCast, List.take_left]
set_option maxRecDepth 100000 in
theorem spD_of {n : Int} {d : List Int} {p : Nat} (h : spE n d p = 0) : spD (spB n d p) = some (n, d) := by
  obtain ⟨h1, h2, h3, h4⟩ := spE_zero.1 h
  have hp := pw_le h1
  obtain ⟨e1, e2, e3⟩ := spB_reads n d p h2 (by omega) (by omega)
  have hl := spB_length n d p (by omega)
  unfold spD
  rw [if_pos, e1, e3]
  unfold spIs
  rw [e1, e2, e3, hl]
  exact ⟨h1, by omega, h, rfl⟩
set_option maxRecDepth 100000 in
theorem spD_inv {b : List Int} {n : Int} {d : List Int} (h : spD b = some (n, d)) : spE n d b.length = 0 ∧ spB n d b.length = b := by
  unfold spD at h
  split at h
  · rename_i hi
    obtain ⟨_, _, h3, h4⟩ := hi
    injection h with h
    injection h with ha hb
    subst ha hb
    exact ⟨h3, h4⟩
  · cases h
set_option maxRecDepth 100000 in
theorem spT_wf {b : List Int} (h : Wf b) : Wf (spT b) := (h.drop _).take _
set_option maxRecDepth 100000 in
theorem spT_length {b : List Int} (h : Wf b) (hp : 16 ≤ b.length) (hn : rdN b 8 4 ≤ (b.length : Int) - 16) : ((spT b).length : Int) = rdN b 8 4 := by
  have := rdN_bound b h 8 4
  unfold spT
  rw [List.length_take, List.length_drop]
  omega
end Go.Proofs.YtllcbilhpijjhaaDoor
