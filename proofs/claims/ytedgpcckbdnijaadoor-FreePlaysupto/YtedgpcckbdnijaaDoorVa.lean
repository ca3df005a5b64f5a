/- A page of a list: plain mathematics. -/
import Derived.Test.YtedgpcckbdnijaaDoorUj
namespace Go.Proofs.YtedgpcckbdnijaaDoor
open Go.RowKit

def pwb (p : Int) : Bool := p == 512 || p == 1024 || p == 2048 || p == 4096 || p == 8192 || p == 16384 || p == 32768 || p == 65536
set_option maxRecDepth 100000 in
theorem pwb_iff (p : Int) : pwb p = true ↔ pw p := by
  unfold pwb pw
  simp only [Bool.or_eq_true, beq_iff_eq]
  omega
set_option maxRecDepth 100000 in
theorem pwb_le {p : Int} (h : pwb p = true) : 512 ≤ p ∧ p ≤ 65536 := by
  have := (pwb_iff p).1 h
  unfold pw at this
  omega
/-- The pages' bytes. -/
def frT (l : List Int) : List Int := l.flatMap (fun p => fB 4 p)
set_option maxRecDepth 100000 in
theorem frT_length : ∀ l : List Int, (frT l).length = 4 * l.length
  | [] => rfl
  | p :: l => by
    have := frT_length l
    unfold frT at *
    rw [List.flatMap_cons, List.length_append, fB_length, this, List.length_cons]
    omega
set_option maxRecDepth 100000 in
theorem frT_append (l k : List Int) : frT (l ++ k) = frT l ++ frT k := by unfold frT; simp
set_option maxRecDepth 100000 in
theorem frT_one (p : Int) : frT [p] = fB 4 p := by unfold frT; simp
set_option maxRecDepth 100000 in
theorem frT_wf : ∀ l : List Int, Wf (frT l)
  | [] => by intro x hx; cases hx
  | p :: l => by
    have := frT_wf l
    unfold frT at *
    rw [List.flatMap_cons]
    exact (fB_wf _ _).append this
/-- All ahead of the sum. -/
def frH (n : Int) (l : List Int) (P : Nat) : List Int := [5, 0] ++ (fB 2 l.length ++ (fB 4 n ++ (frT l ++ zs (P - 12 - 4 * l.length))))
def frB (n : Int) (l : List Int) (P : Nat) : List Int := sealB (frH n l P)
set_option maxRecDepth 100000 in
theorem frH_length (n : Int) (l : List Int) (P : Nat) (h : 12 + 4 * l.length ≤ P) : (frH n l P).length = P - 4 := by
  simp only [frH, List.length_append, fB_length, zs_length, frT_length, List.length_cons, List.length_nil]
  omega
set_option maxRecDepth 100000 in
theorem frB_length (n : Int) (l : List Int) (P : Nat) (h : 12 + 4 * l.length ≤ P) : (frB n l P).length = P := by
  rw [frB, sealB_length, frH_length n l P h]
  omega
set_option maxRecDepth 100000 in
theorem head5_wf : Wf [5, 0] := by
  intro x hx
  simp only [List.mem_cons, List.not_mem_nil, or_false] at hx
  omega
set_option maxRecDepth 100000 in
theorem frH_wf (n : Int) (l : List Int) (P : Nat) : Wf (frH n l P) := head5_wf.append ((fB_wf _ _).append ((fB_wf _ _).append ((frT_wf _).append (zs_wf _))))
set_option maxRecDepth 100000 in
theorem frB_wf (n : Int) (l : List Int) (P : Nat) : Wf (frB n l P) := sealB_wf (frH_wf n l P)
/-- Behind k pages. -/
def lyF (n : Int) (l : List Int) (P k : Nat) : List Int := [5, 0] ++ (fB 2 l.length ++ (fB 4 n ++ (frT (l.take k) ++ zs (P - 8 - 4 * k))))
def lyA (P : Nat) : List Int := [5, 0] ++ (zs 2 ++ (zs 4 ++ zs (P - 8)))
def lyB (l : List Int) (P : Nat) : List Int := [5, 0] ++ (fB 2 l.length ++ (zs 4 ++ zs (P - 8)))
set_option maxRecDepth 100000 in
theorem lyA_of (P : Nat) (h : 512 ≤ P) : (zs P).set 0 5 = lyA P := by
  have e : zs P = [0, 0] ++ (zs 2 ++ (zs 4 ++ zs (P - 8))) := by
    conv => lhs; rw [show P = 2 + (2 + (4 + (P - 8))) by omega, zs_add, zs_add, zs_add]
    rfl
  rw [e]
  rfl
set_option maxRecDepth 100000 in
theorem lyB_of (l : List Int) (P : Nat) : splice (lyA P) 2 (fB 2 l.length) = lyB l P := splice_mid [5, 0] (zs 2) (fB 2 l.length) _ 2 rfl (by rw [zs_length, fB_length])
set_option maxRecDepth 100000 in
theorem lyF_zero (n : Int) (l : List Int) (P : Nat) : splice (lyB l P) 4 (fB 4 n) = lyF n l P 0 := by
  have := splice_mid ([5, 0] ++ fB 2 l.length) (zs 4) (fB 4 n) (zs (P - 8)) 4 (by simp [fB_length]) (by rw [zs_length, fB_length])
  simpa [lyB, lyF, frT, List.append_assoc] using this
set_option maxRecDepth 100000 in
theorem lyF_succ (n : Int) (l : List Int) (P k : Nat) (hk : k < l.length) (hP : 12 + 4 * l.length ≤ P) : splice (lyF n l P k) (8 + 4 * k) (fB 4 (l.getD k 0)) = lyF n l P (k + 1) := by
  have := splice_mid ([5, 0] ++ (fB 2 l.length ++ (fB 4 n ++ frT (l.take k)))) (zs 4) (fB 4 (l.getD k 0)) (zs (P - 8 - 4 * (k + 1))) (8 + 4 * k) (by simp [fB_length, frT_length, List.length_take, Nat.min_eq_left (Nat.le_of_lt hk)]; omega) (by rw [zs_length, fB_length])
  rw [← zs_add, show 4 + (P - 8 - 4 * (k + 1)) = P - 8 - 4 * k by omega] at this
  unfold lyF
  rw [takeZ l k hk, frT_append, frT_one]
  simpa [List.append_assoc] using this
set_option maxRecDepth 100000 in
theorem lyF_len (n : Int) (l : List Int) (P k : Nat) (hk : k ≤ l.length) (hP : 12 + 4 * l.length ≤ P) : (lyF n l P k).length = P := by
  simp only [lyF, List.length_append, fB_length, zs_length, frT_length, List.length_cons, List.length_nil, List.length_take, Nat.min_eq_left hk]
  omega
set_option maxRecDepth 100000 in
theorem lyA_len (P : Nat) (h : 512 ≤ P) : (lyA P).length = P := by simp [lyA, zs_length]; omega
set_option maxRecDepth 100000 in
theorem lyB_len (l : List Int) (P : Nat) (h : 512 ≤ P) : (lyB l P).length = P := by simp [lyB, zs_length, fB_length]; omega
set_option maxRecDepth 100000 in
theorem lyF_split (n : Int) (l : List Int) (P : Nat) (hP : 12 + 4 * l.length ≤ P) : lyF n l P l.length = frH n l P ++ zs 4 := by
  unfold lyF frH
  rw [List.take_of_length_le (Nat.le_refl _), show P - 8 - 4 * l.length = (P - 12 - 4 * l.length) + 4 by omega, zs_add]
  simp only [List.append_assoc]
set_option maxRecDepth 100000 in
theorem lyF_body (n : Int) (l : List Int) (P : Nat) (hP : 12 + 4 * l.length ≤ P) : (lyF n l P l.length).take (P - 4) = frH n l P := by
  rw [lyF_split n l P hP]
  exact List.take_left' (frH_length n l P hP)
set_option maxRecDepth 100000 in
theorem lyF_page (n : Int) (l : List Int) (P : Nat) (hP : 12 + 4 * l.length ≤ P) : splice (lyF n l P l.length) (P - 4) (fB 4 (sumN [frH n l P])) = frB n l P := by
  unfold splice
  rw [lyF_body n l P hP, fB_length, List.drop_eq_nil_of_le (by rw [lyF_len n l P _ (Nat.le_refl _) hP]; omega), List.append_nil]
  rfl
/-- The first fault among the pages. -/
def rsE : Int → List Int → Int
  | _, [] => 0
  | a, p :: l => if isPg p then (if p ≤ a then 63 else rsE p l) else 30
/-- Encode's fault. -/
def frE (n : Int) (l : List Int) (p : Int) : Int := if pwb p then (if n ≠ 0 ∧ ¬ isPg n then 30 else if (p - 12) / 4 < l.length then 2 else rsE 0 l) else 1
def frL (n : Int) (l : List Int) (p : Int) : List Int := if frE n l p = 0 then frB n l p.toNat else []
set_option maxRecDepth 100000 in
theorem frE_zero {n : Int} {l : List Int} {p : Int} (h : frE n l p = 0) : pwb p = true ∧ (n = 0 ∨ isPg n) ∧ (l.length : Int) ≤ (p - 12) / 4 ∧ rsE 0 l = 0 := by
  unfold frE at h
  split at h
  · rename_i h1
    split at h
    · omega
    · rename_i h2
      split at h
      · omega
      · rename_i h3
        exact ⟨h1, by omega, by omega, h⟩
  · omega
set_option maxRecDepth 100000 in
theorem rsE_zero : ∀ (l : List Int) (a : Int), rsE a l = 0 → ∀ x ∈ l, isPg x
  | [], _, _, x, hx => by cases hx
  | p :: l, a, h, x, hx => by
    unfold rsE at h
    split at h
    · rename_i h1
      split at h
      · omega
      · rcases List.mem_cons.1 hx with rfl | hx
        · exact h1
        · exact rsE_zero l p h x hx
    · omega
set_option maxRecDepth 100000 in
theorem frL_wf (n : Int) (l : List Int) (p : Int) : Wf (frL n l p) := by
  unfold frL
  split
  · exact frB_wf _ _ _
  · intro x hx; cases hx
set_option maxRecDepth 100000 in
theorem frL_len (n : Int) (l : List Int) (p : Int) : (frL n l p).length ≤ 65536 := by
  unfold frL
  split
  · rename_i h
    obtain ⟨h1, _, h3, _⟩ := frE_zero h
    have := pwb_le h1
    rw [frB_length _ _ _ (by omega)]
    omega
  · simp
end Go.Proofs.YtedgpcckbdnijaaDoor
