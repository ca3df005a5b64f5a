/- spill.Encode. -/
import Derived.Test.YtllcbilhpijjhaaDoorLa
import Derived.Test.YtllcbilhpijjhaaDoorFc
namespace Go.Proofs.YtllcbilhpijjhaaDoor
open Go.RowKit

set_option maxRecDepth 100000 in
theorem mayBeNext_any (n : Int) (w : World) : Calls Tryd.prog 32 #[.int .i64 n] w fun e w' => e = .returned (.bool (decide (nxt n))) ∧ w' = w := by
  go_enter Tryd.func32, Tryd.ntmps32
  go_wp2
  all_goals go_ret
  all_goals refine ⟨ret_bool ?_, rfl⟩
  all_goals (rw [Bool.eq_iff_iff]; unfold nxt; first | (simp; done) | (simp; omega) | (simp_all; done) | (simp_all; omega))
set_option maxRecDepth 100000 in
theorem hold_any (p : Int) (w : World) (h0 : 0 ≤ p) (h1 : p ≤ 65536) : Calls Tryd.prog 33 #[.int .i64 p] w fun e w' => e = .returned (.int .i64 (p - 16)) ∧ w' = w := by
  go_enter Tryd.func33, Tryd.ntmps33
  go_wp2
  go_ret
  exact ⟨ret_int (by omega), rfl⟩
/-- The page behind its first steps. -/
def ly1 (P : Nat) : List Int := [4, 0, 0, 0] ++ (zs 4 ++ (zs 4 ++ zs (P - 12)))
def ly2 (n : Int) (P : Nat) : List Int := [4, 0, 0, 0] ++ (fB 4 n ++ (zs 4 ++ zs (P - 12)))
def ly3 (n : Int) (dn P : Nat) : List Int := [4, 0, 0, 0] ++ (fB 4 n ++ (fB 4 dn ++ zs (P - 12)))
def ly4 (n : Int) (d : List Int) (P : Nat) : List Int := [4, 0, 0, 0] ++ (fB 4 n ++ (fB 4 d.length ++ (d ++ zs (P - 12 - d.length))))
set_option maxRecDepth 100000 in
theorem ly1_of (P : Nat) (h : 512 ≤ P) : (zs P).set 0 4 = ly1 P := by
  have e : zs P = [0, 0, 0, 0] ++ (zs 4 ++ (zs 4 ++ zs (P - 12))) := by
    conv => lhs; rw [show P = 4 + (4 + (4 + (P - 12))) by omega, zs_add, zs_add, zs_add]
    rfl
  rw [e]
  rfl
set_option maxRecDepth 100000 in
theorem ly2_of (n : Int) (P : Nat) : splice (ly1 P) 4 (fB 4 n) = ly2 n P := splice_mid [4, 0, 0, 0] (zs 4) (fB 4 n) _ 4 rfl (by rw [zs_length, fB_length])
set_option maxRecDepth 100000 in
theorem ly3_of (n : Int) (dn P : Nat) : splice (ly2 n P) 8 (fB 4 dn) = ly3 n dn P := by
  have := splice_mid ([4, 0, 0, 0] ++ fB 4 n) (zs 4) (fB 4 dn) (zs (P - 12)) 8 (by simp [fB_length]) (by rw [zs_length, fB_length])
  simpa [ly2, ly3, List.append_assoc] using this
set_option maxRecDepth 100000 in
theorem ly4_of (n : Int) (d : List Int) (P : Nat) (h : d.length + 16 ≤ P) : splice (ly3 n d.length P) 12 d = ly4 n d P := by
  have := splice_mid ([4, 0, 0, 0] ++ (fB 4 n ++ fB 4 d.length)) (zs d.length) d (zs (P - 12 - d.length)) 12 (by simp [fB_length]) (by rw [zs_length])
  rw [← zs_add, show d.length + (P - 12 - d.length) = P - 12 by omega] at this
  simpa [ly3, ly4, List.append_assoc] using this
set_option maxRecDepth 100000 in
theorem ly_len1 (P : Nat) (h : 512 ≤ P) : (ly1 P).length = P := by simp [ly1, zs_length]; omega
set_option maxRecDepth 100000 in
theorem ly_len2 (n : Int) (P : Nat) (h : 512 ≤ P) : (ly2 n P).length = P := by simp [ly2, zs_length, fB_length]; omega
set_option maxRecDepth 100000 in
theorem ly_len3 (n : Int) (dn P : Nat) (h : 512 ≤ P) : (ly3 n dn P).length = P := by simp [ly3, zs_length, fB_length]; omega
set_option maxRecDepth 100000 in
theorem ly_len4 (n : Int) (d : List Int) (P : Nat) (h : d.length + 16 ≤ P) : (ly4 n d P).length = P := by simp [ly4, zs_length, fB_length]; omega
set_option maxRecDepth 100000 in
theorem ly4_split (n : Int) (d : List Int) (P : Nat) (h : d.length + 16 ≤ P) : ly4 n d P = spH n d P ++ zs 4 := by
  unfold ly4 spH
  rw [show P - 12 - d.length = (P - 16 - d.length) + 4 by omega, zs_add]
  simp only [List.append_assoc]
set_option maxRecDepth 100000 in
theorem ly4_body (n : Int) (d : List Int) (P : Nat) (h : d.length + 16 ≤ P) : (ly4 n d P).take (P - 4) = spH n d P := by
  rw [ly4_split n d P h]
  exact List.take_left' (spH_length n d P h)
set_option maxRecDepth 100000 in
theorem ly4_page (n : Int) (d : List Int) (P : Nat) (h : d.length + 16 ≤ P) : splice (ly4 n d P) (P - 4) (fB 4 (sumN [spH n d P])) = spB n d P := by
  unfold splice
  rw [ly4_body n d P h, fB_length, List.drop_eq_nil_of_le (by rw [ly_len4 n d P h]; omega), List.append_nil]
  rfl
set_option maxRecDepth 100000 in
theorem ly4_wf {n : Int} {d : List Int} {P : Nat} (h : d.length + 16 ≤ P) (hw : Wf d) : Wf (ly4 n d P) := by
  rw [ly4_split n d P h]
  exact (spH_wf P hw).append (zs_wf _)

/-- What Encode comes to. -/
def EncS (n : Int) (d : List Int) (p : Int) (w : World) (e : Ending) (w' : World) : Prop :=
  Below w.heap.size w w' ∧ ((spE n d p = 0 ∧ ∃ g, e = .returned (.tuple #[.slice (some ⟨g, 0, none⟩) p.toNat p.toNat, .int .i64 0]) ∧ w.heap.size ≤ g ∧ Bk w' g (spB n d p.toNat)) ∨
    (spE n d p ≠ 0 ∧ e = .returned (.tuple #[.slice none 0 0, .int .i64 (spE n d p)])))
set_option maxRecDepth 100000 in
theorem made_bk9 {w w1 : World} {P : Nat} (hown1 : w1.ownsRow w.heap.size 5 1 (.slice (some ⟨w.heap.size, 0, none⟩) P P) P (madeCells #[.int .u8 0] P).toList) : Bk w1 w.heap.size (zs P) := by
  rcases hown1.2 with ⟨h, _⟩ | ⟨g, c, cur, h, _, hh, _, _, hs, hx⟩
  · cases h
  · cases h
    unfold Bk
    rw [hh]
    congr 2
    apply Array.toList_inj.1
    rw [toList_madeCells_one] at hx
    simp only [Nat.mul_one] at hs hx
    rw [List.take_of_length_le (by simp [hs])] at hx
    simpa [By, zs] using hx
end Go.Proofs.YtllcbilhpijjhaaDoor
