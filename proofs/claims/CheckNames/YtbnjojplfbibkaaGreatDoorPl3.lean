/- Bytes all alike (the helper page); New. -/
import Derived.Test.YtbnjojplfbibkaaGreatDoorPl2
namespace Go.Proofs.YtbnjojplfbibkaaGreatDoor
open Go.RowKit

set_option maxRecDepth 100000 in
theorem infoI : (Tryz.prog.info? 3).map (fun i => (i.zero, i.size, i.bytes)) = some (some (.int .i64 0), 1, 8) := by kernel_rfl

set_option maxRecDepth 100000 in
/-- A row that was made, as it lies. -/
theorem made_row {w : World} {e n g : Nat} {z : Value} (h : w.ownsRow 0 e 1 (.slice (some ⟨g, 0, none⟩) n n) n (madeCells #[z] n).toList) : w.heap[g]? = some (.cells (List.replicate n z).toArray e (0, 0)) := by
  rcases h.2 with ⟨h, _⟩ | ⟨g, c, cur, h, _, hh, _, _, hs, ht⟩
  · cases h
  · cases h
    rw [hh]
    congr 2
    apply Array.toList_inj.1
    rw [toList_madeCells_one] at ht
    simp only [Nat.mul_one] at hs ht
    rw [List.take_of_length_le (by simp [hs])] at ht
    simpa using ht

set_option maxRecDepth 100000 in
theorem By_set (l : List Int) (k : Nat) (x : Int) : (By l).set k (.int .u8 x) = By (l.set k x) := by simp [By, List.map_set]
set_option maxRecDepth 100000 in
theorem In_set (l : List Int) (k : Nat) (x : Int) : (In l).set k (.int .i64 x) = In (l.set k x) := by simp [In, List.map_set]
set_option maxRecDepth 100000 in
theorem fill_step (n k : Nat) (c : Int) (h : k < n) : (List.replicate k c ++ List.replicate (n - k) 0).set k c = List.replicate (k + 1) c ++ List.replicate (n - (k + 1)) 0 := by
  obtain ⟨m, rfl⟩ : ∃ m, n = k + (m + 1) := ⟨n - k - 1, by omega⟩
  rw [show k + (m + 1) - k = m + 1 by omega, show k + (m + 1) - (k + 1) = m by omega, List.replicate_succ, List.set_append_right _ _ (by simp)]
  rw [List.replicate_succ', List.append_assoc]
  simp

end Go.Proofs.YtbnjojplfbibkaaGreatDoor
