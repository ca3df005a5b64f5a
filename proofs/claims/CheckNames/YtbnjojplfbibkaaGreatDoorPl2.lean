/- Where a page's safe bytes lie; a page as it is read; bytes all alike. -/
import Derived.Test.YtbnjojplfbibkaaGreatDoorPl1
namespace Go.Proofs.YtbnjojplfbibkaaGreatDoor
open Go.RowKit

/-- A page as it is read. -/
def rd (d : D) (n : Nat) : List Int := if 0 < d.last.getD n 0 then (d.loose.getD ((d.last.getD n 0).toNat - 1) (0, [])).2 else (d.safe.drop (n * d.page)).take d.page

set_option maxRecDepth 100000 in
theorem getD_In (l : List Int) (n : Nat) (h : n < l.length) : (In l)[n]? = some (.int .i64 (l.getD n 0)) := by
  simp [In, List.getD, List.getElem?_eq_getElem h]
set_option maxRecDepth 100000 in
theorem getD_By (l : List Int) (n : Nat) (h : n < l.length) : (By l)[n]? = some (.int .u8 (l.getD n 0)) := by
  simp [By, List.getD, List.getElem?_eq_getElem h]
set_option maxRecDepth 100000 in
theorem getD_memP {l : List Int} {n : Nat} (h : n < l.length) : l.getD n 0 ∈ l := by
  simp [List.getD, List.getElem?_eq_getElem h]

set_option maxRecDepth 100000 in
/-- The cells of the k-th loose write. -/
theorem Lo.item {w : World} {F : Nat → Prop} {a bs bl page pages : Nat} {vL : Value} {l : List (Nat × List Int)} (h : Lo w F a bs bl page pages vL l) {k : Nat} (hk : k < l.length) :
    ∃ g c q, vL = .slice (some ⟨g, 0, none⟩) l.length c ∧ l.length ≤ c ∧ w.cell? ⟨g, k * 2, none⟩ = some (.int .i64 ((l.getD k (0, [])).1 : Int)) ∧ w.cell? ⟨g, k * 2 + 1, none⟩ = some (.slice (some ⟨q, 0, none⟩) page page) ∧ F g ∧ F q ∧ q ≠ a ∧ q ≠ bs ∧ q ≠ bl ∧ g ≠ a ∧ g ≠ bs ∧ g ≠ bl ∧ q ≠ g ∧ g < w.heap.size ∧ w.heap[q]? = some (.cells (By (l.getD k (0, [])).2).toArray 5 (0, 0)) ∧ (l.getD k (0, [])).1 < pages ∧ (l.getD k (0, [])).2.length = page ∧ Wf (l.getD k (0, [])).2 := by
  obtain ⟨⟨xs, ho, hk'⟩, hown, hall⟩ := h
  have e : l[k]? = some (l.getD k (0, [])) := by simp [List.getD, List.getElem?_eq_getElem hk]
  obtain ⟨h1, q, h2, h3, h4, h5, h6, h7, h8⟩ := hk' k _ e
  rcases ho.2 with ⟨rfl, h0⟩ | ⟨g, cap, cur, rfl, _, hg, hc, _⟩
  · omega
  · obtain ⟨f1, f2, f3, f4⟩ := hown g rfl
    have hm : l.getD k (0, []) ∈ l := List.mem_of_getElem? e
    obtain ⟨m1, m2, m3⟩ := hall _ hm
    refine ⟨g, cap, q, rfl, hc, ?_, ?_, f1, h3, h4, h5, h6, f2, f3, f4, fun e => h7 (by rw [e]; rfl), lt_of_some hg, h8, m1, m2, m3⟩
    · rw [World.ownsRow.cellAt ho (k * 2) (by omega), show k * 2 = 2 * k by omega]; exact h1
    · rw [World.ownsRow.cellAt ho (k * 2 + 1) (by omega), show k * 2 + 1 = 2 * k + 1 by omega]; exact h2

end Go.Proofs.YtbnjojplfbibkaaGreatDoor
