/- The small calls of a device: what they answer, and that they leave it. -/
import Derived.Test.YtbnjojplfbibkaaGreatDoorPl
import Derived.BigQuiet
namespace Go.Proofs.YtbnjojplfbibkaaGreatDoor
open Go.RowKit

set_option maxRecDepth 100000 in
theorem Dv.c {w : World} {F : Nat → Prop} {a : Nat} {d : D} (h : Dv w F a d) : ∃ bs bl vL vK, (∀ i, w.cell? ⟨a, i, none⟩ = (row d bs bl vL vK)[i]?) ∧ (∀ i, w.frozen? ⟨a, i, none⟩ = false) ∧ Rest w F a d.page d.pages d.safe d.loose d.last d.keep bs bl vL vK ∧ w.heap[a]? = some (.cells (row d bs bl vL vK).toArray 99 (0, 0)) := by
  obtain ⟨bs, bl, vL, vK, ha, hr⟩ := h
  exact ⟨bs, bl, vL, vK, fun i => cell_of_row ha, fun i => free_of_row ha, hr, ha⟩

set_option maxRecDepth 100000 in
/-- The loose writes' value is a slice of their number. -/
theorem Lo.val {w : World} {F : Nat → Prop} {a bs bl page pages : Nat} {vL : Value} {l : List (Nat × List Int)} (h : Lo w F a bs bl page pages vL l) : ∃ ao c, vL = .slice ao l.length c ∧ l.length ≤ c := by
  obtain ⟨⟨xs, ho, _⟩, _, _⟩ := h
  rcases ho.2 with ⟨rfl, h0⟩ | ⟨g, cap, cur, rfl, _, _, h1, _⟩
  · exact ⟨none, 0, by rw [h0], by omega⟩
  · exact ⟨_, cap, rfl, h1⟩
/-- What forbids a Read or a Write. -/
def refu (d : D) (n : Int) : Int := if d.down then 3 else if n < 0 ∨ (d.pages : Int) ≤ n then 30 else 0
end Go.Proofs.YtbnjojplfbibkaaGreatDoor
