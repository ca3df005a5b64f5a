/- The chapter's first examples: awake answers true. -/
import Derived.Test.YtbnjojplfbibkaaGreatDoorMm
namespace Go.Proofs.YtbnjojplfbibkaaGreatDoor
open Go.RowKit

set_option maxRecDepth 100000 in
theorem StIs.det {l : List Int} {s : Int} {m n : Mt} (h : StIs l s m) (k : StIs l s n) : m = n := by
  rcases h with ⟨h1, h2⟩ | ⟨h1, h2⟩ <;> rcases k with ⟨k1, k2⟩ | ⟨k1, k2⟩
  · exact h1.one k1
  · exact absurd h2 (k2 m h1)
  · exact absurd k2 (h2 n k1)
  · rw [h1, k1]
set_option maxRecDepth 100000 in
theorem ChIs.pk {la lb : List Int} {m m1 m2 : Mt} {s c : Int} (h : ChIs la lb m s c) (h1 : StIs la 0 m1) (h2 : StIs lb 1 m2) : Pk m1 m2 m s c := by
  obtain ⟨n1, n2, k1, k2, k3⟩ := h
  rw [h1.det k1, h2.det k2]
  exact k3
set_option maxRecDepth 100000 in
theorem Mt.ok.nz {m : Mt} (h : m.ok) : m ≠ Mt.z := by
  rintro rfl
  have := h.en
  simp [Mt.z] at this
set_option maxRecDepth 100000 in
theorem Says.nz {l : List Int} {m : Mt} (h : Says l m) : m ≠ Mt.z := h.1.nz
set_option maxRecDepth 100000 in
theorem StIs.none {l : List Int} (s : Int) (h : ¬ ∃ m, Says l m) : StIs l s Mt.z := .inr ⟨rfl, fun m' k => absurd ⟨m', k⟩ h⟩
set_option maxRecDepth 100000 in
theorem StIs.other {l : List Int} {s : Int} {m : Mt} (h : Says l m) (hs : m.tx % 2 ≠ s) : StIs l s Mt.z := .inr ⟨rfl, fun m' k => by rw [k.one h]; exact hs⟩
set_option maxRecDepth 100000 in
theorem says_short {l : List Int} (h : l.length < 512) : ¬ ∃ m, Says l m := fun ⟨_, k⟩ => by have := k.length.2; omega
set_option maxRecDepth 100000 in
theorem says_page {m : Mt} (h : m.ok) : Says (pageB m) m := ⟨h, rfl⟩
set_option maxRecDepth 100000 in
/-- Only the second one counts. -/
theorem ChIs.second {la lb : List Int} {m m2 : Mt} {s c : Int} (h : ChIs la lb m s c) (h1 : StIs la 0 Mt.z) (h2 : Says lb m2) (h3 : m2.tx % 2 = 1) : m = m2 ∧ s = 1 ∧ c = 0 := by
  rcases h.pk h1 (.inl ⟨h2, h3⟩) with ⟨_, e, _⟩ | ⟨_, e, _⟩ | ⟨_, _, k⟩
  · exact absurd e h2.nz
  · rcases e with e | e
    · exact absurd e h2.nz
    · have : m2.tx < 0 := e
      have := h2.1.tx
      omega
  · exact k
set_option maxRecDepth 100000 in
/-- Only the first one counts. -/
theorem ChIs.first {la lb : List Int} {m m1 : Mt} {s c : Int} (h : ChIs la lb m s c) (h1 : Says la m1) (h3 : m1.tx % 2 = 0) (h2 : StIs lb 1 Mt.z) : m = m1 ∧ s = 0 ∧ c = 0 := by
  rcases h.pk (.inl ⟨h1, h3⟩) h2 with ⟨e, _⟩ | ⟨_, _, k⟩ | ⟨e, _⟩
  · exact absurd e h1.nz
  · exact k
  · exact absurd rfl e
set_option maxRecDepth 100000 in
/-- None counts. -/
theorem ChIs.neither {la lb : List Int} {m : Mt} {s c : Int} (h : ChIs la lb m s c) (h1 : StIs la 0 Mt.z) (h2 : StIs lb 1 Mt.z) : m = Mt.z ∧ s = 0 ∧ c = 51 := by
  rcases h.pk h1 h2 with ⟨_, _, k⟩ | ⟨e, _⟩ | ⟨e, _⟩
  · exact k
  · exact absurd ⟨rfl, rfl⟩ e
  · exact absurd rfl e

/-- The meta of the examples. -/
def m7c : Mt := ⟨1, 512, 7, 5, 1, 3, 2, 9⟩
set_option maxRecDepth 100000 in
theorem m7c_ok : m7c.ok := by constructor <;> simp [m7c, pw]
set_option maxRecDepth 100000 in
theorem m7_first : (pageB m7c).take 8 = [1, 1, 0, 0, 69, 83, 80, 76] := by
  simp only [pageB, sealB, bodyB, hdB, List.append_assoc]
  rfl
set_option maxRecDepth 100000 in
theorem Bk.sl_to {w : World} {g n : Nat} {l : List Int} (h : Bk w g l) (hl : l.length = n) (hw : Wf l) (hn : n ≤ 140737488355328) (k : Nat) (hk : k ≤ n) : Sl w (some ⟨g, 0, none⟩) k n (l.take k) :=
  ⟨by rw [List.length_take]; omega, hk, by omega, hw.take _, (by intro h; cases h), .inr ⟨g, 0, rfl, lt_some h, fun i hi => by
    rw [Nat.zero_add, h.cell i (by omega)]
    simp [List.getD, hi]⟩⟩
/-- True, and nothing that was there has changed. -/
def Yes5 (w : World) (e : Ending) (w' : World) : Prop := e = .returned (.bool true) ∧ Below w.heap.size w w'

end Go.Proofs.YtbnjojplfbibkaaGreatDoor
