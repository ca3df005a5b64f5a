/- disarm, forget. -/
import Derived.Test.YtbnjojplfbibkaaGreatDoorPl4
namespace Go.Proofs.YtbnjojplfbibkaaGreatDoor
open Go.RowKit

set_option maxRecDepth 100000 in
theorem Rest.unplan {w : World} {F : Nat → Prop} {a page pages : Nat} {safe : List Int} {loose : List (Nat × List Int)} {last keep : List Int} {bs bl : Nat} {vL vK : Value} (h : Rest w F a page pages safe loose last keep bs bl vL vK) : Rest w F a page pages safe loose last [] bs bl vL (.slice none 0 0) :=
  ⟨h.fa, h.fs, h.fl, h.n1, h.n2, h.n3, h.hs, h.hl, h.ns, h.nl, h.ws, h.p1, h.p2, h.q1, h.q2, h.q3, h.lo, ⟨none, 0, 0, rfl, rfl, Nat.le_refl _, by omega, fun _ => rfl, .inl rfl⟩, h.lst, h.few⟩

set_option maxRecDepth 100000 in
theorem Ch.dr (F : Nat → Prop) (w : World) : Ch F w w.drew := ⟨rfl, rfl, rfl, Nat.le_refl _, fun _ _ _ => rfl⟩
set_option maxRecDepth 100000 in
theorem Rest.forgot {w w' : World} {F : Nat → Prop} {a page pages : Nat} {safe : List Int} {loose : List (Nat × List Int)} {last keep : List Int} {bs bl : Nat} {vL vK : Value} (h : Rest w F a page pages safe loose last keep bs bl vL vK) (hc : Ch (fun j => j = bl ∨ j = a) w w')
    (hl : w'.heap[bl]? = some (.cells (In (List.replicate pages 0)).toArray 3 (0, 0))) : Rest w' F a page pages safe [] (List.replicate pages 0) keep bs bl (.slice none 0 0) vK := by
  refine ⟨h.fa, h.fs, h.fl, h.n1, h.n2, h.n3, (hc.block bs (lt_of_some h.hs) ?_).trans h.hs, hl, h.ns, by simp, h.ws, h.p1, h.p2, h.q1, h.q2, h.q3, ⟨⟨[], World.ownsRow_nil _ _ _ _, fun k z hz => by simp at hz⟩, fun g hg => by simp [Value.ownBlock] at hg, fun z hz => by simp at hz⟩,
    h.ke.keep (fun _ f _ => f) hc.size (fun g _ _ => by simp [Value.ownBlock]) fun k _ f2 _ f4 _ f5 => hc.block k f5 ?_, ?_, by simp⟩
  · rintro (e | e)
    · exact h.n3 e.symm
    · exact h.n1 e
  · rintro (e | e)
    · exact f4 e
    · exact f2 e
  · intro n hn
    have e : (List.replicate pages (0 : Int)).getD n 0 = 0 := by
      simp only [List.getD, List.getElem?_replicate]
      split <;> rfl
    rw [e]
    exact ⟨by omega, by simp, fun h => by omega⟩

/-- What forget does, round by round. -/
def clr (last : List Int) (loose : List (Nat × List Int)) : Nat → List Int
  | 0 => last
  | k + 1 => (clr last loose k).set (loose.getD k (0, [])).1 0
set_option maxRecDepth 100000 in
theorem clr_len (last : List Int) (loose : List (Nat × List Int)) : ∀ k, (clr last loose k).length = last.length
  | 0 => rfl
  | k + 1 => by simp [clr, clr_len last loose k]
set_option maxRecDepth 100000 in
theorem clr_zero (last : List Int) (loose : List (Nat × List Int)) (n : Nat) (h : last.getD n 0 = 0) : ∀ k, (clr last loose k).getD n 0 = 0
  | 0 => h
  | k + 1 => by
    have := clr_zero last loose n h k
    simp only [clr, List.getD, List.getElem?_set] at *
    split <;> first | (split <;> rfl) | exact this
set_option maxRecDepth 100000 in
theorem clr_hit (last : List Int) (loose : List (Nat × List Int)) (n j : Nat) (h : (loose.getD j (0, [])).1 = n) : ∀ k, j < k → (clr last loose k).getD n 0 = 0
  | 0, hk => by omega
  | k + 1, hk => by
    by_cases e : j = k
    · subst e
      show ((clr last loose j).set (loose.getD j (0, [])).1 0).getD n 0 = 0
      rw [h]
      simp [List.getD, List.getElem?_set]
      split <;> rfl
    · have := clr_hit last loose n j h k (by omega)
      simp only [clr, List.getD, List.getElem?_set] at *
      split <;> first | (split <;> rfl) | exact this
set_option maxRecDepth 100000 in
theorem clr_all {last : List Int} {loose : List (Nat × List Int)} {pages : Nat} (hl : last.length = pages) (h : ∀ n, n < pages → 0 ≤ last.getD n 0 ∧ last.getD n 0 ≤ loose.length ∧ (0 < last.getD n 0 → (loose.getD ((last.getD n 0).toNat - 1) (0, [])).1 = n)) : clr last loose loose.length = List.replicate pages 0 := by
  apply List.ext_getElem
  · simp [clr_len, hl]
  · intro n h1 h2
    have hn : n < pages := by simpa using h2
    have e : (clr last loose loose.length).getD n 0 = 0 := by
      obtain ⟨a, b, c⟩ := h n hn
      by_cases hz : last.getD n 0 = 0
      · exact clr_zero _ _ _ hz _
      · exact clr_hit _ _ n _ (c (by omega)) _ (by omega)
    simp only [List.getD, List.getElem?_eq_getElem h1, Option.getD_some] at e
    simp [e]

end Go.Proofs.YtbnjojplfbibkaaGreatDoor
