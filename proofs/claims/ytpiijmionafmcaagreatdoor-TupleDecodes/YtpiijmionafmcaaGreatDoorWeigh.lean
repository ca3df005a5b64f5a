/- espalierref02.weigh, Great: how great a tuple is. -/
import Derived.Test.YtpiijmionafmcaaGreatDoorCheck
namespace Go.Proofs.YtpiijmionafmcaaGreatDoor
open Go.RowKit

/-- What weigh answers. -/
def wgh : Its → Int → Int
  | .nil, n => n
  | .cons _ _ t s r, n => if n ≤ 100000 then wgh r (wgh s (n + 1 + ((t.size / 64 : Nat) : Int))) else n

set_option maxRecDepth 100000 in
theorem wgh_mono : ∀ (l : Its) (n : Int), n ≤ wgh l n
  | .nil, n => by rw [wgh]; omega
  | .cons _ _ t s r, n => by
    rw [wgh]
    split
    · have h1 := wgh_mono s (n + 1 + ((t.size / 64 : Nat) : Int))
      have h2 := wgh_mono r (wgh s (n + 1 + ((t.size / 64 : Nat) : Int)))
      omega
    · omega
set_option maxRecDepth 100000 in
/-- What weighs no more than that has no more items. -/
theorem wgh_sz : ∀ (l : Its) (n : Int), 0 ≤ n → wgh l n ≤ 100000 → n + l.sz ≤ wgh l n
  | .nil, n, _, h => by rw [wgh]; simp [Its.sz]
  | .cons _ _ t s r, n, h0, h => by
    rw [wgh] at h ⊢
    split at h
    · rename_i hn
      rw [if_pos hn]
      have h3 := wgh_mono r (wgh s (n + 1 + ((t.size / 64 : Nat) : Int)))
      have h4 := wgh_mono s (n + 1 + ((t.size / 64 : Nat) : Int))
      have h1 := wgh_sz s (n + 1 + ((t.size / 64 : Nat) : Int)) (by omega) (by omega)
      have h2 := wgh_sz r (wgh s (n + 1 + ((t.size / 64 : Nat) : Int))) (by omega) h
      simp only [Its.sz]
      omega
    · omega
set_option maxRecDepth 100000 in
theorem wgh_big (l : Its) (n : Int) (h : ¬ n ≤ 100000) : wgh l n = n := by
  cases l with
  | nil => rw [wgh]
  | cons => rw [wgh, if_neg h]
set_option maxRecDepth 100000 in
theorem wgh_top : ∀ (l : Its) (n B : Int), l.Ok → 0 ≤ n → n ≤ B → 140737488455330 ≤ B → wgh l n ≤ B
  | .nil, n, B, _, _, h, _ => by rw [wgh]; exact h
  | .cons _ _ t s r, n, B, ho, h0, h, hB => by
    rw [wgh]
    split
    · have h5 := ho.2.2.1
      have h4 := wgh_mono s (n + 1 + ((t.size / 64 : Nat) : Int))
      exact wgh_top r _ B ho.2.2.2.2.2 (by omega) (wgh_top s _ B ho.2.2.2.2.1 (by omega) (by omega) hB) hB
    · exact h
end Go.Proofs.YtpiijmionafmcaaGreatDoor
