/- Order tells how two texts stand; both lays bytes and more behind them into memory of its own. -/
import Derived.Test.YtaicpmlcklkjgaaGreatDoorJ03
import Derived.Test.YtaicpmlcklkjgaaGreatDoorJ05
namespace Go.Proofs.YtaicpmlcklkjgaaGreatDoor
open Go.RowKit

/-- How two texts stand. -/
def ordL : List Int → List Int → Int
  | [], [] => 0
  | [], _ :: _ => -1
  | _ :: _, [] => 1
  | x :: a, y :: b => if x < y then -1 else if y < x then 1 else ordL a b
set_option maxRecDepth 100000 in
theorem ordL_self : ∀ (a : List Int), ordL a a = 0
  | [] => rfl
  | x :: a => by simp [ordL, ordL_self a]
set_option maxRecDepth 100000 in
theorem ordL_eq : ∀ (a b : List Int), ordL a b = 0 → a = b
  | [], [], _ => rfl
  | [], _ :: _, h => by simp [ordL] at h
  | _ :: _, [], h => by simp [ordL] at h
  | x :: a, y :: b, h => by
    simp only [ordL] at h
    split at h
    · simp at h
    · split at h
      · simp at h
      · rw [ordL_eq a b h, show x = y by omega]
set_option maxRecDepth 100000 in
theorem ordL_three (a b : List Int) : ordL a b = 0 ∨ ordL a b = -1 ∨ ordL a b = 1 := by
  induction a generalizing b with
  | nil => cases b <;> simp [ordL]
  | cons x a ih =>
    cases b with
    | nil => simp [ordL]
    | cons y b =>
      simp only [ordL]
      split
      · simp
      · split
        · simp
        · exact ih b
end Go.Proofs.YtaicpmlcklkjgaaGreatDoor
