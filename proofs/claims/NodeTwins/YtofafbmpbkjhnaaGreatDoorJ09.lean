import Derived.Test.YtofafbmpbkjhnaaGreatDoorJ05
import Derived.WalkSmall
import Derived.Test.YtofafbmpbkjhnaaGreatDoorJ08
namespace Go.Proofs.YtofafbmpbkjhnaaGreatDoor
set_option maxRecDepth 100000
open Go.RowKit
theorem Sl.take {w : World} {ao : Option Addr} {n cap : Nat} {l : List Int} (h : Sl w ao n cap l) (k : Nat) (hk : k ≤ n) : Sl w ao k cap (l.take k) := by
 obtain ⟨hlen, hcap, hroom, hwf, hnil, hat⟩ := h
 refine ⟨by simp; omega, by omega, by omega, hwf.take k, hnil, ?_⟩
 rcases hat with h0 | ⟨b, off, e, hlt, hc⟩
 ·exact .inl (by omega)
 ·refine .inr ⟨b, off, e, hlt, fun i hi => ?_⟩
  rw [hc i (by omega)]
  simp [List.getD, hi]
theorem Sl.drewN {w : World} {ao : Option Addr} {n cap : Nat} {l : List Int} (h : Sl w ao n cap l) (q : Nat) : Sl (w.drewN q) ao n cap l := by
 refine ⟨h.hlen, h.hcap, h.hroom, h.wf, h.hnil, ?_⟩
 rcases h.hat with h0 | ⟨b, off, e, hlt, hc⟩
 ·exact .inl h0
 ·exact .inr ⟨b, off, e, by simpa using hlt, fun i hi => by simpa using hc i hi⟩
def ordL : List Int → List Int → Int
 | [], [] => 0
 | [], _ :: _ => -1
 | _ :: _, [] => 1
 | x :: a, y :: b => if x < y then -1 else if y < x then 1 else ordL a b
theorem ordL_self : ∀ (a : List Int), ordL a a = 0
 | [] => rfl
 | x :: a => by simp [ordL, ordL_self a]
theorem ordL_eq : ∀ (a b : List Int), ordL a b = 0 → a = b
 | [], [], _ => rfl
 | [], _ :: _, h => by simp [ordL] at h
 | _ :: _, [], h => by simp [ordL] at h
 | x :: a, y :: b, h => by
  simp only [ordL] at h
  split at h
  ·simp at h
  ·split at h
   ·simp at h
   ·rw [ordL_eq a b h, show x = y by omega]
theorem zcg (a b : List Int) : ordL a b = 0 ∨ ordL a b = -1 ∨ ordL a b = 1 := by
 induction a generalizing b with
 | nil => cases b <;> simp [ordL]
 | cons x a ih =>
  cases b with
  | nil => simp [ordL]
  | cons y b =>
   simp only [ordL]
   split
   ·simp
   ·split
    ·simp
    ·exact ih b
end Go.Proofs.YtofafbmpbkjhnaaGreatDoor
