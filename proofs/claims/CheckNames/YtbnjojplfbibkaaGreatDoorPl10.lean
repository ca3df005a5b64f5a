/- Crash; the device with what it must not touch. -/
import Derived.Test.YtbnjojplfbibkaaGreatDoorPl9
namespace Go.Proofs.YtbnjojplfbibkaaGreatDoor
open Go.RowKit

set_option maxRecDepth 100000 in
theorem Ks.on {w w' : World} {ao : Option Addr} {n : Nat} {l : List Int} (h : Ks w ao n l) (hb : Below w.heap.size w w') : Ks w' ao n l := by
  refine ⟨h.hlen, h.hroom, ?_⟩
  rcases h.hat with h0 | ⟨b, off, e, hlt, hc⟩
  · exact .inl h0
  · exact .inr ⟨b, off, e, Nat.lt_of_lt_of_le hlt hb.size, fun i hi => (hb.cell (p := ⟨b, off + i, none⟩) hlt).trans (hc i hi)⟩
set_option maxRecDepth 100000 in
theorem Ks.nil (w : World) : Ks w none 0 [] := ⟨rfl, by omega, .inl rfl⟩

/-- The device d lies at a, in blocks from B on, none of them of X. -/
def Dw (w : World) (B : Nat) (X : Nat → Prop) (a : Nat) (d : D) : Prop := ∃ F : Nat → Prop, Dv w F a d ∧ ∀ k, F k → B ≤ k ∧ k < w.heap.size ∧ ¬ X k
/-- What the device's calls may change. -/
def Gx (B : Nat) (X : Nat → Prop) : Nat → Prop := fun k => B ≤ k ∧ ¬ X k
/-- X, and what is new between two worlds. -/
def Xn (X : Nat → Prop) (w u : World) : Nat → Prop := fun k => X k ∨ (w.heap.size ≤ k ∧ k < u.heap.size)

set_option maxRecDepth 100000 in
theorem Dw.more {w u : World} {B : Nat} {X : Nat → Prop} {a : Nat} {d : D} (h : Dw w B X a d) (hb : Below w.heap.size w u) : Dw u B (Xn X w u) a d := by
  obtain ⟨F, hD, hF⟩ := h
  refine ⟨F, hD.on (Nat.le_refl _) hb, fun k hk => ?_⟩
  obtain ⟨h1, h2, h3⟩ := hF k hk
  exact ⟨h1, Nat.lt_of_lt_of_le h2 hb.size, fun h => h.elim h3 fun h => by omega⟩
set_option maxRecDepth 100000 in
theorem Xn_lt {X : Nat → Prop} {w u : World} (h : ∀ k, X k → k < w.heap.size) (hz : w.heap.size ≤ u.heap.size) : ∀ k, Xn X w u k → k < u.heap.size := by
  rintro k (h1 | h1)
  · exact Nat.lt_of_lt_of_le (h k h1) hz
  · exact h1.2
set_option maxRecDepth 100000 in
theorem Ch.gx {w u : World} {B : Nat} {X F : Nat → Prop} (h : Ch F w u) (hF : ∀ k, F k → B ≤ k ∧ k < w.heap.size ∧ ¬ X k) : Ch (Gx B X) w u := h.mono fun k _ hk => ⟨(hF k hk).1, (hF k hk).2.2⟩

set_option maxRecDepth 100000 in
theorem Dw_New (x y : Nat) (w : World) (h : dev x y = true) (X : Nat → Prop) (hX : ∀ k, X k → k < w.heap.size) : Calls Tryz.prog 38 #[.int .i64 (x : Int), .int .i64 (y : Int)] w fun e w' => ∃ a, e = .returned (.pointer (some ⟨a, 0, none⟩)) ∧ Dw w' w.heap.size X a (d0 x y) ∧ Below w.heap.size w w' := by
  refine (New_yes x y w h).mono ?_
  rintro e w' ⟨a, rfl, hD, hb⟩
  exact ⟨a, rfl, ⟨_, hD, fun k hk => ⟨hk.1, hk.2, fun hx => by have := hX k hx; omega⟩⟩, hb⟩
end Go.Proofs.YtbnjojplfbibkaaGreatDoor
