/- Crash; the device with what it must not touch. -/
import Derived.Test.YtmelhpghpcpoiabPl9
namespace Go.Proofs.Ytmelhpghpcpoiab
open Go.RowKit

set_option maxRecDepth 100000 in
theorem Ks.on {w w' : World} {ao : Option Addr} {n : Nat} {l : List Int} (h : Ks w ao n l) (hb : Below w.heap.size w w') : Ks w' ao n l := by
  refine ⟨h.hlen, h.hroom, ?_⟩
  rcases h.hat with h0 | ⟨b, off, e, hlt, hc⟩
  · exact .inl h0
  · exact .inr ⟨b, off, e, Nat.lt_of_lt_of_le hlt hb.size, fun i hi => (hb.cell (p := ⟨b, off + i, none⟩) hlt).trans (hc i hi)⟩
set_option maxRecDepth 100000 in
theorem Ks.nil (w : World) : Ks w none 0 [] := ⟨rfl, by omega, .inl rfl⟩

/-- The device d lies at a, in blocks from B on, none of them of X. -/
def Dw (w : World) (B : Nat) (X : Nat → Prop) (a : Nat) (d : D) : Prop := ∃ F : Nat → Prop, Dv w F a d ∧ ∀ k, F k → B ≤ k ∧ k < w.heap.size ∧ ¬ X k
/-- What the device's calls may change. -/
def Gx (B : Nat) (X : Nat → Prop) : Nat → Prop := fun k => B ≤ k ∧ ¬ X k
/-- X, and what is new between two worlds. -/
def Xn (X : Nat → Prop) (w u : World) : Nat → Prop := fun k => X k ∨ (w.heap.size ≤ k ∧ k < u.heap.size)

set_option maxRecDepth 100000 in
theorem Dw.more {w u : World} {B : Nat} {X : Nat → Prop} {a : Nat} {d : D} (h : Dw w B X a d) (hb : Below w.heap.size w u) : Dw u B (Xn X w u) a d := by
  obtain ⟨F, hD, hF⟩ := h
  refine ⟨F, hD.on (Nat.le_refl _) hb, fun k hk => ?_⟩
  obtain ⟨h1, h2, h3⟩ := hF k hk
  exact ⟨h1, Nat.lt_of_lt_of_le h2 hb.size, fun h => h.elim h3 fun h => by omega⟩
set_option maxRecDepth 100000 in
theorem Xn_lt {X : Nat → Prop} {w u : World} (h : ∀ k, X k → k < w.heap.size) (hz : w.heap.size ≤ u.heap.size) : ∀ k, Xn X w u k → k < u.heap.size := by
  rintro k (h1 | h1)
  · exact Nat.lt_of_lt_of_le (h k h1) hz
  · exact h1.2
set_option maxRecDepth 100000 in
theorem Ch.gx {w u : World} {B : Nat} {X F : Nat → Prop} (h : Ch F w u) (hF : ∀ k, F k → B ≤ k ∧ k < w.heap.size ∧ ¬ X k) : Ch (Gx B X) w u := h.mono fun k _ hk => ⟨(hF k hk).1, (hF k hk).2.2⟩

set_option maxRecDepth 100000 in
theorem Dw_New (x y : Nat) (w : World) (h : dev x y = true) (X : Nat → Prop) (hX : ∀ k, X k → k < w.heap.size) : Calls Try.prog 5 #[.int .i64 (x : Int), .int .i64 (y : Int)] w fun e w' => ∃ a, e = .returned (.pointer (some ⟨a, 0, none⟩)) ∧ Dw w' w.heap.size X a (d0 x y) ∧ Below w.heap.size w w' := by
  refine (New_yes x y w h).mono ?_
  rintro e w' ⟨a, rfl, hD, hb⟩
  exact ⟨a, rfl, ⟨_, hD, fun k hk => ⟨hk.1, hk.2, fun hx => by have := hX k hx; omega⟩⟩, hb⟩
set_option maxRecDepth 100000 in
theorem Dw_Write (w : World) (B : Nat) (X : Nat → Prop) (a : Nat) (d : D) (n : Nat) (gb ob c : Nat) (l : List Int) (h : Dw w B X a d) (hX : ∀ k, X k → k < w.heap.size) (he : refu d n = 0) (hn : n < d.pages) (hlen : l.length = d.page) (hwf : Wf l)
    (hcell : ∀ j v, (By l)[j]? = some v → w.cell? ((⟨gb, ob, none⟩ : Addr).add j) = some v) (hgX : X gb) (hB : B ≤ w.heap.size) (h1 : 0 ≤ d.cw) (h2 : d.cw < 4611686018427387904) (hfew : d.loose.length < 4398046511103) (har : d.armed = false) :
    Calls Try.prog 38 #[.pointer (some ⟨a, 0, none⟩), .int .i64 (n : Int), .slice (some ⟨gb, ob, none⟩) d.page c] w fun e u => e = .returned (.int .i64 0) ∧ Dw u B X a (d.wrote n l) ∧ Ch (Gx B X) w u := by
  obtain ⟨F, hD, hF⟩ := h
  refine (Write_calm w F a d n gb ob c l hD he hn hlen hwf hcell (fun hf => (hF gb hf).2.2 hgX) (hX gb hgX) h1 h2 hfew (fun k hk => (hF k hk).2.1) har).mono ?_
  rintro e u ⟨rfl, hD2, hC2⟩
  refine ⟨rfl, ⟨_, hD2, ?_⟩, hC2.gx hF⟩
  rintro k (hk | hk)
  · obtain ⟨h1, h2, h3⟩ := hF k hk
    exact ⟨h1, Nat.lt_of_lt_of_le h2 hC2.size, h3⟩
  · exact ⟨by omega, hk.2, fun hx => by have := hX k hx; omega⟩
set_option maxRecDepth 100000 in
theorem Dw_Read (w : World) (B : Nat) (X : Nat → Prop) (a : Nat) (d : D) (n : Nat) (h : Dw w B X a d) (he : refu d n = 0) (hn : n < d.pages) (h1 : 0 ≤ d.cr) (h2 : d.cr < 4611686018427387904) :
    Calls Try.prog 15 #[.pointer (some ⟨a, 0, none⟩), .int .i64 (n : Int)] w fun e' w' => ∃ g, e' = .returned (.tuple #[.slice (some ⟨g, 0, none⟩) d.page d.page, .int .i64 0]) ∧ Xn X w w' g ∧ w'.heap[g]? = some (.cells (By (rd d n)).toArray 5 (0, 0)) ∧ Dw w' B (Xn X w w') a { d with cr := d.cr + 1 } ∧ Ch (Gx B X) w w' := by
  obtain ⟨F, hD, hF⟩ := h
  refine (Read_yes w F a d n hD he hn h1 h2 (fun k hk => (hF k hk).2.1)).mono ?_
  rintro e u ⟨g, rfl, hg, hh, hD2, hC2⟩
  refine ⟨g, rfl, .inr ⟨hg, lt_of_some hh⟩, hh, ⟨F, hD2, fun k hk => ?_⟩, hC2.gx hF⟩
  obtain ⟨h1, h2, h3⟩ := hF k hk
  exact ⟨h1, Nat.lt_of_lt_of_le h2 hC2.size, fun h => h.elim h3 fun h => by omega⟩
end Go.Proofs.Ytmelhpghpcpoiab
