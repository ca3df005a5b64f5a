/- plain.reader.cell. -/
import Derived.Test.YtfcbfombobelmaaGreatDoorJ08
namespace Go.Proofs.YtfcbfombobelmaaGreatDoor
open Go.RowKit

/-- A cell in a block of its own. -/
def C5 (w : World) (g : Nat) (x0 x1 x2 x3 x4 : Value) : Prop := w.heap[g]? = some (.cells #[x0, x1, x2, x3, x4] 29 (0, 0))
set_option maxRecDepth 100000 in
theorem C5.cells {w : World} {g : Nat} {x0 x1 x2 x3 x4 : Value} (h : C5 w g x0 x1 x2 x3 x4) :
    w.cell? ⟨g, 0, none⟩ = some x0 ∧ w.cell? ⟨g, 1, none⟩ = some x1 ∧ w.cell? ⟨g, 2, none⟩ = some x2 ∧ w.cell? ⟨g, 3, none⟩ = some x3 ∧ w.cell? ⟨g, 4, none⟩ = some x4 := by
  unfold C5 at h
  refine ⟨?_, ?_, ?_, ?_, ?_⟩
  · rw [cell_of_row _ _ 0 _ _ _ h]; rfl
  · rw [cell_of_row _ _ 1 _ _ _ h]; rfl
  · rw [cell_of_row _ _ 2 _ _ _ h]; rfl
  · rw [cell_of_row _ _ 3 _ _ _ h]; rfl
  · rw [cell_of_row _ _ 4 _ _ _ h]; rfl
set_option maxRecDepth 100000 in
theorem C5.free {w : World} {g : Nat} {x0 x1 x2 x3 x4 : Value} (h : C5 w g x0 x1 x2 x3 x4) : w.frozen? ⟨g, 0, none⟩ = false ∧ w.frozen? ⟨g, 1, none⟩ = false ∧ w.frozen? ⟨g, 2, none⟩ = false ∧ w.frozen? ⟨g, 3, none⟩ = false ∧ w.frozen? ⟨g, 4, none⟩ = false := by
  unfold C5 at h
  simp [World.frozen?, h]
set_option maxRecDepth 100000 in
theorem C5.set {w : World} {g : Nat} {x0 x1 x2 x3 x4 : Value} (h : C5 w g x0 x1 x2 x3 x4) (y : Value) :
    C5 (w.setCell ⟨g, 0, none⟩ y) g y x1 x2 x3 x4 ∧ C5 (w.setCell ⟨g, 1, none⟩ y) g x0 y x2 x3 x4 ∧ C5 (w.setCell ⟨g, 2, none⟩ y) g x0 x1 y x3 x4 ∧ C5 (w.setCell ⟨g, 3, none⟩ y) g x0 x1 x2 y x4 ∧ C5 (w.setCell ⟨g, 4, none⟩ y) g x0 x1 x2 x3 y := by
  unfold C5 at *
  refine ⟨?_, ?_, ?_, ?_, ?_⟩
  · simpa using set_row (w := w) (a := g) (i := 0) (cs := [x0, x1, x2, x3, x4]) (u := y) h
  · simpa using set_row (w := w) (a := g) (i := 1) (cs := [x0, x1, x2, x3, x4]) (u := y) h
  · simpa using set_row (w := w) (a := g) (i := 2) (cs := [x0, x1, x2, x3, x4]) (u := y) h
  · simpa using set_row (w := w) (a := g) (i := 3) (cs := [x0, x1, x2, x3, x4]) (u := y) h
  · simpa using set_row (w := w) (a := g) (i := 4) (cs := [x0, x1, x2, x3, x4]) (u := y) h
set_option maxRecDepth 100000 in
theorem C5.cf {w w' : World} {g : Nat} {x0 x1 x2 x3 x4 : Value} {F : Nat → Prop} (h : C5 w g x0 x1 x2 x3 x4) (hc : Cf F w w') (hg : ¬ F g) : C5 w' g x0 x1 x2 x3 x4 := (hc.block g (lt_some h) hg).trans h
set_option maxRecDepth 100000 in
theorem Rd.cf {w w' : World} {r : Nat} {ao : Option Addr} {n cap at_ : Nat} {en : Bool} {F : Nat → Prop} (h : Rd w r ao n cap at_ en) (hc : Cf F w w') (hg : ¬ F r) : Rd w' r ao n cap at_ en := (hc.block r h.lt hg).trans h
/-- cell, under way: its two blocks are k and k + 1. -/
structure Cs (w u : World) (k r g off n cap p : Nat) (en : Bool) (l : List Int) (x0 x1 x2 x3 x4 : Value) : Prop where
  rd : Rd u r (some ⟨g, off, none⟩) n cap p en
  sl : Sl u (some ⟨g, off, none⟩) n cap l
  c2 : C5 u k (.slice none 0 0) (.int .i64 0) (.slice none 0 0) (.int .i64 0) (.int .i64 0)
  c3 : C5 u (k + 1) x0 x1 x2 x3 x4
  cf : Cf (· = r) w u
  hk : k = w.heap.size
  hp : p ≤ n
set_option maxRecDepth 100000 in
theorem Cs.r_lt {w u : World} {k r g off n cap p : Nat} {en : Bool} {l : List Int} {x0 x1 x2 x3 x4 : Value} (h : Cs w u k r g off n cap p en l x0 x1 x2 x3 x4) (hr : r < w.heap.size) : ¬ k = r ∧ ¬ k + 1 = r := by
  have := h.hk
  omega
set_option maxRecDepth 100000 in
theorem Cs.number {w u : World} {k r g off n cap p : Nat} {en : Bool} {l : List Int} {x0 x1 x2 x3 x4 : Value} (h : Cs w u k r g off n cap p en l x0 x1 x2 x3 x4) (hr : r < w.heap.size) (x : Nat) (hx : x = 1 ∨ x = 2 ∨ x = 4) :
    Calls Tryz.prog 171 #[.pointer (some ⟨r, 0, none⟩), .int .i64 (x : Int)] u fun e w' => ∃ (v : Int) (p' : Nat) (en' : Bool), e = .returned (.int .i64 v) ∧ Hid (Cs w w' k r g off n cap p' en' l x0 x1 x2 x3 x4) ∧ Hid ((pNum x (l.drop p) = some (v, l.drop p') ∧ en' = en) ∨ (pNum x (l.drop p) = none ∧ en' = true)) ∧ Hid (Cf (· = r) u w') := by
  refine (number_any x l u r _ n cap p en hx h.rd h.sl h.hp).mono ?_
  rintro e w' ⟨v, p', en', rfl, HR, HC, HV⟩
  obtain ⟨h1, h2⟩ := h.r_lt hr
  obtain ⟨_, hp, hv⟩ := HV.out
  refine ⟨v, p', en', rfl, hidden ⟨HR.out, h.sl.cf HC.out (h.sl.apart h.rd), h.c2.cf HC.out h1, h.c3.cf HC.out h2, h.cf.go HC.out, h.hk, hp⟩, hidden ?_, HC⟩
  rcases hv with ⟨a, b⟩ | ⟨a, b, c, d⟩
  · exact .inl ⟨a, b⟩
  · exact .inr ⟨a, b⟩
set_option maxRecDepth 100000 in
theorem Cs.text {w u : World} {k r g off n cap p : Nat} {en : Bool} {l : List Int} {x0 x1 x2 x3 x4 : Value} (h : Cs w u k r g off n cap p en l x0 x1 x2 x3 x4) (hr : r < w.heap.size) :
    Calls Tryz.prog 172 #[.pointer (some ⟨r, 0, none⟩)] u fun e w' => ∃ (ko : Option Addr) (kn kc p' : Nat) (en' : Bool) (t : List Int), e = .returned (.slice ko kn kc) ∧ Hid (Cs w w' k r g off n cap p' en' l x0 x1 x2 x3 x4) ∧ Hid (Sl w' ko kn kc t ∧ ∀ q, ko = some q → q.block = g) ∧ Hid ((pText (l.drop p) = some (t, l.drop p') ∧ en' = en) ∨ (pText (l.drop p) = none ∧ en' = true)) ∧ Hid (Cf (· = r) u w') := by
  refine (text_any l u r g off n cap p en h.rd h.sl h.hp).mono ?_
  rintro e w' ⟨ko, kn, kc, p', en', t, rfl, HR, HC, HV⟩
  obtain ⟨h1, h2⟩ := h.r_lt hr
  obtain ⟨hs, hloc, hp, hv⟩ := HV.out
  exact ⟨ko, kn, kc, p', en', t, rfl, hidden ⟨HR.out, h.sl.cf HC.out (h.sl.apart h.rd), h.c2.cf HC.out h1, h.c3.cf HC.out h2, h.cf.go HC.out, h.hk, hp⟩, hidden ⟨hs, fun q hq => hloc q hq _ rfl⟩, hidden hv, HC⟩
set_option maxRecDepth 100000 in
/-- A slice of bytes does not lie in a cell's block. -/
theorem Sl.apart5 {w : World} {ao : Option Addr} {n cap : Nat} {l : List Int} (h : Sl w ao n cap l) {g : Nat} {a b : Option Addr} {c d e f : Nat} {x y z : Int} (hr : C5 w g (.slice a c d) (.int .i64 x) (.slice b e f) (.int .i64 y) (.int .i64 z)) : n = 0 ∨ ∀ p, ao = some p → ¬ p.block = g := by
  rcases h.hat with h0 | ⟨q, off, rfl, hg, hc⟩
  · exact .inl h0
  · rcases Nat.eq_zero_or_pos n with h0 | h0
    · exact .inl h0
    · right
      rintro p hp rfl
      injection hp with hp
      subst hp
      have h1 := hc 0 h0
      unfold C5 at hr
      rw [cell_of_row _ _ _ _ _ _ hr] at h1
      rcases Nat.lt_or_ge (off + 0) 5 with h3 | h3
      · have h4 : off + 0 = 0 ∨ off + 0 = 1 ∨ off + 0 = 2 ∨ off + 0 = 3 ∨ off + 0 = 4 := by omega
        rcases h4 with h4 | h4 | h4 | h4 | h4 <;> (rw [h4] at h1; simp at h1)
      · rw [Array.getElem?_eq_none (by simpa using h3)] at h1
        cases h1
set_option maxRecDepth 100000 in
/-- A store into the cell's block. -/
theorem Cs.store {w u : World} {k r g off n cap p : Nat} {en : Bool} {l : List Int} {a b : Option Addr} {c d e f : Nat} {x y z : Int} (h : Cs w u k r g off n cap p en l (.slice a c d) (.int .i64 x) (.slice b e f) (.int .i64 y) (.int .i64 z)) (hr : r < w.heap.size) (i : Nat) (v : Value) {y0 y1 y2 y3 y4 : Value} (hy : C5 (u.setCell ⟨k + 1, i, none⟩ v) (k + 1) y0 y1 y2 y3 y4) :
    Cs w (u.setCell ⟨k + 1, i, none⟩ v) k r g off n cap p en l y0 y1 y2 y3 y4 := by
  obtain ⟨h1, h2⟩ := h.r_lt hr
  have hc := Cf.set u (k + 1) i v
  refine ⟨h.rd.cf hc (by omega), h.sl.cf hc (h.sl.apart5 h.c3), h.c2.cf hc (by omega), hy, ?_, h.hk, h.hp⟩
  refine h.cf.trans hc ?_
  intro j hj e
  have := h.hk
  omega
end Go.Proofs.YtfcbfombobelmaaGreatDoor
