import Derived.Test.YtofafbmpbkjhnaaGreatDoorJ12
import Derived.Laws.AppendOwnNone
import Derived.Maps.AppendAt
import Derived.Deep.RegionLaw
namespace Go.Proofs.YtofafbmpbkjhnaaGreatDoor
set_option maxRecDepth 100000
set_option maxHeartbeats 2000000
open Go.RowKit
def C5 (w : World) (g : Nat) (x0 x1 x2 x3 x4 : Value) : Prop := w.heap[g]? = some (.cells #[x0, x1, x2, x3, x4] 43 (0, 0))
theorem C5.cells {w : World} {g : Nat} {x0 x1 x2 x3 x4 : Value} (h : C5 w g x0 x1 x2 x3 x4) :
  w.cell? ⟨g, 0, none⟩ = some x0 ∧ w.cell? ⟨g, 1, none⟩ = some x1 ∧ w.cell? ⟨g, 2, none⟩ = some x2 ∧ w.cell? ⟨g, 3, none⟩ = some x3 ∧ w.cell? ⟨g, 4, none⟩ = some x4 := by
 unfold C5 at h
 refine ⟨?_, ?_, ?_, ?_, ?_⟩
 ·rw [cell_of_row _ _ 0 _ _ _ h]; rfl
 ·rw [cell_of_row _ _ 1 _ _ _ h]; rfl
 ·rw [cell_of_row _ _ 2 _ _ _ h]; rfl
 ·rw [cell_of_row _ _ 3 _ _ _ h]; rfl
 ·rw [cell_of_row _ _ 4 _ _ _ h]; rfl
theorem C5.free {w : World} {g : Nat} {x0 x1 x2 x3 x4 : Value} (h : C5 w g x0 x1 x2 x3 x4) : w.frozen? ⟨g, 0, none⟩ = false ∧ w.frozen? ⟨g, 1, none⟩ = false ∧ w.frozen? ⟨g, 2, none⟩ = false ∧ w.frozen? ⟨g, 3, none⟩ = false ∧ w.frozen? ⟨g, 4, none⟩ = false := by
 unfold C5 at h
 simp [World.frozen?, h]
theorem C5.set {w : World} {g : Nat} {x0 x1 x2 x3 x4 : Value} (h : C5 w g x0 x1 x2 x3 x4) (y : Value) :
  C5 (w.setCell ⟨g, 0, none⟩ y) g y x1 x2 x3 x4 ∧ C5 (w.setCell ⟨g, 1, none⟩ y) g x0 y x2 x3 x4 ∧ C5 (w.setCell ⟨g, 2, none⟩ y) g x0 x1 y x3 x4 ∧ C5 (w.setCell ⟨g, 3, none⟩ y) g x0 x1 x2 y x4 ∧ C5 (w.setCell ⟨g, 4, none⟩ y) g x0 x1 x2 x3 y := by
 unfold C5 at *
 refine ⟨?_, ?_, ?_, ?_, ?_⟩
 ·simpa using zam (w := w) (a := g) (i := 0) (cs := [x0, x1, x2, x3, x4]) (u := y) h
 ·simpa using zam (w := w) (a := g) (i := 1) (cs := [x0, x1, x2, x3, x4]) (u := y) h
 ·simpa using zam (w := w) (a := g) (i := 2) (cs := [x0, x1, x2, x3, x4]) (u := y) h
 ·simpa using zam (w := w) (a := g) (i := 3) (cs := [x0, x1, x2, x3, x4]) (u := y) h
 ·simpa using zam (w := w) (a := g) (i := 4) (cs := [x0, x1, x2, x3, x4]) (u := y) h
theorem C5.cf {w w' : World} {g : Nat} {x0 x1 x2 x3 x4 : Value} {F : Nat → Prop} (h : C5 w g x0 x1 x2 x3 x4) (hc : Cf F w w') (hg : ¬ F g) : C5 w' g x0 x1 x2 x3 x4 := (hc.block g (zah h) hg).trans h
theorem Rd.cf {w w' : World} {r : Nat} {ao : Option Addr} {n cap at_ : Nat} {en : Bool} {F : Nat → Prop} (h : Rd w r ao n cap at_ en) (hc : Cf F w w') (hg : ¬ F r) : Rd w' r ao n cap at_ en := (hc.block r h.lt hg).trans h
structure Cs (w u : World) (k r g off n cap p : Nat) (en : Bool) (l : List Int) (x0 x1 x2 x3 x4 : Value) : Prop where
 rd : Rd u r (some ⟨g, off, none⟩) n cap p en
 sl : Sl u (some ⟨g, off, none⟩) n cap l
 c2 : C5 u k (.slice none 0 0) (.int .i64 0) (.slice none 0 0) (.int .i64 0) (.int .i64 0)
 c3 : C5 u (k + 1) x0 x1 x2 x3 x4
 cf : Cf (· = r) w u
 hk : k = w.heap.size
 hp : p ≤ n
theorem Cs.r_lt {w u : World} {k r g off n cap p : Nat} {en : Bool} {l : List Int} {x0 x1 x2 x3 x4 : Value} (h : Cs w u k r g off n cap p en l x0 x1 x2 x3 x4) (hr : r < w.heap.size) : ¬ k = r ∧ ¬ k + 1 = r := by
 have := h.hk
 omega
theorem Cs.number {w u : World} {k r g off n cap p : Nat} {en : Bool} {l : List Int} {x0 x1 x2 x3 x4 : Value} (h : Cs w u k r g off n cap p en l x0 x1 x2 x3 x4) (hr : r < w.heap.size) (x : Nat) (hx : x = 1 ∨ x = 2 ∨ x = 4) :
  Calls Tryz.prog 222 #[.pointer (some ⟨r, 0, none⟩), .int .i64 (x : Int)] u fun e w' => ∃ (v : Int) (p' : Nat) (en' : Bool), e = .returned (.int .i64 v) ∧ Hid (Cs w w' k r g off n cap p' en' l x0 x1 x2 x3 x4) ∧ Hid ((pNum x (l.drop p) = some (v, l.drop p') ∧ en' = en) ∨ (pNum x (l.drop p) = none ∧ en' = true)) ∧ Hid (Cf (· = r) u w') := by
 refine (number_any x l u r _ n cap p en hx h.rd h.sl h.hp).mono ?_
 rintro e w' ⟨v, p', en', rfl, HR, HC, HV⟩
 obtain ⟨h1, h2⟩ := h.r_lt hr
 obtain ⟨_, hp, hv⟩ := HV.out
 refine ⟨v, p', en', rfl, zaa ⟨HR.out, h.sl.cf HC.out (h.sl.apart h.rd), h.c2.cf HC.out h1, h.c3.cf HC.out h2, h.cf.go HC.out, h.hk, hp⟩, zaa ?_, HC⟩
 rcases hv with ⟨a, b⟩ | ⟨a, b, c, d⟩
 ·exact .inl ⟨a, b⟩
 ·exact .inr ⟨a, b⟩
theorem Cs.text {w u : World} {k r g off n cap p : Nat} {en : Bool} {l : List Int} {x0 x1 x2 x3 x4 : Value} (h : Cs w u k r g off n cap p en l x0 x1 x2 x3 x4) (hr : r < w.heap.size) :
  Calls Tryz.prog 223 #[.pointer (some ⟨r, 0, none⟩)] u fun e w' => ∃ (ko : Option Addr) (kn kc p' : Nat) (en' : Bool) (t : List Int), e = .returned (.slice ko kn kc) ∧ Hid (Cs w w' k r g off n cap p' en' l x0 x1 x2 x3 x4) ∧ Hid (Sl w' ko kn kc t ∧ ∀ q, ko = some q → q.block = g) ∧ Hid ((zar (l.drop p) = some (t, l.drop p') ∧ en' = en) ∨ (zar (l.drop p) = none ∧ en' = true)) ∧ Hid (Cf (· = r) u w') := by
 refine (text_any l u r g off n cap p en h.rd h.sl h.hp).mono ?_
 rintro e w' ⟨ko, kn, kc, p', en', t, rfl, HR, HC, HV⟩
 obtain ⟨h1, h2⟩ := h.r_lt hr
 obtain ⟨hs, hloc, hp, hv⟩ := HV.out
 exact ⟨ko, kn, kc, p', en', t, rfl, zaa ⟨HR.out, h.sl.cf HC.out (h.sl.apart h.rd), h.c2.cf HC.out h1, h.c3.cf HC.out h2, h.cf.go HC.out, h.hk, hp⟩, zaa ⟨hs, fun q hq => hloc q hq _ rfl⟩, zaa hv, HC⟩
theorem Sl.apart5 {w : World} {ao : Option Addr} {n cap : Nat} {l : List Int} (h : Sl w ao n cap l) {g : Nat} {a b : Option Addr} {c d e f : Nat} {x y z : Int} (hr : C5 w g (.slice a c d) (.int .i64 x) (.slice b e f) (.int .i64 y) (.int .i64 z)) : n = 0 ∨ ∀ p, ao = some p → ¬ p.block = g := by
 rcases h.hat with h0 | ⟨q, off, rfl, hg, hc⟩
 ·exact .inl h0
 ·rcases Nat.eq_zero_or_pos n with h0 | h0
  ·exact .inl h0
  ·right
   rintro p hp rfl
   injection hp with hp
   subst hp
   have h1 := hc 0 h0
   unfold C5 at hr
   rw [cell_of_row _ _ _ _ _ _ hr] at h1
   rcases Nat.lt_or_ge (off + 0) 5 with h3 | h3
   ·have h4 : off + 0 = 0 ∨ off + 0 = 1 ∨ off + 0 = 2 ∨ off + 0 = 3 ∨ off + 0 = 4 := by omega
    rcases h4 with h4 | h4 | h4 | h4 | h4 <;> (rw [h4] at h1; simp at h1)
   ·rw [Array.getElem?_eq_none (by simpa using h3)] at h1
    cases h1
theorem Cs.store {w u : World} {k r g off n cap p : Nat} {en : Bool} {l : List Int} {a b : Option Addr} {c d e f : Nat} {x y z : Int} (h : Cs w u k r g off n cap p en l (.slice a c d) (.int .i64 x) (.slice b e f) (.int .i64 y) (.int .i64 z)) (hr : r < w.heap.size) (i : Nat) (v : Value) {y0 y1 y2 y3 y4 : Value} (hy : C5 (u.setCell ⟨k + 1, i, none⟩ v) (k + 1) y0 y1 y2 y3 y4) :
  Cs w (u.setCell ⟨k + 1, i, none⟩ v) k r g off n cap p en l y0 y1 y2 y3 y4 := by
 obtain ⟨h1, h2⟩ := h.r_lt hr
 have hc := Cf.set u (k + 1) i v
 refine ⟨h.rd.cf hc (by omega), h.sl.cf hc (h.sl.apart5 h.c3), h.c2.cf hc (by omega), hy, ?_, h.hk, h.hp⟩
 refine h.cf.trans hc ?_
 intro j hj e
 have := h.hk
 omega
theorem Cs.number1 {w u : World} {k r g off n cap p : Nat} {en : Bool} {l : List Int} {x0 x1 x2 x3 x4 : Value} (h : Cs w u k r g off n cap p en l x0 x1 x2 x3 x4) (hr : r < w.heap.size) :
  Calls Tryz.prog 222 #[.pointer (some ⟨r, 0, none⟩), .int .i64 1] u fun e w' => ∃ (v : Int) (p' : Nat) (en' : Bool), e = .returned (.int .i64 v) ∧ Hid (Cs w w' k r g off n cap p' en' l x0 x1 x2 x3 x4) ∧ Hid ((pNum 1 (l.drop p) = some (v, l.drop p') ∧ en' = en) ∨ (pNum 1 (l.drop p) = none ∧ en' = true)) ∧ Hid (Cf (· = r) u w') := by
 simpa using h.number hr 1 (.inl rfl)
theorem Cs.number4 {w u : World} {k r g off n cap p : Nat} {en : Bool} {l : List Int} {x0 x1 x2 x3 x4 : Value} (h : Cs w u k r g off n cap p en l x0 x1 x2 x3 x4) (hr : r < w.heap.size) :
  Calls Tryz.prog 222 #[.pointer (some ⟨r, 0, none⟩), .int .i64 4] u fun e w' => ∃ (v : Int) (p' : Nat) (en' : Bool), e = .returned (.int .i64 v) ∧ Hid (Cs w w' k r g off n cap p' en' l x0 x1 x2 x3 x4) ∧ Hid ((pNum 4 (l.drop p) = some (v, l.drop p') ∧ en' = en) ∨ (pNum 4 (l.drop p) = none ∧ en' = true)) ∧ Hid (Cf (· = r) u w') := by
 simpa using h.number hr 4 (.inr (.inr rfl))
def CellTo (l : List Int) (w : World) (r g off n cap at_ : Nat) (en : Bool) (e : Ending) (w' : World) : Prop :=
 ∃ (ko : Option Addr) (kn kc : Nat) (kd : Int) (vo : Option Addr) (vn vc : Nat) (pg ct : Int) (p : Nat) (en' : Bool) (key val : List Int), e = .returned (.agg #[.slice ko kn kc, .int .i64 kd, .slice vo vn vc, .int .i64 pg, .int .i64 ct]) ∧ Hid (Rd w' r (some ⟨g, off, none⟩) n cap p en') ∧ Hid (Cf (· = r) w w') ∧
  Hid (Sl w' ko kn kc key ∧ Sl w' vo vn vc val ∧ (∀ q, ko = some q → q.block = g) ∧ p ≤ n ∧ ((zav (l.drop at_) = some (⟨key, kd, val, pg, ct⟩, l.drop p) ∧ en' = en) ∨ (zav (l.drop at_) = none ∧ en' = true)))
theorem cellV {l : List Int} {a p1 p2 p3 : Nat} {en e1 e2 e3 : Bool} {key val : List Int} (h1 : (pNum 1 (l.drop a) = some (1, l.drop p1) ∧ e1 = en) ∨ (pNum 1 (l.drop a) = none ∧ e1 = true))
  (h2 : (zar (l.drop p1) = some (key, l.drop p2) ∧ e2 = e1) ∨ (zar (l.drop p1) = none ∧ e2 = true)) (h3 : (zar (l.drop p2) = some (val, l.drop p3) ∧ e3 = e2) ∨ (zar (l.drop p2) = none ∧ e3 = true)) :
  (zav (l.drop a) = some (⟨key, 1, val, 0, 0⟩, l.drop p3) ∧ e3 = en) ∨ (zav (l.drop a) = none ∧ e3 = true) := by
 unfold zav
 rcases h1 with ⟨h1, rfl⟩ | ⟨h1, rfl⟩
 ·rw [h1]
  simp only
  rcases h2 with ⟨h2, rfl⟩ | ⟨h2, rfl⟩
  ·rw [h2]
   simp only [if_true]
   rcases h3 with ⟨h3, rfl⟩ | ⟨h3, rfl⟩
   ·rw [h3]; exact .inl ⟨rfl, rfl⟩
   ·rw [h3]; exact .inr ⟨rfl, rfl⟩
  ·rw [h2]
   refine .inr ⟨rfl, ?_⟩
   rcases h3 with ⟨_, h⟩ | ⟨_, h⟩ <;> exact h
 ·rw [h1]
  refine .inr ⟨rfl, ?_⟩
  rcases h2 with ⟨_, rfl⟩ | ⟨_, rfl⟩ <;> rcases h3 with ⟨_, h⟩ | ⟨_, h⟩ <;> exact h
theorem cellN {l : List Int} {a p1 p2 p3 p4 : Nat} {en e1 e2 e3 e4 : Bool} {key : List Int} {kd pg ct : Int} (hk : kd ≠ 1) (h1 : (pNum 1 (l.drop a) = some (kd, l.drop p1) ∧ e1 = en) ∨ (pNum 1 (l.drop a) = none ∧ e1 = true))
  (h2 : (zar (l.drop p1) = some (key, l.drop p2) ∧ e2 = e1) ∨ (zar (l.drop p1) = none ∧ e2 = true)) (h3 : (pNum 4 (l.drop p2) = some (pg, l.drop p3) ∧ e3 = e2) ∨ (pNum 4 (l.drop p2) = none ∧ e3 = true))
  (h4 : (pNum 4 (l.drop p3) = some (ct, l.drop p4) ∧ e4 = e3) ∨ (pNum 4 (l.drop p3) = none ∧ e4 = true)) :
  (zav (l.drop a) = some (⟨key, kd, [], pg, ct⟩, l.drop p4) ∧ e4 = en) ∨ (zav (l.drop a) = none ∧ e4 = true) := by
 unfold zav
 rcases h1 with ⟨h1, rfl⟩ | ⟨h1, rfl⟩
 ·rw [h1]
  simp only
  rcases h2 with ⟨h2, rfl⟩ | ⟨h2, rfl⟩
  ·rw [h2]
   simp only [if_neg hk]
   rcases h3 with ⟨h3, rfl⟩ | ⟨h3, rfl⟩
   ·rw [h3]
    simp only
    rcases h4 with ⟨h4, rfl⟩ | ⟨h4, rfl⟩
    ·rw [h4]; exact .inl ⟨rfl, rfl⟩
    ·rw [h4]; exact .inr ⟨rfl, rfl⟩
   ·rw [h3]
    refine .inr ⟨rfl, ?_⟩
    rcases h4 with ⟨_, h⟩ | ⟨_, h⟩ <;> exact h
  ·rw [h2]
   refine .inr ⟨rfl, ?_⟩
   rcases h3 with ⟨_, rfl⟩ | ⟨_, rfl⟩ <;> rcases h4 with ⟨_, h⟩ | ⟨_, h⟩ <;> exact h
 ·rw [h1]
  refine .inr ⟨rfl, ?_⟩
  rcases h2 with ⟨_, rfl⟩ | ⟨_, rfl⟩ <;> rcases h3 with ⟨_, rfl⟩ | ⟨_, rfl⟩ <;> rcases h4 with ⟨_, h⟩ | ⟨_, h⟩ <;> exact h
def put5 (w : World) (g : Nat) (y0 y1 y2 y3 y4 : Value) : World := ((((w.setCell ⟨g, 0, none⟩ y0).setCell ⟨g, 1, none⟩ y1).setCell ⟨g, 2, none⟩ y2).setCell ⟨g, 3, none⟩ y3).setCell ⟨g, 4, none⟩ y4
theorem C5.put {w : World} {g : Nat} {x0 x1 x2 x3 x4 : Value} (h : C5 w g x0 x1 x2 x3 x4) (y0 y1 y2 y3 y4 : Value) : C5 (put5 w g y0 y1 y2 y3 y4) g y0 y1 y2 y3 y4 :=
 ((((((h.set y0).1).set y1).2.1.set y2).2.2.1.set y3).2.2.2.1.set y4).2.2.2.2
theorem zbv (w : World) (g : Nat) (y0 y1 y2 y3 y4 : Value) : Cf (· = g) w (put5 w g y0 y1 y2 y3 y4) := ((((Cf.set _ _ _ _).go (Cf.set _ _ _ _)).go (Cf.set _ _ _ _)).go (Cf.set _ _ _ _)).go (Cf.set _ _ _ _)
theorem zbh : (Tryz.prog.info? 43).map (·.size) = some 5 := by kernel_rfl
theorem Cs.fin {w u : World} {k r g off n cap p at_ : Nat} {en en' : Bool} {l : List Int} {ko vo : Option Addr} {kn kc vn vc : Nat} {kd pg ct : Int} (h : Cs w u k r g off n cap p en' l (.slice ko kn kc) (.int .i64 kd) (.slice vo vn vc) (.int .i64 pg) (.int .i64 ct)) (hr : r < w.heap.size) {key val : List Int}
  (hk : Sl u ko kn kc key) (hv : Sl u vo vn vc val) (hloc : ∀ q, ko = some q → q.block = g) (hc : (zav (l.drop at_) = some (⟨key, kd, val, pg, ct⟩, l.drop p) ∧ en' = en) ∨ (zav (l.drop at_) = none ∧ en' = true)) :
  CellTo l w r g off n cap at_ en (.returned (.agg #[.slice ko kn kc, .int .i64 kd, .slice vo vn vc, .int .i64 pg, .int .i64 ct])) (put5 u k (.slice ko kn kc) (.int .i64 kd) (.slice vo vn vc) (.int .i64 pg) (.int .i64 ct)) := by
 obtain ⟨h1, h2⟩ := h.r_lt hr
 have hf := zbv u k (.slice ko kn kc) (.int .i64 kd) (.slice vo vn vc) (.int .i64 pg) (.int .i64 ct)
 refine ⟨ko, kn, kc, kd, vo, vn, vc, pg, ct, p, en', key, val, rfl, zaa (h.rd.cf hf (by omega)), zaa (h.cf.trans hf ?_), zaa ⟨hk.cf hf (hk.apart5 h.c2), hv.cf hf (hv.apart5 h.c2), hloc, h.hp, hc⟩⟩
 intro j hj e
 have := h.hk
 omega
theorem cell_any (l : List Int) (w : World) (r g off n cap at_ : Nat) (en : Bool) (hr : Rd w r (some ⟨g, off, none⟩) n cap at_ en) (hs : Sl w (some ⟨g, off, none⟩) n cap l) (ha : at_ ≤ n) :
  Calls Tryz.prog 192 #[.pointer (some ⟨r, 0, none⟩)] w fun e w' => CellTo l w r g off n cap at_ en e w' := by
 have hrl := hr.lt
 obtain ⟨k, hk⟩ : ∃ k, w.heap.size = k := ⟨_, rfl⟩
 obtain ⟨u, hu⟩ : ∃ u, (w.alloc (.cells #[.slice none 0 0, .int .i64 0, .slice none 0 0, .int .i64 0, .int .i64 0] 43)).alloc (.cells #[.slice none 0 0, .int .i64 0, .slice none 0 0, .int .i64 0, .int .i64 0] 43) = u := ⟨_, rfl⟩
 have HC0 : Hid (Cs w u k r g off n cap at_ en l (.slice none 0 0) (.int .i64 0) (.slice none 0 0) (.int .i64 0) (.int .i64 0)) := by
  have hc : Cf (· = r) w u := by rw [← hu]; exact (Cf.alloc _ _ _).go (Cf.alloc _ _ _)
  refine zaa ⟨?_, ?_, ?_, ?_, hc, hk.symm, ha⟩
  ·rw [← hu]
   exact (Below.heap_alloc _ _ _ (by simp; omega)).trans ((Below.heap_alloc _ _ _ hrl).trans hr)
  ·rw [← hu]
   exact hs.on Lr (zac (zac Br Lr _) Lr _)
  ·rw [← hu, ← hk]
   exact (Below.heap_alloc _ _ _ (by simp)).trans (heap_alloc_last w _)
  ·rw [← hu, ← hk]
   have hz : (w.alloc (.cells #[.slice none 0 0, .int .i64 0, .slice none 0 0, .int .i64 0, .int .i64 0] 43)).heap.size = w.heap.size + 1 := by simp
   have := heap_alloc_last (w.alloc (.cells #[.slice none 0 0, .int .i64 0, .slice none 0 0, .int .i64 0, .int .i64 0] 43)) (.cells #[.slice none 0 0, .int .i64 0, .slice none 0 0, .int .i64 0, .int .i64 0] 43)
   rw [hz] at this
   exact this
 have N1 := zaa (HC0.out.number1 hrl)
 clear hr hs
 go_enter Tryz.func192, Tryz.ntmps192
 go_wp2_with (go_at_call 222; refine N1.out.mono ?_; rintro e w1 ⟨v1, p1, e1, rfl, HS1, HV1, HX1⟩; refine Hid.out ?_)
 apply zaa
 clear N1 HC0 hu
 obtain ⟨a0, a1, a2, a3, a4⟩ := HS1.out.c3.cells
 obtain ⟨f0, f1, f2, f3, f4⟩ := HS1.out.c3.free
 have HT1 := zaa (HS1.out.store hrl 1 (.int .i64 v1) (HS1.out.c3.set (.int .i64 v1)).2.1)
 have T1 := zaa (HT1.out.text hrl)
 go_wp2_with (go_at_call 223; refine T1.out.mono ?_; rintro e w2 ⟨ko, kn, kc, p2, e2, key, rfl, HS2, HK2L, HV2, HX2⟩; refine Hid.out ?_)
 apply zaa
 have HK2 := zaa HK2L.out.1
 have HLOC := zaa HK2L.out.2
 clear HK2L
 clear a0 a1 a2 a3 a4 f0 f1 f2 f3 f4 T1 HT1 HS1
 obtain ⟨a0, a1, a2, a3, a4⟩ := HS2.out.c3.cells
 obtain ⟨f0, f1, f2, f3, f4⟩ := HS2.out.c3.free
 have HT2 := zaa (HS2.out.store hrl 0 (.slice ko kn kc) (HS2.out.c3.set (.slice ko kn kc)).1)
 have HK2a : Hid (Sl (w2.setCell ⟨k + 1, 0, none⟩ (.slice ko kn kc)) ko kn kc key) := zaa (HK2.out.cf (Cf.set _ _ _ _) (HK2.out.apart5 HS2.out.c3))
 by_cases h1 : v1 = 1
 ·subst h1
  have T2 := zaa (HT2.out.text hrl)
  go_wp2_with (go_at_call 223; refine T2.out.mono ?_; rintro e w3 ⟨vo, vn, vc, p3, e3, val, rfl, HS3, HK3L, HV3, HX3⟩; refine Hid.out ?_)
  apply zaa
  have HK3 := zaa HK3L.out.1
  clear HK3L
  have HK3a : Hid (Sl w3 ko kn kc key) := zaa (HK2a.out.cf HX3.out (HK2a.out.apart HT2.out.rd))
  clear a0 a1 a2 a3 a4 f0 f1 f2 f3 f4 T2 HT2 HS2 HK2a
  obtain ⟨a0, a1, a2, a3, a4⟩ := HS3.out.c3.cells
  obtain ⟨f0, f1, f2, f3, f4⟩ := HS3.out.c3.free
  obtain ⟨b0, b1, b2, b3, b4⟩ := HS3.out.c2.cells
  obtain ⟨d0, d1, d2, d3, d4⟩ := HS3.out.c2.free
  have HT3 := zaa (HS3.out.store hrl 2 (.slice vo vn vc) (HS3.out.c3.set (.slice vo vn vc)).2.2.1)
  have HK3b : Hid (Sl (w3.setCell ⟨k + 1, 2, none⟩ (.slice vo vn vc)) ko kn kc key) := zaa (HK3a.out.cf (Cf.set _ _ _ _) (HK3a.out.apart5 HS3.out.c3))
  have HK3c : Hid (Sl (w3.setCell ⟨k + 1, 2, none⟩ (.slice vo vn vc)) vo vn vc val) := zaa (HK3.out.cf (Cf.set _ _ _ _) (HK3.out.apart5 HS3.out.c3))
  have HV := zaa (cellV HV1.out HV2.out HV3.out)
  clear HS3 HK3 HK3a HV1 HV2 HV3 HX1 HX2 HX3 HK2
  go_wp2
  refine bodyPost_ret (results_cell_row rfl _ _ k 43 #[.slice ko kn kc, .int .i64 1, .slice vo vn vc, .int .i64 0, .int .i64 0] (0, 0) _ (by rfl) (HT3.out.c2.put _ _ _ _ _) Tryz.underlying43 rfl zbh) rfl ?_
  exact HT3.out.fin hrl HK3b.out HK3c.out HLOC.out HV.out
 ·have T2 := zaa (HT2.out.number4 hrl)
  go_wp2_with (go_at_call 222; refine T2.out.mono ?_; rintro e w3 ⟨pg, p3, e3, rfl, HS3, HV3, HX3⟩; refine Hid.out ?_)
  apply zaa
  have HK3a : Hid (Sl w3 ko kn kc key) := zaa (HK2a.out.cf HX3.out (HK2a.out.apart HT2.out.rd))
  clear a0 a1 a2 a3 a4 f0 f1 f2 f3 f4 T2 HT2 HS2 HK2a
  obtain ⟨a0, a1, a2, a3, a4⟩ := HS3.out.c3.cells
  obtain ⟨f0, f1, f2, f3, f4⟩ := HS3.out.c3.free
  have HT3 := zaa (HS3.out.store hrl 3 (.int .i64 pg) (HS3.out.c3.set (.int .i64 pg)).2.2.2.1)
  have HK3b : Hid (Sl (w3.setCell ⟨k + 1, 3, none⟩ (.int .i64 pg)) ko kn kc key) := zaa (HK3a.out.cf (Cf.set _ _ _ _) (HK3a.out.apart5 HS3.out.c3))
  have T3 := zaa (HT3.out.number4 hrl)
  go_wp2_with (go_at_call 222; refine T3.out.mono ?_; rintro e w4 ⟨ct, p4, e4, rfl, HS4, HV4, HX4⟩; refine Hid.out ?_)
  apply zaa
  have HK4a : Hid (Sl w4 ko kn kc key) := zaa (HK3b.out.cf HX4.out (HK3b.out.apart HT3.out.rd))
  clear a0 a1 a2 a3 a4 f0 f1 f2 f3 f4 T3 HT3 HS3 HK3a HK3b
  obtain ⟨a0, a1, a2, a3, a4⟩ := HS4.out.c3.cells
  obtain ⟨f0, f1, f2, f3, f4⟩ := HS4.out.c3.free
  obtain ⟨b0, b1, b2, b3, b4⟩ := HS4.out.c2.cells
  obtain ⟨d0, d1, d2, d3, d4⟩ := HS4.out.c2.free
  have HT4 := zaa (HS4.out.store hrl 4 (.int .i64 ct) (HS4.out.c3.set (.int .i64 ct)).2.2.2.2)
  have HK4b : Hid (Sl (w4.setCell ⟨k + 1, 4, none⟩ (.int .i64 ct)) ko kn kc key) := zaa (HK4a.out.cf (Cf.set _ _ _ _) (HK4a.out.apart5 HS4.out.c3))
  have HV := zaa (cellN h1 HV1.out HV2.out HV3.out HV4.out)
  clear HS4 HK4a HV1 HV2 HV3 HV4 HX1 HX2 HX3 HX4 HK2
  go_wp2
  refine bodyPost_ret (results_cell_row rfl _ _ k 43 #[.slice ko kn kc, .int .i64 v1, .slice none 0 0, .int .i64 pg, .int .i64 ct] (0, 0) _ (by rfl) (HT4.out.c2.put _ _ _ _ _) Tryz.underlying43 rfl zbh) rfl ?_
  exact HT4.out.fin hrl HK4b.out (Sl.nil_any _ _ _ fun _ => rfl) HLOC.out HV.out
structure Gr (w : World) (v : Value) (w' : World) (v' : Value) : Prop where
 grow : w.grownBy w' v.ownBlock
 own : v'.ownBlock = v.ownBlock ∨ ∃ k, v'.ownBlock = some k ∧ w.heap.size ≤ k
theorem Gr.ofBelow {w w' : World} (v : Value) (h : Below w.heap.size w w') : Gr w v w' v := ⟨⟨h.os, h.tape, h.output, h.size, fun k hk _ => h.block k hk⟩, .inl rfl⟩
theorem Gr.refl (w : World) (v : Value) : Gr w v w v := Gr.ofBelow v Br
theorem Gr.trans {w w1 w2 : World} {v v1 v2 : Value} (a : Gr w v w1 v1) (b : Gr w1 v1 w2 v2) : Gr w v w2 v2 := by
 have hs := a.grow.size
 refine ⟨⟨b.grow.os.trans a.grow.os, b.grow.tape.trans a.grow.tape, b.grow.output.trans a.grow.output, zN hs b.grow.size, fun k hk hne => ?_⟩, ?_⟩
 ·refine (b.grow.block k (zO hk hs) ?_).trans (a.grow.block k hk hne)
  rcases a.own with h | ⟨k', h, hk'⟩
  ·rw [h]; exact hne
  ·rw [h]; intro e; cases e; omega
 ·rcases b.own with h | ⟨k', h, hk'⟩
  ·rcases a.own with h' | ⟨k'', h', hk''⟩
   ·exact .inl (h.trans h')
   ·exact .inr ⟨k'', h.trans h', hk''⟩
  ·exact .inr ⟨k', h, by omega⟩
theorem Gr.below {w w' : World} {v v' : Value} {B : Nat} {l : List Int} (h : Gr w v w' v') (hown : OwnB w B v l) (hB : B ≤ w.heap.size) : Below B w w' := zcq hown hB h.grow
def Far (ao : Option Addr) (n : Nat) (v : Value) : Prop := n = 0 ∨ ∀ p, ao = some p → v.ownBlock ≠ some p.block
theorem Sl.gr {w w' : World} {v v' : Value} {ao : Option Addr} {n cap : Nat} {l : List Int} (h : Sl w ao n cap l) (hg : Gr w v w' v') (hf : Far ao n v) : Sl w' ao n cap l := by
 refine ⟨h.hlen, h.hcap, h.hroom, h.wf, h.hnil, ?_⟩
 rcases h.hat with h0 | ⟨b, off, e, hlt, hc⟩
 ·exact .inl h0
 ·rcases hf with h0 | hf
  ·exact .inl h0
  ·refine .inr ⟨b, off, e, zO hlt hg.grow.size, fun i hi => ?_⟩
   rw [← hc i hi]
   exact World.cell?_of_block (hg.grow.block b hlt (fun e2 => hf _ e e2.symm))
theorem Far.gr {w w' : World} {v v' : Value} {ao : Option Addr} {n cap : Nat} {l : List Int} (hf : Far ao n v) (h : Sl w ao n cap l) (hg : Gr w v w' v') : Far ao n v' := by
 rcases hf with h0 | hf
 ·exact .inl h0
 ·rcases h.hat with h0 | ⟨b, off, rfl, hlt, hc⟩
  ·exact .inl h0
  ·right
   intro p hp
   injection hp with hp
   subst hp
   rcases hg.own with e | ⟨k, e, hk⟩
   ·rw [e]; exact hf _ rfl
   ·rw [e]; intro h; injection h with h; simp only at h; omega
theorem OwnB.low {w : World} {B C : Nat} {v : Value} {l : List Int} (h : OwnB w C v l) (hB : B ≤ C) : OwnB w B v l := by
 unfold OwnB at *
 rcases h.2 with h2 | ⟨g, cap, cur, e, hg, rest⟩
 ·exact ⟨h.1, .inl h2⟩
 ·exact ⟨h.1, .inr ⟨g, cap, cur, e, zN hB hg, rest⟩⟩
theorem OwnB.far {w : World} {B : Nat} {v : Value} {l : List Int} (h : OwnB w B v l) {ao : Option Addr} {n : Nat} (hb : ∀ p, ao = some p → p.block < B) : Far ao n v := by
 right
 intro p hp e
 have := hb p hp
 unfold OwnB at h
 have h2 := (h.lt p.block e).1
 omega
theorem zbi {ops : Array Oper} {rest : List Oper} {o : Oper} {a : Act} {Q : Exit → Act → World → Prop} (w : World) (hgd : o.guard = none) (s x : Operand)
  (ho : o.op = .call { callee := .builtin .append, args := #[s, x], argTypes := #[41, 41] }) (B : Nat) (l news : List Int) (v : Value) (ao : Option Addr) (n c : Nat) (hs : a.eval s = v) (hx : a.eval x = .slice ao n c)
  (hown : OwnB w B v l) (hsl : Sl w ao n c news) (hb : l.length + n ≤ 140737488355328) (hbase : B ≤ w.heap.size)
  (h : ∀ v' w', OwnB w' B v' (l ++ news) → Gr w v w' v' → wpList Tryz.prog ops Q rest (a.put o.dst v') w') : wpList Tryz.prog ops Q (o :: rest) a w := by
 obtain ⟨i0, hi, hz0, hz1, hz2⟩ := info_parts zaw
 have hlen := hsl.hlen
 cases ao with
 | none =>
  have : n = 0 := by have := hsl.hnil rfl; have := hsl.hcap; omega
  subst this
  have hc0 := hsl.hnil rfl
  subst hc0
  obtain rfl : news = [] := List.eq_nil_of_length_eq_zero hlen
  exact wpList_append_own_none hgd s x 41 ho B 5 i0 1 Tryz.underlying41 hi v l.length (By l) hs hown hx (h v w (by simpa using hown) (Gr.refl _ _))
 | some ad =>
  refine wpList_append_own_at w hgd s x 41 ho B 5 i0 (.int .u8 0) 1 1 Tryz.underlying41 hi hz0 hz1 hz2 rfl (by decide) v l.length (By l) hs hown ad n c (By news) hx (by simp [By, hlen])
   (fun j u hu => by
    obtain ⟨h1, h2⟩ := getElem?_By news j u hu
    rw [h2]
    rcases hsl.hat with h0 | ⟨b, off, e, _, hc⟩
    ·omega
    ·injection e with e
     subst e
     rw [Addr.add_lit]
     exact hc j (by omega)) (zbt news) (by unfold maxLen; omega) (by omega) hbase ?_
  intro v' w' h1 h2 _ h4
  refine h v' w' ?_ ⟨h2, h4.imp id fun e => ⟨_, e, Lr⟩⟩
  unfold OwnB
  rw [zda, zG, hlen]
  exact h1
theorem zdr (ao : Option Addr) (n cap : Nat) (l : List Int) (w : World) (hs : Sl w ao n cap l) :
  Calls Tryz.prog 191 #[.slice ao n cap] w fun e w' => e = .returned (.slice (some ⟨w.heap.size, 0, none⟩) n n) ∧ Hid (Bk w' w.heap.size l) ∧ Hid (Below w.heap.size w w') := by
 obtain ⟨i0, hi, hz0, hz1, hz2⟩ := info_parts zaw
 obtain ⟨hlen, hcap, hroom, hwf, hnil, hat⟩ := hs
 have hsz : (Tryz.prog.info? 5).map (·.size) = some 1 := by rw [hi]; simp [hz1]
 go_enter Tryz.func191, Tryz.ntmps191
 go_wp2_with (at_make; refine wpList_make_full _ rfl _ _ 41 rfl w.heap.size 5 i0 (.int .u8 0) 1 Tryz.underlying41 hi hz0 hz1 .i64 .i64 n n n rfl rfl rfl rfl (by rw [hz2]; omega) (by unfold maxLen; omega) Lr ?_)
 intro w1 hown1 hg1
 have hb1 : Below w.heap.size w w1 := Br.grown hg1 Lr (fun k hk => by cases hk)
 clear hg1
 obtain ⟨cur, hcur, hcs⟩ : ∃ cur : List Value, w1.heap[w.heap.size]? = some (.cells cur.toArray 5 (0, 0)) ∧ cur.length = n := by
  rcases hown1.2 with ⟨h, _⟩ | ⟨g, c, cur, h, _, hh, _, _, hs, _⟩
  ·cases h
  ·cases h
   exact ⟨cur.toList, by simpa using hh, by simpa using hs⟩
 clear hown1
 have HC := zaa hcur
 clear hcur
 have hpos : 0 < (By l).length → some (⟨w.heap.size, 0, none⟩ : Addr) = some ⟨w.heap.size, 0, none⟩ ∧ ∃ ad, ao = some ad ∧ ∀ j v, (By l)[j]? = some v → w1.cell? (ad.add j) = some v := by
  intro h
  rw [zax] at h
  rcases hat with h0 | ⟨b, off, rfl, hbb, hc⟩
  ·omega
  ·refine ⟨rfl, _, rfl, fun j v hv => ?_⟩
   obtain ⟨h1, rfl⟩ := getElem?_By l j v hv
   rw [Addr.add_lit]
   exact (hb1.cell (p := ⟨b, off + j, none⟩) hbb).trans (hc j (by omega))
 have HP := zaa hpos
 clear hpos
 go_wp2_with (refine wpList_copy_splice rfl _ _ 41 41 rfl 5 Tryz.underlying41 hsz _ _ n n n cap rfl rfl w.heap.size 0 cur 5 HC.out (By l) (by rw [zax, hlen]; exact (Nat.min_self n).symm) HP.out (by rw [zax]; omega) (zbt l) w.heap.size w hb1 Lr ?_)
 intro w2 hh hb2
 have ho : Hid (Bk w2 w.heap.size l) := by
  have h' := hh.out
  rw [show splice cur 0 (By l) = By l from by simp [splice, zax, hlen, hcs]] at h'
  exact zaa h'
 have HB2 := zaa hb2
 clear hh hb2
 go_wp2
 go_ret
 exact ⟨rfl, ho, HB2⟩
theorem ptaken_any (ka : Option Addr) (kn kc : Nat) (kd : Int) (va : Option Addr) (vn vc : Nat) (pg ct : Int) (w : World) (hk : kn ≤ 140737488355328) (hv : vn ≤ 140737488355328) :
  Calls Tryz.prog 142 #[.agg #[.slice ka kn kc, .int .i64 kd, .slice va vn vc, .int .i64 pg, .int .i64 ct]] w fun e w' => e = .returned (.int .i64 (if kd = 1 then 7 + (kn : Int) + (vn : Int) else 13 + (kn : Int))) ∧ Below w.heap.size w w' := by
 by_cases h : kd = 1
 ·subst h
  rw [if_pos rfl]
  go_enter Tryz.func142, Tryz.ntmps142
  go_wp2
  go_ret
  exact ⟨zcc (by omega), Br.alloc Lr _⟩
 ·rw [if_neg h]
  go_enter Tryz.func142, Tryz.ntmps142
  go_wp2
  go_ret
  exact ⟨zcc (by omega), Br.alloc Lr _⟩
theorem zdt (v : Value) (B : Nat) (l : List Int) (ao : Option Addr) (n c : Nat) (t : List Int) (w : World) (hown : OwnB w B v l) (hB : B ≤ w.heap.size) (hs : Sl w ao n c t) (hf : Far ao n v) (hl : l.length + n ≤ 70368744177664) :
  Calls Tryz.prog 211 #[v, .slice ao n c] w fun e w' => ∃ v', e = .returned v' ∧ Hid (OwnB w' B v' (l ++ (fB 2 (n : Int) ++ t))) ∧ Hid (Gr w v w' v') := by
 have hlen := hs.hlen
 have hw : IntKind.u64.wrap (n : Int) = (n : Int) := by rw [IntKind.wrap_u64]; omega
 have HF := zaa (fixed_yes (n : Int) 2 w (by omega) (by omega) (by omega))
 have HS := zaa hs
 have HO := zaa hown
 have HFAR := zaa hf
 clear hs hown hf
 go_enter Tryz.func211, Tryz.ntmps211
 go_wp2_with (go_at_call 189; refine HF.out.mono ?_; rintro e w1 ⟨v1, rfl, ho1, hb1⟩; refine Hid.out ?_)
 apply zaa
 rw [show (2 : Int).toNat = 2 from rfl] at ho1
 obtain ⟨a1, c1, rfl, s1, _⟩ := ho1.sl (fB_wf _ _) (by rw [zal]; omega)
 rw [zal] at s1
 rw [zal]
 have HS1 := zaa s1
 have HO1 : Hid (OwnB w1 B v l) := zaa (HO.out.on Lr hb1)
 have G1 := zaa (Gr.ofBelow v hb1)
 have hB1 : B ≤ w1.heap.size := zN hB hb1.size
 have HSa : Hid (Sl w1 ao n c t) := zaa (HS.out.on Lr hb1)
 have HL : Hid ((fB 2 (n : Int)).length = 2) := zaa (zal _ _)
 obtain ⟨F, hF⟩ : ∃ F, fB 2 (n : Int) = F := ⟨_, rfl⟩
 have HFE := zaa hF
 rw [hF] at HL HS1
 clear hF
 clear s1 ho1 hb1 HF
 go_wp2_with (at_builtin; refine zbi _ rfl _ _ rfl B l F v a1 2 c1 rfl rfl HO1.out HS1.out (by omega) hB1 ?_; refine Hid.out ?_)
 apply zaa
 intro v2 w2 ho2 g2
 have hB2 : B ≤ w2.heap.size := zN hB1 g2.grow.size
 have HSb : Hid (Sl w2 ao n c t) := zaa (HSa.out.gr g2 HFAR.out)
 have G2 := zaa (G1.out.trans g2)
 have HO2 := zaa ho2
 clear ho2 g2 HO1 HS1
 have hll : (l ++ F).length + n ≤ 140737488355328 := by rw [zG, HL.out]; omega
 go_wp2_with (at_builtin; refine zbi _ rfl _ _ rfl B (l ++ F) t v2 ao n c rfl rfl HO2.out HSb.out hll hB2 ?_; refine Hid.out ?_)
 apply zaa
 intro v3 w3 ho3 g3
 have HO3 := zaa ho3
 have G3 := zaa (G2.out.trans g3)
 clear ho3 g3
 go_wp2
 go_ret
 exact ⟨v3, rfl, zaa (by rw [HFE.out]; first | exact HO3.out | (rw [← zM]; exact HO3.out)), G3⟩
theorem sl_one (w : World) (x : Int) (hx : 0 ≤ x ∧ x ≤ 255) : Sl (w.alloc (.cells #[.int .u8 x] 5)) (some ⟨w.heap.size, 0, none⟩) 1 1 [x] := by
 refine ⟨rfl, Lr, by omega, Wf.cons hx Wf.nil, (by intro h; cases h), .inr ⟨w.heap.size, 0, rfl, by simp, ?_⟩⟩
 intro i hi
 obtain rfl : i = 0 := by omega
 simp
theorem C5.box (w : World) (x0 x1 x2 x3 x4 : Value) : C5 (w.alloc (.cells #[x0, x1, x2, x3, x4] 43)) w.heap.size x0 x1 x2 x3 x4 := heap_alloc_last w _
theorem C5.gr {w w' : World} {v v' : Value} {g : Nat} {x0 x1 x2 x3 x4 : Value} (h : C5 w g x0 x1 x2 x3 x4) (hg : Gr w v w' v') (hv : v.ownBlock ≠ some g) : C5 w' g x0 x1 x2 x3 x4 := (hg.grow.block g (zah h) (fun e => hv e.symm)).trans h
theorem OwnB.apart5 {w : World} {B : Nat} {v : Value} {l : List Int} (h : OwnB w B v l) {g : Nat} {x0 x1 x2 x3 x4 : Value} (hc : C5 w g x0 x1 x2 x3 x4) : v.ownBlock ≠ some g := by
 intro e
 unfold OwnB at h
 rcases h.2 with ⟨rfl, _⟩ | ⟨q, cap, cur, rfl, _, hh, _⟩
 ·cases e
 ·simp only [Value.ownBlock, Option.some.injEq] at e
  subst e
  unfold C5 at hc
  rw [hc] at hh
  simp at hh
theorem appended_any (v : Value) (B : Nat) (l : List Int) (ka : Option Addr) (kn kc : Nat) (kd : Int) (va : Option Addr) (vn vc : Nat) (pg ct : Int) (key val : List Int) (w : World) (hown : OwnB w B v l) (hB : B ≤ w.heap.size)
  (hk : Sl w ka kn kc key) (hv : Sl w va vn vc val) (fk : Far ka kn v) (fv : Far va vn v) (hp : 0 ≤ pg ∧ pg < 4294967296) (hc : 0 ≤ ct ∧ ct < 4294967296) (hl : l.length + kn + vn ≤ 35184372088832) :
  Calls Tryz.prog 185 #[v, .agg #[.slice ka kn kc, .int .i64 kd, .slice va vn vc, .int .i64 pg, .int .i64 ct]] w fun e w' => ∃ v', e = .returned v' ∧ Hid (OwnB w' B v' (l ++ cB ⟨key, kd, val, pg, ct⟩)) ∧ Hid (Gr w v w' v') := by
 have HKL := zaa hk.hlen
 have HVL := zaa hv.hlen
 have hp0 := hp.1
 have hp1 := hp.2
 have hc0 := hc.1
 have hc1 := hc.2
 have hwp : IntKind.u64.wrap pg = pg := by rw [IntKind.wrap_u64]; omega
 have hwc : IntKind.u64.wrap ct = ct := by rw [IntKind.wrap_u64]; omega
 obtain ⟨s, hs⟩ : ∃ s, w.heap.size = s := ⟨_, rfl⟩
 obtain ⟨x, hx⟩ : ∃ x, (w.alloc (.cells #[.slice ka kn kc, .int .i64 kd, .slice va vn vc, .int .i64 pg, .int .i64 ct] 43)).alloc (.cells #[.int .u8 (kd % 256)] 5) = x := ⟨_, rfl⟩
 have hbx : Below w.heap.size w x := by rw [← hx]; exact zac (zac Br Lr _) Lr _
 have HBX : Hid (C5 x s (.slice ka kn kc) (.int .i64 kd) (.slice va vn vc) (.int .i64 pg) (.int .i64 ct)) := by
  rw [← hx, ← hs]
  exact zaa ((Below.heap_alloc _ _ _ (by simp)).trans (heap_alloc_last w _))
 have H1 : Hid (Sl x (some ⟨s + 1, 0, none⟩) 1 1 [kd % 256]) := by
  have := sl_one (w.alloc (.cells #[.slice ka kn kc, .int .i64 kd, .slice va vn vc, .int .i64 pg, .int .i64 ct] 43)) (kd % 256) (by omega)
  rw [hx] at this
  rw [← hs]
  exact zaa (by simpa using this)
 have HO : Hid (OwnB x B v l) := zaa (hown.on Lr hbx)
 have HK : Hid (Sl x ka kn kc key) := zaa (hk.on Lr hbx)
 have HV : Hid (Sl x va vn vc val) := zaa (hv.on Lr hbx)
 have HFK := zaa fk
 have HFV := zaa fv
 have HG : Hid (Gr w v x v) := zaa (Gr.ofBelow v hbx)
 have hBx : B ≤ x.heap.size := zN hB hbx.size
 clear hown hk hv fk fv hbx
 go_enter Tryz.func185, Tryz.ntmps185
 go_wp2_with (at_builtin; refine zbi _ rfl _ _ rfl B l [kd % 256] v (some ⟨s + 1, 0, none⟩) 1 1 rfl rfl HO.out H1.out (by omega) hBx ?_; refine Hid.out ?_)
 apply zaa
 intro v1 w1 ho1 g1
 have HO1 := zaa ho1
 have HBX1 : Hid (C5 w1 s (.slice ka kn kc) (.int .i64 kd) (.slice va vn vc) (.int .i64 pg) (.int .i64 ct)) := zaa (HBX.out.gr g1 (HO.out.apart5 HBX.out))
 have HK1 : Hid (Sl w1 ka kn kc key) := zaa (HK.out.gr g1 HFK.out)
 have HV1 : Hid (Sl w1 va vn vc val) := zaa (HV.out.gr g1 HFV.out)
 have HFK1 : Hid (Far ka kn v1) := zaa (HFK.out.gr HK.out g1)
 have HFV1 : Hid (Far va vn v1) := zaa (HFV.out.gr HV.out g1)
 have HG1 : Hid (Gr w v w1 v1) := zaa (HG.out.trans g1)
 have hB1 : B ≤ w1.heap.size := zN hBx g1.grow.size
 clear ho1 g1 HO HBX HK HV HFK HFV HG H1 hx
 obtain ⟨c0, c1, c2, c3, c4⟩ := HBX1.out.cells
 have T1 := zaa (zdt v1 B (l ++ [kd % 256]) ka kn kc key w1 HO1.out hB1 HK1.out HFK1.out (by rw [zG]; simp; omega))
 go_wp2_with (go_at_call 211; refine T1.out.mono ?_; rintro e w2 ⟨v2, rfl, HO2, HG2⟩; refine Hid.out ?_)
 apply zaa
 have HBX2 : Hid (C5 w2 s (.slice ka kn kc) (.int .i64 kd) (.slice va vn vc) (.int .i64 pg) (.int .i64 ct)) := zaa (HBX1.out.gr HG2.out (HO1.out.apart5 HBX1.out))
 have HV2 : Hid (Sl w2 va vn vc val) := zaa (HV1.out.gr HG2.out HFV1.out)
 have HFV2 : Hid (Far va vn v2) := zaa (HFV1.out.gr HV1.out HG2.out)
 have hB2 : B ≤ w2.heap.size := zN hB1 HG2.out.grow.size
 have HGG : Hid (Gr w v w2 v2) := zaa (HG1.out.trans HG2.out)
 clear c0 c1 c2 c3 c4 T1 HBX1 HK1 HV1 HFK1 HFV1 HG1 HO1 HG2
 obtain ⟨c0, c1, c2, c3, c4⟩ := HBX2.out.cells
 by_cases h1 : kd = 1
 ·subst h1
  have T2 := zaa (zdt v2 B _ va vn vc val w2 HO2.out hB2 HV2.out HFV2.out (by simp only [zG, zal, HKL.out]; simp; omega))
  go_wp2_with (go_at_call 211; refine T2.out.mono ?_; rintro e w3 ⟨v3, rfl, HO3, HG3⟩)
  go_ret
  refine ⟨v3, rfl, zaa ?_, zaa (HGG.out.trans HG3.out)⟩
  have h := HO3.out
  simp only [zM] at h
  rw [cB, HKL.out, HVL.out]
  simpa using h
 ·obtain ⟨L2, hL2⟩ : ∃ L2, l ++ [kd % 256] ++ (fB 2 (kn : Int) ++ key) = L2 := ⟨_, rfl⟩
  rw [hL2] at HO2
  have HL2 := zaa hL2
  have HLL : Hid (L2.length = l.length + 3 + kn) := by
   rw [← hL2]
   refine zaa ?_
   simp only [zG, zal, HKL.out, List.length_cons, List.length_nil]
   omega
  clear hL2
  have F1 := zaa (fixed_yes pg 4 w2 (by omega) (by omega) (by omega))
  go_wp2_with (go_at_call 189; refine F1.out.mono ?_; rintro e w3 ⟨p1, rfl, ho3, hb3⟩; refine Hid.out ?_)
  apply zaa
  rw [show (4 : Int).toNat = 4 from rfl] at ho3
  obtain ⟨a1, y1, rfl, s1, _⟩ := ho3.sl (fB_wf _ _) (by rw [zal]; omega)
  rw [zal] at s1
  rw [zal]
  have HS3 := zaa s1
  have HO3 : Hid (OwnB w3 B v2 L2) := zaa (HO2.out.on Lr hb3)
  have HG3 := zaa (HGG.out.trans (Gr.ofBelow v2 hb3))
  have HBX3 : Hid (C5 w3 s (.slice ka kn kc) (.int .i64 kd) (.slice va vn vc) (.int .i64 pg) (.int .i64 ct)) := zaa (zaf HBX2.out hb3)
  have hB3 : B ≤ w3.heap.size := zN hB2 hb3.size
  clear s1 ho3 hb3 F1 c0 c1 c2 c3 c4 HBX2 HO2 HGG HV2 HFV2
  have hl3 : L2.length + 4 ≤ 140737488355328 := by rw [HLL.out]; omega
  go_wp2_with (at_builtin; refine zbi _ rfl _ _ rfl B L2 (fB 4 pg) v2 a1 4 y1 rfl rfl HO3.out HS3.out hl3 hB3 ?_; refine Hid.out ?_)
  apply zaa
  intro v4 w4 ho4 g4
  have HO4 := zaa ho4
  have HG4 := zaa (HG3.out.trans g4)
  have HBX4 : Hid (C5 w4 s (.slice ka kn kc) (.int .i64 kd) (.slice va vn vc) (.int .i64 pg) (.int .i64 ct)) := zaa (HBX3.out.gr g4 (HO3.out.apart5 HBX3.out))
  have hB4 : B ≤ w4.heap.size := zN hB3 g4.grow.size
  clear ho4 g4 HO3 HBX3 HG3 HS3
  obtain ⟨c0, c1, c2, c3, c4⟩ := HBX4.out.cells
  have F2 := zaa (fixed_yes ct 4 w4 (by omega) (by omega) (by omega))
  go_wp2_with (go_at_call 189; refine F2.out.mono ?_; rintro e w5 ⟨p2, rfl, ho5, hb5⟩; refine Hid.out ?_)
  apply zaa
  rw [show (4 : Int).toNat = 4 from rfl] at ho5
  obtain ⟨a2, y2, rfl, s2, _⟩ := ho5.sl (fB_wf _ _) (by rw [zal]; omega)
  rw [zal] at s2
  rw [zal]
  have HS5 := zaa s2
  have HO5 : Hid (OwnB w5 B v4 (L2 ++ fB 4 pg)) := zaa (HO4.out.on Lr hb5)
  have HG5 := zaa (HG4.out.trans (Gr.ofBelow v4 hb5))
  have hB5 : B ≤ w5.heap.size := zN hB4 hb5.size
  have hl5 : (L2 ++ fB 4 pg).length + 4 ≤ 140737488355328 := by rw [zG, HLL.out, zal]; omega
  clear s2 ho5 hb5 F2 c0 c1 c2 c3 c4 HBX4 HO4 HG4 hl3
  go_wp2_with (at_builtin; refine zbi _ rfl _ _ rfl B (L2 ++ fB 4 pg) (fB 4 ct) v4 a2 4 y2 rfl rfl HO5.out HS5.out hl5 hB5 ?_; refine Hid.out ?_)
  apply zaa
  intro v6 w6 ho6 g6
  have HO6 := zaa ho6
  have HG6 := zaa (HG5.out.trans g6)
  clear ho6 g6 HO5 HG5 HS5
  go_wp2
  go_ret
  refine ⟨v6, rfl, zaa ?_, HG6⟩
  have h := HO6.out
  rw [← HL2.out] at h
  simp only [zM] at h
  rw [cB, HKL.out]
  simpa [h1] using h
structure SlN (w : World) (ao : Option Addr) (n cap : Nat) (l : List Nat) : Prop where
 hlen : l.length = n
 hcap : n ≤ cap
 hroom : n ≤ 140737488355328
 hnil : ao = none → cap = 0
 hat : n = 0 ∨ ∃ b off, ao = some ⟨b, off, none⟩ ∧ b < w.heap.size ∧ ∀ i, i < n → w.cell? ⟨b, off + i, none⟩ = some (.int .i64 ((l.getD i 0 : Nat) : Int))
theorem SlN.on {w w' : World} {ao : Option Addr} {n cap : Nat} {l : List Nat} (h : SlN w ao n cap l) (hb : Below w.heap.size w w') : SlN w' ao n cap l := by
 refine ⟨h.hlen, h.hcap, h.hroom, h.hnil, ?_⟩
 rcases h.hat with h0 | ⟨b, off, e, hlt, hc⟩
 ·exact .inl h0
 ·exact .inr ⟨b, off, e, zO hlt hb.size, fun i hi => (hb.cell (p := ⟨b, off + i, none⟩) hlt).trans (hc i hi)⟩
structure PgAt (w : World) (a : Nat) (k : Int) (n : Nat) (bo : Option Addr) (bn bc : Nat) (so : Option Addr) (sn sc : Nat) (cs : List Cl) : Prop where
 row : w.heap[a]? = some (.cells #[.int .i64 k, .int .i64 (n : Int), .slice bo bn bc, .slice so sn sc] 154 (0, 0))
 body : Sl w bo bn bc (bdy cs)
 starts : SlN w so sn sc (sts 0 cs)
theorem PgAt.on {w w' : World} {a : Nat} {k : Int} {n : Nat} {bo : Option Addr} {bn bc : Nat} {so : Option Addr} {sn sc : Nat} {cs : List Cl} (h : PgAt w a k n bo bn bc so sn sc cs) (hb : Below w.heap.size w w') : PgAt w' a k n bo bn bc so sn sc cs :=
 ⟨zaf h.row hb, h.body.on Lr hb, h.starts.on hb⟩
theorem PgAt.cells {w : World} {a : Nat} {k : Int} {n : Nat} {bo : Option Addr} {bn bc : Nat} {so : Option Addr} {sn sc : Nat} {cs : List Cl} (h : PgAt w a k n bo bn bc so sn sc cs) :
  w.cell? ⟨a, 0, none⟩ = some (.int .i64 k) ∧ w.cell? ⟨a, 1, none⟩ = some (.int .i64 (n : Int)) ∧ w.cell? ⟨a, 2, none⟩ = some (.slice bo bn bc) ∧ w.cell? ⟨a, 3, none⟩ = some (.slice so sn sc) := by
 refine ⟨?_, ?_, ?_, ?_⟩
 ·rw [cell_of_row _ _ 0 _ _ _ h.row]; rfl
 ·rw [cell_of_row _ _ 1 _ _ _ h.row]; rfl
 ·rw [cell_of_row _ _ 2 _ _ _ h.row]; rfl
 ·rw [cell_of_row _ _ 3 _ _ _ h.row]; rfl
theorem PgAt.sn_eq {w : World} {a : Nat} {k : Int} {n : Nat} {bo : Option Addr} {bn bc : Nat} {so : Option Addr} {sn sc : Nat} {cs : List Cl} (h : PgAt w a k n bo bn bc so sn sc cs) : sn = cs.length ∧ bn = (bdy cs).length :=
 ⟨by rw [← h.starts.hlen, zai], h.body.hlen.symm⟩
theorem PgAt.lt {w : World} {a : Nat} {k : Int} {n : Nat} {bo : Option Addr} {bn bc : Nat} {so : Option Addr} {sn sc : Nat} {cs : List Cl} (h : PgAt w a k n bo bn bc so sn sc cs) : a < w.heap.size := zah h.row
theorem fB2 (x : Int) : fB 2 x = [x / 256 % 256, x % 256] := by simp [fB]
theorem putShort_any (w : World) (g n p : Nat) (L : List Int) (x : Int) (hb : Bk w g L) (hL : L.length = n) (hp : p + 2 ≤ n) (hn : n ≤ 65536) :
  Calls Tryz.prog 188 #[.slice (some ⟨g, 0, none⟩) n n, .int .i64 (p : Int), .int .i64 x] w fun e w' => e = .returned (.tuple #[]) ∧ w' = (w.setCell ⟨g, p, none⟩ (.int .u8 (x / 256 % 256))).setCell ⟨g, p + 1, none⟩ (.int .u8 (x % 256)) := by
 have c0 := hb.cell p (by omega)
 have c1 := hb.cell (p + 1) (by omega)
 have f0 := hb.free p
 have f1 := hb.free (p + 1)
 have p0 : (p : Int) < (n : Int) := by omega
 have p1 : (p : Int) + 1 < (n : Int) := by omega
 have p2 : p < n := by omega
 have p3 : p + 1 < n := by omega
 clear hb
 generalize L.getD p 0 = y0 at *
 generalize L.getD (p + 1) 0 = y1 at *
 go_enter Tryz.func188, Tryz.ntmps188
 go_wp2
 go_returns
 exact ⟨rfl, rfl⟩
theorem Bk.short {w : World} {g p : Nat} {L : List Int} (h : Bk w g L) (x y : Int) : Bk ((w.setCell ⟨g, p, none⟩ (.int .u8 x)).setCell ⟨g, p + 1, none⟩ (.int .u8 y)) g ((L.set p x).set (p + 1) y) := by
 unfold Bk at *
 have h1 := zam (i := p) (u := .int .u8 x) h
 have h2 := zam (i := p + 1) (u := .int .u8 y) h1
 rw [h2]
 simp [By, List.map_set]
theorem or_short (a b : Int) (ha : 0 ≤ a ∧ a ≤ 255) (hb : 0 ≤ b ∧ b ≤ 255) : bits .or .i64 (a * 256) b = a * 256 + b := by
 obtain ⟨x, rfl⟩ := Int.eq_ofNat_of_zero_le ha.1
 obtain ⟨y, rfl⟩ := Int.eq_ofNat_of_zero_le hb.1
 show IntKind.i64.wrap ((BitVec.ofInt 64 ((x : Int) * 256) ||| BitVec.ofInt 64 (y : Int)).toNat : Nat) = _
 have h1 : (BitVec.ofInt 64 ((x : Int) * 256)).toNat = 2 ^ 8 * x := by rw [BitVec.toNat_ofInt]; omega
 have h2 : (BitVec.ofInt 64 (y : Int)).toNat = y := by rw [BitVec.toNat_ofInt]; omega
 rw [BitVec.toNat_or, h1, h2, ← Nat.two_pow_add_eq_or_of_lt (show y < 2 ^ 8 by omega), IntKind.wrap_i64]
 omega
theorem rdN2 (l : List Int) (p : Nat) (h : p + 2 ≤ l.length) : rdN l p 2 = l.getD p 0 * 256 + l.getD (p + 1) 0 := by
 unfold rdN
 rw [drop_cons l p (by omega), drop_cons l (p + 1) (by omega)]
 simp [rdB]
theorem shortAt_any (w : World) (ao : Option Addr) (n cap p : Nat) (l : List Int) (hs : Sl w ao n cap l) (hp : p + 2 ≤ n) :
  Calls Tryz.prog 193 #[.slice ao n cap, .int .i64 (p : Int)] w fun e w' => e = .returned (.int .i64 (rdN l p 2)) ∧ ∃ q, w' = w.drewN q := by
 have hlen := hs.hlen
 have hr := hs.hroom
 rw [rdN2 l p (by omega)]
 rcases hs.hat with h | ⟨b, off, rfl, hb, hc⟩
 ·omega
 obtain ⟨p', hp'⟩ : ∃ p', p + 1 = p' := ⟨_, rfl⟩
 have hpI : (p : Int) + 1 = (p' : Int) := by omega
 have c0 := hc p (by omega)
 have c1 := hc p' (by omega)
 have y0 := hs.wf.getD p
 have y1 := hs.wf.getD p'
 have p0 : (p : Int) < (n : Int) := by omega
 have p1 : (p' : Int) < (n : Int) := by omega
 have p2 : p < n := by omega
 have p3 : p' < n := by omega
 clear hc hs
 rw [hp']
 clear hp'
 generalize l.getD p 0 = a at *
 generalize l.getD p' 0 = c at *
 have ho := or_short a c y0 y1
 have hw0 : IntKind.i64.wrap a = a := by rw [IntKind.wrap_i64]; omega
 have hw1 : IntKind.i64.wrap c = c := by rw [IntKind.wrap_i64]; omega
 have hw : IntKind.i64.wrap (a * 256) = a * 256 := by rw [IntKind.wrap_i64]; omega
 go_enter Tryz.func193, Tryz.ntmps193
 go_wp2_with fail
 go_quiet (fail)
 go_wp2
 go_ret
 exact ⟨rfl, _, rfl⟩
theorem lay0 (k : Int) (n : Nat) (cs : List Cl) (hn : 4 ≤ n) (x y : Int) (hxy : [x, y] = fB 2 cs.length) : ((((zs n).set 0 k).set 1 1).set 2 x).set 3 y = layP k n cs 0 := by
 have e : zs n = [0, 0, 0, 0] ++ zs (n - 4) := by
  conv => lhs; rw [show n = 4 + (n - 4) by omega, zs_add]
  rfl
 unfold layP
 rw [e, ← hxy]
 simp [sloB]
theorem layP_length (k : Int) (n : Nat) (cs : List Cl) (i : Nat) (hi : i ≤ cs.length) (hf : szN cs ≤ n) : (layP k n cs i).length = n := by
 have := zaq cs
 simp only [layP, zG, List.length_cons, List.length_nil, zal, zdc, zJ, zai, zbd]
 omega
theorem lay_body (k : Int) (n : Nat) (cs : List Cl) (hf : szN cs ≤ n) : splice (layP k n cs cs.length) (n - 4 - (bdy cs).length) (bdy cs) = pgH k n cs ++ zs 4 := by
 have hz := zaq cs
 obtain ⟨F, hF⟩ : ∃ F, n - 4 - (bdy cs).length = F := ⟨_, rfl⟩
 unfold layP pgH
 rw [hF, List.take_of_length_le (by rw [zai]; exact Lr), show n - 4 - 2 * cs.length = (n - szN cs) + ((bdy cs).length + 4) by omega, zs_add, zs_add]
 have := splice_mid ([k, 1] ++ (fB 2 cs.length ++ (sloB (sts F cs) ++ zs (n - szN cs)))) (zs (bdy cs).length) (bdy cs) (zs 4) F (by
  simp only [zG, List.length_cons, List.length_nil, zal, zdc, zai, zbd]
  omega) (zbd _)
 simp only [zM] at this ⊢
 exact this
theorem lay_seal (k : Int) (n : Nat) (cs : List Cl) (hf : szN cs ≤ n) : splice (pgH k n cs ++ zs 4) (n - 4) (fB 4 (sumN [pgH k n cs])) = pgB k n cs := by
 have := splice_mid (pgH k n cs) (zs 4) (fB 4 (sumN [pgH k n cs])) [] (n - 4) (pgH_length k n cs hf) (by rw [zbd, zal])
 simpa [pgB, sealB] using this
def BytesTo (l : List Int) (n : Nat) (w : World) (e : Ending) (w' : World) : Prop := ∃ g, e = .returned (.slice (some ⟨g, 0, none⟩) n n) ∧ w.heap.size ≤ g ∧ Hid (Bk w' g l) ∧ Hid (Below w.heap.size w w')
theorem bytes_any (w : World) (a : Nat) (k : Int) (n : Nat) (bo : Option Addr) (bn bc : Nat) (so : Option Addr) (sn sc : Nat) (cs : List Cl) (h : PgAt w a k n bo bn bc so sn sc cs) (hk : isKd k) (hn : pw n) (hf : szN cs ≤ n) (ht : Tab w) (h0 : 1 < w.heap.size) (hwf : ∀ c ∈ cs, c.Wf) :
  Calls Tryz.prog 146 #[.pointer (some ⟨a, 0, none⟩)] w fun e w' => BytesTo (pgB k n cs) n w e w' := by
 obtain ⟨i0, hi, hz0, hz1, hz2⟩ := info_parts zaw
 have hsz : (Tryz.prog.info? 5).map (·.size) = some 1 := by rw [hi]; simp [hz1]
 have hn2 := zak hn
 have hn3 := hn2.1
 have hn4 := hn2.2
 obtain ⟨hsn, hbn⟩ := h.sn_eq
 have hz := zaq cs
 rw [← hsn, ← hbn] at hz
 have hkb : k % 256 = k := by unfold isKd at hk; omega
 have HP := zaa h
 have HT := zaa ht
 have HK := zaa hk
 have HW := zaa hwf
 have HF := zaa hf
 have HSN := zaa hsn
 have HBN := zaa hbn
 obtain ⟨c0, c1, c2, c3⟩ := h.cells
 obtain ⟨E, hE⟩ : ∃ E, n - 4 = E := ⟨_, rfl⟩
 have hEI : (n : Int) - 4 = (E : Int) := by omega
 obtain ⟨F, hFN⟩ : ∃ F, E - bn = F := ⟨_, rfl⟩
 have hFI : (E : Int) - (bn : Int) = (F : Int) := by omega
 have f1 : F + bn = E := by omega
 have f2 : 4 + 2 * sn ≤ F := by omega
 have HEN := zaa hE
 have HFN := zaa hFN
 clear h ht hk hwf hf hn hn2 hE hFN hsn hbn
 go_enter Tryz.func146, Tryz.ntmps146
 go_wp2_with (at_make; refine wpList_make_full _ rfl _ _ 41 rfl w.heap.size 5 i0 (.int .u8 0) 1 Tryz.underlying41 hi hz0 hz1 .i64 .i64 n n n rfl rfl rfl rfl (by rw [hz2]; omega) (by unfold maxLen; omega) Lr ?_; refine Hid.out ?_)
 apply zaa
 intro w1 hown1 hg1
 have hb1 : Below w.heap.size w w1 := Br.grown hg1 Lr (fun k hk => by cases hk)
 have hrow : Bk w1 w.heap.size (zs n) := by
  rcases hown1.2 with ⟨h, _⟩ | ⟨g, c, cur, h, _, hh, _, _, hs, hx⟩
  ·cases h
  ·cases h
   unfold Bk
   rw [hh]
   congr 2
   apply Array.toList_inj.1
   rw [toList_madeCells_one] at hx
   simp only [Nat.mul_one] at hs hx
   rw [List.take_of_length_le (by simp [hs])] at hx
   simpa [By, zs] using hx
 clear hown1 hg1
 obtain ⟨g, hg⟩ : ∃ g, w.heap.size = g := ⟨_, rfl⟩
 rw [hg] at hrow ⊢
 have HG : Hid (w.heap.size ≤ g) := zaa (by omega)
 obtain ⟨d0, d1, d2, d3⟩ := (HP.out.on hb1).cells
 have x0 := hrow.cell 0 (by rw [zbd]; omega)
 have x1 := hrow.cell 1 (by rw [zbd]; omega)
 have y0 := hrow.free 0
 have y1 := hrow.free 1
 have hag : ¬ a = g := by have := HP.out.lt; omega
 obtain ⟨z0, x0⟩ : ∃ z, w1.cell? ⟨g, 0, none⟩ = some z := ⟨_, x0⟩
 obtain ⟨z1, x1⟩ : ∃ z, w1.cell? ⟨g, 1, none⟩ = some z := ⟨_, x1⟩
 have hrow2 : Bk ((w1.setCell ⟨g, 0, none⟩ (.int .u8 k)).setCell ⟨g, 1, none⟩ (.int .u8 1)) g (((zs n).set 0 k).set 1 1) := hrow.short k 1
 have hb2 : Below w.heap.size w ((w1.setCell ⟨g, 0, none⟩ (.int .u8 k)).setCell ⟨g, 1, none⟩ (.int .u8 1)) := (hb1.setCell (p := ⟨g, 0, none⟩) HG.out _).setCell (p := ⟨g, 1, none⟩) HG.out _
 obtain ⟨e0, e1, e2, e3⟩ := (HP.out.on hb2).cells
 have HR2 := zaa hrow2
 have HB2 := zaa hb2
 have PS := zaa (putShort_any _ g n 2 _ (sn : Int) HR2.out (by simp [zbd]) (by omega) hn4)
 clear hrow hrow2 hb1 hb2 hg
 go_wp2_with (go_at_call 188; refine PS.out.mono ?_; rintro e u ⟨rfl, hu⟩; have HU := zaa hu; clear hu; refine Hid.out ?_)
 apply zaa
 have hk4 : Bk u g (layP k n cs 0) := by
  rw [HU.out, ← lay0 k n cs (by omega) ((sn : Int) / 256 % 256) ((sn : Int) % 256) (by rw [HSN.out, fB2])]
  exact HR2.out.short _ _
 have hb4 : Below w.heap.size w u := by
  rw [HU.out]
  exact (HB2.out.setCell (p := ⟨g, 2, none⟩) HG.out _).setCell (p := ⟨g, 3, none⟩) HG.out _
 clear HU PS HR2 HB2 c0 c1 c2 c3 d0 d1 d2 d3 e0 e1 e2 e3 x0 x1 y0 y1
 obtain ⟨c0, c1, c2, c3⟩ := (HP.out.on hb4).cells
 go_wp2_with fail
 clear c0 c1 c2 c3
 go_loopw [44] (fun i wr => ∃ j : Nat, j ≤ sn ∧ i = .int .i64 j ∧ Hid (Bk wr g (layP k n cs j)) ∧ Hid (Below w.heap.size w wr)) (fun i _ => sn - (intOf i).toNat)
 case atStart => exact ⟨0, by omega, rfl, hk4, hb4⟩
 case round =>
  obtain ⟨j, hj, rfl, HBk, HB⟩ := hrel
  clear hk4 hb4
  by_cases hlt : j < sn
  ·have hltI : (j : Int) < (sn : Int) := by omega
   have hst := (HP.out.on HB.out).starts
   rcases hst.hat with hx | ⟨b, off, hso, hbs, hcs⟩
   ·omega
   have cj := hcs j hlt
   have hsum : (sts 0 cs).getD j 0 ≤ bn := by
    rw [zcd 0 j cs (by rw [← HSN.out]; exact hlt), HBN.out]
    have : (bdy cs).length = (bdy (cs.take j)).length + (bdy (cs.drop j)).length := by rw [← zG, ← zbe, List.take_append_drop]
    omega
   obtain ⟨st, hstE⟩ : ∃ st, (sts 0 cs).getD j 0 = st := ⟨_, rfl⟩
   rw [hstE] at cj hsum
   obtain ⟨pp, hpp⟩ : ∃ pp, 4 + j * 2 = pp := ⟨_, rfl⟩
   have hppI : 4 + (j : Int) * 2 = (pp : Int) := by omega
   obtain ⟨xx, hxx⟩ : ∃ xx, F + st = xx := ⟨_, rfl⟩
   have hxxI : (F : Int) + (st : Int) = (xx : Int) := by omega
   have PS := zaa (putShort_any wr g n pp _ (xx : Int) HBk.out (layP_length k n cs j (by rw [← HSN.out]; omega) HF.out) (by omega) hn4)
   have HNX : Hid (Bk ((wr.setCell ⟨g, pp, none⟩ (.int .u8 ((xx : Int) / 256 % 256))).setCell ⟨g, pp + 1, none⟩ (.int .u8 ((xx : Int) % 256))) g (layP k n cs (j + 1))) := by
    rw [← layP_set k n cs j (by rw [← HSN.out]; exact hlt) HF.out ((xx : Int) / 256 % 256) ((xx : Int) % 256) (by
     rw [← fB2, hstE]
     congr 1
     have := HEN.out
     have := HFN.out
     have := HBN.out
     omega), hpp]
    exact zaa (HBk.out.short _ _)
   subst hso
   have b1 : (j : Int) ≤ 65536 := by omega
   have b2 : (F : Int) ≤ 65536 := by omega
   have b3 : (st : Int) ≤ 65536 := by omega
   have b4 : (sn : Int) ≤ 65536 := by omega
   clear hst hcs hstE hpp hxx hsum hz f1 f2
   go_wp2_with (go_at_call 188; refine PS.out.mono ?_; rintro e u' ⟨rfl, hu⟩; have HU := zaa hu; clear hu; refine Hid.out ?_)
   apply zaa
   have HB' : Hid (Below w.heap.size w u') := by
    rw [HU.out]
    exact zaa ((HB.out.setCell (p := ⟨g, pp, none⟩) HG.out _).setCell (p := ⟨g, pp + 1, none⟩) HG.out _)
   have HNX' : Hid (Bk u' g (layP k n cs (j + 1))) := by rw [HU.out]; exact HNX
   clear HU PS HNX HB HBk
   go_wp2
   go_roundw
   case rel => exact ⟨j + 1, by omega, by go_num, HNX', HB'⟩
   case measure => simp [intOf]; omega
  ·obtain rfl : j = sn := by omega
   have hlI : ¬ (j : Int) < (j : Int) := by omega
   obtain ⟨c0, c1, c2, c3⟩ := (HP.out.on HB.out).cells
   have HSL := zaa (HP.out.on HB.out).body
   have g1 : (F : Int) ≤ (n : Int) := by omega
   have g2 : F ≤ n := by omega
   have g3 : ¬ n = F := by omega
   have HBD := zaa (lay_body k n cs HF.out)
   have HSE := zaa (lay_seal k n cs HF.out)
   have HPW : Hid (Wf (pgH k n cs)) := zaa (pgH_wf (by have := HK.out; unfold isKd at this; omega) HW.out)
   have HPL := zaa (pgH_length k n cs HF.out)
   have HLL := zaa (layP_length k n cs cs.length Lr HF.out)
   rw [show n - 4 - (bdy cs).length = F from by rw [← HBN.out, HEN.out, HFN.out]] at HBD
   rw [HEN.out] at HSE HPL
   rw [HSN.out] at HBk
   obtain ⟨L, hL⟩ : ∃ L, layP k n cs cs.length = L := ⟨_, rfl⟩
   rw [hL] at HBk HBD HLL
   obtain ⟨D, hD⟩ : ∃ D, bdy cs = D := ⟨_, rfl⟩
   rw [hD] at HBD HSL HBN
   obtain ⟨H, hH⟩ : ∃ H, pgH k n cs = H := ⟨_, rfl⟩
   rw [hH] at HBD HSE HPW HPL
   have HPOS : Hid (∀ x : World, x.heap = wr.heap → 0 < (By D).length → ∃ ad, bo = some ad ∧ ∀ i v, (By D)[i]? = some v → x.cell? (ad.add i) = some v) := by
    refine zaa fun x hx hq => ?_
    rw [zax, ← HBN.out] at hq
    rcases HSL.out.hat with h0 | ⟨b, off, rfl, _, _⟩
    ·omega
    ·refine ⟨_, rfl, fun i v hv => ?_⟩
     have := sl_src5 HSL.out i v hv
     rw [← this]
     exact World.cell?_of_block (by rw [hx])
   have HDN : Hid ((By D).length = Nat.min bn (n - F)) := zaa (by rw [zax, ← HBN.out]; exact (Nat.min_eq_left (by omega)).symm)
   have HFT : Hid (F + (By D).length ≤ (By L).length) := zaa (by rw [zax, zax, HLL.out, ← HBN.out]; omega)
   have b2 : (F : Int) ≤ 65536 := by omega
   have b3 : (E : Int) ≤ 65536 := by omega
   have HQ4 : Hid (n - E = 4 ∧ E ≤ n ∧ ¬ n = E ∧ (E : Int) ≤ (n : Int)) := zaa (by have := HEN.out; omega)
   have HWH : Hid (Wf (H ++ zs 4) ∧ (H ++ zs 4).length = n) := zaa ⟨HPW.out.append (zs_wf 4), by rw [zG, HPL.out, zbd]; have := HEN.out; omega⟩
   clear hL hD hH hz f1 f2 HSL
   go_wp2_with fail
   go_region_law (first | (refine step_copy_splice rfl _ _ 41 41 rfl 5 Tryz.underlying41 hsz (some ⟨g, F, none⟩) bo (n - F) (n - F) bn bc rfl rfl g F (By L) 5 HBk.out (By D) HDN.out (fun hq => ⟨rfl, HPOS.out _ rfl hq⟩) HFT.out (zbt _) w.heap.size w (by first | exact HB.out | exact HB.out.drew | exact HB.out.drew.drew | exact HB.out.drew.drew.drew | exact zad HB.out _) HG.out ?_; intro u3 HU HBu; have HB3 := zaa HBu; clear HBu))
   all_goals
    have HK3 : Hid (Bk u3 g (H ++ zs 4)) := zaa (by
     unfold Bk
     rw [HU.out, By_splice5, HBD.out])
    obtain ⟨q4, q2, q3, q1⟩ := HQ4.out
    clear HU HPOS HDN HFT HBk HB c0 c1 c2 c3 HQ4 HBD HLL g1 g2 g3
    have HSL : Hid (Sl u3 (some ⟨g, 0, none⟩) E n H) := by
     refine zaa ⟨HPL.out, q2, by omega, HPW.out, (by intro h; cases h), .inr ⟨g, 0, rfl, zah HK3.out, fun i hi => ?_⟩⟩
     rw [Nat.zero_add, HK3.out.cell i (by rw [HWH.out.2]; omega)]
     have : i < H.length := by rw [HPL.out]; exact hi
     simp [List.getD, zL this]
    have hs32 := sumN_lt H HPW.out
    obtain ⟨SN, hS⟩ : ∃ SN, sumN [H] = SN := ⟨_, rfl⟩
    rw [hS] at hs32 HSE
    have HSS := zaa hS
    clear hS
    have hws : IntKind.u64.wrap ((SN : Nat) : Int) = (SN : Int) := by rw [IntKind.wrap_u64]; omega
    have HTR : Hid (Tab u3) := zaa (HT.out.on HB3.out h0)
    have h0r : 1 < u3.heap.size := zO h0 HB3.out.size
    have HSUM : Hid (Calls Tryz.prog 190 #[.slice (some ⟨u3.heap.size, 0, none⟩) 1 1] (u3.alloc (.cells #[.slice (some ⟨g, 0, none⟩) E n] 41)).drew fun e v2 => e = .returned (.int .u32 (SN : Int)) ∧ Hid (Bk v2 g (H ++ zs 4)) ∧ Hid (Below w.heap.size w v2)) := by
     have hss : SlS (u3.alloc (.cells #[.slice (some ⟨g, 0, none⟩) E n] 41)).drew (some ⟨u3.heap.size, 0, none⟩) 1 1 [H] := (sls_one5 u3 _ _ _ _ HSL.out _ rfl).drew5
     refine zaa ((sum_any _ _ _ _ _ hss (HTR.out.on (Br.alloc Lr _).drew h0r)).mono ?_)
     rintro e v2 ⟨rfl, q, rfl⟩
     rw [HSS.out]
     exact ⟨rfl, (Below.heap_alloc _ _ _ (zah HK3.out)).trans HK3.out, zad (zac HB3.out Lr _).drew q⟩
    have HFX : Hid (∀ v, Hid (Bk v g (H ++ zs 4)) → Hid (Below w.heap.size w v) → Calls Tryz.prog 189 #[.int .u64 (SN : Int), .int .i64 4] v fun e v2 => ∃ b off c, e = .returned (.slice (some ⟨b, off, none⟩) 4 c) ∧ Hid (Sl v2 (some ⟨b, off, none⟩) 4 c (fB 4 (SN : Int))) ∧ Hid (Bk v2 g (H ++ zs 4)) ∧ Hid (Below w.heap.size w v2)) := by
     refine zaa fun v hk hv => (fixed_row (SN : Int) 4 v (by omega) (by omega) (by omega)).mono ?_
     rintro e v2 ⟨b, off, c, rfl, hs, hb⟩
     exact ⟨b, off, c, rfl, hs, hk.out.on hb.out, zab hv.out Lr hb.out⟩
    have HMIN : Hid ((By (fB 4 (SN : Int))).length = Nat.min 4 4) := zaa (by rw [zax, zal]; rfl)
    have HFIT : Hid (E + (By (fB 4 (SN : Int))).length ≤ (By (H ++ zs 4)).length) := zaa (by rw [zax, zax, HWH.out.2, zal]; omega)
    obtain ⟨M, hM⟩ : ∃ M, H ++ zs 4 = M := ⟨_, rfl⟩
    rw [hM] at HSE HK3 HSUM HFX HFIT
    clear hM hs32 HSL HTR HWH
    go_wp2_with fail
    go_region_law (first
     | (go_simp; go_at_call 190; refine HSUM.out.mono ?_; rintro e v2 ⟨rfl, HK1, HB1⟩)
     | (go_simp; go_at_call 189; refine (HFX.out _ HK1 HB1).mono ?_; rintro e v3 ⟨b, off, c, rfl, HS, HKv, HBv⟩)
     | (refine step_copy_rw rfl _ _ 41 41 rfl 5 Tryz.underlying41 hsz g E 4 4 ⟨b, off, none⟩ 4 c rfl rfl (By M) 5 HKv.out (By (fB 4 (SN : Int))) HMIN.out (sl_src5 HS.out) HFIT.out (zbt _) ?_; intro u4 HU4))
    all_goals
     have HK4 : Hid (Bk u4 g (pgB k n cs)) := zaa (by
      unfold Bk
      rw [HU4.out, setRow_heap _ _ _ _ _ _ HKv.out, By_splice5, HSE.out])
     have HB4 : Hid (Below w.heap.size w u4) := zaa (by rw [HU4.out]; exact below_setRow HBv.out HG.out _)
     clear HU4 HS HKv HBv HFX HMIN HFIT HSUM HK1 HB1 HK3 HB3
     go_wp2
     go_ret
     exact ⟨g, rfl, HG.out, HK4, HB4⟩
theorem infoI : (Tryz.prog.info? 3).map (fun i => (i.zero, i.size, i.bytes)) = some (some (.int .i64 0), 1, 8) := by kernel_rfl
def NI (l : List Nat) : List Value := l.map fun (n : Nat) => Value.int .i64 (n : Int)
theorem NI_one (l : List Nat) : ∀ u ∈ NI l, u.oneCell' = true := by
 intro u hu
 simp only [NI, List.mem_map] at hu
 obtain ⟨n, _, rfl⟩ := hu
 rfl
def OwnN (w : World) (B : Nat) (v : Value) (l : List Nat) : Prop := w.ownsRow B 3 1 v l.length (NI l)
theorem OwnN.sln {w : World} {B : Nat} {v : Value} {l : List Nat} (h' : OwnN w B v l) (hn : l.length ≤ 140737488355328) : ∃ ao cap, v = .slice ao l.length cap ∧ SlN w ao l.length cap l := by
 obtain ⟨n, hl⟩ : ∃ n, l.length = n := ⟨_, rfl⟩
 have h : w.ownsRow B 3 1 v n (NI l) := by rw [← hl]; exact h'
 rw [hl] at hn ⊢
 rcases h.2 with ⟨rfl, rfl⟩ | ⟨g, cap, cur, rfl, hg, hh, hnc, hm, hs, ht⟩
 ·exact ⟨none, 0, rfl, ⟨hl, Lr, by omega, fun _ => rfl, .inl rfl⟩⟩
 ·refine ⟨some ⟨g, 0, none⟩, cap, rfl, ⟨hl, hnc, hn, (by intro h; cases h), .inr ⟨g, 0, rfl, zah hh, ?_⟩⟩⟩
  intro i hi
  have := h.cellAt i (by omega)
  simp only [Nat.zero_add]
  rw [this]
  simp [NI, List.getD, zI (show i < l.length by omega)]
theorem OwnN.gr {w w' : World} {B : Nat} {v : Value} {l : List Nat} {u u' : Value} (h : OwnN w B v l) (hg : Gr w u w' u') (hne : v.ownBlock = none ∨ v.ownBlock ≠ u.ownBlock) : OwnN w' B v l := World.ownsRow.kept h hg.grow hne
theorem OwnN.cf {w w' : World} {B : Nat} {v : Value} {l : List Nat} {r : Nat} (h : OwnN w B v l) (hc : Cf (· = r) w w') (hne : v.ownBlock ≠ some r) : OwnN w' B v l :=
 World.ownsRow.kept (row := some r) h ⟨hc.os, hc.tape, hc.output, hc.size, fun k hk hk2 => hc.block k hk (fun e => hk2 (by rw [e]))⟩ (.inr hne)
theorem OwnN.below {w w' : World} {B : Nat} {v : Value} {l : List Nat} (h : OwnN w B v l) (hb : Below w.heap.size w w') : OwnN w' B v l := h.gr (Gr.ofBelow (.slice none 0 0) hb) (by
 cases hv : v.ownBlock with
 | none => exact .inl rfl
 | some k => exact .inr (by simp [Value.ownBlock]))
theorem OwnN.apart {w : World} {B : Nat} {v : Value} {l : List Nat} (h : OwnN w B v l) {g : Nat} {xs : Array Value} {t : TypeId} {fr : Nat × Nat} (hg : w.heap[g]? = some (.cells xs t fr)) (ht : t ≠ 3) : v.ownBlock ≠ some g := by
 intro e
 unfold OwnN at h
 rcases h.2 with ⟨rfl, _⟩ | ⟨q, cap, cur, rfl, _, hh, _⟩
 ·cases e
 ·simp only [Value.ownBlock, Option.some.injEq] at e
  subst e
  rw [hg] at hh
  simp at hh
  exact ht hh.2.1
theorem step_appN {ops : Array Oper} {o : Oper} {a : Act} {w : World} {K : Act → World → Prop} {Q : Exit → Act → World → Prop} {E : Prop} (hgd : o.guard = none) (s x : Operand)
  (ho : o.op = .call { callee := .builtin .append, args := #[s, x], argTypes := #[152, 152] }) (B : Nat) (l : List Nat) (y : Nat) (v : Value) (g : Nat) (hs : a.eval s = v) (hx : a.eval x = .slice (some ⟨g, 0, none⟩) 1 1)
  (hown : OwnN w B v l) (hy : w.cell? ⟨g, 0, none⟩ = some (.int .i64 (y : Int))) (hb : l.length + 1 ≤ 1000000) (hbase : B ≤ w.heap.size)
  (h : ∀ v' w', OwnN w' B v' (l ++ [y]) → Gr w v w' v' → K (a.put o.dst v') w') :
  if Region.wanted o (yielded ops a.tmps) = true then Oper.wp Tryz.prog o a w K Q else E := by
 have hw : Region.wanted o (yielded ops a.tmps) = true := by simp [Region.wanted, hgd]
 rw [if_pos hw]
 obtain ⟨i0, hi, hz0, hz1, hz2⟩ := info_parts infoI
 obtain ⟨v', w', hr, h1, h2, _, h4⟩ := run_append_own_at (P := Tryz.prog) w B 152 o.type 3 i0 (.int .i64 0) 1 8 Tryz.underlying152 hi hz0 hz1 hz2 rfl (by decide) v l.length (NI l) hown ⟨g, 0, none⟩ 1 1 (NI [y]) (by simp [NI])
  (fun j u hu => by
   have h1 : j < 1 := by have := (zH.1 hu).1; simpa [NI] using this
   obtain rfl : j = 0 := by omega
   simp [NI] at hu
   rw [← hu]
   simpa [Addr.add] using hy) (NI_one [y]) (by unfold maxLen; omega) (by omega) hbase
 have hfin := h v' w' (by unfold OwnN; rw [show NI (l ++ [y]) = NI l ++ NI [y] from by simp [NI], zG]; exact h1) ⟨h2, h4.imp id fun e => ⟨_, e, Lr⟩⟩
 unfold Oper.wp
 simp [execOp, ho, resolve, invoke, builtin, hs, hx, hr, Result.andThen]
 exact hfin
def PR (w : World) (a : Nat) (k : Int) (n : Nat) (vb vs : Value) : Prop := w.heap[a]? = some (.cells #[.int .i64 k, .int .i64 (n : Int), vb, vs] 154 (0, 0))
theorem PR.cells {w : World} {a : Nat} {k : Int} {n : Nat} {vb vs : Value} (h : PR w a k n vb vs) : w.cell? ⟨a, 0, none⟩ = some (.int .i64 k) ∧ w.cell? ⟨a, 1, none⟩ = some (.int .i64 (n : Int)) ∧ w.cell? ⟨a, 2, none⟩ = some vb ∧ w.cell? ⟨a, 3, none⟩ = some vs := by
 unfold PR at h
 refine ⟨?_, ?_, ?_, ?_⟩
 ·rw [cell_of_row _ _ 0 _ _ _ h]; rfl
 ·rw [cell_of_row _ _ 1 _ _ _ h]; rfl
 ·rw [cell_of_row _ _ 2 _ _ _ h]; rfl
 ·rw [cell_of_row _ _ 3 _ _ _ h]; rfl
theorem PR.free {w : World} {a : Nat} {k : Int} {n : Nat} {vb vs : Value} (h : PR w a k n vb vs) (i : Nat) : w.frozen? ⟨a, i, none⟩ = false := by
 unfold PR at h
 simp [World.frozen?, h]
theorem PR.set3 {w : World} {a : Nat} {k : Int} {n : Nat} {vb vs : Value} (h : PR w a k n vb vs) (v : Value) : PR (w.setCell ⟨a, 3, none⟩ v) a k n vb v := by
 unfold PR at *
 simpa using zam (w := w) (a := a) (i := 3) (cs := [.int .i64 k, .int .i64 (n : Int), vb, vs]) (u := v) h
theorem PR.set2 {w : World} {a : Nat} {k : Int} {n : Nat} {vb vs : Value} (h : PR w a k n vb vs) (v : Value) : PR (w.setCell ⟨a, 2, none⟩ v) a k n v vs := by
 unfold PR at *
 simpa using zam (w := w) (a := a) (i := 2) (cs := [.int .i64 k, .int .i64 (n : Int), vb, vs]) (u := v) h
theorem PR.cf {w w' : World} {a : Nat} {k : Int} {n : Nat} {vb vs : Value} {F : Nat → Prop} (h : PR w a k n vb vs) (hc : Cf F w w') (hf : ¬ F a) : PR w' a k n vb vs := (hc.block a (zah h) hf).trans h
theorem Bk.cf {w w' : World} {g : Nat} {l : List Int} {F : Nat → Prop} (h : Bk w g l) (hc : Cf F w w') (hf : ¬ F g) : Bk w' g l := (hc.block g (zah h) hf).trans h
theorem Cf.ofGr {w w' : World} {v v' : Value} {F : Nat → Prop} (h : Gr w v w' v') (hf : ∀ g, v.ownBlock = some g → F g) : Cf F w w' := ⟨h.grow.os, h.grow.tape, h.grow.output, h.grow.size, fun k hk hk2 => h.grow.block k hk (fun e => hk2 (hf k e.symm))⟩
structure Pt (w u : World) (a rr : Nat) (k : Int) (n gb bn : Nat) (body : List Int) (vs : Value) (st : List Nat) (p : Nat) : Prop where
 row : PR u a k n (.slice (some ⟨gb, 0, none⟩) bn bn) vs
 bk : Bk u gb body
 rd : Rd u rr (some ⟨gb, 0, none⟩) bn bn p false
 own : OwnN u w.heap.size vs st
 cf : Cf (· = a) w u
 hp : p ≤ bn
 hr : rr = w.heap.size
theorem Pt.types {w u : World} {a rr : Nat} {k : Int} {n gb bn : Nat} {body : List Int} {vs : Value} {st : List Nat} {p : Nat} (h : Pt w u a rr k n gb bn body vs st p) : a ≠ gb ∧ a ≠ rr ∧ gb ≠ rr ∧ vs.ownBlock ≠ some a ∧ vs.ownBlock ≠ some gb ∧ vs.ownBlock ≠ some rr := by
 have h1 := h.row
 have h2 := h.bk
 have h3 := h.rd
 unfold PR at h1
 unfold Bk at h2
 unfold Rd at h3
 refine ⟨?_, ?_, ?_, h.own.apart h1 (by decide), h.own.apart h2 (by decide), h.own.apart h3 (by decide)⟩
 ·rintro rfl; rw [h1] at h2; simp at h2
 ·rintro rfl; rw [h1] at h3; simp at h3
 ·rintro rfl; rw [h2] at h3; simp at h3
end Go.Proofs.YtofafbmpbkjhnaaGreatDoor
