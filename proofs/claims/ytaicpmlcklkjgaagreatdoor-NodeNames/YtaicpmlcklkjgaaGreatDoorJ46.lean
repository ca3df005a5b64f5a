/- packed: among, Find. -/
import Derived.Test.YtaicpmlcklkjgaaGreatDoorJ21
import Derived.Test.YtaicpmlcklkjgaaGreatDoorJ45
import Derived.Test.YtaicpmlcklkjgaaGreatDoorJ43
namespace Go.Proofs.YtaicpmlcklkjgaaGreatDoor
open Go.RowKit

/-- All that the function which searches holds. -/
structure Am (w : World) (o1 l1 : Nat) (low : Nat) (F : Value) : Prop where
  c1 : w.cell? ⟨o1, 0, none⟩ = some F
  c2 : w.cell? ⟨l1, 0, none⟩ = some (.int .i64 (low : Int))
  h1 : o1 < w.heap.size
  h2 : l1 < w.heap.size
set_option maxRecDepth 100000 in
theorem Am.go {w v : World} {o1 l1 low : Nat} {F : Value} (h : Am w o1 l1 low F) (hb : Below w.heap.size w v) : Am v o1 l1 low F :=
  ⟨(hb.cell (p := ⟨o1, 0, none⟩) h.h1).trans h.c1, (hb.cell (p := ⟨l1, 0, none⟩) h.h2).trans h.c2, Nat.lt_of_lt_of_le h.h1 hb.size, Nat.lt_of_lt_of_le h.h2 hb.size⟩
end Go.Proofs.YtaicpmlcklkjgaaGreatDoor

/- packed: lay, putInPlace that can't, Insert behind all. -/

namespace Go.Proofs.YtaicpmlcklkjgaaGreatDoor
open Go.RowKit

/-- A page's row, of any values. -/
def QV (w : World) (a : Nat) (x0 x1 x2 x3 x4 x5 : Value) : Prop := w.heap[a]? = some (.cells #[x0, x1, x2, x3, x4, x5] 164 (0, 0))
set_option maxRecDepth 100000 in
theorem QV.set {w : World} {g : Nat} {x0 x1 x2 x3 x4 x5 : Value} (h : QV w g x0 x1 x2 x3 x4 x5) (y : Value) :
    QV (w.setCell ⟨g, 0, none⟩ y) g y x1 x2 x3 x4 x5 ∧ QV (w.setCell ⟨g, 1, none⟩ y) g x0 y x2 x3 x4 x5 ∧ QV (w.setCell ⟨g, 2, none⟩ y) g x0 x1 y x3 x4 x5 ∧ QV (w.setCell ⟨g, 3, none⟩ y) g x0 x1 x2 y x4 x5 ∧ QV (w.setCell ⟨g, 4, none⟩ y) g x0 x1 x2 x3 y x5 ∧ QV (w.setCell ⟨g, 5, none⟩ y) g x0 x1 x2 x3 x4 y := by
  unfold QV at *
  refine ⟨?_, ?_, ?_, ?_, ?_, ?_⟩
  · simpa using set_row (w := w) (a := g) (i := 0) (cs := [x0, x1, x2, x3, x4, x5]) (u := y) h
  · simpa using set_row (w := w) (a := g) (i := 1) (cs := [x0, x1, x2, x3, x4, x5]) (u := y) h
  · simpa using set_row (w := w) (a := g) (i := 2) (cs := [x0, x1, x2, x3, x4, x5]) (u := y) h
  · simpa using set_row (w := w) (a := g) (i := 3) (cs := [x0, x1, x2, x3, x4, x5]) (u := y) h
  · simpa using set_row (w := w) (a := g) (i := 4) (cs := [x0, x1, x2, x3, x4, x5]) (u := y) h
  · simpa using set_row (w := w) (a := g) (i := 5) (cs := [x0, x1, x2, x3, x4, x5]) (u := y) h
set_option maxRecDepth 100000 in
theorem QV.put {w : World} {g : Nat} {x0 x1 x2 x3 x4 x5 : Value} (h : QV w g x0 x1 x2 x3 x4 x5) (y0 y1 y2 y3 y4 y5 : Value) : QV (put6 w g y0 y1 y2 y3 y4 y5) g y0 y1 y2 y3 y4 y5 :=
  (((((((h.set y0).1).set y1).2.1.set y2).2.2.1.set y3).2.2.2.1.set y4).2.2.2.2.1.set y5).2.2.2.2.2
set_option maxRecDepth 100000 in
/-- A slice of bytes does not lie in a page's row. -/
theorem Sl.apartQ {w : World} {ao : Option Addr} {n cap : Nat} {l : List Int} (h : Sl w ao n cap l) {g : Nat} {a b d : Option Addr} {c1 c2 c3 c4 c5 c6 : Nat} {x y z : Int} (hr : QR w g x y (.slice a c1 c2) (.slice b c3 c4) (.slice d c5 c6) z) : n = 0 ∨ ∀ p, ao = some p → ¬ p.block = g := by
  rcases h.hat with h0 | ⟨q, off, rfl, hg, hc⟩
  · exact .inl h0
  · rcases Nat.eq_zero_or_pos n with h0 | h0
    · exact .inl h0
    · right
      rintro p hp rfl
      injection hp with hp
      subst hp
      have h1 := hc 0 h0
      unfold QR at hr
      rw [cell_of_row _ _ _ _ _ _ hr] at h1
      rcases Nat.lt_or_ge (off + 0) 6 with h3 | h3
      · have h4 : off + 0 = 0 ∨ off + 0 = 1 ∨ off + 0 = 2 ∨ off + 0 = 3 ∨ off + 0 = 4 ∨ off + 0 = 5 := by omega
        rcases h4 with h4 | h4 | h4 | h4 | h4 | h4 <;> (rw [h4] at h1; simp at h1)
      · rw [Array.getElem?_eq_none (by simpa using h3)] at h1
        cases h1
set_option maxRecDepth 100000 in
theorem LaidTo.po {k : Int} {n : Nat} {cs : List Cl} {w w' : World} {e : Ending} (h : LaidTo k n cs w e w') :
    ∃ b po pn pc bo bn bc so sn sc, e = .returned (.pointer (some ⟨b, 0, none⟩)) ∧ Hid (PO w' w.heap.size b k n po pn pc (.slice bo bn bc) (.slice so sn sc) 0 (shP k cs) (qbd (shP k cs).length (whl k) cs) (qst (shP k cs).length (whl k) 0 cs)) ∧ Hid (Below w.heap.size w w') ∧ Hid (pn = (shP k cs).length ∧ bn = (qbd (shP k cs).length (whl k) cs).length ∧ sn = cs.length) := by
  obtain ⟨w1, a, po, pn, pc, vb, vs, rfl, HL, HP, HB⟩ := h
  have hb := HL.out.be
  obtain ⟨bo, bc, rfl⟩ := HL.out.ob.shape
  obtain ⟨so, sc, rfl⟩ := HL.out.on.shape
  have hz := HB.out.size
  refine ⟨a, po, pn, pc, bo, _, bc, so, _, sc, rfl, hidden ⟨HL.out.row, HP.out.on (Nat.le_refl _) hb, HL.out.ob.low hz, ?_, HP.out.lo.far HL.out.ob (Nat.le_refl _), Nat.le_trans hz HL.out.ha⟩, hidden (bl_go HB.out (Nat.le_refl _) hb), hidden ⟨HP.out.hlen.symm, rfl, qst_length _ _ _ _⟩⟩
  have h6 := HL.out.on
  unfold OwnN at h6 ⊢
  rcases h6.2 with h8 | ⟨g, c, cur, e, hg, r⟩
  · exact ⟨h6.1, .inl h8⟩
  · exact ⟨h6.1, .inr ⟨g, c, cur, e, Nat.le_trans hz hg, r⟩⟩
end Go.Proofs.YtaicpmlcklkjgaaGreatDoor
