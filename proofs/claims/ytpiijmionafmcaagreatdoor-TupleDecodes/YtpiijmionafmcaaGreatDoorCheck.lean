/- tuple.Check: what it answers of items in memory. -/
import Derived.Test.YtpiijmionafmcaaGreatDoorIt
namespace Go.Proofs.YtpiijmionafmcaaGreatDoor
open Go.RowKit

set_option maxRecDepth 100000 in
theorem isKind_any (k : Int) (w : World) : Calls Tryz.prog 26 #[.int .i64 k] w fun e w' => e = .returned (.bool (decide (0 ≤ k ∧ k ≤ 7))) ∧ w' = w := by
  go_enter Tryz.func26, Tryz.ntmps26
  go_wp2
  all_goals go_ret
  all_goals (refine ⟨?_, rfl⟩)
  all_goals (first | rfl | (congr 2; simp; omega) | simp_all)

/-- The fields that a kind does not have are zero. -/
def fld (k n : Int) (t : ByteArray) (m : Nat) : Bool := (decide (k = 3) || decide (k = 4) || decide (n = 0)) && (decide (k = 5) || decide (k = 6) || decide (t.toList = [])) && (decide (k = 7) || decide (m = 0))

set_option maxRecDepth 100000 in
theorem fields_any (k n : Int) (t : ByteArray) (ao : Option Addr) (m c : Nat) (w : World) : Calls Tryz.prog 59 #[.agg #[.int .i64 k, .int .i64 n, .string t, .slice ao m c]] w fun e w' => e = .returned (.bool (fld k n t m)) ∧ Below w.heap.size w w' := by
  go_enter Tryz.func59, Tryz.ntmps59
  go_wp2
  all_goals go_ret
  all_goals refine ⟨?_, (Below.refl _ _).alloc (Nat.le_refl _) _⟩
  all_goals (simp_all [fld])
  all_goals (rw [Bool.eq_iff_iff]; simp_all)

/-- How many items in all. -/
def Its.sz : Its → Nat
  | .nil => 0
  | .cons _ _ _ sub r => sub.sz + r.sz + 1
set_option maxRecDepth 100000 in
theorem Its.drop_sz : ∀ (l : Its) (i : Nat), (l.drop i).sz ≤ l.sz
  | l, 0 => by simp [Its.drop]
  | .nil, _ + 1 => by simp [Its.drop]
  | .cons _ _ _ _ r, i + 1 => by simp only [Its.drop, Its.sz]; have := Its.drop_sz r i; omega
set_option maxRecDepth 100000 in
theorem Its.sub_sz {l : Its} {i : Nat} {k n : Int} {t : ByteArray} {sub r : Its} (h : l.drop i = .cons k n t sub r) : sub.sz < l.sz := by
  have := Its.drop_sz l i
  rw [h] at this
  simp only [Its.sz] at this
  omega

/-- A Text that ValidString is asked of: what it answers, in the worlds that count. -/
def ValidAt (G : World → Prop) (V : ByteArray → Bool) (t : ByteArray) : Prop :=
  ∀ w, G w → Calls Tryz.prog 60 #[.string t] w fun e w' => e = .returned (.bool (V t)) ∧ Below w.heap.size w w'
/-- Each Text among the items has p. -/
def Its.Tx (p : ByteArray → Prop) : Its → Prop
  | .nil => True
  | .cons k _ t sub r => (k = 6 → p t) ∧ sub.Tx p ∧ r.Tx p
set_option maxRecDepth 100000 in
theorem Its.Tx.drop {p : ByteArray → Prop} : ∀ (l : Its) (i : Nat), l.Tx p → (l.drop i).Tx p
  | l, 0, h => by simpa [Its.drop] using h
  | .nil, _ + 1, _ => trivial
  | .cons _ _ _ _ r, i + 1, h => Its.Tx.drop r i h.2.2

mutual
/-- The first error of items in a depth. -/
def chkL (V : ByteArray → Bool) : Its → Int → Int
  | .nil, _ => 0
  | .cons k n t sub r, d => if chk1 V k n t sub d ≠ 0 then chk1 V k n t sub d else chkL V r d
def chk1 (V : ByteArray → Bool) (k n : Int) (t : ByteArray) (sub : Its) (d : Int) : Int :=
  if ¬ (0 ≤ k ∧ k ≤ 7) ∨ fld k n t sub.len = false then 20 else if k = 6 then (if V t then 0 else 20) else if k = 7 then (if 64 < sub.len ∨ 16 < d + 1 then 22 else chkL V sub (d + 1)) else 0
end
def chk (V : ByteArray → Bool) (l : Its) (d : Int) : Int := if 64 < l.len ∨ 16 < d then 22 else chkL V l d


set_option maxRecDepth 100000 in
/-- A struct of four cells in a block of its own, and behind a call. -/
theorem cells4 {w w1 : World} {a b c d : Value} {ty : Nat} (h : Below (w.alloc (.cells #[a, b, c, d] ty)).heap.size (w.alloc (.cells #[a, b, c, d] ty)) w1) :
    w1.cell? ⟨w.heap.size, 0, none⟩ = some a ∧ w1.cell? ⟨w.heap.size, 1, none⟩ = some b ∧ w1.cell? ⟨w.heap.size, 2, none⟩ = some c ∧ w1.cell? ⟨w.heap.size, 3, none⟩ = some d := by
  refine ⟨(h.cell (p := ⟨w.heap.size, 0, none⟩) (by simp)).trans (by simp), (h.cell (p := ⟨w.heap.size, 1, none⟩) (by simp)).trans (by simp), (h.cell (p := ⟨w.heap.size, 2, none⟩) (by simp)).trans (by simp), (h.cell (p := ⟨w.heap.size, 3, none⟩) (by simp)).trans (by simp)⟩

set_option maxRecDepth 100000 in
theorem isKind_yes (k : Int) (w : World) (h : 0 ≤ k ∧ k ≤ 7) : Calls Tryz.prog 26 #[.int .i64 k] w fun e w' => e = .returned (.bool true) ∧ w' = w := by
  have := isKind_any k w
  rwa [show decide (0 ≤ k ∧ k ≤ 7) = true from by simp; omega] at this
set_option maxRecDepth 100000 in
theorem isKind_no (k : Int) (w : World) (h : ¬ (0 ≤ k ∧ k ≤ 7)) : Calls Tryz.prog 26 #[.int .i64 k] w fun e w' => e = .returned (.bool false) ∧ w' = w := by
  have := isKind_any k w
  rwa [show decide (0 ≤ k ∧ k ≤ 7) = false from by simp; omega] at this
set_option maxRecDepth 100000 in
theorem fields_eq (b : Bool) (k n : Int) (t : ByteArray) (ao : Option Addr) (m c : Nat) (w : World) (h : fld k n t m = b) : Calls Tryz.prog 59 #[.agg #[.int .i64 k, .int .i64 n, .string t, .slice ao m c]] w fun e w' => e = .returned (.bool b) ∧ Below w.heap.size w w' := by
  have := fields_any k n t ao m c w
  rwa [h] at this
end Go.Proofs.YtpiijmionafmcaaGreatDoor
