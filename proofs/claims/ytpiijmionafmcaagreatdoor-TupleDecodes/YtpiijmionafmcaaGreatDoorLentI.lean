/- Items in memory of their own: each row of items in a block of its own, two places behind it; the blocks of what stands behind lie behind. -/
import Derived.Test.YtpiijmionafmcaaGreatDoorWeigh2
import Derived.Test.YtpiijmionafmcaaGreatDoorAwk
import Derived.Laws.IdiomCopy
import Derived.Deep.Upon
import Derived.Deep.MidRow
namespace Go.Proofs.YtpiijmionafmcaaGreatDoor
open Go.RowKit

/-- A block of so many places. -/
def RowB (w : World) (b N : Nat) : Prop := ∃ cur : Array Value, w.heap[b]? = some (.cells cur 36 (0, 0)) ∧ cur.size = 4 * N
set_option maxRecDepth 100000 in
theorem RowB.cell {w : World} {b N : Nat} (h : RowB w b N) (j : Nat) (hj : j < 4 * N) : (w.cell? ⟨b, j, none⟩).isSome = true := by
  obtain ⟨cur, h1, h2⟩ := h
  simp [World.cell?, h1, h2, hj]
set_option maxRecDepth 100000 in
theorem RowB.free {w : World} {b N : Nat} (h : RowB w b N) (j : Nat) : w.frozen? ⟨b, j, none⟩ = false := by
  obtain ⟨cur, h1, h2⟩ := h
  simp [World.frozen?, h1]
set_option maxRecDepth 100000 in
theorem RowB.lt {w : World} {b N : Nat} (h : RowB w b N) : b < w.heap.size := by
  obtain ⟨cur, h1, _⟩ := h
  rcases Nat.lt_or_ge b w.heap.size with hx | hx
  · exact hx
  · rw [Array.getElem?_eq_none hx] at h1; cases h1
set_option maxRecDepth 100000 in
theorem RowB.same {w w' : World} {b N : Nat} (h : RowB w b N) (e : w'.heap[b]? = w.heap[b]?) : RowB w' b N := by
  obtain ⟨cur, h1, h2⟩ := h
  exact ⟨cur, e.trans h1, h2⟩
set_option maxRecDepth 100000 in
theorem RowB.set {w : World} {b N : Nat} (h : RowB w b N) (j : Nat) (v : Value) : RowB (w.setCell ⟨b, j, none⟩ v) b N := by
  obtain ⟨cur, h1, h2⟩ := h
  exact ⟨_, heap_setCell_same w b j cur _ v h1, by simp [h2]⟩
set_option maxRecDepth 100000 in
theorem RowB.sets {b N : Nat} : ∀ (vs : List Value) (j : Nat) (w : World), RowB w b N → RowB (w.setCells b j vs) b N
  | [], _, _, h => h
  | v :: r, j, _, h => RowB.sets r (j + 1) _ (h.set j v)
set_option maxRecDepth 100000 in
theorem cell_of_heap {w w' : World} {q : Addr} (h : w'.heap[q.block]? = w.heap[q.block]?) : w'.cell? q = w.cell? q := by
  unfold World.cell?; rw [h]

/-- The items, as they were lent. -/
def Its.Ln (w : World) : Its → Nat → Nat → Nat → Nat → Prop
  | .nil, _, _, lo, hi => lo ≤ hi
  | .cons k n t sub r, b, off, lo, hi =>
    (w.cell? ⟨b, off, none⟩ = some (.int .i64 k) ∧ w.cell? ⟨b, off + 1, none⟩ = some (.int .i64 n) ∧ w.cell? ⟨b, off + 2, none⟩ = some (.string t) ∧
      ∃ b' mid, w.cell? ⟨b, off + 3, none⟩ = some (.slice (some ⟨b', 0, none⟩) sub.len (sub.len + 2)) ∧ lo ≤ b' ∧ b' < mid ∧ RowB w b' (sub.len + 2) ∧ Its.Ln w sub b' 0 (b' + 1) mid ∧
        w.cell? ⟨b', 4 * sub.len, none⟩ = some (.int .i64 (-7 - (sub.len : Int))) ∧ w.cell? ⟨b', 4 * (sub.len + 1), none⟩ = some (.int .i64 (-7 - ((sub.len + 1 : Nat) : Int))) ∧
        Its.Ln w r b (off + 4) mid hi)

/-- A slice value that was lent: its items, its two places behind. -/
def LentS (w : World) (l : Its) (b hi : Nat) : Prop :=
  b < hi ∧ RowB w b (l.len + 2) ∧ l.Ln w b 0 (b + 1) hi ∧ w.cell? ⟨b, 4 * l.len, none⟩ = some (.int .i64 (-7 - (l.len : Int))) ∧ w.cell? ⟨b, 4 * (l.len + 1), none⟩ = some (.int .i64 (-7 - ((l.len + 1 : Nat) : Int)))

set_option maxRecDepth 100000 in
theorem Its.Ln.le {w : World} : ∀ (l : Its) (b off lo hi : Nat), l.Ln w b off lo hi → lo ≤ hi
  | .nil, _, _, _, _, h => h
  | .cons _ _ _ _ r, b, off, lo, hi, h => by
    obtain ⟨_, _, _, b', mid, _, h1, h2, _, _, _, _, h3⟩ := h
    have := Its.Ln.le r b (off + 4) mid hi h3
    omega

set_option maxRecDepth 100000 in
theorem Its.Ln.keep {w w' : World} : ∀ (l : Its) (b off lo hi : Nat), l.Ln w b off lo hi → (∀ j, off ≤ j → j < off + 4 * l.len → w'.cell? ⟨b, j, none⟩ = w.cell? ⟨b, j, none⟩) → (∀ k, lo ≤ k → k < hi → w'.heap[k]? = w.heap[k]?) → l.Ln w' b off lo hi
  | .nil, _, _, _, _, h, _, _ => h
  | .cons _ _ _ sub r, b, off, lo, hi, h, hc, hk => by
    obtain ⟨c0, c1, c2, b', mid, c3, h1, h2, h3, h4, h5, h6, h7⟩ := h
    have hle := Its.Ln.le r b (off + 4) mid hi h7
    simp only [Its.len] at hc
    have eb : w'.heap[b']? = w.heap[b']? := hk b' h1 (by omega)
    refine ⟨(hc _ (by omega) (by omega)).trans c0, (hc _ (by omega) (by omega)).trans c1, (hc _ (by omega) (by omega)).trans c2, b', mid, (hc _ (by omega) (by omega)).trans c3, h1, h2, h3.same eb, ?_, ?_, ?_, ?_⟩
    · exact Its.Ln.keep sub b' 0 (b' + 1) mid h4 (fun j _ _ => cell_of_heap eb) (fun k x1 x2 => hk k (by omega) (by omega))
    · exact (cell_of_heap eb).trans h5
    · exact (cell_of_heap eb).trans h6
    · exact Its.Ln.keep r b (off + 4) mid hi h7 (fun j x1 x2 => hc j (by omega) (by omega)) (fun k x1 x2 => hk k (by omega) (by omega))
set_option maxRecDepth 100000 in
theorem LentS.keep {w w' : World} {l : Its} {b hi : Nat} (h : LentS w l b hi) (hk : ∀ k, b ≤ k → k < hi → w'.heap[k]? = w.heap[k]?) : LentS w' l b hi := by
  obtain ⟨h0, h1, h2, h3, h4⟩ := h
  have eb := hk b (Nat.le_refl _) h0
  exact ⟨h0, h1.same eb, Its.Ln.keep l b 0 (b + 1) hi h2 (fun j _ _ => cell_of_heap eb) (fun k x1 x2 => hk k (by omega) (by omega)), (cell_of_heap eb).trans h3, (cell_of_heap eb).trans h4⟩

/-- The first k items. -/
def Its.take : Its → Nat → Its
  | _, 0 => .nil
  | .nil, _ + 1 => .nil
  | .cons k n t s r, i + 1 => .cons k n t s (r.take i)
set_option maxRecDepth 100000 in
theorem Its.take_all : ∀ l : Its, l.take l.len = l
  | .nil => rfl
  | .cons _ _ _ _ r => by simp only [Its.len, Its.take]; rw [Its.take_all r]
set_option maxRecDepth 100000 in
theorem Its.take_len : ∀ (l : Its) (i : Nat), i ≤ l.len → (l.take i).len = i
  | _, 0, _ => by simp [Its.take, Its.len]
  | .nil, _ + 1, h => by simp [Its.len] at h
  | .cons _ _ _ _ r, i + 1, h => by simp only [Its.len] at h; simp only [Its.take, Its.len]; rw [Its.take_len r i (by omega)]
set_option maxRecDepth 100000 in
/-- One item more. -/
theorem Its.Ln.snoc {w : World} {k n : Int} {t : ByteArray} {sub r : Its} {b mid hi b' : Nat} : ∀ (i : Nat) (l : Its) (off lo : Nat), l.drop i = .cons k n t sub r → (l.take i).Ln w b off lo mid →
    w.cell? ⟨b, off + 4 * i, none⟩ = some (.int .i64 k) → w.cell? ⟨b, off + 4 * i + 1, none⟩ = some (.int .i64 n) → w.cell? ⟨b, off + 4 * i + 2, none⟩ = some (.string t) → w.cell? ⟨b, off + 4 * i + 3, none⟩ = some (.slice (some ⟨b', 0, none⟩) sub.len (sub.len + 2)) →
    mid ≤ b' → LentS w sub b' hi → (l.take (i + 1)).Ln w b off lo hi
  | 0, .nil, _, _, h, _, _, _, _, _, _, _ => by simp [Its.drop] at h
  | 0, .cons _ _ _ _ _, off, lo, h, hl, c0, c1, c2, c3, hm, hs => by
    simp only [Its.drop, Its.cons.injEq] at h
    obtain ⟨rfl, rfl, rfl, rfl, rfl⟩ := h
    simp only [Its.take, Its.Ln] at hl ⊢
    obtain ⟨h0, h1, h2, h3, h4⟩ := hs
    exact ⟨c0, c1, c2, b', hi, c3, by omega, h0, h1, h2, h3, h4, Nat.le_refl _⟩
  | i + 1, .nil, _, _, h, _, _, _, _, _, _, _ => by simp [Its.drop] at h
  | i + 1, .cons _ _ _ _ r', off, lo, h, hl, c0, c1, c2, c3, hm, hs => by
    simp only [Its.drop] at h
    simp only [Its.take, Its.Ln] at hl ⊢
    obtain ⟨d0, d1, d2, b1, mid1, d3, x1, x2, x3, x4, x5, x6, x7⟩ := hl
    have e : off + 4 * (i + 1) = off + 4 + 4 * i := by omega
    rw [e] at c0 c1 c2 c3
    exact ⟨d0, d1, d2, b1, mid1, d3, x1, x2, x3, x4, x5, x6, Its.Ln.snoc i r' (off + 4) mid1 h x7 c0 c1 c2 c3 hm hs⟩

set_option maxRecDepth 100000 in
/-- What was lent reads as it did. -/
theorem Its.Ln.at {w : World} : ∀ (l : Its) (b off lo hi : Nat), hi ≤ w.heap.size → l.Ln w b off lo hi → l.At w Tp b off
  | .nil, _, _, _, _, _, _ => trivial
  | .cons _ _ _ sub r, b, off, lo, hi, hh, h => by
    obtain ⟨c0, c1, c2, b', mid, c3, h1, h2, h3, h4, h5, h6, h7⟩ := h
    have hle := Its.Ln.le r b (off + 4) mid hi h7
    exact ⟨⟨c0, c1, c2, _, _, _, c3, rfl, by omega, (by intro h; cases h), .inr ⟨b', 0, rfl, by omega, trivial, Its.Ln.at sub b' 0 (b' + 1) mid (by omega) h4⟩⟩, Its.Ln.at r b (off + 4) mid hi hh h7⟩
set_option maxRecDepth 100000 in
theorem LentS.sl {w : World} {l : Its} {b hi : Nat} (h : LentS w l b hi) (hh : hi ≤ w.heap.size) (ho : l.Ok) (hn : l.len ≤ 140737488355328) : SlI w Tp (some ⟨b, 0, none⟩) l.len (l.len + 2) l :=
  ⟨rfl, by omega, (by intro h; cases h), hn, ho, .inr ⟨b, 0, rfl, h.2.1.lt, trivial, Its.Ln.at l b 0 (b + 1) hi hh h.2.2.1⟩⟩

set_option maxRecDepth 100000 in
theorem RowB.there {w : World} {b N : Nat} (h : RowB w b N) {j : Nat} (hj : j + 4 ≤ 4 * N) : w.there b j 4 := fun i hi => ⟨h.cell (j + i) (by omega), h.free _⟩
set_option maxRecDepth 100000 in
theorem sizeItem : (Tryz.prog.info? 36).map (·.size) = some 4 := by kernel_rfl

set_option maxRecDepth 100000 in
/-- A row's place is written. -/
theorem store_item {ops : Array Oper} {rest : List Oper} {o : Oper} {a : Act} {w : World} {Q : Exit → Act → World → Prop} (hgd : o.guard = none) (p v : Operand)
    (ho : o.op = .store 36 p v) (b j N : Nat) (x0 x1 x2 x3 : Value) (hp : a.eval p = .pointer (some ⟨b, j, none⟩)) (hv : a.eval v = .agg #[x0, x1, x2, x3]) (hr : RowB w b N) (hj : j + 4 ≤ 4 * N)
    (h1 : (#[x0, x1, x2, x3] : Array Value).all (·.oneCell') = true)
    (h : wpList Tryz.prog ops Q rest (a.put o.dst undef) (w.setCells b j [x0, x1, x2, x3])) : wpList Tryz.prog ops Q (o :: rest) a w :=
  wpList_store_mid hgd _ p v ho b j #[x0, x1, x2, x3] hp hv (hr.there hj) sizeItem h1 h

set_option maxRecDepth 100000 in
/-- What a write of a place leaves. -/
theorem sets_in {w : World} {b N j : Nat} {x0 x1 x2 x3 : Value} (hr : RowB w b N) (hj : j + 4 ≤ 4 * N) :
    (w.setCells b j [x0, x1, x2, x3]).cell? ⟨b, j, none⟩ = some x0 ∧ (w.setCells b j [x0, x1, x2, x3]).cell? ⟨b, j + 1, none⟩ = some x1 ∧ (w.setCells b j [x0, x1, x2, x3]).cell? ⟨b, j + 2, none⟩ = some x2 ∧ (w.setCells b j [x0, x1, x2, x3]).cell? ⟨b, j + 3, none⟩ = some x3 := by
  have h := World.rangeAt_setCells_same w b j [x0, x1, x2, x3] (hr.there hj)
  exact ⟨h 0 _ rfl, h 1 _ rfl, h 2 _ rfl, h 3 _ rfl⟩
set_option maxRecDepth 100000 in
theorem sets_out {w : World} {b j : Nat} {x0 x1 x2 x3 : Value} {q : Addr} (h : q.block = b → q.off < j ∨ j + 4 ≤ q.off) : (w.setCells b j [x0, x1, x2, x3]).cell? q = w.cell? q :=
  World.cell?_setCells_out b _ j w q (fun h1 _ => h h1)
set_option maxRecDepth 100000 in
theorem sets_below {w : World} {b j : Nat} {x0 x1 x2 x3 : Value} : Below b w (w.setCells b j [x0, x1, x2, x3]) := by
  simp only [World.setCells]
  refine ((((Below.refl _ _).setCell ?_ _).setCell ?_ _).setCell ?_ _).setCell ?_ _ <;> simp
end Go.Proofs.YtpiijmionafmcaaGreatDoor
