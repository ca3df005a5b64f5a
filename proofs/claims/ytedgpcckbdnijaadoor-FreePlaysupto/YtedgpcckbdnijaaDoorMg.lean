/- meta.isWithin and meta.Check: what they answer. -/
import Derived.Test.YtedgpcckbdnijaaDoorMf
namespace Go.Proofs.YtedgpcckbdnijaaDoor
open Go.RowKit

set_option maxRecDepth 100000 in
theorem bl_al {B : Nat} {a w : World} (h : Below B a w) (hB : B ≤ a.heap.size) (o : Obj) : Below B a (w.alloc o) := h.alloc (Nat.le_trans hB h.size) o
set_option maxRecDepth 100000 in
theorem bl_go {B : Nat} {a w w' : World} (h : Below B a w) (hB : B ≤ a.heap.size) (k : Below w.heap.size w w') : Below B a w' := h.trans (k.mono (Nat.le_trans hB h.size))
set_option maxRecDepth 100000 in
theorem bl_dr {B : Nat} {a w : World} (h : Below B a w) (q : Nat) : Below B a (w.drewN q) := h.trans ⟨rfl, rfl, rfl, Nat.le_refl _, fun _ _ => rfl⟩
set_option maxRecDepth 100000 in
theorem lt_some {w : World} {g : Nat} {o : Obj} (h : w.heap[g]? = some o) : g < w.heap.size := by
  rcases Nat.lt_or_ge g w.heap.size with hx | hx
  · exact hx
  · rw [Array.getElem?_eq_none hx] at h; cases h
/-- Each number lies between its least and its most. -/
def Mt.nth (m : Mt) (k : Nat) : Int := [m.en, m.pg, m.tx, m.ro, m.co, m.fr, m.li, m.hi].getD k 0
def atN (k : Nat) : Nat := [1, 8, 12, 20, 24, 28, 32, 36].getD k 0
def wdN (k : Nat) : Nat := [1, 4, 8, 4, 4, 4, 4, 4].getD k 0
def leastN (k : Nat) : Int := [1, 512, 0, 0, 0, 0, 0, 2].getD k 0
def mostN (k : Nat) : Int := [2, 65536, 1099511627776, 65535, 256, 65535, 65534, 65536].getD k 0
def InM (m : Mt) : Prop := ∀ k, k < 8 → leastN k ≤ m.nth k ∧ m.nth k ≤ mostN k
set_option maxRecDepth 100000 in
theorem eight {k : Nat} (h : k < 8) : k = 0 ∨ k = 1 ∨ k = 2 ∨ k = 3 ∨ k = 4 ∨ k = 5 ∨ k = 6 ∨ k = 7 := by omega
/-- The cells of a meta. -/
def mtC (m : Mt) : Array Value := #[.int .i64 m.en, .int .i64 m.pg, .int .i64 m.tx, .int .i64 m.ro, .int .i64 m.co, .int .i64 m.fr, .int .i64 m.li, .int .i64 m.hi]
set_option maxRecDepth 100000 in
theorem mtV_eq (m : Mt) : mtV m = .agg #[.int .i64 m.en, .int .i64 m.pg, .int .i64 m.tx, .int .i64 m.ro, .int .i64 m.co, .int .i64 m.fr, .int .i64 m.li, .int .i64 m.hi] := rfl
set_option maxRecDepth 100000 in
theorem mtC_at (m : Mt) (k : Nat) (h : k < 8) : (mtC m)[k]? = some (.int .i64 (m.nth k)) := by
  rcases eight h with rfl | rfl | rfl | rfl | rfl | rfl | rfl | rfl <;> rfl
set_option maxRecDepth 100000 in
theorem cell_mt {w : World} {g t : Nat} {m : Mt} (hg : w.heap[g]? = some (.cells (mtC m) t (0, 0))) (k : Nat) (h : k < 8) : w.cell? ⟨g, k, none⟩ = some (.int .i64 (m.nth k)) := by
  rw [cell_of_row _ _ k _ _ _ hg, mtC_at m k h]

set_option maxRecDepth 100000 in
theorem inM_iff (m : Mt) : InM m ↔ (1 ≤ m.en ∧ m.en ≤ 2) ∧ (512 ≤ m.pg ∧ m.pg ≤ 65536) ∧ (0 ≤ m.tx ∧ m.tx ≤ 1099511627776) ∧ (0 ≤ m.ro ∧ m.ro ≤ 65535) ∧ (0 ≤ m.co ∧ m.co ≤ 256) ∧ (0 ≤ m.fr ∧ m.fr ≤ 65535) ∧ (0 ≤ m.li ∧ m.li ≤ 65534) ∧ (2 ≤ m.hi ∧ m.hi ≤ 65536) := by
  constructor
  · intro h
    exact ⟨h 0 (by omega), h 1 (by omega), h 2 (by omega), h 3 (by omega), h 4 (by omega), h 5 (by omega), h 6 (by omega), h 7 (by omega)⟩
  · rintro ⟨h0, h1, h2, h3, h4, h5, h6, h7⟩ k hk
    rcases eight hk with rfl | rfl | rfl | rfl | rfl | rfl | rfl | rfl
    · exact h0
    · exact h1
    · exact h2
    · exact h3
    · exact h4
    · exact h5
    · exact h6
    · exact h7

/-- A meta's cells in a block. -/
structure Row8 (w : World) (g : Nat) (m : Mt) : Prop where
  c0 : w.cell? ⟨g, 0, none⟩ = some (.int .i64 m.en)
  c1 : w.cell? ⟨g, 1, none⟩ = some (.int .i64 m.pg)
  c2 : w.cell? ⟨g, 2, none⟩ = some (.int .i64 m.tx)
  c3 : w.cell? ⟨g, 3, none⟩ = some (.int .i64 m.ro)
  c4 : w.cell? ⟨g, 4, none⟩ = some (.int .i64 m.co)
  c5 : w.cell? ⟨g, 5, none⟩ = some (.int .i64 m.fr)
  c6 : w.cell? ⟨g, 6, none⟩ = some (.int .i64 m.li)
  c7 : w.cell? ⟨g, 7, none⟩ = some (.int .i64 m.hi)
set_option maxRecDepth 100000 in
theorem row8 {w : World} {g t : Nat} {m : Mt} (h : w.heap[g]? = some (.cells (mtC m) t (0, 0))) : Row8 w g m :=
  ⟨cell_mt h 0 (by omega), cell_mt h 1 (by omega), cell_mt h 2 (by omega), cell_mt h 3 (by omega), cell_mt h 4 (by omega), cell_mt h 5 (by omega), cell_mt h 6 (by omega), cell_mt h 7 (by omega)⟩
set_option maxRecDepth 100000 in
theorem Row8.go {w w' : World} {g : Nat} {m : Mt} (h : Row8 w g m) (hg : g < w.heap.size) (hb : Below w.heap.size w w') : Row8 w' g m :=
  ⟨(hb.cell (p := ⟨g, 0, none⟩) hg).trans h.c0, (hb.cell (p := ⟨g, 1, none⟩) hg).trans h.c1, (hb.cell (p := ⟨g, 2, none⟩) hg).trans h.c2, (hb.cell (p := ⟨g, 3, none⟩) hg).trans h.c3,
   (hb.cell (p := ⟨g, 4, none⟩) hg).trans h.c4, (hb.cell (p := ⟨g, 5, none⟩) hg).trans h.c5, (hb.cell (p := ⟨g, 6, none⟩) hg).trans h.c6, (hb.cell (p := ⟨g, 7, none⟩) hg).trans h.c7⟩
set_option maxRecDepth 100000 in
theorem row_new (w : World) (m : Mt) (t : TypeId) : (w.alloc (.cells (mtC m) t)).heap[w.heap.size]? = some (.cells (mtC m) t (0, 0)) := heap_alloc_last w _
set_option maxRecDepth 100000 in
/-- What a call leaves: the box that was made ahead of it. -/
theorem box_kept {w w1 : World} {m : Mt} {t : TypeId} (hb : Below (w.alloc (.cells (mtC m) t)).heap.size (w.alloc (.cells (mtC m) t)) w1) : w1.heap[w.heap.size]? = some (.cells (mtC m) t (0, 0)) ∧ Below w.heap.size w w1 :=
  ⟨(hb.block _ (by simp)).trans (row_new w m t), bl_go (bl_al (Below.refl _ w) (Nat.le_refl _) _) (Nat.le_refl _) hb⟩
set_option maxRecDepth 100000 in
theorem box_on {w1 w2 : World} {g : Nat} {o : Obj} (h : w1.heap[g]? = some o) (hb : Below w1.heap.size w1 w2) : w2.heap[g]? = some o := (hb.block _ (lt_some h)).trans h

/-- What Check answers: 0 for a meta, else 1. -/
def Says1 (m : Mt) (w : World) (e : Ending) (w' : World) : Prop := ∃ k, e = .returned (.int .i64 k) ∧ (m.ok ∧ k = 0 ∨ ¬ m.ok ∧ k = 1) ∧ Below w.heap.size w w'
set_option maxRecDepth 100000 in
theorem Says1.yes {m : Mt} {w w' : World} (h : m.ok) (hb : Below w.heap.size w w') : Says1 m w (.returned (.int .i64 0)) w' := ⟨0, rfl, .inl ⟨h, rfl⟩, hb⟩
set_option maxRecDepth 100000 in
theorem Says1.no {m : Mt} {w w' : World} (h : ¬ m.ok) (hb : Below w.heap.size w w') : Says1 m w (.returned (.int .i64 1)) w' := ⟨1, rfl, .inr ⟨h, rfl⟩, hb⟩
set_option maxRecDepth 100000 in
theorem ok_of (m : Mt) (h1 : InM m) (h2 : pw m.pg) (h3 : m.ro = 0 ∧ m.co = 0 ∨ m.ro ≠ 0 ∧ 2 ≤ m.ro ∧ m.ro < m.hi ∧ 0 < m.co) (h4 : m.fr = 0 ∧ m.li = 0 ∨ m.fr ≠ 0 ∧ 2 ≤ m.fr ∧ m.fr < m.hi ∧ m.li ≤ m.hi - 2) (h5 : ¬ (m.ro = m.fr ∧ m.ro ≠ 0)) : m.ok := by
  rw [inM_iff] at h1
  exact ⟨by omega, h2, by omega, by omega, by omega, by omega, by omega, by omega, by omega, by omega, h5⟩
set_option maxRecDepth 100000 in
theorem Mt.ok.inM {m : Mt} (h : m.ok) : InM m := by
  rw [inM_iff]
  have := pw_le h.pg
  obtain ⟨h1, h2, h3, h4, h5, h6, h7, h8, h9, h10, h11⟩ := h
  omega
set_option maxRecDepth 100000 in
theorem Mt.ok.tree {m : Mt} (h : m.ok) : m.ro = 0 ∧ m.co = 0 ∨ m.ro ≠ 0 ∧ 2 ≤ m.ro ∧ m.ro < m.hi ∧ 0 < m.co := by
  obtain ⟨h1, h2, h3, h4, h5, h6, h7, h8, h9, h10, h11⟩ := h
  omega
set_option maxRecDepth 100000 in
theorem Mt.ok.list {m : Mt} (h : m.ok) : m.fr = 0 ∧ m.li = 0 ∨ m.fr ≠ 0 ∧ 2 ≤ m.fr ∧ m.fr < m.hi ∧ m.li ≤ m.hi - 2 := by
  obtain ⟨h1, h2, h3, h4, h5, h6, h7, h8, h9, h10, h11⟩ := h
  omega

end Go.Proofs.YtedgpcckbdnijaaDoor
