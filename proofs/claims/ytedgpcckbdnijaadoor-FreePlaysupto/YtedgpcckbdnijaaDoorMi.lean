/- meta.written, followed as its text goes; meta.Encode. -/
import Derived.Test.YtedgpcckbdnijaaDoorMh
namespace Go.Proofs.YtedgpcckbdnijaaDoor
open Go.RowKit

/-- A row of bytes. -/
def Bk (w : World) (g : Nat) (l : List Int) : Prop := w.heap[g]? = some (.cells (By l).toArray 5 (0, 0))
set_option maxRecDepth 100000 in
theorem Bk.on {w w' : World} {g : Nat} {l : List Int} (h : Bk w g l) (hb : Below w.heap.size w w') : Bk w' g l := (hb.block _ (lt_some h)).trans h
set_option maxRecDepth 100000 in
theorem set_row {w : World} {a i : Nat} {cs : List Value} {t : TypeId} {u : Value} (h : w.heap[a]? = some (.cells cs.toArray t (0, 0))) : (w.setCell ⟨a, i, none⟩ u).heap[a]? = some (.cells (cs.set i u).toArray t (0, 0)) := by
  have := setCell_eq_setRow w a i cs.toArray t (0, 0) u h
  rw [this, setRow_heap w a _ _ t _ h]
  simp
set_option maxRecDepth 100000 in
theorem Bk.cell {w : World} {g : Nat} {l : List Int} (h : Bk w g l) (k : Nat) (hk : k < l.length) : w.cell? ⟨g, k, none⟩ = some (.int .u8 (l.getD k 0)) := by
  rw [cell_of_row _ _ k _ _ _ h]
  simp [By, List.getElem?_eq_getElem hk, List.getD]
set_option maxRecDepth 100000 in
theorem Bk.free {w : World} {g : Nat} {l : List Int} (h : Bk w g l) (k : Nat) : w.frozen? ⟨g, k, none⟩ = false := by
  unfold Bk at h
  simp [World.frozen?, h]
set_option maxRecDepth 100000 in
theorem Bk.sl {w : World} {g n : Nat} {l : List Int} (h : Bk w g l) (hl : l.length = n) (hw : Wf l) (hn : n ≤ 140737488355328) : Sl w (some ⟨g, 0, none⟩) n n l :=
  ⟨hl, Nat.le_refl _, hn, hw, (by intro h; cases h), .inr ⟨g, 0, rfl, lt_some h, fun i hi => by rw [Nat.zero_add]; exact h.cell i (by omega)⟩⟩

set_option maxRecDepth 100000 in
theorem Sl.alloc5 {w : World} {ao : Option Addr} {n cap : Nat} {l : List Int} (h : Sl w ao n cap l) (o : Obj) : Sl (w.alloc o) ao n cap l := h.on (Nat.le_refl _) ((Below.refl _ _).alloc (Nat.le_refl _) o)
set_option maxRecDepth 100000 in
theorem lit_cell5 (w : World) (cs : Array Value) (t : TypeId) (f : Nat × Nat) (i B : Nat) (hB : w.heap.size = B) : (w.alloc (.cells cs t f)).cell? ⟨B, i, none⟩ = cs[i]? := by
  subst hB
  unfold World.cell?
  rw [show (w.alloc (.cells cs t f)).heap[w.heap.size]? = some (.cells cs t f) from heap_alloc_new w _]
  rfl
set_option maxRecDepth 100000 in
theorem sls_one5 (w : World) (a : Option Addr) (n c : Nat) (la : List Int) (ha : Sl w a n c la) (B : Nat) (hB : w.heap.size = B) : SlS (w.alloc (.cells #[.slice a n c] 50)) (some ⟨B, 0, none⟩) 1 1 [la] := by
  refine ⟨rfl, Nat.le_refl _, by omega, (by intro h; cases h), .inr ⟨B, 0, rfl, by simp; omega, fun i hi => ?_⟩⟩
  obtain rfl : i = 0 := by omega
  exact ⟨a, n, c, lit_cell5 _ _ _ _ _ _ hB, ha.alloc5 _⟩
set_option maxRecDepth 100000 in
theorem SlS.drew5 {w : World} {ao : Option Addr} {n cap : Nat} {ls : List (List Int)} (h : SlS w ao n cap ls) : SlS w.drew ao n cap ls := by
  refine ⟨h.hlen, h.hcap, h.hroom, h.hnil, ?_⟩
  rcases h.hat with h0 | ⟨b, off, e, hb, hc⟩
  · exact .inl h0
  · refine .inr ⟨b, off, e, hb, fun i hi => ?_⟩
    obtain ⟨a, m, c, h1, h2⟩ := hc i hi
    exact ⟨a, m, c, h1, h2.on (Nat.le_refl _) (Below.refl _ _).drew⟩
set_option maxRecDepth 100000 in
/-- What one number of a meta may be. -/
theorem nth_ok (m : Mt) (h : m.ok) (k : Nat) (hk : k < 8) : 0 ≤ m.nth k ∧ m.nth k ≤ 1099511627776 := by
  have h1 := h.inM k hk
  have h2 : 0 ≤ leastN k ∧ mostN k ≤ 1099511627776 := by
    rcases eight hk with rfl | rfl | rfl | rfl | rfl | rfl | rfl | rfl <;> simp [leastN, mostN]
  omega
set_option maxRecDepth 100000 in
theorem place_ok (k : Nat) (hk : k < 8) : 1 ≤ wdN k ∧ wdN k ≤ 8 ∧ atN k + wdN k ≤ 40 := by
  rcases eight hk with rfl | rfl | rfl | rfl | rfl | rfl | rfl | rfl <;> simp [wdN, atN]
set_option maxRecDepth 100000 in
theorem first_laid (m : Mt) (P : Nat) (hP : m.pg.toNat = P) (h : 512 ≤ P) : List.take 4 ((By (zs P)).set 0 (Value.int IntKind.u8 1)) ++ (Lib.byteCells [69, 83, 80, 76] ++ List.drop 8 ((By (zs P)).set 0 (Value.int IntKind.u8 1))) = By (lay5 m 0) := by
  have e : zs P = [0, 0, 0, 0, 0, 0, 0, 0] ++ zs (P - 8) := by
    conv => lhs; rw [show P = 8 + (P - 8) by omega, zs_add]
    rfl
  show _ = By ([1, 0, 0, 0, 69, 83, 80, 76] ++ zs (m.pg.toNat - 8))
  rw [e, By_append, By_append, hP]
  generalize By (zs (P - 8)) = Z
  simp [By, Lib.byteCells]

/-- What Encode answers. -/
def Enc5 (m : Mt) (w : World) (e : Ending) (w' : World) : Prop :=
  (m.ok ∧ ∃ g, e = .returned (.tuple #[.slice (some ⟨g, 0, none⟩) m.pg.toNat m.pg.toNat, .int .i64 0]) ∧ w.heap.size ≤ g ∧ Bk w' g (pageB m) ∧ Below w.heap.size w w') ∨
  (¬ m.ok ∧ e = .returned (.tuple #[.slice none 0 0, .int .i64 1]) ∧ Below w.heap.size w w')
end Go.Proofs.YtedgpcckbdnijaaDoor
