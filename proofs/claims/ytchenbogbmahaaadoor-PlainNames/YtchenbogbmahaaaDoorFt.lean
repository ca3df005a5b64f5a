/- Rows of cells in memory; plain.Decode. -/
import Derived.Test.YtchenbogbmahaaaDoorFs
import Derived.Deep.MidRow
import Derived.Deep.Upon
import Derived.Laws.IdiomCopy
namespace Go.Proofs.YtchenbogbmahaaaDoor
open Go.RowKit

/-- A cell that lies in a row. -/
def CAt (w : World) (b off : Nat) (c : Cl) : Prop :=
  ∃ ka kc va vc, w.cell? ⟨b, off, none⟩ = some (.slice ka c.key.length kc) ∧ w.cell? ⟨b, off + 1, none⟩ = some (.int .i64 c.kd) ∧ w.cell? ⟨b, off + 2, none⟩ = some (.slice va c.val.length vc) ∧ w.cell? ⟨b, off + 3, none⟩ = some (.int .i64 c.pg) ∧ w.cell? ⟨b, off + 4, none⟩ = some (.int .i64 c.ct) ∧ Sl w ka c.key.length kc c.key ∧ Sl w va c.val.length vc c.val
/-- THE SLICE VALUE READS AS THE CELLS cs. -/
structure SlC (w : World) (ao : Option Addr) (n cap : Nat) (cs : List Cl) : Prop where
  hlen : cs.length = n
  hcap : n ≤ cap
  hroom : n ≤ 140737488355328
  hnil : ao = none → cap = 0
  hat : n = 0 ∨ ∃ b off, ao = some ⟨b, off, none⟩ ∧ b < w.heap.size ∧ ∀ i c, cs[i]? = some c → CAt w b (off + i * 5) c
set_option maxRecDepth 100000 in
theorem CAt.on {w w' : World} {b off : Nat} {c : Cl} (h : CAt w b off c) (hb : b < w.heap.size) (hB : Below w.heap.size w w') : CAt w' b off c := by
  obtain ⟨ka, kc, va, vc, h0, h1, h2, h3, h4, h5, h6⟩ := h
  exact ⟨ka, kc, va, vc, (hB.cell (p := ⟨b, off, none⟩) hb).trans h0, (hB.cell (p := ⟨b, off + 1, none⟩) hb).trans h1, (hB.cell (p := ⟨b, off + 2, none⟩) hb).trans h2, (hB.cell (p := ⟨b, off + 3, none⟩) hb).trans h3, (hB.cell (p := ⟨b, off + 4, none⟩) hb).trans h4, h5.on (Nat.le_refl _) hB, h6.on (Nat.le_refl _) hB⟩
set_option maxRecDepth 100000 in
theorem SlC.on {w w' : World} {ao : Option Addr} {n cap : Nat} {cs : List Cl} (h : SlC w ao n cap cs) (hB : Below w.heap.size w w') : SlC w' ao n cap cs := by
  refine ⟨h.hlen, h.hcap, h.hroom, h.hnil, ?_⟩
  rcases h.hat with h0 | ⟨b, off, e, hb, hc⟩
  · exact .inl h0
  · exact .inr ⟨b, off, e, Nat.lt_of_lt_of_le hb hB.size, fun i c hi => (hc i c hi).on hb hB⟩
set_option maxRecDepth 100000 in
theorem SlC.wf {w : World} {ao : Option Addr} {n cap : Nat} {cs : List Cl} (h : SlC w ao n cap cs) : ∀ c ∈ cs, c.Wf := by
  intro c hc
  obtain ⟨i, hi, e⟩ := List.getElem_of_mem hc
  rcases h.hat with h0 | ⟨b, off, _, _, hcs⟩
  · have := h.hlen; omega
  · obtain ⟨_, _, _, _, _, _, _, _, _, h5, h6⟩ := hcs i c (by rw [List.getElem?_eq_getElem hi, e])
    exact ⟨h5.wf, h6.wf⟩

/-- A block of so many cells. -/
def RowC (w : World) (b N : Nat) : Prop := ∃ cur : Array Value, w.heap[b]? = some (.cells cur 32 (0, 0)) ∧ cur.size = 5 * N
set_option maxRecDepth 100000 in
theorem RowC.cell {w : World} {b N : Nat} (h : RowC w b N) (j : Nat) (hj : j < 5 * N) : (w.cell? ⟨b, j, none⟩).isSome = true := by
  obtain ⟨cur, h1, h2⟩ := h
  simp [World.cell?, h1, h2, hj]
set_option maxRecDepth 100000 in
theorem RowC.free {w : World} {b N : Nat} (h : RowC w b N) (j : Nat) : w.frozen? ⟨b, j, none⟩ = false := by
  obtain ⟨cur, h1, h2⟩ := h
  simp [World.frozen?, h1]
set_option maxRecDepth 100000 in
theorem RowC.lt {w : World} {b N : Nat} (h : RowC w b N) : b < w.heap.size := by
  obtain ⟨cur, h1, _⟩ := h
  exact lt_some h1
set_option maxRecDepth 100000 in
theorem RowC.on {w w' : World} {b N : Nat} (h : RowC w b N) (hb : Below w.heap.size w w') : RowC w' b N := by
  obtain ⟨cur, h1, h2⟩ := h
  exact ⟨cur, box_on h1 hb, h2⟩
set_option maxRecDepth 100000 in
theorem RowC.set {w : World} {b N : Nat} (h : RowC w b N) (j : Nat) (v : Value) : RowC (w.setCell ⟨b, j, none⟩ v) b N := by
  obtain ⟨cur, h1, h2⟩ := h
  exact ⟨_, heap_setCell_same w b j cur _ v h1, by simp [h2]⟩
set_option maxRecDepth 100000 in
theorem RowC.sets {b N : Nat} : ∀ (vs : List Value) (j : Nat) (w : World), RowC w b N → RowC (w.setCells b j vs) b N
  | [], _, _, h => h
  | v :: r, j, _, h => RowC.sets r (j + 1) _ (h.set j v)
set_option maxRecDepth 100000 in
theorem RowC.there {w : World} {b N : Nat} (h : RowC w b N) {j : Nat} (hj : j + 5 ≤ 5 * N) : w.there b j 5 := fun i hi => ⟨h.cell (j + i) (by omega), h.free _⟩
set_option maxRecDepth 100000 in
theorem RowC.ne {w : World} {b N g : Nat} {l : List Int} (h : RowC w b N) (hk : Bk w g l) : ¬ g = b := by
  rintro rfl
  obtain ⟨cur, h1, _⟩ := h
  unfold Bk at hk
  rw [hk] at h1
  simp at h1
set_option maxRecDepth 100000 in
theorem oneCell5 (ka va : Option Addr) (kn kc vn vc : Nat) (kd pg ct : Int) : (#[.slice ka kn kc, .int .i64 kd, .slice va vn vc, .int .i64 pg, .int .i64 ct] : Array Value).all (·.oneCell') = true :=
  all_oneCell_toArray (cs := [.slice ka kn kc, .int .i64 kd, .slice va vn vc, .int .i64 pg, .int .i64 ct]) (by simp [Value.oneCell'])
set_option maxRecDepth 100000 in
/-- The store of a cell into a row. -/
theorem put_cell {ops : Array Oper} {rest : List Oper} {o : Oper} {a : Act} {w : World} {Q : Exit → Act → World → Prop} (hgd : o.guard = none) (p v : Operand)
    (ho : o.op = .store 32 p v) (b j N : Nat) (ka va : Option Addr) (kn kc vn vc : Nat) (kd pg ct : Int) (hr : RowC w b N) (hp : a.eval p = .pointer (some ⟨b, j, none⟩)) (hv : a.eval v = .agg #[.slice ka kn kc, .int .i64 kd, .slice va vn vc, .int .i64 pg, .int .i64 ct]) (hj : j + 5 ≤ 5 * N)
    (h : ∀ u, Hid (u = w.setCells b j [.slice ka kn kc, .int .i64 kd, .slice va vn vc, .int .i64 pg, .int .i64 ct]) → wpList Tryd.prog ops Q rest (a.put o.dst undef) u) : wpList Tryd.prog ops Q (o :: rest) a w :=
  wpList_store_mid hgd _ p v ho b j #[.slice ka kn kc, .int .i64 kd, .slice va vn vc, .int .i64 pg, .int .i64 ct] hp hv (hr.there hj) sizeCell (oneCell5 ..) (h _ (hidden rfl))
/-- A cell of one's own in a row. -/
def DAt (w : World) (B b off : Nat) (c : Cl) : Prop :=
  ∃ g1 g2, w.cell? ⟨b, off, none⟩ = some (.slice (some ⟨g1, 0, none⟩) c.key.length c.key.length) ∧ w.cell? ⟨b, off + 1, none⟩ = some (.int .i64 c.kd) ∧ w.cell? ⟨b, off + 2, none⟩ = some (.slice (some ⟨g2, 0, none⟩) c.val.length c.val.length) ∧ w.cell? ⟨b, off + 3, none⟩ = some (.int .i64 c.pg) ∧ w.cell? ⟨b, off + 4, none⟩ = some (.int .i64 c.ct) ∧ Bk w g1 c.key ∧ Bk w g2 c.val ∧ B ≤ g1 ∧ B ≤ g2
set_option maxRecDepth 100000 in
theorem DAt.on {w w' : World} {B b off : Nat} {c : Cl} (h : DAt w B b off c) (hb : b < w.heap.size) (hB : Below w.heap.size w w') : DAt w' B b off c := by
  obtain ⟨g1, g2, h0, h1, h2, h3, h4, h5, h6, h7⟩ := h
  exact ⟨g1, g2, (hB.cell (p := ⟨b, off, none⟩) hb).trans h0, (hB.cell (p := ⟨b, off + 1, none⟩) hb).trans h1, (hB.cell (p := ⟨b, off + 2, none⟩) hb).trans h2, (hB.cell (p := ⟨b, off + 3, none⟩) hb).trans h3, (hB.cell (p := ⟨b, off + 4, none⟩) hb).trans h4, h5.on hB, h6.on hB, h7⟩
set_option maxRecDepth 100000 in
theorem Bk.sets {w : World} {g b j : Nat} {l : List Int} {vs : List Value} (h : Bk w g l) (hg : ¬ g = b) : Bk (w.setCells b j vs) g l := (World.heap_setCells_other _ _ _ _ (lt_some h) (by omega)).trans h
set_option maxRecDepth 100000 in
theorem DAt.put {w : World} {B b N i j : Nat} {c : Cl} {vs : List Value} (h : DAt w B b (i * 5) c) (hr : RowC w b N) (hij : i < j) : DAt (w.setCells b (j * 5) vs) B b (i * 5) c := by
  obtain ⟨g1, g2, h0, h1, h2, h3, h4, h5, h6, h7⟩ := h
  have ho : ∀ d, d < 5 → (w.setCells b (j * 5) vs).cell? ⟨b, i * 5 + d, none⟩ = w.cell? ⟨b, i * 5 + d, none⟩ := fun d hd => World.cell?_setCells_out b _ _ w _ (fun _ _ => .inl (by simp only; omega))
  exact ⟨g1, g2, (ho 0 (by omega)).trans h0, (ho 1 (by omega)).trans h1, (ho 2 (by omega)).trans h2, (ho 3 (by omega)).trans h3, (ho 4 (by omega)).trans h4, h5.sets (hr.ne h5), h6.sets (hr.ne h6), h7⟩
set_option maxRecDepth 100000 in
theorem DAt.new {w : World} {B b N j : Nat} {c : Cl} {g1 g2 : Nat} (hr : RowC w b N) (hj : j * 5 + 5 ≤ 5 * N) (h1 : Bk w g1 c.key) (h2 : Bk w g2 c.val) (h3 : B ≤ g1) (h4 : B ≤ g2) :
    DAt (w.setCells b (j * 5) [.slice (some ⟨g1, 0, none⟩) c.key.length c.key.length, .int .i64 c.kd, .slice (some ⟨g2, 0, none⟩) c.val.length c.val.length, .int .i64 c.pg, .int .i64 c.ct]) B b (j * 5) c := by
  have h := World.rangeAt_setCells_same w b (j * 5) [.slice (some ⟨g1, 0, none⟩) c.key.length c.key.length, .int .i64 c.kd, .slice (some ⟨g2, 0, none⟩) c.val.length c.val.length, .int .i64 c.pg, .int .i64 c.ct] (hr.there hj)
  exact ⟨g1, g2, h 0 _ rfl, h 1 _ rfl, h 2 _ rfl, h 3 _ rfl, h 4 _ rfl, h1.sets (hr.ne h1), h2.sets (hr.ne h2), h3, h4⟩
set_option maxRecDepth 100000 in
theorem DAt.cat {w : World} {B b off : Nat} {c : Cl} (h : DAt w B b off c) (hw : c.Wf) (h1 : c.key.length ≤ 140737488355328) (h2 : c.val.length ≤ 140737488355328) : CAt w b off c := by
  obtain ⟨g1, g2, e0, e1, e2, e3, e4, e5, e6, _⟩ := h
  exact ⟨_, _, _, _, e0, e1, e2, e3, e4, e5.sl rfl hw.1 h1, e6.sl rfl hw.2 h2⟩
set_option maxRecDepth 100000 in
theorem infoC : (Tryd.prog.info? 32).map (fun i => (i.zero, i.size, i.bytes)) = some (some (.agg #[.slice none 0 0, .int .i64 0, .slice none 0 0, .int .i64 0, .int .i64 0]), 5, 72) := by kernel_rfl
set_option maxRecDepth 100000 in
theorem len_any (w : World) (a : Nat) (k : Int) (n : Nat) (bo : Option Addr) (bn bc : Nat) (so : Option Addr) (sn sc : Nat) (cs : List Cl) (h : PgAt w a k n bo bn bc so sn sc cs) :
    Calls Tryd.prog 27 #[.pointer (some ⟨a, 0, none⟩)] w fun e w' => e = .returned (.int .i64 (sn : Int)) ∧ w' = w := by
  obtain ⟨c0, c1, c2, c3⟩ := h.cells
  clear h
  go_enter Tryd.func27, Tryd.ntmps27
  go_wp2
  go_ret
  exact ⟨rfl, rfl⟩
end Go.Proofs.YtchenbogbmahaaaDoor
