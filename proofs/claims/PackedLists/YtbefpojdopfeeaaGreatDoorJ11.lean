/- Rows of cells in memory (package packed). -/
import Derived.Test.YtbefpojdopfeeaaGreatDoorJ10
import Derived.Test.YtbefpojdopfeeaaGreatDoorJ03
import Derived.Deep.MidRow
import Derived.Deep.Upon
import Derived.Laws.IdiomCopy
import Derived.Lib.SlBytesConst
import Derived.Test.YtbefpojdopfeeaaGreatDoorJ01
namespace Go.Proofs.YtbefpojdopfeeaaGreatDoor
open Go.RowKit

/-- A cell that lies in a row. -/
def CAt (w : World) (b off : Nat) (c : Cl) : Prop :=
  ∃ ka kc va vc, w.cell? ⟨b, off, none⟩ = some (.slice ka c.key.length kc) ∧ w.cell? ⟨b, off + 1, none⟩ = some (.int .i64 c.kd) ∧ w.cell? ⟨b, off + 2, none⟩ = some (.slice va c.val.length vc) ∧ w.cell? ⟨b, off + 3, none⟩ = some (.int .i64 c.pg) ∧ w.cell? ⟨b, off + 4, none⟩ = some (.int .i64 c.ct) ∧ Sl w ka c.key.length kc c.key ∧ Sl w va c.val.length vc c.val
/-- THE SLICE VALUE READS AS THE CELLS cs. -/
structure SlC (w : World) (ao : Option Addr) (n cap : Nat) (cs : List Cl) : Prop where
  hlen : cs.length = n
  hcap : n ≤ cap
  hroom : n ≤ 140737488355328
  hnil : ao = none → cap = 0
  hat : n = 0 ∨ ∃ b off, ao = some ⟨b, off, none⟩ ∧ b < w.heap.size ∧ ∀ i c, cs[i]? = some c → CAt w b (off + i * 5) c
set_option maxRecDepth 100000 in
theorem CAt.on {w w' : World} {b off : Nat} {c : Cl} (h : CAt w b off c) (hb : b < w.heap.size) (hB : Below w.heap.size w w') : CAt w' b off c := by
  obtain ⟨ka, kc, va, vc, h0, h1, h2, h3, h4, h5, h6⟩ := h
  exact ⟨ka, kc, va, vc, (hB.cell (p := ⟨b, off, none⟩) hb).trans h0, (hB.cell (p := ⟨b, off + 1, none⟩) hb).trans h1, (hB.cell (p := ⟨b, off + 2, none⟩) hb).trans h2, (hB.cell (p := ⟨b, off + 3, none⟩) hb).trans h3, (hB.cell (p := ⟨b, off + 4, none⟩) hb).trans h4, h5.on (Nat.le_refl _) hB, h6.on (Nat.le_refl _) hB⟩
set_option maxRecDepth 100000 in
theorem SlC.on {w w' : World} {ao : Option Addr} {n cap : Nat} {cs : List Cl} (h : SlC w ao n cap cs) (hB : Below w.heap.size w w') : SlC w' ao n cap cs := by
  refine ⟨h.hlen, h.hcap, h.hroom, h.hnil, ?_⟩
  rcases h.hat with h0 | ⟨b, off, e, hb, hc⟩
  · exact .inl h0
  · exact .inr ⟨b, off, e, Nat.lt_of_lt_of_le hb hB.size, fun i c hi => (hc i c hi).on hb hB⟩
set_option maxRecDepth 100000 in
theorem SlC.wf {w : World} {ao : Option Addr} {n cap : Nat} {cs : List Cl} (h : SlC w ao n cap cs) : ∀ c ∈ cs, c.Wf := by
  intro c hc
  obtain ⟨i, hi, e⟩ := List.getElem_of_mem hc
  rcases h.hat with h0 | ⟨b, off, _, _, hcs⟩
  · have := h.hlen; omega
  · obtain ⟨_, _, _, _, _, _, _, _, _, h5, h6⟩ := hcs i c (by rw [List.getElem?_eq_getElem hi, e])
    exact ⟨h5.wf, h6.wf⟩
/-- A block of so many cells. -/
def RowC (w : World) (b N : Nat) : Prop := ∃ cur : Array Value, w.heap[b]? = some (.cells cur 39 (0, 0)) ∧ cur.size = 5 * N
set_option maxRecDepth 100000 in
theorem RowC.cell {w : World} {b N : Nat} (h : RowC w b N) (j : Nat) (hj : j < 5 * N) : (w.cell? ⟨b, j, none⟩).isSome = true := by
  obtain ⟨cur, h1, h2⟩ := h
  simp [World.cell?, h1, h2, hj]
set_option maxRecDepth 100000 in
theorem RowC.free {w : World} {b N : Nat} (h : RowC w b N) (j : Nat) : w.frozen? ⟨b, j, none⟩ = false := by
  obtain ⟨cur, h1, h2⟩ := h
  simp [World.frozen?, h1]
set_option maxRecDepth 100000 in
theorem RowC.lt {w : World} {b N : Nat} (h : RowC w b N) : b < w.heap.size := by
  obtain ⟨cur, h1, _⟩ := h
  exact lt_some h1
set_option maxRecDepth 100000 in
theorem RowC.on {w w' : World} {b N : Nat} (h : RowC w b N) (hb : Below w.heap.size w w') : RowC w' b N := by
  obtain ⟨cur, h1, h2⟩ := h
  exact ⟨cur, box_on h1 hb, h2⟩
set_option maxRecDepth 100000 in
theorem RowC.set {w : World} {b N : Nat} (h : RowC w b N) (j : Nat) (v : Value) : RowC (w.setCell ⟨b, j, none⟩ v) b N := by
  obtain ⟨cur, h1, h2⟩ := h
  exact ⟨_, heap_setCell_same w b j cur _ v h1, by simp [h2]⟩
set_option maxRecDepth 100000 in
theorem RowC.sets {b N : Nat} : ∀ (vs : List Value) (j : Nat) (w : World), RowC w b N → RowC (w.setCells b j vs) b N
  | [], _, _, h => h
  | v :: r, j, _, h => RowC.sets r (j + 1) _ (h.set j v)
set_option maxRecDepth 100000 in
theorem RowC.there {w : World} {b N : Nat} (h : RowC w b N) {j : Nat} (hj : j + 5 ≤ 5 * N) : w.there b j 5 := fun i hi => ⟨h.cell (j + i) (by omega), h.free _⟩
set_option maxRecDepth 100000 in
theorem RowC.ne {w : World} {b N g : Nat} {l : List Int} (h : RowC w b N) (hk : Bk w g l) : ¬ g = b := by
  rintro rfl
  obtain ⟨cur, h1, _⟩ := h
  unfold Bk at hk
  rw [hk] at h1
  simp at h1
set_option maxRecDepth 100000 in
theorem oneCell5 (ka va : Option Addr) (kn kc vn vc : Nat) (kd pg ct : Int) : (#[.slice ka kn kc, .int .i64 kd, .slice va vn vc, .int .i64 pg, .int .i64 ct] : Array Value).all (·.oneCell') = true :=
  all_oneCell_toArray (cs := [.slice ka kn kc, .int .i64 kd, .slice va vn vc, .int .i64 pg, .int .i64 ct]) (by simp [Value.oneCell'])
set_option maxRecDepth 100000 in
/-- The store of a cell into a row. -/
theorem put_cell {ops : Array Oper} {rest : List Oper} {o : Oper} {a : Act} {w : World} {Q : Exit → Act → World → Prop} (hgd : o.guard = none) (p v : Operand)
    (ho : o.op = .store 39 p v) (b j N : Nat) (ka va : Option Addr) (kn kc vn vc : Nat) (kd pg ct : Int) (hr : RowC w b N) (hp : a.eval p = .pointer (some ⟨b, j, none⟩)) (hv : a.eval v = .agg #[.slice ka kn kc, .int .i64 kd, .slice va vn vc, .int .i64 pg, .int .i64 ct]) (hj : j + 5 ≤ 5 * N)
    (h : ∀ u, Hid (u = w.setCells b j [.slice ka kn kc, .int .i64 kd, .slice va vn vc, .int .i64 pg, .int .i64 ct]) → wpList Tryz.prog ops Q rest (a.put o.dst undef) u) : wpList Tryz.prog ops Q (o :: rest) a w :=
  wpList_store_mid hgd _ p v ho b j #[.slice ka kn kc, .int .i64 kd, .slice va vn vc, .int .i64 pg, .int .i64 ct] hp hv (hr.there hj) sizeCell (oneCell5 ..) (h _ (hidden rfl))
/-- A cell of one's own in a row. -/
def DAt (w : World) (B b off : Nat) (c : Cl) : Prop :=
  ∃ g1 g2, w.cell? ⟨b, off, none⟩ = some (.slice (some ⟨g1, 0, none⟩) c.key.length c.key.length) ∧ w.cell? ⟨b, off + 1, none⟩ = some (.int .i64 c.kd) ∧ w.cell? ⟨b, off + 2, none⟩ = some (.slice (some ⟨g2, 0, none⟩) c.val.length c.val.length) ∧ w.cell? ⟨b, off + 3, none⟩ = some (.int .i64 c.pg) ∧ w.cell? ⟨b, off + 4, none⟩ = some (.int .i64 c.ct) ∧ Bk w g1 c.key ∧ Bk w g2 c.val ∧ B ≤ g1 ∧ B ≤ g2
set_option maxRecDepth 100000 in
theorem DAt.on {w w' : World} {B b off : Nat} {c : Cl} (h : DAt w B b off c) (hb : b < w.heap.size) (hB : Below w.heap.size w w') : DAt w' B b off c := by
  obtain ⟨g1, g2, h0, h1, h2, h3, h4, h5, h6, h7⟩ := h
  exact ⟨g1, g2, (hB.cell (p := ⟨b, off, none⟩) hb).trans h0, (hB.cell (p := ⟨b, off + 1, none⟩) hb).trans h1, (hB.cell (p := ⟨b, off + 2, none⟩) hb).trans h2, (hB.cell (p := ⟨b, off + 3, none⟩) hb).trans h3, (hB.cell (p := ⟨b, off + 4, none⟩) hb).trans h4, h5.on hB, h6.on hB, h7⟩
set_option maxRecDepth 100000 in
theorem Bk.sets {w : World} {g b j : Nat} {l : List Int} {vs : List Value} (h : Bk w g l) (hg : ¬ g = b) : Bk (w.setCells b j vs) g l := (World.heap_setCells_other _ _ _ _ (lt_some h) (by omega)).trans h
set_option maxRecDepth 100000 in
theorem DAt.put {w : World} {B b N i j : Nat} {c : Cl} {vs : List Value} (h : DAt w B b (i * 5) c) (hr : RowC w b N) (hij : i < j) : DAt (w.setCells b (j * 5) vs) B b (i * 5) c := by
  obtain ⟨g1, g2, h0, h1, h2, h3, h4, h5, h6, h7⟩ := h
  have ho : ∀ d, d < 5 → (w.setCells b (j * 5) vs).cell? ⟨b, i * 5 + d, none⟩ = w.cell? ⟨b, i * 5 + d, none⟩ := fun d hd => World.cell?_setCells_out b _ _ w _ (fun _ _ => .inl (by simp only; omega))
  exact ⟨g1, g2, (ho 0 (by omega)).trans h0, (ho 1 (by omega)).trans h1, (ho 2 (by omega)).trans h2, (ho 3 (by omega)).trans h3, (ho 4 (by omega)).trans h4, h5.sets (hr.ne h5), h6.sets (hr.ne h6), h7⟩
set_option maxRecDepth 100000 in
theorem DAt.new {w : World} {B b N j : Nat} {c : Cl} {g1 g2 : Nat} (hr : RowC w b N) (hj : j * 5 + 5 ≤ 5 * N) (h1 : Bk w g1 c.key) (h2 : Bk w g2 c.val) (h3 : B ≤ g1) (h4 : B ≤ g2) :
    DAt (w.setCells b (j * 5) [.slice (some ⟨g1, 0, none⟩) c.key.length c.key.length, .int .i64 c.kd, .slice (some ⟨g2, 0, none⟩) c.val.length c.val.length, .int .i64 c.pg, .int .i64 c.ct]) B b (j * 5) c := by
  have h := World.rangeAt_setCells_same w b (j * 5) [.slice (some ⟨g1, 0, none⟩) c.key.length c.key.length, .int .i64 c.kd, .slice (some ⟨g2, 0, none⟩) c.val.length c.val.length, .int .i64 c.pg, .int .i64 c.ct] (hr.there hj)
  exact ⟨g1, g2, h 0 _ rfl, h 1 _ rfl, h 2 _ rfl, h 3 _ rfl, h 4 _ rfl, h1.sets (hr.ne h1), h2.sets (hr.ne h2), h3, h4⟩
set_option maxRecDepth 100000 in
theorem DAt.cat {w : World} {B b off : Nat} {c : Cl} (h : DAt w B b off c) (hw : c.Wf) (h1 : c.key.length ≤ 140737488355328) (h2 : c.val.length ≤ 140737488355328) : CAt w b off c := by
  obtain ⟨g1, g2, e0, e1, e2, e3, e4, e5, e6, _⟩ := h
  exact ⟨_, _, _, _, e0, e1, e2, e3, e4, e5.sl rfl hw.1 h1, e6.sl rfl hw.2 h2⟩
set_option maxRecDepth 100000 in
theorem infoC : (Tryz.prog.info? 39).map (fun i => (i.zero, i.size, i.bytes)) = some (some (.agg #[.slice none 0 0, .int .i64 0, .slice none 0 0, .int .i64 0, .int .i64 0]), 5, 72) := by kernel_rfl
set_option maxRecDepth 100000 in
/-- A cell of a slice of cells. -/
theorem SlC.item {w : World} {ao : Option Addr} {n cap : Nat} {cs : List Cl} (h : SlC w ao n cap cs) (i : Nat) (hi : i < n) : ∃ b off c ka kc va vc, ao = some ⟨b, off, none⟩ ∧ b < w.heap.size ∧ cs[i]? = some c ∧
    w.cell? ⟨b, off + i * 5, none⟩ = some (.slice ka c.key.length kc) ∧ w.cell? ⟨b, off + i * 5 + 1, none⟩ = some (.int .i64 c.kd) ∧ w.cell? ⟨b, off + i * 5 + 2, none⟩ = some (.slice va c.val.length vc) ∧ w.cell? ⟨b, off + i * 5 + 3, none⟩ = some (.int .i64 c.pg) ∧ w.cell? ⟨b, off + i * 5 + 4, none⟩ = some (.int .i64 c.ct) ∧ Sl w ka c.key.length kc c.key ∧ Sl w va c.val.length vc c.val := by
  have hl := h.hlen
  rcases h.hat with h0 | ⟨b, off, e, hb, hc⟩
  · omega
  · obtain ⟨c, hci⟩ : ∃ c, cs[i]? = some c := ⟨_, List.getElem?_eq_getElem (by omega)⟩
    obtain ⟨ka, kc, va, vc, h0⟩ := hc i c hci
    exact ⟨b, off, c, ka, kc, va, vc, e, hb, hci, h0⟩
set_option maxRecDepth 100000 in
theorem conv6H (w : World) (C : Array Value) (n c H : Nat) (hH : w.heap.size = H) : (convert 37 37 (.slice (some ⟨H, 0, none⟩) n c)).run Tryz.prog (w.alloc (.cells C 5)) = .ok (.slice (some ⟨H, 0, none⟩) n c) (w.alloc (.cells C 5 (C.size, C.size + 1))) := by
  subst hH
  exact Lib.run_convert_bytes_const (P := Tryz.prog) w 37 5 C n c Tryz.underlying37 Tryz.underlying5
/-- Values that are cells. -/
def Row5 (w : World) : List Value → List Cl → Prop
  | vs, [] => vs = []
  | vs, c :: r => ∃ ka kc va vc t, vs = .slice ka c.key.length kc :: .int .i64 c.kd :: .slice va c.val.length vc :: .int .i64 c.pg :: .int .i64 c.ct :: t ∧ Sl w ka c.key.length kc c.key ∧ Sl w va c.val.length vc c.val ∧ Row5 w t r
set_option maxRecDepth 100000 in
theorem Row5.append {w : World} {us : List Value} {ds : List Cl} (g : Row5 w us ds) : ∀ {vs : List Value} {cs : List Cl}, Row5 w vs cs → Row5 w (vs ++ us) (cs ++ ds)
  | vs, [], h => by
    unfold Row5 at h
    subst h
    exact g
  | vs, c :: r, h => by
    obtain ⟨ka, kc, va, vc, t, rfl, h1, h2, h3⟩ := h
    exact ⟨ka, kc, va, vc, t ++ us, rfl, h1, h2, Row5.append g h3⟩
set_option maxRecDepth 100000 in
theorem Row5.len {w : World} : ∀ {vs : List Value} {cs : List Cl}, Row5 w vs cs → vs.length = cs.length * 5
  | vs, [], h => by
    unfold Row5 at h
    subst h
    rfl
  | vs, c :: r, h => by
    obtain ⟨ka, kc, va, vc, t, rfl, h1, h2, h3⟩ := h
    have := h3.len
    simp only [List.length_cons]
    omega
set_option maxRecDepth 100000 in
theorem Row5.one {w : World} : ∀ {vs : List Value} {cs : List Cl}, Row5 w vs cs → ∀ u ∈ vs, u.oneCell' = true
  | vs, [], h, u, hu => by
    unfold Row5 at h
    subst h
    cases hu
  | vs, c :: r, h, u, hu => by
    obtain ⟨ka, kc, va, vc, t, rfl, h1, h2, h3⟩ := h
    simp only [List.mem_cons] at hu
    rcases hu with rfl | rfl | rfl | rfl | rfl | hu
    · rfl
    · rfl
    · rfl
    · rfl
    · rfl
    · exact h3.one u hu
set_option maxRecDepth 100000 in
theorem Row5.cat {w w' : World} {b : Nat} (hB : Below w.heap.size w w') : ∀ {vs : List Value} {cs : List Cl} (off : Nat), Row5 w vs cs → (∀ j u, vs[j]? = some u → w'.cell? ⟨b, off + j, none⟩ = some u) → ∀ i c, cs[i]? = some c → CAt w' b (off + i * 5) c
  | vs, [], off, h, hc, i, c, hi => by simp at hi
  | vs, d :: r, off, h, hc, 0, c, hi => by
    obtain ⟨ka, kc, va, vc, t, rfl, h1, h2, h3⟩ := h
    simp at hi
    subst hi
    exact ⟨ka, kc, va, vc, hc 0 _ rfl, hc 1 _ rfl, hc 2 _ rfl, hc 3 _ rfl, hc 4 _ rfl, h1.on (Nat.le_refl _) hB, h2.on (Nat.le_refl _) hB⟩
  | vs, d :: r, off, h, hc, i + 1, c, hi => by
    obtain ⟨ka, kc, va, vc, t, rfl, h1, h2, h3⟩ := h
    have := Row5.cat hB (off + 5) h3 (fun j u hu => by
      have := hc (j + 5) u (by simpa using hu)
      rwa [show off + (j + 5) = off + 5 + j by omega] at this) i c (by simpa using hi)
    rwa [show off + 5 + i * 5 = off + (i + 1) * 5 by omega] at this
set_option maxRecDepth 100000 in
theorem row5_of {w : World} {b : Nat} : ∀ (cs : List Cl) (off : Nat), (∀ i c, cs[i]? = some c → CAt w b (off + i * 5) c) → ∃ vs, Row5 w vs cs ∧ ∀ j u, vs[j]? = some u → w.cell? ⟨b, off + j, none⟩ = some u
  | [], off, _ => ⟨[], rfl, fun j u hu => by simp at hu⟩
  | c :: r, off, h => by
    obtain ⟨t, h1, h2⟩ := row5_of r (off + 5) fun i d hd => by
      have := h (i + 1) d (by simpa using hd)
      rwa [show off + (i + 1) * 5 = off + 5 + i * 5 by omega] at this
    obtain ⟨ka, kc, va, vc, c0, c1, c2, c3, c4, hk, hv⟩ := h 0 c rfl
    refine ⟨_, ⟨ka, kc, va, vc, t, rfl, hk, hv, h1⟩, fun j u hu => ?_⟩
    match j, hu with
    | 0, hu => simp at hu; subst hu; simpa using c0
    | 1, hu => simp at hu; subst hu; simpa using c1
    | 2, hu => simp at hu; subst hu; simpa using c2
    | 3, hu => simp at hu; subst hu; simpa using c3
    | 4, hu => simp at hu; subst hu; simpa using c4
    | j + 5, hu =>
      have := h2 j u (by simpa using hu)
      rwa [show off + 5 + j = off + (j + 5) by omega] at this
/-- THE SLICE VALUE v OWNS THE CELLS cs; their keys and values are w0's. -/
def OwnK (w0 w : World) (v : Value) (cs : List Cl) : Prop := ∃ vs, w.ownsRow w0.heap.size 39 5 v cs.length vs ∧ Row5 w0 vs cs
set_option maxRecDepth 100000 in
theorem OwnK.nil (w0 w : World) : OwnK w0 w (.slice none 0 0) [] := ⟨[], World.ownsRow_nil _ _ _ _, rfl⟩
set_option maxRecDepth 100000 in
theorem OwnK.go {w0 w w' : World} {v : Value} {cs : List Cl} (h : OwnK w0 w v cs) (hb : Below w.heap.size w w') : OwnK w0 w' v cs := by
  obtain ⟨vs, h1, h2⟩ := h
  refine ⟨vs, World.ownsRow.kept (row := none) h1 ⟨hb.os, hb.tape, hb.output, hb.size, fun k hk _ => hb.block k hk⟩ ?_, h2⟩
  cases hv : v.ownBlock with
  | none => exact .inl rfl
  | some k => exact .inr (by simp)
set_option maxRecDepth 100000 in
theorem OwnK.slc {w0 w : World} {v : Value} {cs : List Cl} (h : OwnK w0 w v cs) (hb : Below w0.heap.size w0 w) (hl : cs.length ≤ 1000) : ∃ ao cap, v = .slice ao cs.length cap ∧ SlC w ao cs.length cap cs := by
  obtain ⟨vs, h1, h2⟩ := h
  rcases h1.2 with ⟨rfl, h0⟩ | ⟨g, cap, cur, rfl, hg, hh, hnc, hm, hs, ht⟩
  · rw [h0]
    exact ⟨none, 0, rfl, ⟨h0, Nat.le_refl _, by omega, fun _ => rfl, .inl rfl⟩⟩
  · refine ⟨_, cap, rfl, ⟨rfl, hnc, by omega, (by intro h; cases h), .inr ⟨g, 0, rfl, lt_some hh, ?_⟩⟩⟩
    exact Row5.cat hb 0 h2 (fun j u hu => by
      have := World.ownsRow.cells h1 (g := g) rfl j u hu
      simpa [Addr.add_lit] using this)
set_option maxRecDepth 100000 in
/-- A piece of a slice of cells. -/
theorem SlC.piece {w : World} {b off n cap : Nat} {cs : List Cl} (h : SlC w (some ⟨b, off, none⟩) n cap cs) (i k c : Nat) (hk : i + k ≤ n) (hc : k ≤ c) : SlC w (some ⟨b, off + i * 5, none⟩) k c ((cs.drop i).take k) := by
  have hl := h.hlen
  refine ⟨by rw [List.length_take, List.length_drop]; omega, hc, by have := h.hroom; omega, (by intro h; cases h), ?_⟩
  rcases h.hat with h0 | ⟨b', off', e, hb, hcs⟩
  · exact .inl (by omega)
  · injection e with e
    injection e with e1 e2
    subst e1 e2
    refine .inr ⟨b, off + i * 5, rfl, hb, fun j c hj => ?_⟩
    have hjl := (List.getElem?_eq_some_iff.1 hj).1
    rw [List.length_take, List.length_drop] at hjl
    rw [List.getElem?_take_of_lt (by omega), List.getElem?_drop] at hj
    have := hcs (i + j) c hj
    rwa [show off + (i + j) * 5 = off + i * 5 + j * 5 by omega] at this
set_option maxRecDepth 100000 in
/-- What a slice of cells is made of. -/
theorem SlC.src {w0 : World} {b off n cap : Nat} {cs : List Cl} (h : SlC w0 (some ⟨b, off, none⟩) n cap cs) {w : World} (hb : Below w0.heap.size w0 w) : ∃ us, Row5 w0 us cs ∧ ∀ j u, us[j]? = some u → w.cell? ⟨b, off + j, none⟩ = some u := by
  rcases h.hat with h0 | ⟨b', off', e, hlt, hcs⟩
  · obtain rfl : cs = [] := List.eq_nil_of_length_eq_zero (by rw [h.hlen, h0])
    exact ⟨[], rfl, fun j u hu => by simp at hu⟩
  · injection e with e
    injection e with e1 e2
    subst e1 e2
    obtain ⟨us, h1, h2⟩ := row5_of cs off hcs
    exact ⟨us, h1, fun j u hu => (hb.cell (p := ⟨b, off + j, none⟩) hlt).trans (h2 j u hu)⟩
end Go.Proofs.YtbefpojdopfeeaaGreatDoor

/- ink.Common, of any number of texts. -/

namespace Go.Proofs.YtbefpojdopfeeaaGreatDoor
open Go.RowKit

/-- What Common comes to. -/
def cmN : List (List Int) → Nat
  | [] => 0
  | t :: r => r.foldl (fun n x => lcp (t.take n) x) t.length
set_option maxRecDepth 100000 in
set_option maxHeartbeats 1000000 in
theorem common_any (ao : Option Addr) (n cap : Nat) (t : List Int) (ls : List (List Int)) (w : World) (hs : SlS w ao n cap (t :: ls)) :
    Calls Tryz.prog 91 #[.slice ao n cap] w fun e w' => e = .returned (.int .i64 (cmN (t :: ls))) ∧ ∃ q, w' = w.drewN q := by
  obtain ⟨hlen, hcap, hroom, hnil, hat⟩ := hs
  obtain ⟨N, rfl⟩ : ∃ N, n = N + 1 := ⟨n - 1, by simp at hlen; omega⟩
  have hlen' : ls.length = N := by simpa using hlen
  clear hlen
  rcases hat with h | ⟨b, off, rfl, hbb, hc⟩
  · omega
  obtain ⟨a0, m0, c0, hck0, hsl0⟩ := hc 0 (by omega)
  simp only [Nat.add_zero, List.getD_cons_zero] at hck0 hsl0
  have hm0 := hsl0.hlen
  have hr0 := hsl0.hroom
  have hcc0 := hsl0.hcap
  have HS0 := hidden hsl0
  have HC := hidden hc
  clear hsl0 hc
  show Calls Tryz.prog 91 #[.slice (some ⟨b, off, none⟩) (N + 1) cap] w fun e w' => e = .returned (.int .i64 ((ls.foldl (fun n x => lcp (t.take n) x) t.length : Nat) : Int)) ∧ ∃ q, w' = w.drewN q
  rw [hm0]
  generalize hF : ls.foldl (fun n x => lcp (t.take n) x) m0 = F
  have HF := hidden hF
  clear hF
  have hc1 : ((N : Int) + 1 == 0) = false := by simp; omega
  by_cases hcap1 : cap = 1
  · obtain rfl : N = 0 := by omega
    obtain rfl : ls = [] := List.eq_nil_of_length_eq_zero hlen'
    have e : m0 = F := HF.out
    subst e
    clear HF HC
    go_enter Tryz.func91, Tryz.ntmps91
    go_wp2_with fail
    refine wp_loop_rounds 1 ?_
    rw [rounds_succ]
    go_wp2
    go_ret
    exact ⟨rfl, 0, rfl⟩
  · go_enter Tryz.func91, Tryz.ntmps91
    go_wp2_with fail
    go_loopw [3, 16] (fun v i wr => ∃ (k q y : Nat), k ≤ N ∧ y ≤ m0 ∧ i = .int .i64 k ∧ v = .int .i64 y ∧ Hid ((ls.drop k).foldl (fun n x => lcp (t.take n) x) y = F) ∧ wr = w.drewN q) (fun _ i _ => N - (intOf i).toNat)
    case atStart => exact ⟨0, 0, m0, by omega, by omega, rfl, rfl, HF, rfl⟩
    case round =>
      obtain ⟨k, q, y, hk, hy, rfl, rfl, HK, rfl⟩ := hrel
      clear HF
      by_cases hlt : k < N
      · obtain ⟨a, m, c, hck, hsl⟩ := HC.out (k + 1) (by omega)
        have hck' : w.cell? ⟨b, off + 1 + k, none⟩ = some (.slice a m c) := by rw [show off + 1 + k = off + (k + 1) by omega]; exact hck
        rw [show (t :: ls).getD (k + 1) [] = ls.getD k [] by simp [List.getD]] at hsl
        have e := HK.out
        rw [dropS ls k (by omega), List.foldl_cons] at e
        have hle := (lcp_le (t.take y) (ls.getD k [])).1
        have hty : (t.take y).length ≤ y := by simp; omega
        have hal2 := alike_any a0 a y m c0 c (t.take y) (ls.getD k []) (w.drewN q) ((HS0.out.take y hy).drewN q) (hsl.drewN q)
        generalize lcp (t.take y) (ls.getD k []) = y2 at *
        have HE := hidden e
        have HA := hidden hal2
        clear hal2 e HK hck
        go_wp2_with fail
        refine quiet_call' HA.out ?_
        intro q2
        go_wp2
        go_roundw
        case rel => exact ⟨k + 1, _, y2, by omega, by omega, by go_num, rfl, HE, rfl⟩
        case measure => simp [intOf]; omega
      · have e : y = F := by rw [← HK.out, List.drop_eq_nil_of_le (by omega)]; rfl
        have HE := hidden e
        clear e HK
        go_wp2
        go_ret
        exact ⟨ret_int (by rw [HE.out]), _, rfl⟩
end Go.Proofs.YtbefpojdopfeeaaGreatDoor
