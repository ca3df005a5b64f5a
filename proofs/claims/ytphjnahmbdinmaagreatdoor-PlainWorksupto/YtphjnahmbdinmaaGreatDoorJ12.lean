/- plain.copied: a cell in memory of its own. -/
import Derived.Test.YtphjnahmbdinmaaGreatDoorJ11
import Derived.Deep.MidRow
import Derived.Deep.Upon
import Derived.Laws.IdiomCopy
namespace Go.Proofs.YtphjnahmbdinmaaGreatDoor
open Go.RowKit

/-- What copied comes to. -/
def CopTo (key val : List Int) (kn : Nat) (kd : Int) (vn : Nat) (pg ct : Int) (w : World) (e : Ending) (w' : World) : Prop :=
  ∃ g1 g2, e = .returned (.agg #[.slice (some ⟨g1, 0, none⟩) kn kn, .int .i64 kd, .slice (some ⟨g2, 0, none⟩) vn vn, .int .i64 pg, .int .i64 ct]) ∧ Hid (Bk w' g1 key ∧ Bk w' g2 val ∧ w.heap.size ≤ g1 ∧ w.heap.size ≤ g2 ∧ g1 ≠ g2) ∧ Hid (Below w.heap.size w w')
set_option maxRecDepth 100000 in
theorem Bk.apart5 {w : World} {g h : Nat} {l : List Int} {x0 x1 x2 x3 x4 : Value} (hb : Bk w g l) (hc : C5 w h x0 x1 x2 x3 x4) : ¬ g = h := by
  rintro rfl
  unfold Bk at hb
  unfold C5 at hc
  rw [hb] at hc
  simp at hc

set_option maxRecDepth 100000 in
set_option maxHeartbeats 1000000 in
theorem copied_any (ka : Option Addr) (kn kc : Nat) (kd : Int) (va : Option Addr) (vn vc : Nat) (pg ct : Int) (key val : List Int) (w : World) (hk : Sl w ka kn kc key) (hv : Sl w va vn vc val) :
    Calls Tryz.prog 44 #[.agg #[.slice ka kn kc, .int .i64 kd, .slice va vn vc, .int .i64 pg, .int .i64 ct]] w fun e w' => CopTo key val kn kd vn pg ct w e w' := by
  obtain ⟨s, hs⟩ : ∃ s, w.heap.size = s := ⟨_, rfl⟩
  obtain ⟨x, hx⟩ : ∃ x, (w.alloc (.cells #[.slice ka kn kc, .int .i64 kd, .slice va vn vc, .int .i64 pg, .int .i64 ct] 40)).alloc (.cells #[.slice none 0 0, .int .i64 0, .slice none 0 0, .int .i64 0, .int .i64 0] 40) = x := ⟨_, rfl⟩
  have hbx : Below w.heap.size w x := by rw [← hx]; exact bl_al (bl_al (Below.refl _ _) (Nat.le_refl _) _) (Nat.le_refl _) _
  have HBOX : Hid (C5 x s (.slice ka kn kc) (.int .i64 kd) (.slice va vn vc) (.int .i64 pg) (.int .i64 ct)) := by
    rw [← hx, ← hs]
    exact hidden ((Below.heap_alloc _ _ _ (by simp)).trans (heap_alloc_last w _))
  have HRES : Hid (C5 x (s + 1) (.slice none 0 0) (.int .i64 0) (.slice none 0 0) (.int .i64 0) (.int .i64 0)) := by
    rw [← hx, ← hs]
    have hz : (w.alloc (.cells #[.slice ka kn kc, .int .i64 kd, .slice va vn vc, .int .i64 pg, .int .i64 ct] 40)).heap.size = w.heap.size + 1 := by simp
    have := heap_alloc_last (w.alloc (.cells #[.slice ka kn kc, .int .i64 kd, .slice va vn vc, .int .i64 pg, .int .i64 ct] 40)) (.cells #[.slice none 0 0, .int .i64 0, .slice none 0 0, .int .i64 0, .int .i64 0] 40)
    rw [hz] at this
    exact hidden this
  have HK := hidden (hk.on (Nat.le_refl _) hbx)
  have HV := hidden (hv.on (Nat.le_refl _) hbx)
  have HBX := hidden hbx
  have hxs : x.heap.size = s + 2 := by rw [← hx, ← hs]; simp
  have HXS := hidden hxs
  have C1 : Hid (∀ u, Below x.heap.size x u → Calls Tryz.prog 73 #[.slice ka kn kc] u fun e u' => ∃ g, e = .returned (.slice (some ⟨g, 0, none⟩) kn kn) ∧ Hid (Bk u' g key ∧ x.heap.size ≤ g) ∧ Hid (Below x.heap.size x u') ∧ (u'.cell? ⟨s, 0, none⟩ = some (.slice ka kn kc) ∧ u'.cell? ⟨s, 1, none⟩ = some (.int .i64 kd) ∧ u'.cell? ⟨s, 2, none⟩ = some (.slice va vn vc) ∧ u'.cell? ⟨s, 3, none⟩ = some (.int .i64 pg) ∧ u'.cell? ⟨s, 4, none⟩ = some (.int .i64 ct))) := by
    refine hidden fun u hu => (copiedBytes_any ka kn kc key u (HK.out.on (Nat.le_refl _) hu)).mono ?_
    rintro e u' ⟨rfl, hb, hbe⟩
    have hb2 := bl_go hu (Nat.le_refl _) hbe.out
    exact ⟨u.heap.size, rfl, hidden ⟨hb.out, hu.size⟩, hidden hb2, (show C5 u' s (.slice ka kn kc) (.int .i64 kd) (.slice va vn vc) (.int .i64 pg) (.int .i64 ct) from box_on HBOX.out hb2).cells⟩
  have C2 : Hid (∀ u g1, Hid (Bk u g1 key ∧ x.heap.size ≤ g1) → Hid (Below x.heap.size x u) → Calls Tryz.prog 73 #[.slice va vn vc] u fun e u' => ∃ g, e = .returned (.slice (some ⟨g, 0, none⟩) vn vn) ∧ Hid (Bk u' g val ∧ Bk u' g1 key ∧ x.heap.size ≤ g ∧ x.heap.size ≤ g1 ∧ g1 ≠ g) ∧ Hid (Below x.heap.size x u') ∧ (u'.cell? ⟨s, 0, none⟩ = some (.slice ka kn kc) ∧ u'.cell? ⟨s, 1, none⟩ = some (.int .i64 kd) ∧ u'.cell? ⟨s, 2, none⟩ = some (.slice va vn vc) ∧ u'.cell? ⟨s, 3, none⟩ = some (.int .i64 pg) ∧ u'.cell? ⟨s, 4, none⟩ = some (.int .i64 ct)) ∧ (u'.frozen? ⟨s, 0, none⟩ = false ∧ u'.frozen? ⟨s, 1, none⟩ = false ∧ u'.frozen? ⟨s, 2, none⟩ = false ∧ u'.frozen? ⟨s, 3, none⟩ = false ∧ u'.frozen? ⟨s, 4, none⟩ = false)) := by
    refine hidden fun u g1 hg hu => (copiedBytes_any va vn vc val u (HV.out.on (Nat.le_refl _) hu.out)).mono ?_
    rintro e u' ⟨rfl, hb, hbe⟩
    have hb2 := bl_go hu.out (Nat.le_refl _) hbe.out
    have h5 : C5 u' s (.slice ka kn kc) (.int .i64 kd) (.slice va vn vc) (.int .i64 pg) (.int .i64 ct) := box_on HBOX.out hb2
    exact ⟨u.heap.size, rfl, hidden ⟨hb.out, hg.out.1.on hbe.out, hu.out.size, hg.out.2, Nat.ne_of_lt (lt_some hg.out.1)⟩, hidden hb2, h5.cells, h5.free⟩
  obtain ⟨c0, c1, c2, c3, c4⟩ := HBOX.out.cells
  clear hk hv hbx hxs
  go_enter Tryz.func44, Tryz.ntmps44
  go_wp2_with fail
  go_region_law (first
    | (go_simp; go_at_call 73; refine (C2.out _ g1 HG1 HB1).mono ?_; rintro e u2 ⟨g2, rfl, HG2, HB2, ⟨z0, z1, z2, z3, z4⟩, f0, f1, f2, f3, f4⟩)
    | (go_simp; go_at_call 73; refine (C1.out _ (by first | exact Below.refl _ _ | exact (Below.refl _ _).drew | exact bl_dr (Below.refl _ _) _)).mono ?_; rintro e u1 ⟨g1, rfl, HG1, HB1, y0, y1, y2, y3, y4⟩))
  all_goals
    obtain ⟨y, hy⟩ : ∃ y, (u2.setCell ⟨s, 0, none⟩ (.slice (some ⟨g1, 0, none⟩) kn kn)).setCell ⟨s, 2, none⟩ (.slice (some ⟨g2, 0, none⟩) vn vn) = y := ⟨_, rfl⟩
    have hbox2 : C5 u2 s (.slice ka kn kc) (.int .i64 kd) (.slice va vn vc) (.int .i64 pg) (.int .i64 ct) := box_on HBOX.out HB2.out
    have hres2 : C5 u2 (s + 1) (.slice none 0 0) (.int .i64 0) (.slice none 0 0) (.int .i64 0) (.int .i64 0) := box_on HRES.out HB2.out
    have hcy : Cf (· = s) u2 y := by rw [← hy]; exact (Cf.set _ _ _ _).go (Cf.set _ _ _ _)
    have HBY : Hid (C5 y s (.slice (some ⟨g1, 0, none⟩) kn kn) (.int .i64 kd) (.slice (some ⟨g2, 0, none⟩) vn vn) (.int .i64 pg) (.int .i64 ct)) := by
      rw [← hy]
      exact hidden ((hbox2.set _).1.set _).2.2.1
    have HRY : Hid (C5 y (s + 1) (.slice none 0 0) (.int .i64 0) (.slice none 0 0) (.int .i64 0) (.int .i64 0)) := hidden (hres2.cf hcy (by omega))
    have HG1Y : Hid (Bk y g1 key) := hidden (HG2.out.2.1.cf hcy (HG2.out.2.1.apart5 hbox2))
    have HG2Y : Hid (Bk y g2 val) := hidden (HG2.out.1.cf hcy (HG2.out.1.apart5 hbox2))
    have HBEY : Hid (Below w.heap.size w y) := hidden ((HBX.out.trans (HB2.out.mono (HBX.out.size))).trans (hcy.below (Nat.le_trans HBX.out.size HB2.out.size) (by intro i hi e; omega)))
    rw [hy]
    clear hy hcy hbox2 hres2 y0 y1 y2 y3 y4 z0 z1 z2 z3 z4 f0 f1 f2 f3 f4 c0 c1 c2 c3 c4
    obtain ⟨c0, c1, c2, c3, c4⟩ := HBY.out.cells
    obtain ⟨b0, b1, b2, b3, b4⟩ := HRY.out.cells
    obtain ⟨f0, f1, f2, f3, f4⟩ := HRY.out.free
    go_wp2
    refine bodyPost_ret (results_cell_row rfl _ _ (s + 1) 40 #[.slice (some ⟨g1, 0, none⟩) kn kn, .int .i64 kd, .slice (some ⟨g2, 0, none⟩) vn vn, .int .i64 pg, .int .i64 ct] (0, 0) _ (by rfl) (HRY.out.put _ _ _ _ _) Tryz.underlying40 rfl sizeCell) rfl ?_
    have hf := put5_cf y (s + 1) (.slice (some ⟨g1, 0, none⟩) kn kn) (.int .i64 kd) (.slice (some ⟨g2, 0, none⟩) vn vn) (.int .i64 pg) (.int .i64 ct)
    obtain ⟨_, _, q3, q4, q5⟩ := HG2.out
    have := HXS.out
    exact ⟨g1, g2, rfl, hidden ⟨HG1Y.out.cf hf (HG1Y.out.apart5 HRY.out), HG2Y.out.cf hf (HG2Y.out.apart5 HRY.out), by omega, by omega, q5⟩, hidden (HBEY.out.trans (hf.below HBEY.out.size (by intro i hi e; omega)))⟩
end Go.Proofs.YtphjnahmbdinmaaGreatDoor

/- Rows of cells in memory; plain.Decode. -/

namespace Go.Proofs.YtphjnahmbdinmaaGreatDoor
open Go.RowKit

/-- A cell that lies in a row. -/
def CAt (w : World) (b off : Nat) (c : Cl) : Prop :=
  ∃ ka kc va vc, w.cell? ⟨b, off, none⟩ = some (.slice ka c.key.length kc) ∧ w.cell? ⟨b, off + 1, none⟩ = some (.int .i64 c.kd) ∧ w.cell? ⟨b, off + 2, none⟩ = some (.slice va c.val.length vc) ∧ w.cell? ⟨b, off + 3, none⟩ = some (.int .i64 c.pg) ∧ w.cell? ⟨b, off + 4, none⟩ = some (.int .i64 c.ct) ∧ Sl w ka c.key.length kc c.key ∧ Sl w va c.val.length vc c.val
/-- THE SLICE VALUE READS AS THE CELLS cs. -/
structure SlC (w : World) (ao : Option Addr) (n cap : Nat) (cs : List Cl) : Prop where
  hlen : cs.length = n
  hcap : n ≤ cap
  hroom : n ≤ 140737488355328
  hnil : ao = none → cap = 0
  hat : n = 0 ∨ ∃ b off, ao = some ⟨b, off, none⟩ ∧ b < w.heap.size ∧ ∀ i c, cs[i]? = some c → CAt w b (off + i * 5) c
set_option maxRecDepth 100000 in
theorem CAt.on {w w' : World} {b off : Nat} {c : Cl} (h : CAt w b off c) (hb : b < w.heap.size) (hB : Below w.heap.size w w') : CAt w' b off c := by
  obtain ⟨ka, kc, va, vc, h0, h1, h2, h3, h4, h5, h6⟩ := h
  exact ⟨ka, kc, va, vc, (hB.cell (p := ⟨b, off, none⟩) hb).trans h0, (hB.cell (p := ⟨b, off + 1, none⟩) hb).trans h1, (hB.cell (p := ⟨b, off + 2, none⟩) hb).trans h2, (hB.cell (p := ⟨b, off + 3, none⟩) hb).trans h3, (hB.cell (p := ⟨b, off + 4, none⟩) hb).trans h4, h5.on (Nat.le_refl _) hB, h6.on (Nat.le_refl _) hB⟩
set_option maxRecDepth 100000 in
theorem SlC.on {w w' : World} {ao : Option Addr} {n cap : Nat} {cs : List Cl} (h : SlC w ao n cap cs) (hB : Below w.heap.size w w') : SlC w' ao n cap cs := by
  refine ⟨h.hlen, h.hcap, h.hroom, h.hnil, ?_⟩
  rcases h.hat with h0 | ⟨b, off, e, hb, hc⟩
  · exact .inl h0
  · exact .inr ⟨b, off, e, Nat.lt_of_lt_of_le hb hB.size, fun i c hi => (hc i c hi).on hb hB⟩
set_option maxRecDepth 100000 in
theorem SlC.wf {w : World} {ao : Option Addr} {n cap : Nat} {cs : List Cl} (h : SlC w ao n cap cs) : ∀ c ∈ cs, c.Wf := by
  intro c hc
  obtain ⟨i, hi, e⟩ := List.getElem_of_mem hc
  rcases h.hat with h0 | ⟨b, off, _, _, hcs⟩
  · have := h.hlen; omega
  · obtain ⟨_, _, _, _, _, _, _, _, _, h5, h6⟩ := hcs i c (by rw [List.getElem?_eq_getElem hi, e])
    exact ⟨h5.wf, h6.wf⟩

/-- A block of so many cells. -/
def RowC (w : World) (b N : Nat) : Prop := ∃ cur : Array Value, w.heap[b]? = some (.cells cur 40 (0, 0)) ∧ cur.size = 5 * N
set_option maxRecDepth 100000 in
theorem RowC.cell {w : World} {b N : Nat} (h : RowC w b N) (j : Nat) (hj : j < 5 * N) : (w.cell? ⟨b, j, none⟩).isSome = true := by
  obtain ⟨cur, h1, h2⟩ := h
  simp [World.cell?, h1, h2, hj]
set_option maxRecDepth 100000 in
theorem RowC.free {w : World} {b N : Nat} (h : RowC w b N) (j : Nat) : w.frozen? ⟨b, j, none⟩ = false := by
  obtain ⟨cur, h1, h2⟩ := h
  simp [World.frozen?, h1]
set_option maxRecDepth 100000 in
theorem RowC.lt {w : World} {b N : Nat} (h : RowC w b N) : b < w.heap.size := by
  obtain ⟨cur, h1, _⟩ := h
  exact lt_some h1
set_option maxRecDepth 100000 in
theorem RowC.on {w w' : World} {b N : Nat} (h : RowC w b N) (hb : Below w.heap.size w w') : RowC w' b N := by
  obtain ⟨cur, h1, h2⟩ := h
  exact ⟨cur, box_on h1 hb, h2⟩
set_option maxRecDepth 100000 in
theorem RowC.set {w : World} {b N : Nat} (h : RowC w b N) (j : Nat) (v : Value) : RowC (w.setCell ⟨b, j, none⟩ v) b N := by
  obtain ⟨cur, h1, h2⟩ := h
  exact ⟨_, heap_setCell_same w b j cur _ v h1, by simp [h2]⟩
set_option maxRecDepth 100000 in
theorem RowC.sets {b N : Nat} : ∀ (vs : List Value) (j : Nat) (w : World), RowC w b N → RowC (w.setCells b j vs) b N
  | [], _, _, h => h
  | v :: r, j, _, h => RowC.sets r (j + 1) _ (h.set j v)
set_option maxRecDepth 100000 in
theorem RowC.there {w : World} {b N : Nat} (h : RowC w b N) {j : Nat} (hj : j + 5 ≤ 5 * N) : w.there b j 5 := fun i hi => ⟨h.cell (j + i) (by omega), h.free _⟩
set_option maxRecDepth 100000 in
theorem RowC.ne {w : World} {b N g : Nat} {l : List Int} (h : RowC w b N) (hk : Bk w g l) : ¬ g = b := by
  rintro rfl
  obtain ⟨cur, h1, _⟩ := h
  unfold Bk at hk
  rw [hk] at h1
  simp at h1
set_option maxRecDepth 100000 in
theorem oneCell5 (ka va : Option Addr) (kn kc vn vc : Nat) (kd pg ct : Int) : (#[.slice ka kn kc, .int .i64 kd, .slice va vn vc, .int .i64 pg, .int .i64 ct] : Array Value).all (·.oneCell') = true :=
  all_oneCell_toArray (cs := [.slice ka kn kc, .int .i64 kd, .slice va vn vc, .int .i64 pg, .int .i64 ct]) (by simp [Value.oneCell'])
set_option maxRecDepth 100000 in
/-- The store of a cell into a row. -/
theorem put_cell {ops : Array Oper} {rest : List Oper} {o : Oper} {a : Act} {w : World} {Q : Exit → Act → World → Prop} (hgd : o.guard = none) (p v : Operand)
    (ho : o.op = .store 40 p v) (b j N : Nat) (ka va : Option Addr) (kn kc vn vc : Nat) (kd pg ct : Int) (hr : RowC w b N) (hp : a.eval p = .pointer (some ⟨b, j, none⟩)) (hv : a.eval v = .agg #[.slice ka kn kc, .int .i64 kd, .slice va vn vc, .int .i64 pg, .int .i64 ct]) (hj : j + 5 ≤ 5 * N)
    (h : ∀ u, Hid (u = w.setCells b j [.slice ka kn kc, .int .i64 kd, .slice va vn vc, .int .i64 pg, .int .i64 ct]) → wpList Tryz.prog ops Q rest (a.put o.dst undef) u) : wpList Tryz.prog ops Q (o :: rest) a w :=
  wpList_store_mid hgd _ p v ho b j #[.slice ka kn kc, .int .i64 kd, .slice va vn vc, .int .i64 pg, .int .i64 ct] hp hv (hr.there hj) sizeCell (oneCell5 ..) (h _ (hidden rfl))
/-- A cell of one's own in a row. -/
def DAt (w : World) (B b off : Nat) (c : Cl) : Prop :=
  ∃ g1 g2, w.cell? ⟨b, off, none⟩ = some (.slice (some ⟨g1, 0, none⟩) c.key.length c.key.length) ∧ w.cell? ⟨b, off + 1, none⟩ = some (.int .i64 c.kd) ∧ w.cell? ⟨b, off + 2, none⟩ = some (.slice (some ⟨g2, 0, none⟩) c.val.length c.val.length) ∧ w.cell? ⟨b, off + 3, none⟩ = some (.int .i64 c.pg) ∧ w.cell? ⟨b, off + 4, none⟩ = some (.int .i64 c.ct) ∧ Bk w g1 c.key ∧ Bk w g2 c.val ∧ B ≤ g1 ∧ B ≤ g2
set_option maxRecDepth 100000 in
theorem DAt.on {w w' : World} {B b off : Nat} {c : Cl} (h : DAt w B b off c) (hb : b < w.heap.size) (hB : Below w.heap.size w w') : DAt w' B b off c := by
  obtain ⟨g1, g2, h0, h1, h2, h3, h4, h5, h6, h7⟩ := h
  exact ⟨g1, g2, (hB.cell (p := ⟨b, off, none⟩) hb).trans h0, (hB.cell (p := ⟨b, off + 1, none⟩) hb).trans h1, (hB.cell (p := ⟨b, off + 2, none⟩) hb).trans h2, (hB.cell (p := ⟨b, off + 3, none⟩) hb).trans h3, (hB.cell (p := ⟨b, off + 4, none⟩) hb).trans h4, h5.on hB, h6.on hB, h7⟩
set_option maxRecDepth 100000 in
theorem Bk.sets {w : World} {g b j : Nat} {l : List Int} {vs : List Value} (h : Bk w g l) (hg : ¬ g = b) : Bk (w.setCells b j vs) g l := (World.heap_setCells_other _ _ _ _ (lt_some h) (by omega)).trans h
set_option maxRecDepth 100000 in
theorem DAt.put {w : World} {B b N i j : Nat} {c : Cl} {vs : List Value} (h : DAt w B b (i * 5) c) (hr : RowC w b N) (hij : i < j) : DAt (w.setCells b (j * 5) vs) B b (i * 5) c := by
  obtain ⟨g1, g2, h0, h1, h2, h3, h4, h5, h6, h7⟩ := h
  have ho : ∀ d, d < 5 → (w.setCells b (j * 5) vs).cell? ⟨b, i * 5 + d, none⟩ = w.cell? ⟨b, i * 5 + d, none⟩ := fun d hd => World.cell?_setCells_out b _ _ w _ (fun _ _ => .inl (by simp only; omega))
  exact ⟨g1, g2, (ho 0 (by omega)).trans h0, (ho 1 (by omega)).trans h1, (ho 2 (by omega)).trans h2, (ho 3 (by omega)).trans h3, (ho 4 (by omega)).trans h4, h5.sets (hr.ne h5), h6.sets (hr.ne h6), h7⟩
set_option maxRecDepth 100000 in
theorem DAt.new {w : World} {B b N j : Nat} {c : Cl} {g1 g2 : Nat} (hr : RowC w b N) (hj : j * 5 + 5 ≤ 5 * N) (h1 : Bk w g1 c.key) (h2 : Bk w g2 c.val) (h3 : B ≤ g1) (h4 : B ≤ g2) :
    DAt (w.setCells b (j * 5) [.slice (some ⟨g1, 0, none⟩) c.key.length c.key.length, .int .i64 c.kd, .slice (some ⟨g2, 0, none⟩) c.val.length c.val.length, .int .i64 c.pg, .int .i64 c.ct]) B b (j * 5) c := by
  have h := World.rangeAt_setCells_same w b (j * 5) [.slice (some ⟨g1, 0, none⟩) c.key.length c.key.length, .int .i64 c.kd, .slice (some ⟨g2, 0, none⟩) c.val.length c.val.length, .int .i64 c.pg, .int .i64 c.ct] (hr.there hj)
  exact ⟨g1, g2, h 0 _ rfl, h 1 _ rfl, h 2 _ rfl, h 3 _ rfl, h 4 _ rfl, h1.sets (hr.ne h1), h2.sets (hr.ne h2), h3, h4⟩
set_option maxRecDepth 100000 in
theorem DAt.cat {w : World} {B b off : Nat} {c : Cl} (h : DAt w B b off c) (hw : c.Wf) (h1 : c.key.length ≤ 140737488355328) (h2 : c.val.length ≤ 140737488355328) : CAt w b off c := by
  obtain ⟨g1, g2, e0, e1, e2, e3, e4, e5, e6, _⟩ := h
  exact ⟨_, _, _, _, e0, e1, e2, e3, e4, e5.sl rfl hw.1 h1, e6.sl rfl hw.2 h2⟩
set_option maxRecDepth 100000 in
theorem infoC : (Tryz.prog.info? 40).map (fun i => (i.zero, i.size, i.bytes)) = some (some (.agg #[.slice none 0 0, .int .i64 0, .slice none 0 0, .int .i64 0, .int .i64 0]), 5, 72) := by kernel_rfl
set_option maxRecDepth 100000 in
theorem len_any (w : World) (a : Nat) (k : Int) (n : Nat) (bo : Option Addr) (bn bc : Nat) (so : Option Addr) (sn sc : Nat) (cs : List Cl) (h : PgAt w a k n bo bn bc so sn sc cs) :
    Calls Tryz.prog 8 #[.pointer (some ⟨a, 0, none⟩)] w fun e w' => e = .returned (.int .i64 (sn : Int)) ∧ w' = w := by
  obtain ⟨c0, c1, c2, c3⟩ := h.cells
  clear h
  go_enter Tryz.func8, Tryz.ntmps8
  go_wp2
  go_ret
  exact ⟨rfl, rfl⟩
end Go.Proofs.YtphjnahmbdinmaaGreatDoor

/- plain.Decode. -/

namespace Go.Proofs.YtphjnahmbdinmaaGreatDoor
open Go.RowKit

/-- What Decode comes to. -/
def DecTo (l : List Int) (w : World) (e : Ending) (w' : World) : Prop :=
  ∃ k ao n cap c, e = .returned (.tuple #[.int .i64 k, .slice ao n cap, .int .i64 c]) ∧ Hid (Below w.heap.size w w') ∧
    Hid ((c = 60 ∧ k = 0 ∧ ao = none ∧ n = 0 ∧ cap = 0 ∧ ¬ ∃ cs, Is (l.getD 0 0) l.length cs l) ∨
      ∃ cs g, c = 0 ∧ k = l.getD 0 0 ∧ ao = some ⟨g, 0, none⟩ ∧ n = cs.length ∧ cap = cs.length ∧ Is (l.getD 0 0) l.length cs l ∧ (∀ d ∈ cs, d.Wf) ∧ w.heap.size ≤ g ∧ RowC w' g cs.length ∧ ∀ i d, cs[i]? = some d → DAt w' w.heap.size g (i * 5) d)

set_option maxRecDepth 100000 in
set_option maxHeartbeats 1000000 in
theorem decode_any (ao : Option Addr) (n cap : Nat) (l : List Int) (w : World) (hs : Sl w ao n cap l) (ht : Tab w) (h0 : 1 < w.heap.size) :
    Calls Tryz.prog 17 #[.slice ao n cap] w fun e w' => DecTo l w e w' := by
  obtain ⟨ic, hic, hz0, hz1, hz2⟩ := info_parts infoC
  have HO := hidden (open_any ao n cap l w hs ht h0)
  have HLEN := hidden hs.hlen
  clear hs ht
  go_enter Tryz.func17, Tryz.ntmps17
  go_wp2_with (first | (go_at_call 34; refine HO.out.mono ?_; rintro e w1 ⟨po, ec, rfl, HB1, HQ⟩; refine Hid.out ?_))
  apply hidden
  clear HO
  rcases HQ.out with ⟨rfl, rfl, hno⟩ | ⟨a, bo, bn, bc, so, sn, sc, cs, rfl, rfl, hal, his, hwf, hpg⟩
  · have HNO := hidden hno
    clear HQ hno
    go_wp2
    go_ret3
    exact ⟨0, none, 0, 0, 60, rfl, HB1, hidden (.inl ⟨rfl, rfl, rfl, rfl, rfl, HNO.out⟩)⟩
  · have HPG := hidden hpg
    have HIS := hidden his
    have HWF := hidden hwf
    have HFIT : Hid (∀ c ∈ cs, c.fit) := hidden fun c hc => (chk_may his.ok c hc).fit (by have := pw_nat his.sz; omega)
    obtain ⟨hsn, hbn⟩ := hpg.sn_eq
    have hz := szN_eq cs
    have hfit := his.fit
    have hpn := pw_nat his.sz
    have hs1 : sn ≤ 65536 := by omega
    have hb1 : bn ≤ 65536 := by omega
    have HSN := hidden hsn
    clear hpg his hwf HQ hsn hbn hz hfit hpn
    obtain ⟨c0, c1, c2, c3⟩ := HPG.out.cells
    have HL := hidden (len_any w1 a _ _ bo bn bc so sn sc cs HPG.out)
    go_wp2_with (first
      | (go_at_call 8; refine same_call HL.out ?_)
      | (at_make; refine wpList_make_full _ rfl _ _ 32 rfl w.heap.size 40 ic _ 5 Tryz.underlying32 hic hz0 hz1 .i64 .i64 sn sn sn rfl rfl rfl rfl (by rw [hz2]; omega) (by unfold maxLen; omega) HB1.out.size ?_; refine Hid.out ?_))
    apply hidden
    intro w2 ho2 hg2
    have hb2 : Below w1.heap.size w1 w2 := (Below.refl _ _).grown hg2 (Nat.le_refl _) (fun k hk => by cases hk)
    obtain ⟨g, hg⟩ : ∃ g, w1.heap.size = g := ⟨_, rfl⟩
    have HRW : Hid (RowC w2 g sn) := by
      rcases ho2.2 with ⟨h, _⟩ | ⟨q, c, cur, h, _, hh, _, _, hss, _⟩
      · cases h
      · cases h
        rw [← hg]
        exact hidden ⟨cur, hh, by rw [hss]; omega⟩
    have HWG : Hid (w.heap.size ≤ g) := hidden (by rw [← hg]; exact HB1.out.size)
    have HB2 := hidden hb2
    have hgs : Below g w1 w2 := by rw [← hg]; exact hb2
    have HGS := hidden hgs
    have HGW := hidden hg
    rw [hg]
    clear ho2 hg2 hb2 HL c0 c1 c2 c3 hgs
    go_wp2_with fail
    go_loopw [22] (fun i wr => ∃ j : Nat, j ≤ sn ∧ i = .int .i64 j ∧ Hid (RowC wr g sn) ∧ Hid (Below g w1 wr) ∧ Hid (∀ i d, i < j → cs[i]? = some d → DAt wr w.heap.size g (i * 5) d)) (fun i _ => sn - (intOf i).toNat)
    case atStart => exact ⟨0, by omega, rfl, HRW, HGS, hidden fun i d hi => by omega⟩
    case round =>
      obtain ⟨j, hj, rfl, HR, HG, HD⟩ := hrel
      have HBE : Hid (Below w1.heap.size w1 wr) := hidden (by rw [HGW.out]; exact HG.out)
      have HPR := hidden (HPG.out.on HBE.out)
      have bj : (j : Int) ≤ 65536 := by omega
      clear HRW HGS
      by_cases hlt : j < sn
      · have hltI : (j : Int) < (sn : Int) := by omega
        have hjc : j < cs.length := by rw [← HSN.out]; exact hlt
        obtain ⟨d, hd⟩ : ∃ d, cs[j]? = some d := ⟨_, List.getElem?_eq_getElem hjc⟩
        have HDJ := hidden hd
        have HV := hidden (view_any wr a _ _ bo bn bc so sn sc cs HPR.out HFIT.out j hjc d hd hb1)
        clear hd hjc
        go_wp2_with (first | (go_at_call 45; refine HV.out.mono ?_; rintro e u1 ⟨ko, kn, kc, vo, vn, vc, rfl, HK, HVV, HB3⟩; refine Hid.out ?_))
        apply hidden
        have hkl := HK.out.hlen
        have hvl := HVV.out.hlen
        have HKL := hidden hkl
        have HVL := hidden hvl
        clear hkl hvl HV
        have HC := hidden (copied_any ko kn kc d.kd vo vn vc d.pg d.ct d.key d.val u1 HK.out HVV.out)
        go_wp2_with (first | (go_at_call 44; refine HC.out.mono ?_; rintro e u2 ⟨g1, g2, rfl, HGG, HB4⟩; refine Hid.out ?_))
        apply hidden
        have HBU : Hid (Below wr.heap.size wr u2) := hidden (bl_go HB3.out (Nat.le_refl _) HB4.out)
        have HR2 : Hid (RowC u2 g sn) := hidden (HR.out.on HBU.out)
        have HG2 : Hid (Below g w1 u2) := hidden (HG.out.trans (HBU.out.mono (Nat.le_of_lt HR.out.lt)))
        have hwg : w.heap.size ≤ u1.heap.size := Nat.le_trans HB1.out.size (Nat.le_trans HBE.out.size HB3.out.size)
        clear HC HK HVV
        go_wp2_with (refine put_cell (by rfl) _ _ (by rfl) g (j * 5) sn (some ⟨g1, 0, none⟩) (some ⟨g2, 0, none⟩) kn kn vn vn d.kd d.pg d.ct HR2.out (by rfl) (by rfl) (by omega) ?_; intro u3 HU3; refine Hid.out ?_)
        apply hidden
        have HR3 : Hid (RowC u3 g sn) := hidden (by rw [HU3.out]; exact RowC.sets _ _ _ HR2.out)
        have HG3 : Hid (Below g w1 u3) := hidden (by
          rw [HU3.out]
          simp only [World.setCells]
          refine ((((HG2.out.setCell ?_ _).setCell ?_ _).setCell ?_ _).setCell ?_ _).setCell ?_ _ <;> simp)
        have HD3 : Hid (∀ i d, i < j + 1 → cs[i]? = some d → DAt u3 w.heap.size g (i * 5) d) := by
          refine hidden fun i d' hi hd' => ?_
          rw [HU3.out]
          by_cases e : i = j
          · subst e
            rw [HDJ.out] at hd'
            injection hd' with hd'
            subst hd'
            have := DAt.new (B := w.heap.size) (c := d) (j := i) HR2.out (by omega) HGG.out.1 HGG.out.2.1 (Nat.le_trans hwg HGG.out.2.2.1) (Nat.le_trans hwg HGG.out.2.2.2.1)
            rw [HKL.out, HVL.out] at this
            exact this
          · exact ((HD.out i d' (by omega) hd').on HR.out.lt HBU.out).put HR2.out (by omega)
        clear HU3 HR2 HG2 HR HG HD HGG HB3 HB4 HBU HPR
        go_wp2
        go_roundw
        case rel => exact ⟨j + 1, by omega, by go_num, HR3, HG3, HD3⟩
        case measure => simp [intOf]; omega
      · obtain rfl : j = sn := by omega
        have hlI : ¬ (j : Int) < (j : Int) := by omega
        obtain ⟨c0, c1, c2, c3⟩ := HPR.out.cells
        go_wp2
        go_ret3
        refine ⟨l.getD 0 0, some ⟨g, 0, none⟩, j, j, 0, rfl, hidden (bl_go HB1.out (Nat.le_refl _) HBE.out), hidden (.inr ⟨cs, g, rfl, rfl, rfl, HSN.out, HSN.out, HIS.out, HWF.out, HWG.out, ?_, fun i d hd => HD.out i d ?_ hd⟩)⟩
        · rw [← HSN.out]; exact HR.out
        · have := (List.getElem?_eq_some_iff.1 hd).1
          rw [HSN.out]
          exact this
end Go.Proofs.YtphjnahmbdinmaaGreatDoor

/- plain.Size. -/

namespace Go.Proofs.YtphjnahmbdinmaaGreatDoor
open Go.RowKit

set_option maxRecDepth 100000 in
theorem ctk_int (c : Cl) : (if c.kd = 1 then 7 + (c.key.length : Int) + (c.val.length : Int) else 13 + (c.key.length : Int)) = (ctk c : Int) := by
  unfold ctk
  split <;> simp
set_option maxRecDepth 100000 in
theorem szN_take (cs : List Cl) (i : Nat) (c : Cl) (h : cs[i]? = some c) : szN (cs.take (i + 1)) = szN (cs.take i) + ctk c := by
  have hi := (List.getElem?_eq_some_iff.1 h).1
  have e := (List.getElem?_eq_some_iff.1 h).2
  unfold szN
  rw [List.take_add_one, h]
  simp
  omega
set_option maxRecDepth 100000 in
theorem szN_take_le (cs : List Cl) (i : Nat) : szN (cs.take i) ≤ szN cs := by
  unfold szN
  conv => rhs; rw [← List.take_append_drop i cs]
  rw [List.map_append, List.sum_append]
  omega
set_option maxRecDepth 100000 in
/-- A cell of a slice of cells. -/
theorem SlC.item {w : World} {ao : Option Addr} {n cap : Nat} {cs : List Cl} (h : SlC w ao n cap cs) (i : Nat) (hi : i < n) : ∃ b off c ka kc va vc, ao = some ⟨b, off, none⟩ ∧ b < w.heap.size ∧ cs[i]? = some c ∧
    w.cell? ⟨b, off + i * 5, none⟩ = some (.slice ka c.key.length kc) ∧ w.cell? ⟨b, off + i * 5 + 1, none⟩ = some (.int .i64 c.kd) ∧ w.cell? ⟨b, off + i * 5 + 2, none⟩ = some (.slice va c.val.length vc) ∧ w.cell? ⟨b, off + i * 5 + 3, none⟩ = some (.int .i64 c.pg) ∧ w.cell? ⟨b, off + i * 5 + 4, none⟩ = some (.int .i64 c.ct) ∧ Sl w ka c.key.length kc c.key ∧ Sl w va c.val.length vc c.val := by
  have hl := h.hlen
  rcases h.hat with h0 | ⟨b, off, e, hb, hc⟩
  · omega
  · obtain ⟨c, hci⟩ : ∃ c, cs[i]? = some c := ⟨_, List.getElem?_eq_getElem (by omega)⟩
    obtain ⟨ka, kc, va, vc, h0⟩ := hc i c hci
    exact ⟨b, off, c, ka, kc, va, vc, e, hb, hci, h0⟩

set_option maxRecDepth 100000 in
set_option maxHeartbeats 1000000 in
theorem size_any (k : Int) (ao : Option Addr) (n cap : Nat) (cs : List Cl) (w : World) (hs : SlC w ao n cap cs) (hz : szN cs ≤ 1099511627776) :
    Calls Tryz.prog 16 #[.int .i64 k, .slice ao n cap] w fun e w' => e = .returned (.int .i64 (szN cs : Int)) ∧ Below w.heap.size w w' := by
  have HS := hidden hs
  have hn := hs.hroom
  have HLEN := hidden hs.hlen
  have HZ := hidden hz
  clear hs hz
  go_enter Tryz.func16, Tryz.ntmps16
  go_wp2_with fail
  go_loopw [5, 10] (fun v i wr => ∃ j : Nat, j ≤ n ∧ i = .int .i64 j ∧ v = .int .i64 (szN (cs.take j) : Int) ∧ Hid (Below w.heap.size w wr)) (fun _ i _ => n - (intOf i).toNat)
  case atStart => exact ⟨0, by omega, rfl, by simp [szN], hidden (Below.refl _ _)⟩
  case round =>
    obtain ⟨j, hj, rfl, rfl, HB⟩ := hrel
    have bj : (j : Int) ≤ 140737488355328 := by omega
    by_cases hlt : j < n
    · have hltI : (j : Int) < (n : Int) := by omega
      obtain ⟨b, off, c, ka, kc, va, vc, rfl, hb, hci, c0, c1, c2, c3, c4, hk, hv⟩ := (HS.out.on HB.out).item j hlt
      have hkr := hk.hroom
      have hvr := hv.hroom
      have HST := hidden (szN_take cs j c hci)
      have hle := szN_take_le cs (j + 1)
      rw [HST.out] at hle
      have hz := HZ.out
      obtain ⟨S, hS⟩ : ∃ S, szN (cs.take j) = S := ⟨_, rfl⟩
      obtain ⟨T, hT⟩ : ∃ T, ctk c = T := ⟨_, rfl⟩
      have HTI := hidden (ctk_int c)
      rw [hS, hT] at hle
      rw [hS, hT] at HST
      rw [hT] at HTI
      rw [hS]
      have b1 : (S : Int) ≤ 1099511627776 := by omega
      have b2 : (T : Int) ≤ 1099511627776 := by omega
      have HPT := hidden (fun u => ptaken_any ka c.key.length kc c.kd va c.val.length vc c.pg c.ct u hkr hvr)
      rw [HTI.out] at HPT
      clear hk hv hci hS hT hle hz HTI
      go_wp2_with (first | (go_at_call 43; refine (HPT.out _).mono ?_; rintro e w2 ⟨rfl, hb2⟩; have HB2 := hidden (bl_go (bl_al HB.out (Nat.le_refl _) _) (Nat.le_refl _) hb2); clear hb2))
      go_roundw
      case rel => exact ⟨j + 1, by omega, by go_num, by rw [HST.out]; simp, HB2⟩
      case measure => simp [intOf]; omega
    · obtain rfl : j = n := by omega
      have hlI : ¬ (j : Int) < (j : Int) := by omega
      have HT : Hid (cs.take j = cs) := hidden (List.take_of_length_le (by rw [HLEN.out]; exact Nat.le_refl _))
      go_wp2
      go_ret
      rw [HT.out]
      exact ⟨rfl, HB.out⟩
end Go.Proofs.YtphjnahmbdinmaaGreatDoor
