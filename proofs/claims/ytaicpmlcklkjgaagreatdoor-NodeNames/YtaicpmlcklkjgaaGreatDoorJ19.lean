/- plain.read: what it reads of bytes. -/
import Derived.Test.YtaicpmlcklkjgaaGreatDoorJ18
import Derived.Deep.MidRow
import Derived.Deep.Upon
import Derived.Laws.IdiomCopy
namespace Go.Proofs.YtaicpmlcklkjgaaGreatDoor
open Go.RowKit

/-- What read comes to. -/
def ReadTo (l : List Int) (w : World) (e : Ending) (w' : World) : Prop :=
  ∃ po, e = .returned (.pointer po) ∧ Hid (Below w.heap.size w w') ∧ Hid ((po = none ∧ readM l = none) ∨ ∃ a bo bn bc so sn sc cs, po = some ⟨a, 0, none⟩ ∧ w.heap.size ≤ a ∧ readM l = some cs ∧ PgAt w' a (l.getD 0 0) l.length bo bn bc so sn sc cs)
set_option maxRecDepth 100000 in
theorem ReadTo.no {l : List Int} {w w' : World} (hb : Below w.heap.size w w') (h : readM l = none) : ReadTo l w (.returned (.pointer none)) w' := ⟨none, rfl, hidden hb, hidden (.inl ⟨rfl, h⟩)⟩
/-- read, ahead of the body. -/
structure Rq (w u : World) (a : Nat) (k0 : Int) (n b off cap : Nat) (l : List Int) : Prop where
  row : PR u a k0 n (.slice none 0 0) (.slice none 0 0)
  sl : Sl u (some ⟨b, off, none⟩) n cap l
  be : Below w.heap.size w u
set_option maxRecDepth 100000 in
theorem Rq.on {w u v : World} {a : Nat} {k0 : Int} {n b off cap : Nat} {l : List Int} (h : Rq w u a k0 n b off cap l) (hb : Below u.heap.size u v) : Rq w v a k0 n b off cap l := ⟨box_on h.row hb, h.sl.on (Nat.le_refl _) hb, bl_go h.be (Nat.le_refl _) hb⟩
end Go.Proofs.YtaicpmlcklkjgaaGreatDoor

/- plain.Open and plain.New. -/

namespace Go.Proofs.YtaicpmlcklkjgaaGreatDoor
open Go.RowKit

set_option maxRecDepth 100000 in
theorem equal6 (ao bo : Option Addr) (n m c d : Nat) (la lb : List Int) (w : World) (ha : Sl w ao n c la) (hb : Sl w bo m d lb) :
    Calls Tryz.prog 152 #[.slice ao n c, .slice bo m d] w fun e w' => e = .returned (.bool (decide (la = lb))) ∧ w' = w := by
  have h1 := conv_sl ha
  have h2 := conv_sl hb
  have h3 := str_beq ha.wf hb.wf
  clear ha hb
  go_enter Tryz.func152, Tryz.ntmps152
  go_wp2
  go_ret
  exact ⟨rfl, rfl⟩
/-- What New comes to. -/
def NewTo (k n : Int) (w : World) (e : Ending) (w' : World) : Prop :=
  ∃ po c, e = .returned (.tuple #[.pointer po, .int .i64 c]) ∧ Hid (Below w.heap.size w w') ∧ Hid ((po = none ∧ c = 1 ∧ ¬ (isKd k ∧ pw n)) ∨ (po = some ⟨w.heap.size, 0, none⟩ ∧ c = 0 ∧ isKd k ∧ pw n ∧ w'.heap[w.heap.size]? = some (.cells #[.int .i64 k, .int .i64 n, .slice none 0 0, .slice none 0 0] 154 (0, 0))))
set_option maxRecDepth 100000 in
theorem new_any (k n : Int) (w : World) : Calls Tryz.prog 86 #[.int .i64 k, .int .i64 n] w fun e w' => NewTo k n w e w' := by
  cases h1 : decide (isKd k) with
  | false =>
    have hk : ¬ isKd k := by simpa using h1
    go_enter Tryz.func86, Tryz.ntmps86
    go_wp2_with (first | (go_at_call 64; refine same_call (isKind_any _ _) ?_; rw [h1]))
    go_ret2
    exact ⟨none, 1, rfl, Below.refl _ _, .inl ⟨rfl, rfl, fun h => hk h.1⟩⟩
  | true =>
    have hk : isKd k := by simpa using h1
    cases h2 : decide (pw n) with
    | false =>
      have hn : ¬ pw n := by simpa using h2
      have HN := hidden hn
      have HK := hidden hk
      clear hn hk
      go_enter Tryz.func86, Tryz.ntmps86
      go_wp2_with (first | (go_at_call 64; refine same_call (isKind_any _ _) ?_; rw [h1]) | (go_at_call 63; refine same_call (isSize_any _ _) ?_; rw [h2]))
      go_ret2
      exact ⟨none, 1, rfl, Below.refl _ _, .inl ⟨rfl, rfl, fun h => HN.out h.2⟩⟩
    | true =>
      have hn : pw n := by simpa using h2
      have HN := hidden hn
      have HK := hidden hk
      clear hn hk
      go_enter Tryz.func86, Tryz.ntmps86
      go_wp2_with (first | (go_at_call 64; refine same_call (isKind_any _ _) ?_; rw [h1]) | (go_at_call 63; refine same_call (isSize_any _ _) ?_; rw [h2]))
      go_ret2
      exact ⟨_, 0, rfl, (Below.refl _ _).alloc (Nat.le_refl _) _, .inr ⟨rfl, rfl, HK.out, HN.out, heap_alloc_last w _⟩⟩
end Go.Proofs.YtaicpmlcklkjgaaGreatDoor

/- plain.Page.view: a cell of a page. -/

namespace Go.Proofs.YtaicpmlcklkjgaaGreatDoor
open Go.RowKit

set_option maxRecDepth 100000 in
theorem bdy_drop (cs : List Cl) (i : Nat) : (bdy cs).drop (bdy (cs.take i)).length = bdy (cs.drop i) := by
  conv => lhs; rw [← List.take_append_drop i cs]
  rw [bdy_append, List.take_append_drop, List.drop_left]
set_option maxRecDepth 100000 in
theorem bdy_take_le (cs : List Cl) (i : Nat) : (bdy (cs.take i)).length ≤ (bdy cs).length := by
  conv => rhs; rw [← List.take_append_drop i cs]
  rw [bdy_append, List.length_append]
  omega
end Go.Proofs.YtaicpmlcklkjgaaGreatDoor

/- plain.copied: a cell in memory of its own. -/

namespace Go.Proofs.YtaicpmlcklkjgaaGreatDoor
open Go.RowKit

set_option maxRecDepth 100000 in
theorem Bk.apart5 {w : World} {g h : Nat} {l : List Int} {x0 x1 x2 x3 x4 : Value} (hb : Bk w g l) (hc : C5 w h x0 x1 x2 x3 x4) : ¬ g = h := by
  rintro rfl
  unfold Bk at hb
  unfold C5 at hc
  rw [hb] at hc
  simp at hc
end Go.Proofs.YtaicpmlcklkjgaaGreatDoor

/- Rows of cells in memory; plain.Decode. -/

namespace Go.Proofs.YtaicpmlcklkjgaaGreatDoor
open Go.RowKit

/-- A cell that lies in a row. -/
def CAt (w : World) (b off : Nat) (c : Cl) : Prop :=
  ∃ ka kc va vc, w.cell? ⟨b, off, none⟩ = some (.slice ka c.key.length kc) ∧ w.cell? ⟨b, off + 1, none⟩ = some (.int .i64 c.kd) ∧ w.cell? ⟨b, off + 2, none⟩ = some (.slice va c.val.length vc) ∧ w.cell? ⟨b, off + 3, none⟩ = some (.int .i64 c.pg) ∧ w.cell? ⟨b, off + 4, none⟩ = some (.int .i64 c.ct) ∧ Sl w ka c.key.length kc c.key ∧ Sl w va c.val.length vc c.val
/-- THE SLICE VALUE READS AS THE CELLS cs. -/
structure SlC (w : World) (ao : Option Addr) (n cap : Nat) (cs : List Cl) : Prop where
  hlen : cs.length = n
  hcap : n ≤ cap
  hroom : n ≤ 140737488355328
  hnil : ao = none → cap = 0
  hat : n = 0 ∨ ∃ b off, ao = some ⟨b, off, none⟩ ∧ b < w.heap.size ∧ ∀ i c, cs[i]? = some c → CAt w b (off + i * 5) c
set_option maxRecDepth 100000 in
theorem CAt.on {w w' : World} {b off : Nat} {c : Cl} (h : CAt w b off c) (hb : b < w.heap.size) (hB : Below w.heap.size w w') : CAt w' b off c := by
  obtain ⟨ka, kc, va, vc, h0, h1, h2, h3, h4, h5, h6⟩ := h
  exact ⟨ka, kc, va, vc, (hB.cell (p := ⟨b, off, none⟩) hb).trans h0, (hB.cell (p := ⟨b, off + 1, none⟩) hb).trans h1, (hB.cell (p := ⟨b, off + 2, none⟩) hb).trans h2, (hB.cell (p := ⟨b, off + 3, none⟩) hb).trans h3, (hB.cell (p := ⟨b, off + 4, none⟩) hb).trans h4, h5.on (Nat.le_refl _) hB, h6.on (Nat.le_refl _) hB⟩
set_option maxRecDepth 100000 in
theorem SlC.on {w w' : World} {ao : Option Addr} {n cap : Nat} {cs : List Cl} (h : SlC w ao n cap cs) (hB : Below w.heap.size w w') : SlC w' ao n cap cs := by
  refine ⟨h.hlen, h.hcap, h.hroom, h.hnil, ?_⟩
  rcases h.hat with h0 | ⟨b, off, e, hb, hc⟩
  · exact .inl h0
  · exact .inr ⟨b, off, e, Nat.lt_of_lt_of_le hb hB.size, fun i c hi => (hc i c hi).on hb hB⟩
set_option maxRecDepth 100000 in
theorem SlC.wf {w : World} {ao : Option Addr} {n cap : Nat} {cs : List Cl} (h : SlC w ao n cap cs) : ∀ c ∈ cs, c.Wf := by
  intro c hc
  obtain ⟨i, hi, e⟩ := List.getElem_of_mem hc
  rcases h.hat with h0 | ⟨b, off, _, _, hcs⟩
  · have := h.hlen; omega
  · obtain ⟨_, _, _, _, _, _, _, _, _, h5, h6⟩ := hcs i c (by rw [List.getElem?_eq_getElem hi, e])
    exact ⟨h5.wf, h6.wf⟩
/-- A block of so many cells. -/
def RowC (w : World) (b N : Nat) : Prop := ∃ cur : Array Value, w.heap[b]? = some (.cells cur 43 (0, 0)) ∧ cur.size = 5 * N
set_option maxRecDepth 100000 in
theorem RowC.cell {w : World} {b N : Nat} (h : RowC w b N) (j : Nat) (hj : j < 5 * N) : (w.cell? ⟨b, j, none⟩).isSome = true := by
  obtain ⟨cur, h1, h2⟩ := h
  simp [World.cell?, h1, h2, hj]
set_option maxRecDepth 100000 in
theorem RowC.free {w : World} {b N : Nat} (h : RowC w b N) (j : Nat) : w.frozen? ⟨b, j, none⟩ = false := by
  obtain ⟨cur, h1, h2⟩ := h
  simp [World.frozen?, h1]
set_option maxRecDepth 100000 in
theorem RowC.lt {w : World} {b N : Nat} (h : RowC w b N) : b < w.heap.size := by
  obtain ⟨cur, h1, _⟩ := h
  exact lt_some h1
set_option maxRecDepth 100000 in
theorem RowC.on {w w' : World} {b N : Nat} (h : RowC w b N) (hb : Below w.heap.size w w') : RowC w' b N := by
  obtain ⟨cur, h1, h2⟩ := h
  exact ⟨cur, box_on h1 hb, h2⟩
set_option maxRecDepth 100000 in
theorem RowC.set {w : World} {b N : Nat} (h : RowC w b N) (j : Nat) (v : Value) : RowC (w.setCell ⟨b, j, none⟩ v) b N := by
  obtain ⟨cur, h1, h2⟩ := h
  exact ⟨_, heap_setCell_same w b j cur _ v h1, by simp [h2]⟩
set_option maxRecDepth 100000 in
theorem RowC.sets {b N : Nat} : ∀ (vs : List Value) (j : Nat) (w : World), RowC w b N → RowC (w.setCells b j vs) b N
  | [], _, _, h => h
  | v :: r, j, _, h => RowC.sets r (j + 1) _ (h.set j v)
set_option maxRecDepth 100000 in
theorem RowC.there {w : World} {b N : Nat} (h : RowC w b N) {j : Nat} (hj : j + 5 ≤ 5 * N) : w.there b j 5 := fun i hi => ⟨h.cell (j + i) (by omega), h.free _⟩
set_option maxRecDepth 100000 in
theorem RowC.ne {w : World} {b N g : Nat} {l : List Int} (h : RowC w b N) (hk : Bk w g l) : ¬ g = b := by
  rintro rfl
  obtain ⟨cur, h1, _⟩ := h
  unfold Bk at hk
  rw [hk] at h1
  simp at h1
/-- A cell of one's own in a row. -/
def DAt (w : World) (B b off : Nat) (c : Cl) : Prop :=
  ∃ g1 g2, w.cell? ⟨b, off, none⟩ = some (.slice (some ⟨g1, 0, none⟩) c.key.length c.key.length) ∧ w.cell? ⟨b, off + 1, none⟩ = some (.int .i64 c.kd) ∧ w.cell? ⟨b, off + 2, none⟩ = some (.slice (some ⟨g2, 0, none⟩) c.val.length c.val.length) ∧ w.cell? ⟨b, off + 3, none⟩ = some (.int .i64 c.pg) ∧ w.cell? ⟨b, off + 4, none⟩ = some (.int .i64 c.ct) ∧ Bk w g1 c.key ∧ Bk w g2 c.val ∧ B ≤ g1 ∧ B ≤ g2
set_option maxRecDepth 100000 in
theorem DAt.on {w w' : World} {B b off : Nat} {c : Cl} (h : DAt w B b off c) (hb : b < w.heap.size) (hB : Below w.heap.size w w') : DAt w' B b off c := by
  obtain ⟨g1, g2, h0, h1, h2, h3, h4, h5, h6, h7⟩ := h
  exact ⟨g1, g2, (hB.cell (p := ⟨b, off, none⟩) hb).trans h0, (hB.cell (p := ⟨b, off + 1, none⟩) hb).trans h1, (hB.cell (p := ⟨b, off + 2, none⟩) hb).trans h2, (hB.cell (p := ⟨b, off + 3, none⟩) hb).trans h3, (hB.cell (p := ⟨b, off + 4, none⟩) hb).trans h4, h5.on hB, h6.on hB, h7⟩
set_option maxRecDepth 100000 in
theorem Bk.sets {w : World} {g b j : Nat} {l : List Int} {vs : List Value} (h : Bk w g l) (hg : ¬ g = b) : Bk (w.setCells b j vs) g l := (World.heap_setCells_other _ _ _ _ (lt_some h) (by omega)).trans h
set_option maxRecDepth 100000 in
theorem DAt.put {w : World} {B b N i j : Nat} {c : Cl} {vs : List Value} (h : DAt w B b (i * 5) c) (hr : RowC w b N) (hij : i < j) : DAt (w.setCells b (j * 5) vs) B b (i * 5) c := by
  obtain ⟨g1, g2, h0, h1, h2, h3, h4, h5, h6, h7⟩ := h
  have ho : ∀ d, d < 5 → (w.setCells b (j * 5) vs).cell? ⟨b, i * 5 + d, none⟩ = w.cell? ⟨b, i * 5 + d, none⟩ := fun d hd => World.cell?_setCells_out b _ _ w _ (fun _ _ => .inl (by simp only; omega))
  exact ⟨g1, g2, (ho 0 (by omega)).trans h0, (ho 1 (by omega)).trans h1, (ho 2 (by omega)).trans h2, (ho 3 (by omega)).trans h3, (ho 4 (by omega)).trans h4, h5.sets (hr.ne h5), h6.sets (hr.ne h6), h7⟩
set_option maxRecDepth 100000 in
theorem DAt.new {w : World} {B b N j : Nat} {c : Cl} {g1 g2 : Nat} (hr : RowC w b N) (hj : j * 5 + 5 ≤ 5 * N) (h1 : Bk w g1 c.key) (h2 : Bk w g2 c.val) (h3 : B ≤ g1) (h4 : B ≤ g2) :
    DAt (w.setCells b (j * 5) [.slice (some ⟨g1, 0, none⟩) c.key.length c.key.length, .int .i64 c.kd, .slice (some ⟨g2, 0, none⟩) c.val.length c.val.length, .int .i64 c.pg, .int .i64 c.ct]) B b (j * 5) c := by
  have h := World.rangeAt_setCells_same w b (j * 5) [.slice (some ⟨g1, 0, none⟩) c.key.length c.key.length, .int .i64 c.kd, .slice (some ⟨g2, 0, none⟩) c.val.length c.val.length, .int .i64 c.pg, .int .i64 c.ct] (hr.there hj)
  exact ⟨g1, g2, h 0 _ rfl, h 1 _ rfl, h 2 _ rfl, h 3 _ rfl, h 4 _ rfl, h1.sets (hr.ne h1), h2.sets (hr.ne h2), h3, h4⟩
end Go.Proofs.YtaicpmlcklkjgaaGreatDoor

/- plain.Size. -/

namespace Go.Proofs.YtaicpmlcklkjgaaGreatDoor
open Go.RowKit

set_option maxRecDepth 100000 in
theorem ctk_int (c : Cl) : (if c.kd = 1 then 7 + (c.key.length : Int) + (c.val.length : Int) else 13 + (c.key.length : Int)) = (ctk c : Int) := by
  unfold ctk
  split <;> simp
set_option maxRecDepth 100000 in
/-- A cell of a slice of cells. -/
theorem SlC.item {w : World} {ao : Option Addr} {n cap : Nat} {cs : List Cl} (h : SlC w ao n cap cs) (i : Nat) (hi : i < n) : ∃ b off c ka kc va vc, ao = some ⟨b, off, none⟩ ∧ b < w.heap.size ∧ cs[i]? = some c ∧
    w.cell? ⟨b, off + i * 5, none⟩ = some (.slice ka c.key.length kc) ∧ w.cell? ⟨b, off + i * 5 + 1, none⟩ = some (.int .i64 c.kd) ∧ w.cell? ⟨b, off + i * 5 + 2, none⟩ = some (.slice va c.val.length vc) ∧ w.cell? ⟨b, off + i * 5 + 3, none⟩ = some (.int .i64 c.pg) ∧ w.cell? ⟨b, off + i * 5 + 4, none⟩ = some (.int .i64 c.ct) ∧ Sl w ka c.key.length kc c.key ∧ Sl w va c.val.length vc c.val := by
  have hl := h.hlen
  rcases h.hat with h0 | ⟨b, off, e, hb, hc⟩
  · omega
  · obtain ⟨c, hci⟩ : ∃ c, cs[i]? = some c := ⟨_, List.getElem?_eq_getElem (by omega)⟩
    obtain ⟨ka, kc, va, vc, h0⟩ := hc i c hci
    exact ⟨b, off, c, ka, kc, va, vc, e, hb, hci, h0⟩
end Go.Proofs.YtaicpmlcklkjgaaGreatDoor
