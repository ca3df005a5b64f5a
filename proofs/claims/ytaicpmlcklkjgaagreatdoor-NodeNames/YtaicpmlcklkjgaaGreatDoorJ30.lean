/- packed.Page in memory: head, entry. -/
import Derived.Test.YtaicpmlcklkjgaaGreatDoorJ15
import Derived.Test.YtaicpmlcklkjgaaGreatDoorJ17
import Derived.Test.YtaicpmlcklkjgaaGreatDoorJ29
import Derived.Test.YtaicpmlcklkjgaaGreatDoorJ03
import Derived.Deep.RegionLaw
namespace Go.Proofs.YtaicpmlcklkjgaaGreatDoor
open Go.RowKit

/-- A page in memory. -/
structure PgQ (w : World) (a : Nat) (k : Int) (n : Nat) (po : Option Addr) (pn pc : Nat) (bo : Option Addr) (bn bc : Nat) (so : Option Addr) (sn sc : Nat) (ws : Int) (P body : List Int) (st : List Nat) : Prop where
  row : w.heap[a]? = some (.cells #[.int .i64 k, .int .i64 (n : Int), .slice po pn pc, .slice bo bn bc, .slice so sn sc, .int .i64 ws] 164 (0, 0))
  pre : Sl w po pn pc P
  body : Sl w bo bn bc body
  starts : SlN w so sn sc st
set_option maxRecDepth 100000 in
theorem PgQ.on {w w' : World} {a : Nat} {k : Int} {n : Nat} {po : Option Addr} {pn pc : Nat} {bo : Option Addr} {bn bc : Nat} {so : Option Addr} {sn sc : Nat} {ws : Int} {P body : List Int} {st : List Nat} (h : PgQ w a k n po pn pc bo bn bc so sn sc ws P body st) (hb : Below w.heap.size w w') : PgQ w' a k n po pn pc bo bn bc so sn sc ws P body st :=
  ⟨box_on h.row hb, h.pre.on (Nat.le_refl _) hb, h.body.on (Nat.le_refl _) hb, h.starts.on hb⟩
set_option maxRecDepth 100000 in
theorem PgQ.cells {w : World} {a : Nat} {k : Int} {n : Nat} {po : Option Addr} {pn pc : Nat} {bo : Option Addr} {bn bc : Nat} {so : Option Addr} {sn sc : Nat} {ws : Int} {P body : List Int} {st : List Nat} (h : PgQ w a k n po pn pc bo bn bc so sn sc ws P body st) :
    w.cell? ⟨a, 0, none⟩ = some (.int .i64 k) ∧ w.cell? ⟨a, 1, none⟩ = some (.int .i64 (n : Int)) ∧ w.cell? ⟨a, 2, none⟩ = some (.slice po pn pc) ∧ w.cell? ⟨a, 3, none⟩ = some (.slice bo bn bc) ∧ w.cell? ⟨a, 4, none⟩ = some (.slice so sn sc) ∧ w.cell? ⟨a, 5, none⟩ = some (.int .i64 ws) := by
  refine ⟨?_, ?_, ?_, ?_, ?_, ?_⟩
  · rw [cell_of_row _ _ 0 _ _ _ h.row]; rfl
  · rw [cell_of_row _ _ 1 _ _ _ h.row]; rfl
  · rw [cell_of_row _ _ 2 _ _ _ h.row]; rfl
  · rw [cell_of_row _ _ 3 _ _ _ h.row]; rfl
  · rw [cell_of_row _ _ 4 _ _ _ h.row]; rfl
  · rw [cell_of_row _ _ 5 _ _ _ h.row]; rfl
set_option maxRecDepth 100000 in
theorem E6.free {w : World} {g : Nat} {x0 x1 x2 x3 x4 x5 : Value} (h : E6 w g x0 x1 x2 x3 x4 x5) (i : Nat) : w.frozen? ⟨g, i, none⟩ = false := by
  unfold E6 at h
  simp [World.frozen?, h]
set_option maxRecDepth 100000 in
theorem E6.set {w : World} {g : Nat} {x0 x1 x2 x3 x4 x5 : Value} (h : E6 w g x0 x1 x2 x3 x4 x5) (y : Value) :
    E6 (w.setCell ⟨g, 0, none⟩ y) g y x1 x2 x3 x4 x5 ∧ E6 (w.setCell ⟨g, 1, none⟩ y) g x0 y x2 x3 x4 x5 ∧ E6 (w.setCell ⟨g, 2, none⟩ y) g x0 x1 y x3 x4 x5 ∧ E6 (w.setCell ⟨g, 3, none⟩ y) g x0 x1 x2 y x4 x5 ∧ E6 (w.setCell ⟨g, 4, none⟩ y) g x0 x1 x2 x3 y x5 ∧ E6 (w.setCell ⟨g, 5, none⟩ y) g x0 x1 x2 x3 x4 y := by
  unfold E6 at *
  refine ⟨?_, ?_, ?_, ?_, ?_, ?_⟩
  · simpa using set_row (w := w) (a := g) (i := 0) (cs := [x0, x1, x2, x3, x4, x5]) (u := y) h
  · simpa using set_row (w := w) (a := g) (i := 1) (cs := [x0, x1, x2, x3, x4, x5]) (u := y) h
  · simpa using set_row (w := w) (a := g) (i := 2) (cs := [x0, x1, x2, x3, x4, x5]) (u := y) h
  · simpa using set_row (w := w) (a := g) (i := 3) (cs := [x0, x1, x2, x3, x4, x5]) (u := y) h
  · simpa using set_row (w := w) (a := g) (i := 4) (cs := [x0, x1, x2, x3, x4, x5]) (u := y) h
  · simpa using set_row (w := w) (a := g) (i := 5) (cs := [x0, x1, x2, x3, x4, x5]) (u := y) h
/-- An entry written whole. -/
def put6 (w : World) (g : Nat) (y0 y1 y2 y3 y4 y5 : Value) : World := (put5 w g y0 y1 y2 y3 y4).setCell ⟨g, 5, none⟩ y5
set_option maxRecDepth 100000 in
theorem E6.put {w : World} {g : Nat} {x0 x1 x2 x3 x4 x5 : Value} (h : E6 w g x0 x1 x2 x3 x4 x5) (y0 y1 y2 y3 y4 y5 : Value) : E6 (put6 w g y0 y1 y2 y3 y4 y5) g y0 y1 y2 y3 y4 y5 :=
  (((((((h.set y0).1).set y1).2.1.set y2).2.2.1.set y3).2.2.2.1.set y4).2.2.2.2.1.set y5).2.2.2.2.2
set_option maxRecDepth 100000 in
theorem E6.cf {w w' : World} {g : Nat} {x0 x1 x2 x3 x4 x5 : Value} {F : Nat → Prop} (h : E6 w g x0 x1 x2 x3 x4 x5) (hc : Cf F w w') (hg : ¬ F g) : E6 w' g x0 x1 x2 x3 x4 x5 := (hc.block g (lt_some h) hg).trans h
set_option maxRecDepth 100000 in
/-- A slice of bytes does not lie in an entry's block. -/
theorem Sl.apart6 {w : World} {ao : Option Addr} {n cap : Nat} {l : List Int} (h : Sl w ao n cap l) {g : Nat} {a b d : Option Addr} {c1 c2 c3 c4 c5 c6 : Nat} {x y z : Int} (hr : E6 w g (.slice a c1 c2) (.slice b c3 c4) (.int .i64 x) (.slice d c5 c6) (.int .i64 y) (.int .i64 z)) : n = 0 ∨ ∀ p, ao = some p → ¬ p.block = g := by
  rcases h.hat with h0 | ⟨q, off, rfl, hg, hc⟩
  · exact .inl h0
  · rcases Nat.eq_zero_or_pos n with h0 | h0
    · exact .inl h0
    · right
      rintro p hp rfl
      injection hp with hp
      subst hp
      have h1 := hc 0 h0
      unfold E6 at hr
      rw [cell_of_row _ _ _ _ _ _ hr] at h1
      rcases Nat.lt_or_ge (off + 0) 6 with h3 | h3
      · have h4 : off + 0 = 0 ∨ off + 0 = 1 ∨ off + 0 = 2 ∨ off + 0 = 3 ∨ off + 0 = 4 ∨ off + 0 = 5 := by omega
        rcases h4 with h4 | h4 | h4 | h4 | h4 | h4 <;> (rw [h4] at h1; simp at h1)
      · rw [Array.getElem?_eq_none (by simpa using h3)] at h1
        cases h1
/-- It lies below a block, or is empty. -/
def Lo (G : Nat) (ao : Option Addr) (n : Nat) : Prop := n = 0 ∨ ∀ q, ao = some q → q.block < G
set_option maxRecDepth 100000 in
theorem Sl.lo {w : World} {ao : Option Addr} {n cap : Nat} {l : List Int} (h : Sl w ao n cap l) : Lo w.heap.size ao n := by
  rcases h.hat with h0 | ⟨b, off, e, hlt, _⟩
  · exact .inl h0
  · exact .inr fun q hq => by rw [e] at hq; injection hq with hq; subst hq; exact hlt
end Go.Proofs.YtaicpmlcklkjgaaGreatDoor

/- packed.Page.entries: rows of entries. -/

namespace Go.Proofs.YtaicpmlcklkjgaaGreatDoor
open Go.RowKit

/-- An entry that lies in a row; what it holds lies below G. -/
def EAt (w : World) (G b off : Nat) (c : Cl) : Prop :=
  ∃ ho hn hc ko kn kc vo vn vc h key, w.cell? ⟨b, off, none⟩ = some (.slice ho hn hc) ∧ w.cell? ⟨b, off + 1, none⟩ = some (.slice ko kn kc) ∧ w.cell? ⟨b, off + 2, none⟩ = some (.int .i64 c.kd) ∧ w.cell? ⟨b, off + 3, none⟩ = some (.slice vo vn vc) ∧ w.cell? ⟨b, off + 4, none⟩ = some (.int .i64 c.pg) ∧ w.cell? ⟨b, off + 5, none⟩ = some (.int .i64 c.ct) ∧
    Sl w ho hn hc h ∧ Sl w ko kn kc key ∧ Sl w vo vn vc c.val ∧ h ++ key = c.key ∧ Lo G ho hn ∧ Lo G ko kn ∧ Lo G vo vn
/-- THE SLICE VALUE READS AS ENTRIES OF THE CELLS cs. -/
structure SlE (w : World) (G : Nat) (ao : Option Addr) (n cap : Nat) (cs : List Cl) : Prop where
  hlen : cs.length = n
  hcap : n ≤ cap
  hroom : n ≤ 140737488355328
  hnil : ao = none → cap = 0
  hat : n = 0 ∨ ∃ b off, ao = some ⟨b, off, none⟩ ∧ b < w.heap.size ∧ ∀ i c, cs[i]? = some c → EAt w G b (off + i * 6) c
set_option maxRecDepth 100000 in
theorem EAt.on {w w' : World} {G b off : Nat} {c : Cl} (h : EAt w G b off c) (hb : b < w.heap.size) (hB : Below w.heap.size w w') : EAt w' G b off c := by
  obtain ⟨ho, hn, hc, ko, kn, kc, vo, vn, vc, h', key, h0, h1, h2, h3, h4, h5, s1, s2, s3, r⟩ := h
  exact ⟨ho, hn, hc, ko, kn, kc, vo, vn, vc, h', key, (hB.cell (p := ⟨b, off, none⟩) hb).trans h0, (hB.cell (p := ⟨b, off + 1, none⟩) hb).trans h1, (hB.cell (p := ⟨b, off + 2, none⟩) hb).trans h2, (hB.cell (p := ⟨b, off + 3, none⟩) hb).trans h3, (hB.cell (p := ⟨b, off + 4, none⟩) hb).trans h4, (hB.cell (p := ⟨b, off + 5, none⟩) hb).trans h5, s1.on (Nat.le_refl _) hB, s2.on (Nat.le_refl _) hB, s3.on (Nat.le_refl _) hB, r⟩
set_option maxRecDepth 100000 in
theorem SlE.on {w w' : World} {G : Nat} {ao : Option Addr} {n cap : Nat} {cs : List Cl} (h : SlE w G ao n cap cs) (hB : Below w.heap.size w w') : SlE w' G ao n cap cs := by
  refine ⟨h.hlen, h.hcap, h.hroom, h.hnil, ?_⟩
  rcases h.hat with h0 | ⟨b, off, e, hb, hc⟩
  · exact .inl h0
  · exact .inr ⟨b, off, e, Nat.lt_of_lt_of_le hb hB.size, fun i c hi => (hc i c hi).on hb hB⟩
/-- A block of so many entries. -/
def RowEq (w : World) (b N : Nat) : Prop := ∃ cur : Array Value, w.heap[b]? = some (.cells cur 159 (0, 0)) ∧ cur.size = 6 * N
set_option maxRecDepth 100000 in
theorem RowEq.cell {w : World} {b N : Nat} (h : RowEq w b N) (j : Nat) (hj : j < 6 * N) : (w.cell? ⟨b, j, none⟩).isSome = true := by
  obtain ⟨cur, h1, h2⟩ := h
  simp [World.cell?, h1, h2, hj]
set_option maxRecDepth 100000 in
theorem RowEq.free {w : World} {b N : Nat} (h : RowEq w b N) (j : Nat) : w.frozen? ⟨b, j, none⟩ = false := by
  obtain ⟨cur, h1, h2⟩ := h
  simp [World.frozen?, h1]
set_option maxRecDepth 100000 in
theorem RowEq.lt {w : World} {b N : Nat} (h : RowEq w b N) : b < w.heap.size := by
  obtain ⟨cur, h1, _⟩ := h
  exact lt_some h1
set_option maxRecDepth 100000 in
theorem RowEq.on {w w' : World} {b N : Nat} (h : RowEq w b N) (hb : Below w.heap.size w w') : RowEq w' b N := by
  obtain ⟨cur, h1, h2⟩ := h
  exact ⟨cur, box_on h1 hb, h2⟩
set_option maxRecDepth 100000 in
theorem RowEq.set {w : World} {b N : Nat} (h : RowEq w b N) (j : Nat) (v : Value) : RowEq (w.setCell ⟨b, j, none⟩ v) b N := by
  obtain ⟨cur, h1, h2⟩ := h
  exact ⟨_, heap_setCell_same w b j cur _ v h1, by simp [h2]⟩
set_option maxRecDepth 100000 in
theorem RowEq.sets {b N : Nat} : ∀ (vs : List Value) (j : Nat) (w : World), RowEq w b N → RowEq (w.setCells b j vs) b N
  | [], _, _, h => h
  | v :: r, j, _, h => RowEq.sets r (j + 1) _ (h.set j v)
set_option maxRecDepth 100000 in
theorem RowEq.there {w : World} {b N : Nat} (h : RowEq w b N) {j : Nat} (hj : j + 6 ≤ 6 * N) : w.there b j 6 := fun i hi => ⟨h.cell (j + i) (by omega), h.free _⟩
set_option maxRecDepth 100000 in
theorem Sl.sets {w : World} {ao : Option Addr} {n cap G b j : Nat} {l : List Int} {vs : List Value} (h : Sl w ao n cap l) (hlo : Lo G ao n) (hG : G ≤ b) : Sl (w.setCells b j vs) ao n cap l := by
  refine ⟨h.hlen, h.hcap, h.hroom, h.wf, h.hnil, ?_⟩
  rcases h.hat with h0 | ⟨q, off, e, hlt, hc⟩
  · exact .inl h0
  · rcases hlo with h0 | hlo
    · exact .inl h0
    · have hq := hlo _ e
      simp only at hq
      have hblk : (w.setCells b j vs).heap[q]? = w.heap[q]? := World.heap_setCells_other _ _ _ _ hlt (by omega)
      refine .inr ⟨q, off, e, lt_some (hblk.trans (Array.getElem?_eq_getElem hlt)), fun i hi => ?_⟩
      rw [← hc i hi]
      exact World.cell?_of_block hblk
set_option maxRecDepth 100000 in
theorem EAt.put {w : World} {G b i j : Nat} {c : Cl} {vs : List Value} (h : EAt w G b (i * 6) c) (hG : G ≤ b) (hij : i < j) : EAt (w.setCells b (j * 6) vs) G b (i * 6) c := by
  obtain ⟨ho, hn, hc, ko, kn, kc, vo, vn, vc, h', key, h0, h1, h2, h3, h4, h5, s1, s2, s3, e, l1, l2, l3⟩ := h
  have hout : ∀ d, d < 6 → (w.setCells b (j * 6) vs).cell? ⟨b, i * 6 + d, none⟩ = w.cell? ⟨b, i * 6 + d, none⟩ := fun d hd => World.cell?_setCells_out b _ _ w _ (fun _ _ => .inl (by simp only; omega))
  exact ⟨ho, hn, hc, ko, kn, kc, vo, vn, vc, h', key, (hout 0 (by omega)).trans h0, (hout 1 (by omega)).trans h1, (hout 2 (by omega)).trans h2, (hout 3 (by omega)).trans h3, (hout 4 (by omega)).trans h4, (hout 5 (by omega)).trans h5, s1.sets l1 hG, s2.sets l2 hG, s3.sets l3 hG, e, l1, l2, l3⟩
set_option maxRecDepth 100000 in
theorem EAt.new {w : World} {G b N j : Nat} {c : Cl} {ho ko vo : Option Addr} {hn hc kn kc vn vc : Nat} {h key : List Int} (hr : RowEq w b N) (hj : j * 6 + 6 ≤ 6 * N) (hG : G ≤ b) (s1 : Sl w ho hn hc h) (s2 : Sl w ko kn kc key) (s3 : Sl w vo vn vc c.val) (e : h ++ key = c.key) (l1 : Lo G ho hn) (l2 : Lo G ko kn) (l3 : Lo G vo vn) :
    EAt (w.setCells b (j * 6) [.slice ho hn hc, .slice ko kn kc, .int .i64 c.kd, .slice vo vn vc, .int .i64 c.pg, .int .i64 c.ct]) G b (j * 6) c := by
  have h' := World.rangeAt_setCells_same w b (j * 6) [.slice ho hn hc, .slice ko kn kc, .int .i64 c.kd, .slice vo vn vc, .int .i64 c.pg, .int .i64 c.ct] (hr.there hj)
  exact ⟨ho, hn, hc, ko, kn, kc, vo, vn, vc, h, key, h' 0 _ rfl, h' 1 _ rfl, h' 2 _ rfl, h' 3 _ rfl, h' 4 _ rfl, h' 5 _ rfl, s1.sets l1 hG, s2.sets l2 hG, s3.sets l3 hG, e, l1, l2, l3⟩
set_option maxRecDepth 100000 in
theorem Lo.mono {G H : Nat} {ao : Option Addr} {n : Nat} (h : Lo G ao n) (hG : G ≤ H) : Lo H ao n := by
  rcases h with h0 | h
  · exact .inl h0
  · exact .inr fun q hq => Nat.lt_of_lt_of_le (h q hq) hG
set_option maxRecDepth 100000 in
theorem qlen_any (w : World) (a : Nat) (k : Int) (n : Nat) (po : Option Addr) (pn pc : Nat) (bo : Option Addr) (bn bc : Nat) (so : Option Addr) (sn sc : Nat) (ws : Int) (P body : List Int) (st : List Nat) (h : PgQ w a k n po pn pc bo bn bc so sn sc ws P body st) :
    Calls Tryz.prog 160 #[.pointer (some ⟨a, 0, none⟩)] w fun e w' => e = .returned (.int .i64 (sn : Int)) ∧ w' = w := by
  obtain ⟨c0, c1, c2, c3, c4, c5⟩ := h.cells
  clear h
  go_enter Tryz.func160, Tryz.ntmps160
  go_wp2
  go_ret
  exact ⟨rfl, rfl⟩
end Go.Proofs.YtaicpmlcklkjgaaGreatDoor

/- packed: New, withShort, shortAt. -/

namespace Go.Proofs.YtaicpmlcklkjgaaGreatDoor
open Go.RowKit

/-- What New comes to. -/
def NewQ (k n : Int) (w : World) (e : Ending) (w' : World) : Prop :=
  ∃ po c, e = .returned (.tuple #[.pointer po, .int .i64 c]) ∧ Hid (Below w.heap.size w w') ∧ Hid ((po = none ∧ c = 1 ∧ ¬ (isKd k ∧ pw n)) ∨ (po = some ⟨w.heap.size, 0, none⟩ ∧ c = 0 ∧ isKd k ∧ pw n ∧ w'.heap[w.heap.size]? = some (.cells #[.int .i64 k, .int .i64 n, .slice none 0 0, .slice none 0 0, .slice none 0 0, .int .i64 0] 164 (0, 0))))
end Go.Proofs.YtaicpmlcklkjgaaGreatDoor

/- Bytes of one's own with zeros behind them; packed.withShort upon them. -/

namespace Go.Proofs.YtaicpmlcklkjgaaGreatDoor
open Go.RowKit

/-- THE BLOCK g HAS ROOM FOR N BYTES: l, AND ZEROS BEHIND. -/
def OwnZ (w : World) (g N : Nat) (l : List Int) : Prop := Bk w g (l ++ zs (N - l.length)) ∧ l.length ≤ N
set_option maxRecDepth 100000 in
theorem OwnZ.on {w w' : World} {g N : Nat} {l : List Int} (h : OwnZ w g N l) (hb : Below w.heap.size w w') : OwnZ w' g N l := ⟨h.1.on hb, h.2⟩
set_option maxRecDepth 100000 in
theorem OwnZ.lt {w : World} {g N : Nat} {l : List Int} (h : OwnZ w g N l) : g < w.heap.size := lt_some h.1
set_option maxRecDepth 100000 in
theorem OwnZ.owns {w : World} {g N : Nat} {l : List Int} (h : OwnZ w g N l) (hN : N ≤ 140737488355328) : OwnB w 0 (.slice (some ⟨g, 0, none⟩) l.length N) l := by
  obtain ⟨h1, h2⟩ := h
  refine ⟨by simp [By], .inr ⟨g, N, _, rfl, Nat.zero_le _, h1, h2, by unfold maxLen; omega, ?_, ?_⟩⟩
  · simp [By, zs_length]
    omega
  · simp [By]
end Go.Proofs.YtaicpmlcklkjgaaGreatDoor
