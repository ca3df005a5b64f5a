import Derived.Test.YtbkhjeacmmbabaaGreatDoorJ24
import Derived.Deep.RegionLaw
namespace Go.Proofs.YtbkhjeacmmbabaaGreatDoor
set_option maxRecDepth 100000
set_option maxHeartbeats 2000000
open Go.RowKit
structure PgQ (w : World) (a : Nat) (k : Int) (n : Nat) (po : Option Addr) (pn pc : Nat) (bo : Option Addr) (bn bc : Nat) (so : Option Addr) (sn sc : Nat) (ws : Int) (P body : List Int) (st : List Nat) : Prop where
 row : w.heap[a]? = some (.cells #[.int .i64 k, .int .i64 (n : Int), .slice po pn pc, .slice bo bn bc, .slice so sn sc, .int .i64 ws] 128 (0, 0))
 pre : Sl w po pn pc P
 body : Sl w bo bn bc body
 starts : SlN w so sn sc st
theorem PgQ.on {w w' : World} {a : Nat} {k : Int} {n : Nat} {po : Option Addr} {pn pc : Nat} {bo : Option Addr} {bn bc : Nat} {so : Option Addr} {sn sc : Nat} {ws : Int} {P body : List Int} {st : List Nat} (h : PgQ w a k n po pn pc bo bn bc so sn sc ws P body st) (hb : Below w.heap.size w w') : PgQ w' a k n po pn pc bo bn bc so sn sc ws P body st :=
 ⟨zag h.row hb, h.pre.on Lr hb, h.body.on Lr hb, h.starts.on hb⟩
theorem PgQ.cells {w : World} {a : Nat} {k : Int} {n : Nat} {po : Option Addr} {pn pc : Nat} {bo : Option Addr} {bn bc : Nat} {so : Option Addr} {sn sc : Nat} {ws : Int} {P body : List Int} {st : List Nat} (h : PgQ w a k n po pn pc bo bn bc so sn sc ws P body st) :
  w.cell? ⟨a, 0, none⟩ = some (.int .i64 k) ∧ w.cell? ⟨a, 1, none⟩ = some (.int .i64 (n : Int)) ∧ w.cell? ⟨a, 2, none⟩ = some (.slice po pn pc) ∧ w.cell? ⟨a, 3, none⟩ = some (.slice bo bn bc) ∧ w.cell? ⟨a, 4, none⟩ = some (.slice so sn sc) ∧ w.cell? ⟨a, 5, none⟩ = some (.int .i64 ws) := by
 refine ⟨?_, ?_, ?_, ?_, ?_, ?_⟩
 ·rw [cell_of_row _ _ 0 _ _ _ h.row]; rfl
 ·rw [cell_of_row _ _ 1 _ _ _ h.row]; rfl
 ·rw [cell_of_row _ _ 2 _ _ _ h.row]; rfl
 ·rw [cell_of_row _ _ 3 _ _ _ h.row]; rfl
 ·rw [cell_of_row _ _ 4 _ _ _ h.row]; rfl
 ·rw [cell_of_row _ _ 5 _ _ _ h.row]; rfl
structure LayQ (k : Int) (P : List Int) (cs : List Cl) (body : List Int) (st : List Nat) : Prop where
 len : st.length = cs.length
 beg : Beg k P cs
 fit : ∀ c ∈ cs, c.fit
 at_ : ∀ i c, cs[i]? = some c → ∃ r, body.drop (st.getD i 0) = qB (if k = 3 ∧ i = 0 then 0 else P.length) c ++ r
theorem qB_pos (m : Nat) (c : Cl) : 0 < (qB m c).length := by unfold qB; simp
theorem head_any (w : World) (a : Nat) (k : Int) (n : Nat) (po : Option Addr) (pn pc : Nat) (bo : Option Addr) (bn bc : Nat) (so : Option Addr) (sn sc : Nat) (ws : Int) (P body : List Int) (st : List Nat) (h : PgQ w a k n po pn pc bo bn bc so sn sc ws P body st) (i : Nat) :
  Calls Tryz.prog 127 #[.pointer (some ⟨a, 0, none⟩), .int .i64 (i : Int)] w fun e w' => ∃ ho hn hc, e = .returned (.slice ho hn hc) ∧ Hid (Sl w ho hn hc (if k = 3 ∧ i = 0 then [] else P) ∧ hn = (if k = 3 ∧ i = 0 then 0 else pn) ∧ (ho = none ∨ ho = po)) ∧ w' = w := by
 obtain ⟨c0, c1, c2, c3, c4, c5⟩ := h.cells
 by_cases hc : k = 3 ∧ i = 0
 ·have A : Hid (Calls Tryz.prog 82 #[.int .i64 k, .int .i64 (i : Int)] w fun e w' => e = .returned (.bool true) ∧ w' = w) := zaa (by
   have := zda k (i : Int) w
   rwa [decide_eq_true (show k = 3 ∧ (i : Int) = 0 by omega)] at this)
  rw [if_pos hc, if_pos hc]
  clear h hc
  go_enter Tryz.func127, Tryz.ntmps127
  go_wp2_with (go_at_call 82; refine zad A.out ?_)
  go_ret
  exact ⟨none, 0, 0, rfl, zaa ⟨Sl.nil_any _ _ _ (fun _ => rfl), rfl, .inl rfl⟩, rfl⟩
 ·have A : Hid (Calls Tryz.prog 82 #[.int .i64 k, .int .i64 (i : Int)] w fun e w' => e = .returned (.bool false) ∧ w' = w) := zaa (by
   have := zda k (i : Int) w
   rwa [decide_eq_false (show ¬ (k = 3 ∧ (i : Int) = 0) by omega)] at this)
  rw [if_neg hc, if_neg hc]
  have HP := zaa h.pre
  clear h hc
  go_enter Tryz.func127, Tryz.ntmps127
  go_wp2_with (go_at_call 82; refine zad A.out ?_)
  go_ret
  exact ⟨po, pn, pc, rfl, zaa ⟨HP.out, rfl, .inr rfl⟩, rfl⟩
theorem E6.free {w : World} {g : Nat} {x0 x1 x2 x3 x4 x5 : Value} (h : E6 w g x0 x1 x2 x3 x4 x5) (i : Nat) : w.frozen? ⟨g, i, none⟩ = false := by
 unfold E6 at h
 simp [World.frozen?, h]
theorem E6.set {w : World} {g : Nat} {x0 x1 x2 x3 x4 x5 : Value} (h : E6 w g x0 x1 x2 x3 x4 x5) (y : Value) :
  E6 (w.setCell ⟨g, 0, none⟩ y) g y x1 x2 x3 x4 x5 ∧ E6 (w.setCell ⟨g, 1, none⟩ y) g x0 y x2 x3 x4 x5 ∧ E6 (w.setCell ⟨g, 2, none⟩ y) g x0 x1 y x3 x4 x5 ∧ E6 (w.setCell ⟨g, 3, none⟩ y) g x0 x1 x2 y x4 x5 ∧ E6 (w.setCell ⟨g, 4, none⟩ y) g x0 x1 x2 x3 y x5 ∧ E6 (w.setCell ⟨g, 5, none⟩ y) g x0 x1 x2 x3 x4 y := by
 unfold E6 at *
 refine ⟨?_, ?_, ?_, ?_, ?_, ?_⟩
 ·simpa using zau (w := w) (a := g) (i := 0) (cs := [x0, x1, x2, x3, x4, x5]) (u := y) h
 ·simpa using zau (w := w) (a := g) (i := 1) (cs := [x0, x1, x2, x3, x4, x5]) (u := y) h
 ·simpa using zau (w := w) (a := g) (i := 2) (cs := [x0, x1, x2, x3, x4, x5]) (u := y) h
 ·simpa using zau (w := w) (a := g) (i := 3) (cs := [x0, x1, x2, x3, x4, x5]) (u := y) h
 ·simpa using zau (w := w) (a := g) (i := 4) (cs := [x0, x1, x2, x3, x4, x5]) (u := y) h
 ·simpa using zau (w := w) (a := g) (i := 5) (cs := [x0, x1, x2, x3, x4, x5]) (u := y) h
def put6 (w : World) (g : Nat) (y0 y1 y2 y3 y4 y5 : Value) : World := (put5 w g y0 y1 y2 y3 y4).setCell ⟨g, 5, none⟩ y5
theorem E6.put {w : World} {g : Nat} {x0 x1 x2 x3 x4 x5 : Value} (h : E6 w g x0 x1 x2 x3 x4 x5) (y0 y1 y2 y3 y4 y5 : Value) : E6 (put6 w g y0 y1 y2 y3 y4 y5) g y0 y1 y2 y3 y4 y5 :=
 (((((((h.set y0).1).set y1).2.1.set y2).2.2.1.set y3).2.2.2.1.set y4).2.2.2.2.1.set y5).2.2.2.2.2
theorem put6_cf (w : World) (g : Nat) (y0 y1 y2 y3 y4 y5 : Value) : Cf (· = g) w (put6 w g y0 y1 y2 y3 y4 y5) := (zaq w g y0 y1 y2 y3 y4).go (Cf.set _ _ _ _)
theorem sizeEnt : (Tryz.prog.info? 123).map (·.size) = some 6 := by kernel_rfl
theorem E6.cf {w w' : World} {g : Nat} {x0 x1 x2 x3 x4 x5 : Value} {F : Nat → Prop} (h : E6 w g x0 x1 x2 x3 x4 x5) (hc : Cf F w w') (hg : ¬ F g) : E6 w' g x0 x1 x2 x3 x4 x5 := (hc.block g (zaf h) hg).trans h
theorem Sl.apart6 {w : World} {ao : Option Addr} {n cap : Nat} {l : List Int} (h : Sl w ao n cap l) {g : Nat} {a b d : Option Addr} {c1 c2 c3 c4 c5 c6 : Nat} {x y z : Int} (hr : E6 w g (.slice a c1 c2) (.slice b c3 c4) (.int .i64 x) (.slice d c5 c6) (.int .i64 y) (.int .i64 z)) : n = 0 ∨ ∀ p, ao = some p → ¬ p.block = g := by
 rcases h.hat with h0 | ⟨q, off, rfl, hg, hc⟩
 ·exact .inl h0
 ·rcases Nat.eq_zero_or_pos n with h0 | h0
  ·exact .inl h0
  ·right
   rintro p hp rfl
   injection hp with hp
   subst hp
   have h1 := hc 0 h0
   unfold E6 at hr
   rw [cell_of_row _ _ _ _ _ _ hr] at h1
   rcases Nat.lt_or_ge (off + 0) 6 with h3 | h3
   ·have h4 : off + 0 = 0 ∨ off + 0 = 1 ∨ off + 0 = 2 ∨ off + 0 = 3 ∨ off + 0 = 4 ∨ off + 0 = 5 := zq
    rcases h4 with h4 | h4 | h4 | h4 | h4 | h4 <;> (rw [h4] at h1; simp at h1)
   ·rw [Array.getElem?_eq_none (by simpa using h3)] at h1
    cases h1
def Lo (G : Nat) (ao : Option Addr) (n : Nat) : Prop := n = 0 ∨ ∀ q, ao = some q → q.block < G
theorem Sl.lo {w : World} {ao : Option Addr} {n cap : Nat} {l : List Int} (h : Sl w ao n cap l) : Lo w.heap.size ao n := by
 rcases h.hat with h0 | ⟨b, off, e, A, _⟩
 ·exact .inl h0
 ·exact .inr fun q hq => by rw [e] at hq; injection hq with hq; subst hq; exact A
def EntTo (G : Nat) (c : Cl) (w : World) (e : Ending) (w' : World) : Prop :=
 ∃ (ho : Option Addr) (hn hc : Nat) (ko : Option Addr) (kn kc : Nat) (vo : Option Addr) (vn vc : Nat) (h key : List Int), e = .returned (.agg #[.slice ho hn hc, .slice ko kn kc, .int .i64 c.kd, .slice vo vn vc, .int .i64 c.pg, .int .i64 c.ct]) ∧ Hid (Sl w' ho hn hc h ∧ Sl w' ko kn kc key ∧ Sl w' vo vn vc c.val ∧ h ++ key = c.key ∧ Lo G ho hn ∧ Lo G ko kn ∧ Lo G vo vn) ∧ Hid (Below w.heap.size w w')
theorem pentry_any (w : World) (a : Nat) (k : Int) (n : Nat) (po : Option Addr) (pn pc : Nat) (bo : Option Addr) (bn bc : Nat) (so : Option Addr) (sn sc : Nat) (ws : Int) (P body : List Int) (st : List Nat) (cs : List Cl) (h : PgQ w a k n po pn pc bo bn bc so sn sc ws P body st) (hl : LayQ k P cs body st) (i : Nat) (c : Cl) (E : cs[i]? = some c) (G : Nat) (B7 : Lo G po pn) (B8 : Lo G bo bn) :
  Calls Tryz.prog 89 #[.pointer (some ⟨a, 0, none⟩), .int .i64 (i : Int)] w fun e w' => EntTo G c w e w' := by
 obtain ⟨c0, c1, c2, c3, c4, c5⟩ := h.cells
 have X := hl.fit c (List.mem_of_getElem? E)
 obtain ⟨r, I⟩ := hl.at_ i c E
 have Y : i < sn := by
  have := (zH.1 E).1
  have := hl.len
  have := h.starts.hlen
  omega
 obtain ⟨m, hm⟩ : ∃ m, (if k = 3 ∧ i = 0 then 0 else P.length) = m := ⟨_, rfl⟩
 obtain ⟨hd, K⟩ : ∃ hd, (if k = 3 ∧ i = 0 then [] else P) = hd := ⟨_, rfl⟩
 have T : hd ++ c.key.drop m = c.key := by
  rw [← hm, ← K]
  by_cases hc : k = 3 ∧ i = 0
  ·rw [if_pos hc, if_pos hc]
   simp
  ·rw [if_neg hc, if_neg hc]
   have hb := hl.beg c (mem_ktl E hc)
   conv => lhs; rw [← hb]
   rw [show (List.take P.length c.key).length = P.length from by rw [hb]]
   exact List.take_append_drop _ _
 rw [hm] at I
 have L : pC (body.drop (st.getD i 0)) = some (c.cut m, r) := by rw [I, pC_mid m c r X]
 have B4 : (st.getD i 0) < bn := by
  have h1 := congrArg List.length I
  rw [zK, zG, h.body.hlen] at h1
  have := qB_pos m c
  omega
 obtain ⟨s0, M⟩ : ∃ s0, st.getD i 0 = s0 := ⟨_, rfl⟩
 rw [M] at L B4
 obtain ⟨gb, off, rfl⟩ : ∃ gb off, bo = some ⟨gb, off, none⟩ := by
  rcases h.body.hat with h0 | ⟨b, off, e, _⟩
  ·omega
  ·exact ⟨b, off, e⟩
 obtain ⟨gs, offs, rfl, Z, A0⟩ : ∃ b off, so = some ⟨b, off, none⟩ ∧ b < w.heap.size ∧ ∀ j, j < sn → w.cell? ⟨b, off + j, none⟩ = some (.int .i64 ((st.getD j 0 : Nat) : Int)) := by
  rcases h.starts.hat with h0 | h0
  ·omega
  ·exact h0
 have cj := A0 i Y
 rw [M] at cj
 have B9 := zaa L
 have C0 := zaa h.body
 have C1 := zaa h
 have B5 := zaa T
 have i0 : (i : Int) < (sn : Int) := zq
 have i1 : i < sn := Y
 have B6 : s0 ≤ bn := zq
 have C : ∀ o, Below w.heap.size w (w.alloc o) := fun o => zab Br Lr _
 have D : ∀ o o', Below w.heap.size w ((w.alloc o).alloc o') := fun o o' => zab (C o) Lr _
 have U := zaa D
 have d2 := fun o => (h.on (C o)).cells.2.2.2.1
 have d3 := fun o => (h.on (C o)).cells.2.2.2.2.1
 have e2 := fun o o' => (h.on (D o o')).cells.2.2.2.1
 have e3 := fun o o' => (h.on (D o o')).cells.2.2.2.2.1
 have dj := fun o => ((C o).cell (p := ⟨gs, offs + i, none⟩) Z).trans cj
 have ej := fun o o' => ((D o o').cell (p := ⟨gs, offs + i, none⟩) Z).trans cj
 have C2 := zaa K
 clear h L A0 X C D E hl I T hm M K
 go_enter Tryz.func89, Tryz.ntmps89
 go_wp2_with fail
 go_region
 obtain ⟨g4, F⟩ : ∃ g4, w.heap.size = g4 := ⟨_, rfl⟩
 obtain ⟨x, hx⟩ : ∃ x, ((w.alloc (.cells #[.slice none 0 0, .slice none 0 0, .int .i64 0, .slice none 0 0, .int .i64 0, .int .i64 0] 123)).alloc (.cells #[.slice (some ⟨gb, off, none⟩) bn bc, .int .i64 (s0 : Int), .bool false] 159)).drew = x := ⟨_, rfl⟩
 have C : Below w.heap.size w x := by rw [← hx]; exact (U.out _ _).drew
 have N : Hid (Rdq x (g4 + 1) (some ⟨gb, off, none⟩) bn bc s0 false) := by
  rw [← hx, ← F]
  have hz : (w.alloc (.cells #[.slice none 0 0, .slice none 0 0, .int .i64 0, .slice none 0 0, .int .i64 0, .int .i64 0] 123)).heap.size = w.heap.size + 1 := by simp
  have := heap_alloc_last (w.alloc (.cells #[.slice none 0 0, .slice none 0 0, .int .i64 0, .slice none 0 0, .int .i64 0, .int .i64 0] 123)) (.cells #[.slice (some ⟨gb, off, none⟩) bn bc, .int .i64 (s0 : Int), .bool false] 159)
  rw [hz] at this
  exact zaa this
 have A1 : Hid (E6 x g4 (.slice none 0 0) (.slice none 0 0) (.int .i64 0) (.slice none 0 0) (.int .i64 0) (.int .i64 0)) := by
  rw [← hx, ← F]
  exact zaa ((Below.heap_alloc _ _ _ zv).trans (heap_alloc_last w _))
 have A2 : Hid (Sl x (some ⟨gb, off, none⟩) bn bc body) := zaa (C0.out.on Lr C)
 have O := zaa C
 rw [hx, F]
 have Q := zaa (head_any x a k n po pn pc _ bn bc _ sn sc ws P body st (C1.out.on C) i)
 rw [C2.out] at Q
 have A3 := zaa (ucell_any body x (g4 + 1) gb off bn bc s0 false N.out A2.out B6)
 have A4 := zaa F
 clear hx C c0 c1 c2 c3 c4 c5 cj d2 d3 e2 e3 dj ej F
 go_wp2_with (go_at_call 127; refine Q.out.mono ?_; rintro e w1 ⟨ho, hn, hc, rfl, R, C3⟩; refine Hid.out ?_)
 apply zaa
 clear C3 Q
 have H := zaa R.out.1
 have C4 : Hid (Lo G ho hn) := zaa (by
  obtain ⟨_, h2, h3⟩ := R.out
  rcases h3 with h3 | h3
  ·exact .inr fun q hq => by rw [h3] at hq; cases hq
  ·rcases B7 with h4 | h4
   ·left
    rw [h2]
    split <;> omega
   ·exact .inr fun q hq => h4 q (by rw [← h3]; exact hq))
 have A5 : Hid (gb < G) := zaa (by
  rcases B8 with h0 | h0
  ·omega
  ·exact h0 _ rfl)
 clear R
 go_wp2_with (go_at_call 129; refine A3.out.mono ?_; rintro e w2 ⟨ko, kn, kc, kd, vo, vn, vc, pg, ct, q, en, key, val, rfl, C6, J, HQ⟩; refine Hid.out ?_)
 apply zaa
 obtain ⟨A6, A7, A8, A9, _, B⟩ := HQ.out
 have V : Hid (Lo G ko kn ∧ Lo G vo vn) := zaa ⟨.inr fun q hq => by rw [A8 q hq]; exact A5.out, .inr fun q hq => by rw [A9 q hq]; exact A5.out⟩
 rw [B9.out] at B
 rcases B with ⟨B, _⟩ | ⟨B, _⟩
 ·injection B with B
  injection B with B0 C7
  unfold Cl.cut at B0
  injection B0 with g1 g2 g3 g4' g5
  subst g1 g2 g3 g4' g5
  have B1 := zaa A6
  have B2 := zaa A7
  have A : Hid (E6 w2 g4 (.slice none 0 0) (.slice none 0 0) (.int .i64 0) (.slice none 0 0) (.int .i64 0) (.int .i64 0)) := zaa (A1.out.cf J.out zq)
  have W : Hid (Sl w2 ho hn hc hd) := zaa (H.out.cf J.out (H.out.apartq N.out))
  obtain ⟨b0, b1, b2, b3, b4, b5⟩ := A.out.cells
  have f0 := A.out.free 0
  have f1 := A.out.free 1
  have f2 := A.out.free 2
  have f3 := A.out.free 3
  have f4 := A.out.free 4
  have f5 := A.out.free 5
  have B3 : Hid (Below w.heap.size w w2) := zaa (O.out.trans (J.out.below O.out.size (by have := A4.out; intro i hi e; omega)))
  clear HQ A6 A7 A8 A9 C7 A3 J C6 N A2 A1 O U H
  go_wp2
  refine bodyPost_ret (results_cell_row rfl _ _ g4 123 #[.slice ho hn hc, .slice ko kn kc, .int .i64 c.kd, .slice vo vn vc, .int .i64 c.pg, .int .i64 c.ct] (0, 0) _ zr (A.out.put _ _ _ _ _ _) Tryz.underlying123 rfl sizeEnt) rfl ?_
  have hf := put6_cf w2 g4 (.slice ho hn hc) (.slice ko kn kc) (.int .i64 c.kd) (.slice vo vn vc) (.int .i64 c.pg) (.int .i64 c.ct)
  exact ⟨ho, hn, hc, ko, kn, kc, vo, vn, vc, hd, c.key.drop m, rfl, zaa ⟨W.out.cf hf (W.out.apart6 A.out), B1.out.cf hf (B1.out.apart6 A.out), B2.out.cf hf (B2.out.apart6 A.out), B5.out, C4.out, V.out.1, V.out.2⟩, zaa (B3.out.trans (hf.below B3.out.size (by have := A4.out; intro i hi e; omega)))⟩
 ·cases B
def EAt (w : World) (G b off : Nat) (c : Cl) : Prop :=
 ∃ ho hn hc ko kn kc vo vn vc h key, w.cell? ⟨b, off, none⟩ = some (.slice ho hn hc) ∧ w.cell? ⟨b, off + 1, none⟩ = some (.slice ko kn kc) ∧ w.cell? ⟨b, off + 2, none⟩ = some (.int .i64 c.kd) ∧ w.cell? ⟨b, off + 3, none⟩ = some (.slice vo vn vc) ∧ w.cell? ⟨b, off + 4, none⟩ = some (.int .i64 c.pg) ∧ w.cell? ⟨b, off + 5, none⟩ = some (.int .i64 c.ct) ∧
  Sl w ho hn hc h ∧ Sl w ko kn kc key ∧ Sl w vo vn vc c.val ∧ h ++ key = c.key ∧ Lo G ho hn ∧ Lo G ko kn ∧ Lo G vo vn
structure SlE (w : World) (G : Nat) (ao : Option Addr) (n cap : Nat) (cs : List Cl) : Prop where
 hlen : cs.length = n
 hcap : n ≤ cap
 hroom : n ≤ 140737488355328
 hnil : ao = none → cap = 0
 hat : n = 0 ∨ ∃ b off, ao = some ⟨b, off, none⟩ ∧ b < w.heap.size ∧ ∀ i c, cs[i]? = some c → EAt w G b (off + i * 6) c
theorem EAt.on {w w' : World} {G b off : Nat} {c : Cl} (h : EAt w G b off c) (hb : b < w.heap.size) (hB : Below w.heap.size w w') : EAt w' G b off c := by
 obtain ⟨ho, hn, hc, ko, kn, kc, vo, vn, vc, h', key, h0, h1, h2, h3, h4, h5, s1, s2, s3, r⟩ := h
 exact ⟨ho, hn, hc, ko, kn, kc, vo, vn, vc, h', key, (hB.cell (p := ⟨b, off, none⟩) hb).trans h0, (hB.cell (p := ⟨b, off + 1, none⟩) hb).trans h1, (hB.cell (p := ⟨b, off + 2, none⟩) hb).trans h2, (hB.cell (p := ⟨b, off + 3, none⟩) hb).trans h3, (hB.cell (p := ⟨b, off + 4, none⟩) hb).trans h4, (hB.cell (p := ⟨b, off + 5, none⟩) hb).trans h5, s1.on Lr hB, s2.on Lr hB, s3.on Lr hB, r⟩
theorem SlE.on {w w' : World} {G : Nat} {ao : Option Addr} {n cap : Nat} {cs : List Cl} (h : SlE w G ao n cap cs) (hB : Below w.heap.size w w') : SlE w' G ao n cap cs := by
 refine ⟨h.hlen, h.hcap, h.hroom, h.hnil, ?_⟩
 rcases h.hat with h0 | ⟨b, off, e, hb, hc⟩
 ·exact .inl h0
 ·exact .inr ⟨b, off, e, zO hb hB.size, fun i c hi => (hc i c hi).on hb hB⟩
def zax (w : World) (b N : Nat) : Prop := ∃ cur : Array Value, w.heap[b]? = some (.cells cur 123 (0, 0)) ∧ cur.size = 6 * N
theorem zax.cell {w : World} {b N : Nat} (h : zax w b N) (j : Nat) (hj : j < 6 * N) : (w.cell? ⟨b, j, none⟩).isSome = true := by
 obtain ⟨cur, h1, h2⟩ := h
 simp [World.cell?, h1, h2, hj]
theorem zax.free {w : World} {b N : Nat} (h : zax w b N) (j : Nat) : w.frozen? ⟨b, j, none⟩ = false := by
 obtain ⟨cur, h1, h2⟩ := h
 simp [World.frozen?, h1]
theorem zax.lt {w : World} {b N : Nat} (h : zax w b N) : b < w.heap.size := by
 obtain ⟨cur, h1, _⟩ := h
 exact zaf h1
theorem zax.on {w w' : World} {b N : Nat} (h : zax w b N) (hb : Below w.heap.size w w') : zax w' b N := by
 obtain ⟨cur, h1, h2⟩ := h
 exact ⟨cur, zag h1 hb, h2⟩
theorem zax.set {w : World} {b N : Nat} (h : zax w b N) (j : Nat) (v : Value) : zax (w.setCell ⟨b, j, none⟩ v) b N := by
 obtain ⟨cur, h1, h2⟩ := h
 exact ⟨_, heap_setCell_same w b j cur _ v h1, by simp [h2]⟩
theorem zax.sets {b N : Nat} : ∀ (vs : List Value) (j : Nat) (w : World), zax w b N → zax (w.setCells b j vs) b N
 | [], _, _, h => h
 | v :: r, j, _, h => zax.sets r (j + 1) _ (h.set j v)
theorem zax.there {w : World} {b N : Nat} (h : zax w b N) {j : Nat} (hj : j + 6 ≤ 6 * N) : w.there b j 6 := fun i hi => ⟨h.cell (j + i) zq, h.free _⟩
theorem oneCell6 (ho ko vo : Option Addr) (hn hc kn kc vn vc : Nat) (kd pg ct : Int) : (#[.slice ho hn hc, .slice ko kn kc, .int .i64 kd, .slice vo vn vc, .int .i64 pg, .int .i64 ct] : Array Value).all (·.oneCell') = true :=
 all_oneCell_toArray (cs := [.slice ho hn hc, .slice ko kn kc, .int .i64 kd, .slice vo vn vc, .int .i64 pg, .int .i64 ct]) (by simp [Value.oneCell'])
theorem put_entry {ops : Array Oper} {rest : List Oper} {o : Oper} {a : Act} {w : World} {Q : Exit → Act → World → Prop} (A : o.guard = none) (p v : Operand)
  (B : o.op = .store 123 p v) (b j N : Nat) (ho ko vo : Option Addr) (hn hc kn kc vn vc : Nat) (kd pg ct : Int) (hr : zax w b N) (hp : a.eval p = .pointer (some ⟨b, j, none⟩)) (hv : a.eval v = .agg #[.slice ho hn hc, .slice ko kn kc, .int .i64 kd, .slice vo vn vc, .int .i64 pg, .int .i64 ct]) (hj : j + 6 ≤ 6 * N)
  (h : ∀ u, Hid (u = w.setCells b j [.slice ho hn hc, .slice ko kn kc, .int .i64 kd, .slice vo vn vc, .int .i64 pg, .int .i64 ct]) → wpList Tryz.prog ops Q rest (a.put o.dst undef) u) : wpList Tryz.prog ops Q (o :: rest) a w :=
 wpList_store_mid A _ p v B b j #[.slice ho hn hc, .slice ko kn kc, .int .i64 kd, .slice vo vn vc, .int .i64 pg, .int .i64 ct] hp hv (hr.there hj) sizeEnt (oneCell6 ..) (h _ (zaa rfl))
theorem Sl.sets {w : World} {ao : Option Addr} {n cap G b j : Nat} {l : List Int} {vs : List Value} (h : Sl w ao n cap l) (A : Lo G ao n) (hG : G ≤ b) : Sl (w.setCells b j vs) ao n cap l := by
 refine ⟨h.hlen, h.hcap, h.hroom, h.wf, h.hnil, ?_⟩
 rcases h.hat with h0 | ⟨q, off, e, C, hc⟩
 ·exact .inl h0
 ·rcases A with h0 | A
  ·exact .inl h0
  ·have hq := A _ e
   simp only at hq
   have B : (w.setCells b j vs).heap[q]? = w.heap[q]? := World.heap_setCells_other _ _ _ _ C zq
   refine .inr ⟨q, off, e, zaf (B.trans (Array.getElem?_eq_getElem C)), fun i hi => ?_⟩
   rw [← hc i hi]
   exact World.cell?_of_block B
theorem EAt.put {w : World} {G b i j : Nat} {c : Cl} {vs : List Value} (h : EAt w G b (i * 6) c) (hG : G ≤ b) (B : i < j) : EAt (w.setCells b (j * 6) vs) G b (i * 6) c := by
 obtain ⟨ho, hn, hc, ko, kn, kc, vo, vn, vc, h', key, h0, h1, h2, h3, h4, h5, s1, s2, s3, e, l1, l2, l3⟩ := h
 have A : ∀ d, d < 6 → (w.setCells b (j * 6) vs).cell? ⟨b, i * 6 + d, none⟩ = w.cell? ⟨b, i * 6 + d, none⟩ := fun d hd => World.cell?_setCells_out b _ _ w _ (fun _ _ => .inl (by simp only; omega))
 exact ⟨ho, hn, hc, ko, kn, kc, vo, vn, vc, h', key, (A 0 zq).trans h0, (A 1 zq).trans h1, (A 2 zq).trans h2, (A 3 zq).trans h3, (A 4 zq).trans h4, (A 5 zq).trans h5, s1.sets l1 hG, s2.sets l2 hG, s3.sets l3 hG, e, l1, l2, l3⟩
theorem EAt.new {w : World} {G b N j : Nat} {c : Cl} {ho ko vo : Option Addr} {hn hc kn kc vn vc : Nat} {h key : List Int} (hr : zax w b N) (hj : j * 6 + 6 ≤ 6 * N) (hG : G ≤ b) (s1 : Sl w ho hn hc h) (s2 : Sl w ko kn kc key) (s3 : Sl w vo vn vc c.val) (e : h ++ key = c.key) (l1 : Lo G ho hn) (l2 : Lo G ko kn) (l3 : Lo G vo vn) :
  EAt (w.setCells b (j * 6) [.slice ho hn hc, .slice ko kn kc, .int .i64 c.kd, .slice vo vn vc, .int .i64 c.pg, .int .i64 c.ct]) G b (j * 6) c := by
 have h' := World.rangeAt_setCells_same w b (j * 6) [.slice ho hn hc, .slice ko kn kc, .int .i64 c.kd, .slice vo vn vc, .int .i64 c.pg, .int .i64 c.ct] (hr.there hj)
 exact ⟨ho, hn, hc, ko, kn, kc, vo, vn, vc, h, key, h' 0 _ rfl, h' 1 _ rfl, h' 2 _ rfl, h' 3 _ rfl, h' 4 _ rfl, h' 5 _ rfl, s1.sets l1 hG, s2.sets l2 hG, s3.sets l3 hG, e, l1, l2, l3⟩
theorem infoE : (Tryz.prog.info? 123).map (fun i => (i.zero, i.size, i.bytes)) = some (some (.agg #[.slice none 0 0, .slice none 0 0, .int .i64 0, .slice none 0 0, .int .i64 0, .int .i64 0]), 6, 96) := by kernel_rfl
theorem zcr (w : World) (a : Nat) (k : Int) (n : Nat) (po : Option Addr) (pn pc : Nat) (bo : Option Addr) (bn bc : Nat) (so : Option Addr) (sn sc : Nat) (ws : Int) (P body : List Int) (st : List Nat) (h : PgQ w a k n po pn pc bo bn bc so sn sc ws P body st) :
  Calls Tryz.prog 88 #[.pointer (some ⟨a, 0, none⟩)] w fun e w' => e = .returned (.int .i64 (sn : Int)) ∧ w' = w := by
 obtain ⟨c0, c1, c2, c3, c4, c5⟩ := h.cells
 clear h
 go_enter Tryz.func88, Tryz.ntmps88
 go_wp2
 go_ret
 exact ⟨rfl, rfl⟩
theorem entries_any (w : World) (a : Nat) (k : Int) (n : Nat) (po : Option Addr) (pn pc : Nat) (bo : Option Addr) (bn bc : Nat) (so : Option Addr) (sn sc : Nat) (ws : Int) (P body : List Int) (st : List Nat) (cs : List Cl) (h : PgQ w a k n po pn pc bo bn bc so sn sc ws P body st) (hl : LayQ k P cs body st) (hsz : sn ≤ 65536) :
  Calls Tryz.prog 134 #[.pointer (some ⟨a, 0, none⟩)] w fun e w' => ∃ g, e = .returned (.slice (some ⟨g, 0, none⟩) sn sn) ∧ Hid (SlE w' g (some ⟨g, 0, none⟩) sn sn cs) ∧ Hid (Below w.heap.size w w' ∧ w.heap.size ≤ g ∧ g < w'.heap.size) := by
 obtain ⟨ic, T, U, V, W⟩ := info_parts infoE
 have D := zaa h
 have HL := zaa hl
 have E : Hid (sn = cs.length) := zaa (by rw [← hl.len, h.starts.hlen])
 have F := zaa (zcr w a k n po pn pc bo bn bc so sn sc ws P body st h)
 clear h hl
 go_enter Tryz.func134, Tryz.ntmps134
 go_wp2_with (first
  | (go_at_call 88; refine zad F.out ?_)
  | (at_make; refine wpList_make_full _ rfl _ _ 121 rfl w.heap.size 123 ic _ 6 Tryz.underlying121 T U V .i64 .i64 sn sn sn rfl rfl rfl rfl (by rw [W]; omega) zml Lr ?_; refine Hid.out ?_))
 apply zaa
 intro w2 G H
 have I : Below w.heap.size w w2 := Br.grown H Lr (fun k hk => by cases hk)
 obtain ⟨g, hg⟩ : ∃ g, w.heap.size = g := ⟨_, rfl⟩
 have J : Hid (zax w2 g sn) := by
  rcases G.2 with ⟨h, _⟩ | ⟨q, c, cur, h, _, hh, _, _, X, _⟩
  ·cases h
  ·cases h
   rw [← hg]
   exact zaa ⟨cur, hh, by rw [X]; omega⟩
 have K : Below g w w2 := by rw [← hg]; exact I
 have L := zaa K
 have M := zaa hg
 have N : Hid (Lo g po pn ∧ Lo g bo bn) := zaa (by rw [← hg]; exact ⟨D.out.pre.lo, D.out.body.lo⟩)
 rw [hg]
 clear G H I F K
 go_wp2_with fail
 go_loopw [10] (fun i wr => ∃ j : Nat, j ≤ sn ∧ i = .int .i64 j ∧ Hid (zax wr g sn) ∧ Hid (Below g w wr) ∧ Hid (∀ i d, i < j → cs[i]? = some d → EAt wr g g (i * 6) d)) (fun i _ => sn - (intOf i).toNat)
 case atStart => exact ⟨0, zq, rfl, J, L, zaa fun i d hi => zq⟩
 case round =>
  obtain ⟨j, hj, rfl, HR, HG, HD⟩ := hrel
  have O : Hid (Below w.heap.size w wr) := zaa (by rw [M.out]; exact HG.out)
  have Q := zaa (D.out.on O.out)
  have bj : (j : Int) ≤ 65536 := zq
  clear J L
  by_cases Y : j < sn
  ·have A3 : (j : Int) < (sn : Int) := zq
   obtain ⟨d, hd⟩ : ∃ d, cs[j]? = some d := ⟨_, zI (by rw [← E.out]; exact Y)⟩
   have Z := zaa hd
   have HV := zaa (pentry_any wr a k n po pn pc bo bn bc so sn sc ws P body st cs Q.out HL.out j d hd g N.out.1 N.out.2)
   clear hd
   go_wp2_with (go_at_call 89; refine HV.out.mono ?_; rintro e u1 ⟨ho, hn, hc, ko, kn, kc, vo, vn, vc, h, key, rfl, HQ, A⟩; refine Hid.out ?_)
   apply zaa
   have B : Hid (zax u1 g sn) := zaa (HR.out.on A.out)
   have R : Hid (Below g w u1) := zaa (HG.out.trans (A.out.mono (Nat.le_of_lt HR.out.lt)))
   clear HV
   go_wp2_with (refine put_entry zr _ _ zr g (j * 6) sn ho ko vo hn hc kn kc vn vc d.kd d.pg d.ct B.out zr zr zq ?_; intro u3 C; refine Hid.out ?_)
   apply zaa
   have A0 : Hid (zax u3 g sn) := zaa (by rw [C.out]; exact zax.sets _ _ _ B.out)
   have A1 : Hid (Below g w u3) := zaa (by
    rw [C.out]
    simp only [World.setCells]
    refine (((((R.out.setCell ?_ _).setCell ?_ _).setCell ?_ _).setCell ?_ _).setCell ?_ _).setCell ?_ _ <;> simp)
   have A2 : Hid (∀ i d, i < j + 1 → cs[i]? = some d → EAt u3 g g (i * 6) d) := by
    refine zaa fun i d' hi hd' => ?_
    rw [C.out]
    by_cases e : i = j
    ·subst e
     rw [Z.out] at hd'
     injection hd' with hd'
     subst hd'
     obtain ⟨q1, q2, q3, q4, q5, q6, q7⟩ := HQ.out
     exact EAt.new B.out zq Lr q1 q2 q3 q4 q5 q6 q7
    ·exact ((HD.out i d' zq hd').on HR.out.lt A.out).put Lr zq
   clear C B R HR HG HD HQ A Q
   go_wp2
   go_roundw
   case rel => exact ⟨j + 1, zq, by go_num, A0, A1, A2⟩
   case measure => simp [intOf]; omega
  ·obtain rfl : j = sn := zq
   have A4 : ¬ (j : Int) < (j : Int) := zq
   go_wp2
   go_ret
   refine ⟨g, rfl, zaa ⟨E.out.symm, Lr, zq, (by intro h; cases h), .inr ⟨g, 0, rfl, HR.out.lt, fun i d hd => ?_⟩⟩, zaa ⟨by first | exact O.out | exact HG.out, by first | exact Lr | (rw [M.out]; exact Lr), HR.out.lt⟩⟩
   rw [Nat.zero_add]
   have := (zH.1 hd).1
   exact HD.out i d (by rw [E.out]; exact this) hd
def NewQ (k n : Int) (w : World) (e : Ending) (w' : World) : Prop :=
 ∃ po c, e = .returned (.tuple #[.pointer po, .int .i64 c]) ∧ Hid (Below w.heap.size w w') ∧ Hid ((po = none ∧ c = 1 ∧ ¬ (isKd k ∧ pw n)) ∨ (po = some ⟨w.heap.size, 0, none⟩ ∧ c = 0 ∧ isKd k ∧ pw n ∧ w'.heap[w.heap.size]? = some (.cells #[.int .i64 k, .int .i64 n, .slice none 0 0, .slice none 0 0, .slice none 0 0, .int .i64 0] 128 (0, 0))))
theorem short_fB (n : Nat) : [((n : Int) / 256) % 256, (n : Int) % 256] = fB 2 (n : Int) := by
 simp [fB]
def OwnZ (w : World) (g N : Nat) (l : List Int) : Prop := Bk w g (l ++ zs (N - l.length)) ∧ l.length ≤ N
theorem OwnZ.on {w w' : World} {g N : Nat} {l : List Int} (h : OwnZ w g N l) (hb : Below w.heap.size w w') : OwnZ w' g N l := ⟨h.1.on hb, h.2⟩
theorem OwnZ.owns {w : World} {g N : Nat} {l : List Int} (h : OwnZ w g N l) (hN : N ≤ 140737488355328) : OwnB w 0 (.slice (some ⟨g, 0, none⟩) l.length N) l := by
 obtain ⟨h1, h2⟩ := h
 refine ⟨by simp [By], .inr ⟨g, N, _, rfl, Nat.zero_le _, h1, h2, by unfold maxLen; omega, ?_, ?_⟩⟩
 ·simp [By, zbc]
  omega
 ·simp [By]
theorem app_z {ops : Array Oper} {rest : List Oper} {o : Oper} {a : Act} {Q : Exit → Act → World → Prop} (w : World) (F : o.guard = none) (s x : Operand)
  (ho : o.op = .call { callee := .builtin .append, args := #[s, x], argTypes := #[22, 22] }) (g N : Nat) (l news : List Int) (L : Nat) (ao : Option Addr) (n c : Nat) (hL : l.length = L) (hs : a.eval s = .slice (some ⟨g, 0, none⟩) L N) (hx : a.eval x = .slice ao n c)
  (hz : OwnZ w g N l) (A : Sl w ao n c news) (E : L + n ≤ N) (hN : N ≤ 140737488355328)
  (h : ∀ w', Hid (OwnZ w' g N (l ++ news)) → Hid (Cf (· = g) w w') → wpList Tryz.prog ops Q rest (a.put o.dst (.slice (some ⟨g, 0, none⟩) (L + n) N)) w') : wpList Tryz.prog ops Q (o :: rest) a w := by
 obtain ⟨i0, hi, H, B, I⟩ := info_parts info5
 have C := A.hlen
 subst hL
 cases ao with
 | none =>
  have : n = 0 := by have := A.hnil rfl; have := A.hcap; omega
  subst this
  have G := A.hnil rfl
  subst G
  obtain rfl : news = [] := List.eq_nil_of_length_eq_zero C
  exact wpList_append_own_none F s x 22 ho 0 5 i0 1 Tryz.underlying22 hi _ l.length (By l) hs (hz.owns hN) hx (h w (zaa (by simpa using hz)) (zaa (Cf.refl _ _)))
 | some ad =>
  refine wpList_plain F fun K hK => ?_
  have hr := run_append_room (P := Tryz.prog) w 22 o.type 5 i0 Tryz.underlying22 hi g l.length N _ hz.1 ad n c (By news) (by rw [B]; simp [By, C])
   (fun j u hu => by
    obtain ⟨h1, h2⟩ := getElem?_By news j u hu
    rw [h2]
    rcases A.hat with h0 | ⟨b, off, e, _, hc⟩
    ·omega
    ·injection e with e
     subst e
     rw [Addr.add_lit]
     exact hc j zq) (zbt news) E (by rw [B]; simp only [By, List.length_map, List.size_toArray, zG, zbc, Nat.mul_one]; omega)
  have D : ∀ w', w' = w.setRow g ((By (l ++ zs (N - l.length))).toArray.toList.take (l.length * i0.size) ++ By news ++ (By (l ++ zs (N - l.length))).toArray.toList.drop (l.length * i0.size + (By news).length)).toArray → Hid (OwnZ w' g N (l ++ news)) ∧ Hid (Cf (· = g) w w') := by
   rintro w' rfl
   refine ⟨zaa ⟨?_, by rw [zG]; omega⟩, zaa ⟨rfl, rfl, rfl, zv, fun k _ hk => setRow_other w g k _ hk⟩⟩
   unfold Bk
   rw [setRow_heap w g _ _ 5 _ hz.1]
   congr 3
   rw [B, Nat.mul_one]
   have e1 : (By (l ++ zs (N - l.length))).take l.length = By l := by simp [By]
   have e2 : (By (l ++ zs (N - l.length))).drop (l.length + news.length) = By (zs (N - (l ++ news).length)) := by
    simp only [By, List.map_append, zG]
    rw [← List.drop_drop, List.drop_left' zv]
    simp only [zs, List.map_replicate, List.drop_replicate]
    congr 1
    omega
   simp only [zbd]
   rw [e1, e2]
   simp [By]
  unfold Oper.wp execOp
  simp only [ho, resolve, invoke, builtin, Sem.run_bind, Sem.run_pure, Result.andThen_ok, List.map_toArray, List.map_cons, List.map_nil, hs, hx, hr]
  exact hK _ _ (h _ (D _ rfl).1 (D _ rfl).2)
theorem fB2_sl (w : World) (n : Nat) (hn : n < 65536) : Sl (w.alloc (.cells #[.int .u8 ((n : Int) / 256), .int .u8 ((n : Int) % 256)] 5)) (some ⟨w.heap.size, 0, none⟩) 2 2 (fB 2 (n : Int)) := by
 rw [← short_fB n, show (n : Int) / 256 % 256 = (n : Int) / 256 by omega]
 refine ⟨rfl, Lr, zq, Wf.cons zq (Wf.cons zq Wf.nil), (by intro h; cases h), .inr ⟨w.heap.size, 0, rfl, zv, fun i hi => ?_⟩⟩
 have hi' : i = 0 ∨ i = 1 := zq
 rcases hi' with rfl | rfl <;> simp
theorem withShort_z (g N : Nat) (l : List Int) (L n : Nat) (w : World) (hL : l.length = L) (hz : OwnZ w g N l) (hn : n < 65536) (B : L + 2 ≤ N) (hN : N ≤ 65536) :
  Calls Tryz.prog 128 #[.slice (some ⟨g, 0, none⟩) L N, .int .i64 (n : Int)] w fun e w' => e = .returned (.slice (some ⟨g, 0, none⟩) (L + 2) N) ∧ Hid (OwnZ w' g N (l ++ fB 2 (n : Int))) ∧ Hid (Cf (· = g) w w') := by
 obtain ⟨x, hx⟩ : ∃ x, w.alloc (.cells #[.int .u8 ((n : Int) / 256), .int .u8 ((n : Int) % 256)] 5) = x := ⟨_, rfl⟩
 have A : Below w.heap.size w x := by rw [← hx]; exact zab Br Lr _
 have HS : Hid (Sl x (some ⟨w.heap.size, 0, none⟩) 2 2 (fB 2 (n : Int))) := zaa (by rw [← hx]; exact fB2_sl w n hn)
 have HZ := zaa (hz.on A)
 have HC : Hid (Cf (· = g) w x) := zaa (Cf.of_below A)
 have w1 : IntKind.u8.wrap ((n : Int) / 256) = (n : Int) / 256 := by rw [IntKind.wrap_u8]; omega
 have w2 : IntKind.u8.wrap (n : Int) = (n : Int) % 256 := by rw [IntKind.wrap_u8]
 clear hz A
 go_enter Tryz.func128, Tryz.ntmps128
 go_wp2_with (at_builtin; refine app_z _ rfl _ _ rfl g N l (fB 2 (n : Int)) L (some ⟨w.heap.size, 0, none⟩) 2 2 hL rfl rfl HZ.out HS.out B zq ?_; refine Hid.out ?_)
 apply zaa
 intro w3 C D
 go_wp2
 go_ret
 exact ⟨rfl, C, zaa (HC.out.go D.out)⟩
end Go.Proofs.YtbkhjeacmmbabaaGreatDoor
