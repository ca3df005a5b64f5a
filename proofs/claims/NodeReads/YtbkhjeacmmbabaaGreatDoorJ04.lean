import Derived.Test.YtbkhjeacmmbabaaGreatDoorJ03
import Derived.Laws.AppendOwnNone
import Derived.Maps.AppendAt
namespace Go.Proofs.YtbkhjeacmmbabaaGreatDoor
set_option maxRecDepth 100000
set_option maxHeartbeats 1000000
open Go.RowKit
theorem Cs.number1 {w u : World} {k r g off n cap p : Nat} {en : Bool} {l : List Int} {x0 x1 x2 x3 x4 : Value} (h : Cs w u k r g off n cap p en l x0 x1 x2 x3 x4) (hr : r < w.heap.size) :
  Calls Tryz.prog 158 #[.pointer (some ⟨r, 0, none⟩), .int .i64 1] u fun e w' => ∃ (v : Int) (p' : Nat) (en' : Bool), e = .returned (.int .i64 v) ∧ Hid (Cs w w' k r g off n cap p' en' l x0 x1 x2 x3 x4) ∧ Hid ((pNum 1 (l.drop p) = some (v, l.drop p') ∧ en' = en) ∨ (pNum 1 (l.drop p) = none ∧ en' = true)) ∧ Hid (Cf (· = r) u w') := by
 simpa using h.number hr 1 (.inl rfl)
theorem Cs.number4 {w u : World} {k r g off n cap p : Nat} {en : Bool} {l : List Int} {x0 x1 x2 x3 x4 : Value} (h : Cs w u k r g off n cap p en l x0 x1 x2 x3 x4) (hr : r < w.heap.size) :
  Calls Tryz.prog 158 #[.pointer (some ⟨r, 0, none⟩), .int .i64 4] u fun e w' => ∃ (v : Int) (p' : Nat) (en' : Bool), e = .returned (.int .i64 v) ∧ Hid (Cs w w' k r g off n cap p' en' l x0 x1 x2 x3 x4) ∧ Hid ((pNum 4 (l.drop p) = some (v, l.drop p') ∧ en' = en) ∨ (pNum 4 (l.drop p) = none ∧ en' = true)) ∧ Hid (Cf (· = r) u w') := by
 simpa using h.number hr 4 (.inr (.inr rfl))
def CellTo (l : List Int) (w : World) (r g off n cap at_ : Nat) (en : Bool) (e : Ending) (w' : World) : Prop :=
 ∃ (ko : Option Addr) (kn kc : Nat) (kd : Int) (vo : Option Addr) (vn vc : Nat) (pg ct : Int) (p : Nat) (en' : Bool) (key val : List Int), e = .returned (.agg #[.slice ko kn kc, .int .i64 kd, .slice vo vn vc, .int .i64 pg, .int .i64 ct]) ∧ Hid (Rd w' r (some ⟨g, off, none⟩) n cap p en') ∧ Hid (Cf (· = r) w w') ∧
  Hid (Sl w' ko kn kc key ∧ Sl w' vo vn vc val ∧ (∀ q, ko = some q → q.block = g) ∧ p ≤ n ∧ ((zaj (l.drop at_) = some (⟨key, kd, val, pg, ct⟩, l.drop p) ∧ en' = en) ∨ (zaj (l.drop at_) = none ∧ en' = true)))
theorem cellV {l : List Int} {a p1 p2 p3 : Nat} {en e1 e2 e3 : Bool} {key val : List Int} (h1 : (pNum 1 (l.drop a) = some (1, l.drop p1) ∧ e1 = en) ∨ (pNum 1 (l.drop a) = none ∧ e1 = true))
  (h2 : (zao (l.drop p1) = some (key, l.drop p2) ∧ e2 = e1) ∨ (zao (l.drop p1) = none ∧ e2 = true)) (h3 : (zao (l.drop p2) = some (val, l.drop p3) ∧ e3 = e2) ∨ (zao (l.drop p2) = none ∧ e3 = true)) :
  (zaj (l.drop a) = some (⟨key, 1, val, 0, 0⟩, l.drop p3) ∧ e3 = en) ∨ (zaj (l.drop a) = none ∧ e3 = true) := by
 unfold zaj
 rcases h1 with ⟨h1, rfl⟩ | ⟨h1, rfl⟩
 ·rw [h1]
  simp only
  rcases h2 with ⟨h2, rfl⟩ | ⟨h2, rfl⟩
  ·rw [h2]
   simp only [if_true]
   rcases h3 with ⟨h3, rfl⟩ | ⟨h3, rfl⟩
   ·rw [h3]; exact .inl ⟨rfl, rfl⟩
   ·rw [h3]; exact .inr ⟨rfl, rfl⟩
  ·rw [h2]
   refine .inr ⟨rfl, ?_⟩
   rcases h3 with ⟨_, h⟩ | ⟨_, h⟩ <;> exact h
 ·rw [h1]
  refine .inr ⟨rfl, ?_⟩
  rcases h2 with ⟨_, rfl⟩ | ⟨_, rfl⟩ <;> rcases h3 with ⟨_, h⟩ | ⟨_, h⟩ <;> exact h
theorem cellN {l : List Int} {a p1 p2 p3 p4 : Nat} {en e1 e2 e3 e4 : Bool} {key : List Int} {kd pg ct : Int} (hk : kd ≠ 1) (h1 : (pNum 1 (l.drop a) = some (kd, l.drop p1) ∧ e1 = en) ∨ (pNum 1 (l.drop a) = none ∧ e1 = true))
  (h2 : (zao (l.drop p1) = some (key, l.drop p2) ∧ e2 = e1) ∨ (zao (l.drop p1) = none ∧ e2 = true)) (h3 : (pNum 4 (l.drop p2) = some (pg, l.drop p3) ∧ e3 = e2) ∨ (pNum 4 (l.drop p2) = none ∧ e3 = true))
  (h4 : (pNum 4 (l.drop p3) = some (ct, l.drop p4) ∧ e4 = e3) ∨ (pNum 4 (l.drop p3) = none ∧ e4 = true)) :
  (zaj (l.drop a) = some (⟨key, kd, [], pg, ct⟩, l.drop p4) ∧ e4 = en) ∨ (zaj (l.drop a) = none ∧ e4 = true) := by
 unfold zaj
 rcases h1 with ⟨h1, rfl⟩ | ⟨h1, rfl⟩
 ·rw [h1]
  simp only
  rcases h2 with ⟨h2, rfl⟩ | ⟨h2, rfl⟩
  ·rw [h2]
   simp only [if_neg hk]
   rcases h3 with ⟨h3, rfl⟩ | ⟨h3, rfl⟩
   ·rw [h3]
    simp only
    rcases h4 with ⟨h4, rfl⟩ | ⟨h4, rfl⟩
    ·rw [h4]; exact .inl ⟨rfl, rfl⟩
    ·rw [h4]; exact .inr ⟨rfl, rfl⟩
   ·rw [h3]
    refine .inr ⟨rfl, ?_⟩
    rcases h4 with ⟨_, h⟩ | ⟨_, h⟩ <;> exact h
  ·rw [h2]
   refine .inr ⟨rfl, ?_⟩
   rcases h3 with ⟨_, rfl⟩ | ⟨_, rfl⟩ <;> rcases h4 with ⟨_, h⟩ | ⟨_, h⟩ <;> exact h
 ·rw [h1]
  refine .inr ⟨rfl, ?_⟩
  rcases h2 with ⟨_, rfl⟩ | ⟨_, rfl⟩ <;> rcases h3 with ⟨_, rfl⟩ | ⟨_, rfl⟩ <;> rcases h4 with ⟨_, h⟩ | ⟨_, h⟩ <;> exact h
def put5 (w : World) (g : Nat) (y0 y1 y2 y3 y4 : Value) : World := ((((w.setCell ⟨g, 0, none⟩ y0).setCell ⟨g, 1, none⟩ y1).setCell ⟨g, 2, none⟩ y2).setCell ⟨g, 3, none⟩ y3).setCell ⟨g, 4, none⟩ y4
theorem C5.put {w : World} {g : Nat} {x0 x1 x2 x3 x4 : Value} (h : C5 w g x0 x1 x2 x3 x4) (y0 y1 y2 y3 y4 : Value) : C5 (put5 w g y0 y1 y2 y3 y4) g y0 y1 y2 y3 y4 :=
 ((((((h.set y0).1).set y1).2.1.set y2).2.2.1.set y3).2.2.2.1.set y4).2.2.2.2
theorem zaq (w : World) (g : Nat) (y0 y1 y2 y3 y4 : Value) : Cf (· = g) w (put5 w g y0 y1 y2 y3 y4) := ((((Cf.set _ _ _ _).go (Cf.set _ _ _ _)).go (Cf.set _ _ _ _)).go (Cf.set _ _ _ _)).go (Cf.set _ _ _ _)
theorem zal : (Tryz.prog.info? 50).map (·.size) = some 5 := by kernel_rfl
theorem Cs.fin {w u : World} {k r g off n cap p at_ : Nat} {en en' : Bool} {l : List Int} {ko vo : Option Addr} {kn kc vn vc : Nat} {kd pg ct : Int} (h : Cs w u k r g off n cap p en' l (.slice ko kn kc) (.int .i64 kd) (.slice vo vn vc) (.int .i64 pg) (.int .i64 ct)) (hr : r < w.heap.size) {key val : List Int}
  (hk : Sl u ko kn kc key) (hv : Sl u vo vn vc val) (A : ∀ q, ko = some q → q.block = g) (hc : (zaj (l.drop at_) = some (⟨key, kd, val, pg, ct⟩, l.drop p) ∧ en' = en) ∨ (zaj (l.drop at_) = none ∧ en' = true)) :
  CellTo l w r g off n cap at_ en (.returned (.agg #[.slice ko kn kc, .int .i64 kd, .slice vo vn vc, .int .i64 pg, .int .i64 ct])) (put5 u k (.slice ko kn kc) (.int .i64 kd) (.slice vo vn vc) (.int .i64 pg) (.int .i64 ct)) := by
 obtain ⟨h1, h2⟩ := h.r_lt hr
 have hf := zaq u k (.slice ko kn kc) (.int .i64 kd) (.slice vo vn vc) (.int .i64 pg) (.int .i64 ct)
 refine ⟨ko, kn, kc, kd, vo, vn, vc, pg, ct, p, en', key, val, rfl, zaa (h.rd.cf hf zq), zaa (h.cf.trans hf ?_), zaa ⟨hk.cf hf (hk.apart5 h.c2), hv.cf hf (hv.apart5 h.c2), A, h.hp, hc⟩⟩
 intro j hj e
 have := h.hk
 omega
theorem cell_any (l : List Int) (w : World) (r g off n cap at_ : Nat) (en : Bool) (hr : Rd w r (some ⟨g, off, none⟩) n cap at_ en) (hs : Sl w (some ⟨g, off, none⟩) n cap l) (ha : at_ ≤ n) :
  Calls Tryz.prog 120 #[.pointer (some ⟨r, 0, none⟩)] w fun e w' => CellTo l w r g off n cap at_ en e w' := by
 have B := hr.lt
 obtain ⟨k, hk⟩ : ∃ k, w.heap.size = k := ⟨_, rfl⟩
 obtain ⟨u, hu⟩ : ∃ u, (w.alloc (.cells #[.slice none 0 0, .int .i64 0, .slice none 0 0, .int .i64 0, .int .i64 0] 50)).alloc (.cells #[.slice none 0 0, .int .i64 0, .slice none 0 0, .int .i64 0, .int .i64 0] 50) = u := ⟨_, rfl⟩
 have V : Hid (Cs w u k r g off n cap at_ en l (.slice none 0 0) (.int .i64 0) (.slice none 0 0) (.int .i64 0) (.int .i64 0)) := by
  have hc : Cf (· = r) w u := by rw [← hu]; exact (Cf.alloc _ _ _).go (Cf.alloc _ _ _)
  refine zaa ⟨?_, ?_, ?_, ?_, hc, hk.symm, ha⟩
  ·rw [← hu]
   exact (Below.heap_alloc _ _ _ zso).trans ((Below.heap_alloc _ _ _ B).trans hr)
  ·rw [← hu]
   exact hs.on Lr (zab (zab Br Lr _) Lr _)
  ·rw [← hu, ← hk]
   exact (Below.heap_alloc _ _ _ zv).trans (heap_alloc_last w _)
  ·rw [← hu, ← hk]
   have hz : (w.alloc (.cells #[.slice none 0 0, .int .i64 0, .slice none 0 0, .int .i64 0, .int .i64 0] 50)).heap.size = w.heap.size + 1 := by simp
   have := heap_alloc_last (w.alloc (.cells #[.slice none 0 0, .int .i64 0, .slice none 0 0, .int .i64 0, .int .i64 0] 50)) (.cells #[.slice none 0 0, .int .i64 0, .slice none 0 0, .int .i64 0, .int .i64 0] 50)
   rw [hz] at this
   exact this
 have N1 := zaa (V.out.number1 B)
 clear hr hs
 go_enter Tryz.func120, Tryz.ntmps120
 go_wp2_with (go_at_call 158; refine N1.out.mono ?_; rintro e w1 ⟨v1, p1, e1, rfl, J, O, W⟩; refine Hid.out ?_)
 apply zaa
 clear N1 V hu
 obtain ⟨a0, a1, a2, a3, a4⟩ := J.out.c3.cells
 obtain ⟨f0, f1, f2, f3, f4⟩ := J.out.c3.free
 have X := zaa (J.out.store B 1 (.int .i64 v1) (J.out.c3.set (.int .i64 v1)).2.1)
 have T1 := zaa (X.out.text B)
 go_wp2_with (go_at_call 159; refine T1.out.mono ?_; rintro e w2 ⟨ko, kn, kc, p2, e2, key, rfl, F, M, P, Y⟩; refine Hid.out ?_)
 apply zaa
 have Q := zaa M.out.1
 have T := zaa M.out.2
 clear M
 clear a0 a1 a2 a3 a4 f0 f1 f2 f3 f4 T1 X J
 obtain ⟨a0, a1, a2, a3, a4⟩ := F.out.c3.cells
 obtain ⟨f0, f1, f2, f3, f4⟩ := F.out.c3.free
 have H := zaa (F.out.store B 0 (.slice ko kn kc) (F.out.c3.set (.slice ko kn kc)).1)
 have D : Hid (Sl (w2.setCell ⟨k + 1, 0, none⟩ (.slice ko kn kc)) ko kn kc key) := zaa (Q.out.cf (Cf.set _ _ _ _) (Q.out.apart5 F.out.c3))
 by_cases h1 : v1 = 1
 ·subst h1
  have T2 := zaa (H.out.text B)
  go_wp2_with (go_at_call 159; refine T2.out.mono ?_; rintro e w3 ⟨vo, vn, vc, p3, e3, val, rfl, A, U, K, L⟩; refine Hid.out ?_)
  apply zaa
  have R := zaa U.out.1
  clear U
  have C : Hid (Sl w3 ko kn kc key) := zaa (D.out.cf L.out (D.out.apart H.out.rd))
  clear a0 a1 a2 a3 a4 f0 f1 f2 f3 f4 T2 H F D
  obtain ⟨a0, a1, a2, a3, a4⟩ := A.out.c3.cells
  obtain ⟨f0, f1, f2, f3, f4⟩ := A.out.c3.free
  obtain ⟨b0, b1, b2, b3, b4⟩ := A.out.c2.cells
  obtain ⟨d0, d1, d2, d3, d4⟩ := A.out.c2.free
  have I := zaa (A.out.store B 2 (.slice vo vn vc) (A.out.c3.set (.slice vo vn vc)).2.2.1)
  have G : Hid (Sl (w3.setCell ⟨k + 1, 2, none⟩ (.slice vo vn vc)) ko kn kc key) := zaa (C.out.cf (Cf.set _ _ _ _) (C.out.apart5 A.out.c3))
  have A2 : Hid (Sl (w3.setCell ⟨k + 1, 2, none⟩ (.slice vo vn vc)) vo vn vc val) := zaa (R.out.cf (Cf.set _ _ _ _) (R.out.apart5 A.out.c3))
  have HV := zaa (cellV O.out P.out K.out)
  clear A R C O P K W Y L Q
  go_wp2
  refine bodyPost_ret (results_cell_row rfl _ _ k 50 #[.slice ko kn kc, .int .i64 1, .slice vo vn vc, .int .i64 0, .int .i64 0] (0, 0) _ zr (I.out.c2.put _ _ _ _ _) Tryz.underlying50 rfl zal) rfl ?_
  exact I.out.fin B G.out A2.out T.out HV.out
 ·have T2 := zaa (H.out.number4 B)
  go_wp2_with (go_at_call 158; refine T2.out.mono ?_; rintro e w3 ⟨pg, p3, e3, rfl, A, K, L⟩; refine Hid.out ?_)
  apply zaa
  have C : Hid (Sl w3 ko kn kc key) := zaa (D.out.cf L.out (D.out.apart H.out.rd))
  clear a0 a1 a2 a3 a4 f0 f1 f2 f3 f4 T2 H F D
  obtain ⟨a0, a1, a2, a3, a4⟩ := A.out.c3.cells
  obtain ⟨f0, f1, f2, f3, f4⟩ := A.out.c3.free
  have I := zaa (A.out.store B 3 (.int .i64 pg) (A.out.c3.set (.int .i64 pg)).2.2.2.1)
  have G : Hid (Sl (w3.setCell ⟨k + 1, 3, none⟩ (.int .i64 pg)) ko kn kc key) := zaa (C.out.cf (Cf.set _ _ _ _) (C.out.apart5 A.out.c3))
  have T3 := zaa (I.out.number4 B)
  go_wp2_with (go_at_call 158; refine T3.out.mono ?_; rintro e w4 ⟨ct, p4, e4, rfl, E, Z, A0⟩; refine Hid.out ?_)
  apply zaa
  have N : Hid (Sl w4 ko kn kc key) := zaa (G.out.cf A0.out (G.out.apart I.out.rd))
  clear a0 a1 a2 a3 a4 f0 f1 f2 f3 f4 T3 I A C G
  obtain ⟨a0, a1, a2, a3, a4⟩ := E.out.c3.cells
  obtain ⟨f0, f1, f2, f3, f4⟩ := E.out.c3.free
  obtain ⟨b0, b1, b2, b3, b4⟩ := E.out.c2.cells
  obtain ⟨d0, d1, d2, d3, d4⟩ := E.out.c2.free
  have A1 := zaa (E.out.store B 4 (.int .i64 ct) (E.out.c3.set (.int .i64 ct)).2.2.2.2)
  have A3 : Hid (Sl (w4.setCell ⟨k + 1, 4, none⟩ (.int .i64 ct)) ko kn kc key) := zaa (N.out.cf (Cf.set _ _ _ _) (N.out.apart5 E.out.c3))
  have HV := zaa (cellN h1 O.out P.out K.out Z.out)
  clear E N O P K Z W Y L A0 Q
  go_wp2
  refine bodyPost_ret (results_cell_row rfl _ _ k 50 #[.slice ko kn kc, .int .i64 v1, .slice none 0 0, .int .i64 pg, .int .i64 ct] (0, 0) _ zr (A1.out.c2.put _ _ _ _ _) Tryz.underlying50 rfl zal) rfl ?_
  exact A1.out.fin B A3.out (Sl.nil_any _ _ _ fun _ => rfl) T.out HV.out
structure Gr (w : World) (v : Value) (w' : World) (v' : Value) : Prop where
 grow : w.grownBy w' v.ownBlock
 own : v'.ownBlock = v.ownBlock ∨ ∃ k, v'.ownBlock = some k ∧ w.heap.size ≤ k
theorem Gr.ofBelow {w w' : World} (v : Value) (h : Below w.heap.size w w') : Gr w v w' v := ⟨⟨h.os, h.tape, h.output, h.size, fun k hk _ => h.block k hk⟩, .inl rfl⟩
theorem Gr.refl (w : World) (v : Value) : Gr w v w v := Gr.ofBelow v Br
theorem Gr.alloc (w : World) (v : Value) (o : Obj) : Gr w v (w.alloc o) v := Gr.ofBelow v (Br.alloc Lr o)
theorem Gr.trans {w w1 w2 : World} {v v1 v2 : Value} (a : Gr w v w1 v1) (b : Gr w1 v1 w2 v2) : Gr w v w2 v2 := by
 have hs := a.grow.size
 refine ⟨⟨b.grow.os.trans a.grow.os, b.grow.tape.trans a.grow.tape, b.grow.output.trans a.grow.output, zN hs b.grow.size, fun k hk A => ?_⟩, ?_⟩
 ·refine (b.grow.block k (zO hk hs) ?_).trans (a.grow.block k hk A)
  rcases a.own with h | ⟨k', h, hk'⟩
  ·rw [h]; exact A
  ·rw [h]; intro e; cases e; omega
 ·rcases b.own with h | ⟨k', h, hk'⟩
  ·rcases a.own with h' | ⟨k'', h', hk''⟩
   ·exact .inl (h.trans h')
   ·exact .inr ⟨k'', h.trans h', hk''⟩
  ·exact .inr ⟨k', h, zq⟩
theorem Gr.below {w w' : World} {v v' : Value} {B : Nat} {l : List Int} (h : Gr w v w' v') (A : OwnB w B v l) (hB : B ≤ w.heap.size) : Below B w w' := zcu A hB h.grow
def Far (ao : Option Addr) (n : Nat) (v : Value) : Prop := n = 0 ∨ ∀ p, ao = some p → v.ownBlock ≠ some p.block
theorem Sl.gr {w w' : World} {v v' : Value} {ao : Option Addr} {n cap : Nat} {l : List Int} (h : Sl w ao n cap l) (hg : Gr w v w' v') (hf : Far ao n v) : Sl w' ao n cap l := by
 refine ⟨h.hlen, h.hcap, h.hroom, h.wf, h.hnil, ?_⟩
 rcases h.hat with h0 | ⟨b, off, e, A, hc⟩
 ·exact .inl h0
 ·rcases hf with h0 | hf
  ·exact .inl h0
  ·refine .inr ⟨b, off, e, zO A hg.grow.size, fun i hi => ?_⟩
   rw [← hc i hi]
   exact World.cell?_of_block (hg.grow.block b A (fun e2 => hf _ e e2.symm))
theorem Far.gr {w w' : World} {v v' : Value} {ao : Option Addr} {n cap : Nat} {l : List Int} (hf : Far ao n v) (h : Sl w ao n cap l) (hg : Gr w v w' v') : Far ao n v' := by
 rcases hf with h0 | hf
 ·exact .inl h0
 ·rcases h.hat with h0 | ⟨b, off, rfl, A, hc⟩
  ·exact .inl h0
  ·right
   intro p hp
   injection hp with hp
   subst hp
   rcases hg.own with e | ⟨k, e, hk⟩
   ·rw [e]; exact hf _ rfl
   ·rw [e]; intro h; injection h with h; simp only at h; omega
theorem OwnB.low {w : World} {B C : Nat} {v : Value} {l : List Int} (h : OwnB w C v l) (hB : B ≤ C) : OwnB w B v l := by
 unfold OwnB at *
 rcases h.2 with h2 | ⟨g, cap, cur, e, hg, rest⟩
 ·exact ⟨h.1, .inl h2⟩
 ·exact ⟨h.1, .inr ⟨g, cap, cur, e, zN hB hg, rest⟩⟩
theorem OwnB.far {w : World} {B : Nat} {v : Value} {l : List Int} (h : OwnB w B v l) {ao : Option Addr} {n : Nat} (hb : ∀ p, ao = some p → p.block < B) : Far ao n v := by
 right
 intro p hp e
 have := hb p hp
 unfold OwnB at h
 have h2 := (h.lt p.block e).1
 omega
theorem zat {ops : Array Oper} {rest : List Oper} {o : Oper} {a : Act} {Q : Exit → Act → World → Prop} (w : World) (F : o.guard = none) (s x : Operand)
  (ho : o.op = .call { callee := .builtin .append, args := #[s, x], argTypes := #[22, 22] }) (B : Nat) (l news : List Int) (v : Value) (ao : Option Addr) (n c : Nat) (hs : a.eval s = v) (hx : a.eval x = .slice ao n c)
  (C : OwnB w B v l) (A : Sl w ao n c news) (hb : l.length + n ≤ 140737488355328) (E : B ≤ w.heap.size)
  (h : ∀ v' w', OwnB w' B v' (l ++ news) → Gr w v w' v' → wpList Tryz.prog ops Q rest (a.put o.dst v') w') : wpList Tryz.prog ops Q (o :: rest) a w := by
 obtain ⟨i0, hi, G, H, I⟩ := info_parts info5
 have D := A.hlen
 cases ao with
 | none =>
  have : n = 0 := by have := A.hnil rfl; have := A.hcap; omega
  subst this
  have J := A.hnil rfl
  subst J
  obtain rfl : news = [] := List.eq_nil_of_length_eq_zero D
  exact wpList_append_own_none F s x 22 ho B 5 i0 1 Tryz.underlying22 hi v l.length (By l) hs C hx (h v w (by simpa using C) (Gr.refl _ _))
 | some ad =>
  refine wpList_append_own_at w F s x 22 ho B 5 i0 (.int .u8 0) 1 1 Tryz.underlying22 hi G H I rfl zd v l.length (By l) hs C ad n c (By news) hx (by simp [By, D])
   (fun j u hu => by
    obtain ⟨h1, h2⟩ := getElem?_By news j u hu
    rw [h2]
    rcases A.hat with h0 | ⟨b, off, e, _, hc⟩
    ·omega
    ·injection e with e
     subst e
     rw [Addr.add_lit]
     exact hc j zq) (zbt news) zml zq E ?_
  intro v' w' h1 h2 _ h4
  refine h v' w' ?_ ⟨h2, h4.imp id fun e => ⟨_, e, Lr⟩⟩
  unfold OwnB
  rw [zdb, zG, D]
  exact h1
theorem zdr (ao : Option Addr) (n cap : Nat) (l : List Int) (w : World) (hs : Sl w ao n cap l) :
  Calls Tryz.prog 119 #[.slice ao n cap] w fun e w' => e = .returned (.slice (some ⟨w.heap.size, 0, none⟩) n n) ∧ Hid (Bk w' w.heap.size l) ∧ Hid (Below w.heap.size w w') := by
 obtain ⟨i0, hi, I, E, J⟩ := info_parts info5
 obtain ⟨B, P, O, R, Q, K⟩ := hs
 have hsz : (Tryz.prog.info? 5).map (·.size) = some 1 := by rw [hi]; simp [E]
 go_enter Tryz.func119, Tryz.ntmps119
 go_wp2_with (at_make; refine wpList_make_full _ rfl _ _ 22 rfl w.heap.size 5 i0 (.int .u8 0) 1 Tryz.underlying22 hi I E .i64 .i64 n n n rfl rfl rfl rfl (by rw [J]; omega) zml Lr ?_)
 intro w1 A F
 have G : Below w.heap.size w w1 := Br.grown F Lr (fun k hk => by cases hk)
 clear F
 obtain ⟨cur, C, L⟩ : ∃ cur : List Value, w1.heap[w.heap.size]? = some (.cells cur.toArray 5 (0, 0)) ∧ cur.length = n := by
  rcases A.2 with ⟨h, _⟩ | ⟨g, c, cur, h, _, hh, _, _, hs, _⟩
  ·cases h
  ·cases h
   exact ⟨cur.toList, by simpa using hh, by simpa using hs⟩
 clear A
 have HC := zaa C
 clear C
 have D : 0 < (By l).length → some (⟨w.heap.size, 0, none⟩ : Addr) = some ⟨w.heap.size, 0, none⟩ ∧ ∃ ad, ao = some ad ∧ ∀ j v, (By l)[j]? = some v → w1.cell? (ad.add j) = some v := by
  intro h
  rw [zbd] at h
  rcases K with h0 | ⟨b, off, rfl, M, hc⟩
  ·omega
  ·refine ⟨rfl, _, rfl, fun j v hv => ?_⟩
   obtain ⟨h1, rfl⟩ := getElem?_By l j v hv
   rw [Addr.add_lit]
   exact (G.cell (p := ⟨b, off + j, none⟩) M).trans (hc j zq)
 have HP := zaa D
 clear D
 go_wp2_with (refine wpList_copy_splice rfl _ _ 22 22 rfl 5 Tryz.underlying22 hsz _ _ n n n cap rfl rfl w.heap.size 0 cur 5 HC.out (By l) (by rw [zbd, B]; exact (Nat.min_self n).symm) HP.out (by rw [zbd]; omega) (zbt l) w.heap.size w G Lr ?_)
 intro w2 hh H
 have ho : Hid (Bk w2 w.heap.size l) := by
  have h' := hh.out
  rw [show splice cur 0 (By l) = By l from by simp [splice, zbd, B, L]] at h'
  exact zaa h'
 have N := zaa H
 clear hh H
 go_wp2
 go_ret
 exact ⟨rfl, ho, N⟩
theorem ptaken_any (ka : Option Addr) (kn kc : Nat) (kd : Int) (va : Option Addr) (vn vc : Nat) (pg ct : Int) (w : World) (hk : kn ≤ 140737488355328) (hv : vn ≤ 140737488355328) :
  Calls Tryz.prog 70 #[.agg #[.slice ka kn kc, .int .i64 kd, .slice va vn vc, .int .i64 pg, .int .i64 ct]] w fun e w' => e = .returned (.int .i64 (if kd = 1 then 7 + (kn : Int) + (vn : Int) else 13 + (kn : Int))) ∧ Below w.heap.size w w' := by
 by_cases h : kd = 1
 ·subst h
  rw [if_pos rfl]
  go_enter Tryz.func70, Tryz.ntmps70
  go_wp2
  go_ret
  exact ⟨zbf zq, Br.alloc Lr _⟩
 ·rw [if_neg h]
  go_enter Tryz.func70, Tryz.ntmps70
  go_wp2
  go_ret
  exact ⟨zbf zq, Br.alloc Lr _⟩
theorem zdv (v : Value) (B : Nat) (l : List Int) (ao : Option Addr) (n c : Nat) (t : List Int) (w : World) (E : OwnB w B v l) (hB : B ≤ w.heap.size) (hs : Sl w ao n c t) (hf : Far ao n v) (hl : l.length + n ≤ 70368744177664) :
  Calls Tryz.prog 147 #[v, .slice ao n c] w fun e w' => ∃ v', e = .returned v' ∧ Hid (OwnB w' B v' (l ++ (fB 2 (n : Int) ++ t))) ∧ Hid (Gr w v w' v') := by
 have T := hs.hlen
 have hw : IntKind.u64.wrap (n : Int) = (n : Int) := by rw [IntKind.wrap_u64]; omega
 have HF := zaa (fixed_yes (n : Int) 2 w zq zq zq)
 have HS := zaa hs
 have HO := zaa E
 have L := zaa hf
 clear hs E hf
 go_enter Tryz.func147, Tryz.ntmps147
 go_wp2_with (go_at_call 117; refine HF.out.mono ?_; rintro e w1 ⟨v1, rfl, C, A⟩; refine Hid.out ?_)
 apply zaa
 rw [show (2 : Int).toNat = 2 from rfl] at C
 obtain ⟨a1, c1, rfl, s1, _⟩ := C.sl (zbb _ _) (by rw [zah]; omega)
 rw [zah] at s1
 rw [zah]
 have D := zaa s1
 have G : Hid (OwnB w1 B v l) := zaa (HO.out.on Lr A)
 have G1 := zaa (Gr.ofBelow v A)
 have H : B ≤ w1.heap.size := zN hB A.size
 have M : Hid (Sl w1 ao n c t) := zaa (HS.out.on Lr A)
 have HL : Hid ((fB 2 (n : Int)).length = 2) := zaa (zah _ _)
 obtain ⟨F, hF⟩ : ∃ F, fB 2 (n : Int) = F := ⟨_, rfl⟩
 have N := zaa hF
 rw [hF] at HL D
 clear hF
 clear s1 C A HF
 go_wp2_with (at_builtin; refine zat _ rfl _ _ rfl B l F v a1 2 c1 rfl rfl G.out D.out zq H ?_; refine Hid.out ?_)
 apply zaa
 intro v2 w2 I g2
 have O : B ≤ w2.heap.size := zN H g2.grow.size
 have P : Hid (Sl w2 ao n c t) := zaa (M.out.gr g2 L.out)
 have G2 := zaa (G1.out.trans g2)
 have Q := zaa I
 clear I g2 G D
 have R : (l ++ F).length + n ≤ 140737488355328 := by rw [zG, HL.out]; omega
 go_wp2_with (at_builtin; refine zat _ rfl _ _ rfl B (l ++ F) t v2 ao n c rfl rfl Q.out P.out R O ?_; refine Hid.out ?_)
 apply zaa
 intro v3 w3 J g3
 have K := zaa J
 have G3 := zaa (G2.out.trans g3)
 clear J g3
 go_wp2
 go_ret
 exact ⟨v3, rfl, zaa (by rw [N.out]; first | exact K.out | (rw [← zM]; exact K.out)), G3⟩
theorem sl_one (w : World) (x : Int) (hx : 0 ≤ x ∧ x ≤ 255) : Sl (w.alloc (.cells #[.int .u8 x] 5)) (some ⟨w.heap.size, 0, none⟩) 1 1 [x] := by
 refine ⟨rfl, Lr, zq, Wf.cons hx Wf.nil, (by intro h; cases h), .inr ⟨w.heap.size, 0, rfl, zv, ?_⟩⟩
 intro i hi
 obtain rfl : i = 0 := zq
 simp
theorem C5.box (w : World) (x0 x1 x2 x3 x4 : Value) : C5 (w.alloc (.cells #[x0, x1, x2, x3, x4] 50)) w.heap.size x0 x1 x2 x3 x4 := heap_alloc_last w _
theorem C5.gr {w w' : World} {v v' : Value} {g : Nat} {x0 x1 x2 x3 x4 : Value} (h : C5 w g x0 x1 x2 x3 x4) (hg : Gr w v w' v') (hv : v.ownBlock ≠ some g) : C5 w' g x0 x1 x2 x3 x4 := (hg.grow.block g (zaf h) (fun e => hv e.symm)).trans h
theorem OwnB.apart5 {w : World} {B : Nat} {v : Value} {l : List Int} (h : OwnB w B v l) {g : Nat} {x0 x1 x2 x3 x4 : Value} (hc : C5 w g x0 x1 x2 x3 x4) : v.ownBlock ≠ some g := by
 intro e
 unfold OwnB at h
 rcases h.2 with ⟨rfl, _⟩ | ⟨q, cap, cur, rfl, _, hh, _⟩
 ·cases e
 ·simp only [Value.ownBlock, Option.some.injEq] at e
  subst e
  unfold C5 at hc
  rw [hc] at hh
  simp at hh
theorem appended_any (v : Value) (B : Nat) (l : List Int) (ka : Option Addr) (kn kc : Nat) (kd : Int) (va : Option Addr) (vn vc : Nat) (pg ct : Int) (key val : List Int) (w : World) (X : OwnB w B v l) (hB : B ≤ w.heap.size)
  (hk : Sl w ka kn kc key) (hv : Sl w va vn vc val) (fk : Far ka kn v) (fv : Far va vn v) (hp : 0 ≤ pg ∧ pg < 4294967296) (hc : 0 ≤ ct ∧ ct < 4294967296) (hl : l.length + kn + vn ≤ 35184372088832) :
  Calls Tryz.prog 113 #[v, .agg #[.slice ka kn kc, .int .i64 kd, .slice va vn vc, .int .i64 pg, .int .i64 ct]] w fun e w' => ∃ v', e = .returned v' ∧ Hid (OwnB w' B v' (l ++ cB ⟨key, kd, val, pg, ct⟩)) ∧ Hid (Gr w v w' v') := by
 have J := zaa hk.hlen
 have B9 := zaa hv.hlen
 have C7 := hp.1
 have C8 := hp.2
 have C9 := hc.1
 have D0 := hc.2
 have D3 : IntKind.u64.wrap pg = pg := by rw [IntKind.wrap_u64]; omega
 have D4 : IntKind.u64.wrap ct = ct := by rw [IntKind.wrap_u64]; omega
 obtain ⟨s, hs⟩ : ∃ s, w.heap.size = s := ⟨_, rfl⟩
 obtain ⟨x, hx⟩ : ∃ x, (w.alloc (.cells #[.slice ka kn kc, .int .i64 kd, .slice va vn vc, .int .i64 pg, .int .i64 ct] 50)).alloc (.cells #[.int .u8 (kd % 256)] 5) = x := ⟨_, rfl⟩
 have A : Below w.heap.size w x := by rw [← hx]; exact zab (zab Br Lr _) Lr _
 have O : Hid (C5 x s (.slice ka kn kc) (.int .i64 kd) (.slice va vn vc) (.int .i64 pg) (.int .i64 ct)) := by
  rw [← hx, ← hs]
  exact zaa ((Below.heap_alloc _ _ _ zv).trans (heap_alloc_last w _))
 have H1 : Hid (Sl x (some ⟨s + 1, 0, none⟩) 1 1 [kd % 256]) := by
  have := sl_one (w.alloc (.cells #[.slice ka kn kc, .int .i64 kd, .slice va vn vc, .int .i64 pg, .int .i64 ct] 50)) (kd % 256) zq
  rw [hx] at this
  rw [← hs]
  exact zaa (by simpa using this)
 have HO : Hid (OwnB x B v l) := zaa (X.on Lr A)
 have HK : Hid (Sl x ka kn kc key) := zaa (hk.on Lr A)
 have HV : Hid (Sl x va vn vc val) := zaa (hv.on Lr A)
 have P := zaa fk
 have Q := zaa fv
 have HG : Hid (Gr w v x v) := zaa (Gr.ofBelow v A)
 have A1 : B ≤ x.heap.size := zN hB A.size
 clear X hk hv fk fv A
 go_enter Tryz.func113, Tryz.ntmps113
 go_wp2_with (at_builtin; refine zat _ rfl _ _ rfl B l [kd % 256] v (some ⟨s + 1, 0, none⟩) 1 1 rfl rfl HO.out H1.out zq A1 ?_; refine Hid.out ?_)
 apply zaa
 intro v1 w1 A2 g1
 have R := zaa A2
 have D : Hid (C5 w1 s (.slice ka kn kc) (.int .i64 kd) (.slice va vn vc) (.int .i64 pg) (.int .i64 ct)) := zaa (O.out.gr g1 (HO.out.apart5 O.out))
 have A3 : Hid (Sl w1 ka kn kc key) := zaa (HK.out.gr g1 P.out)
 have T : Hid (Sl w1 va vn vc val) := zaa (HV.out.gr g1 Q.out)
 have Y : Hid (Far ka kn v1) := zaa (P.out.gr HK.out g1)
 have G : Hid (Far va vn v1) := zaa (Q.out.gr HV.out g1)
 have A4 : Hid (Gr w v w1 v1) := zaa (HG.out.trans g1)
 have A5 : B ≤ w1.heap.size := zN A1 g1.grow.size
 clear A2 g1 HO O HK HV P Q HG H1 hx
 obtain ⟨c0, c1, c2, c3, c4⟩ := D.out.cells
 have T1 := zaa (zdv v1 B (l ++ [kd % 256]) ka kn kc key w1 R.out A5 A3.out Y.out (by rw [zG]; simp; omega))
 go_wp2_with (go_at_call 147; refine T1.out.mono ?_; rintro e w2 ⟨v2, rfl, K, C⟩; refine Hid.out ?_)
 apply zaa
 have H : Hid (C5 w2 s (.slice ka kn kc) (.int .i64 kd) (.slice va vn vc) (.int .i64 pg) (.int .i64 ct)) := zaa (D.out.gr C.out (R.out.apart5 D.out))
 have A6 : Hid (Sl w2 va vn vc val) := zaa (T.out.gr C.out G.out)
 have Z : Hid (Far va vn v2) := zaa (G.out.gr T.out C.out)
 have A7 : B ≤ w2.heap.size := zN A5 C.out.grow.size
 have U : Hid (Gr w v w2 v2) := zaa (A4.out.trans C.out)
 clear c0 c1 c2 c3 c4 T1 D A3 T Y G A4 R C
 obtain ⟨c0, c1, c2, c3, c4⟩ := H.out.cells
 by_cases h1 : kd = 1
 ·subst h1
  have T2 := zaa (zdv v2 B _ va vn vc val w2 K.out A7 A6.out Z.out (by simp only [zG, zah, J.out]; simp; omega))
  go_wp2_with (go_at_call 147; refine T2.out.mono ?_; rintro e w3 ⟨v3, rfl, E, L⟩)
  go_ret
  refine ⟨v3, rfl, zaa ?_, zaa (U.out.trans L.out)⟩
  have h := E.out
  simp only [zM] at h
  rw [cB, J.out, B9.out]
  simpa using h
 ·obtain ⟨L2, M⟩ : ∃ L2, l ++ [kd % 256] ++ (fB 2 (kn : Int) ++ key) = L2 := ⟨_, rfl⟩
  rw [M] at K
  have C0 := zaa M
  have A8 : Hid (L2.length = l.length + 3 + kn) := by
   rw [← M]
   refine zaa ?_
   simp only [zG, zah, J.out, List.length_cons, List.length_nil]
   omega
  clear M
  have F1 := zaa (fixed_yes pg 4 w2 zq zq zq)
  go_wp2_with (go_at_call 117; refine F1.out.mono ?_; rintro e w3 ⟨p1, rfl, V, F⟩; refine Hid.out ?_)
  apply zaa
  rw [show (4 : Int).toNat = 4 from rfl] at V
  obtain ⟨a1, y1, rfl, s1, _⟩ := V.sl (zbb _ _) (by rw [zah]; omega)
  rw [zah] at s1
  rw [zah]
  have A9 := zaa s1
  have E : Hid (OwnB w3 B v2 L2) := zaa (K.out.on Lr F)
  have L := zaa (U.out.trans (Gr.ofBelow v2 F))
  have I : Hid (C5 w3 s (.slice ka kn kc) (.int .i64 kd) (.slice va vn vc) (.int .i64 pg) (.int .i64 ct)) := zaa (zag H.out F)
  have B0 : B ≤ w3.heap.size := zN A7 F.size
  clear s1 V F F1 c0 c1 c2 c3 c4 H K U A6 Z
  have B1 : L2.length + 4 ≤ 140737488355328 := by rw [A8.out]; omega
  go_wp2_with (at_builtin; refine zat _ rfl _ _ rfl B L2 (fB 4 pg) v2 a1 4 y1 rfl rfl E.out A9.out B1 B0 ?_; refine Hid.out ?_)
  apply zaa
  intro v4 w4 B2 g4
  have B3 := zaa B2
  have B4 := zaa (L.out.trans g4)
  have A0 : Hid (C5 w4 s (.slice ka kn kc) (.int .i64 kd) (.slice va vn vc) (.int .i64 pg) (.int .i64 ct)) := zaa (I.out.gr g4 (E.out.apart5 I.out))
  have C1 : B ≤ w4.heap.size := zN B0 g4.grow.size
  clear B2 g4 E I L A9
  obtain ⟨c0, c1, c2, c3, c4⟩ := A0.out.cells
  have F2 := zaa (fixed_yes ct 4 w4 zq zq zq)
  go_wp2_with (go_at_call 117; refine F2.out.mono ?_; rintro e w5 ⟨p2, rfl, W, N⟩; refine Hid.out ?_)
  apply zaa
  rw [show (4 : Int).toNat = 4 from rfl] at W
  obtain ⟨a2, y2, rfl, s2, _⟩ := W.sl (zbb _ _) (by rw [zah]; omega)
  rw [zah] at s2
  rw [zah]
  have B5 := zaa s2
  have B6 : Hid (OwnB w5 B v4 (L2 ++ fB 4 pg)) := zaa (B3.out.on Lr N)
  have B7 := zaa (B4.out.trans (Gr.ofBelow v4 N))
  have C2 : B ≤ w5.heap.size := zN C1 N.size
  have C3 : (L2 ++ fB 4 pg).length + 4 ≤ 140737488355328 := by rw [zG, A8.out, zah]; omega
  clear s2 W N F2 c0 c1 c2 c3 c4 A0 B3 B4 B1
  go_wp2_with (at_builtin; refine zat _ rfl _ _ rfl B (L2 ++ fB 4 pg) (fB 4 ct) v4 a2 4 y2 rfl rfl B6.out B5.out C3 C2 ?_; refine Hid.out ?_)
  apply zaa
  intro v6 w6 B8 g6
  have C4 := zaa B8
  have C6 := zaa (B7.out.trans g6)
  clear B8 g6 B6 B7 B5
  go_wp2
  go_ret
  refine ⟨v6, rfl, zaa ?_, C6⟩
  have h := C4.out
  rw [← C0.out] at h
  simp only [zM] at h
  rw [cB, J.out]
  simpa [h1] using h
end Go.Proofs.YtbkhjeacmmbabaaGreatDoor
namespace Go.Proofs.YtbkhjeacmmbabaaGreatDoor
set_option maxRecDepth 100000
set_option maxHeartbeats 1000000
theorem rU_spec (l : List Int) : ∀ (p : Int) (i : Nat) (n : Int), Wf l → 0 ≤ n → n < 128 ^ i → i ≤ 9 →
  ((rU p l i n).2.2 ≠ 0 ∧ (rU p l i n).1 = 0 ∧ (rU p l i n).2.1 = 0) ∨
  ((rU p l i n).2.2 = 0 ∧ ∃ (k : Nat) (M : Int), 1 ≤ k ∧ k ≤ l.length ∧ (rU p l i n).2.1 = p + i + k ∧ 0 ≤ M ∧ (rU p l i n).1 = n + M * 128 ^ i ∧ (rU p l i n).1 < 18446744073709551616 ∧ l.take k = uB M ∧ (0 < i → 0 < M)) := by
 induction l with
 | nil => intro p i n _ _ _ _; left; simp [rU]
 | cons c r ih =>
  intro p i n hw h0 hn hi
  have hc := hw c zv
  have hr : Wf r := fun x hx => hw x (by simp [hx])
  have D : (0 : Int) < 128 ^ i := Int.pow_pos zq
  rw [rU]
  by_cases h9 : i = 9 ∧ 1 < c
  ·left; rw [if_pos h9]; simp
  ·rw [if_neg h9]
   by_cases C : 128 ≤ c
   ·rw [if_pos C]
    have F : i < 9 := zq
    have A := or_up n (c - 128) i h0 hn zq zq (.inl F)
    have G : 0 ≤ n + (c - 128) * 128 ^ i := by
     have : 0 ≤ (c - 128) * 128 ^ i := Int.mul_nonneg zq (Int.le_of_lt D)
     omega
    rcases ih p (i + 1) (n + (c - 128) * 128 ^ i) hr G A.2.1 zq with h | ⟨he, k, M, K, L, ht, N, hN, B, H, I⟩
    ·exact .inl h
    ·right
     have J := I zq
     refine ⟨he, k + 1, (c - 128) + 128 * M, zq, by simp; omega, by rw [ht]; push_cast; omega, zq, ?_, B, ?_, fun _ => zq⟩
     ·rw [hN, Int.pow_succ, Int.add_mul, Int.mul_comm (128 ^ i) 128, ← Int.mul_assoc, Int.mul_comm M 128]
      omega
     ·have E : (c - 128) + 128 * M < 18446744073709551616 := by
       have h1 : (c - 128) + 128 * M ≤ ((c - 128) + 128 * M) * 128 ^ i := by
        have := Int.mul_le_mul_of_nonneg_left (show (1 : Int) ≤ 128 ^ i by omega) (show 0 ≤ (c - 128) + 128 * M by omega)
        omega
       have h2 : (rU p r (i + 1) (n + (c - 128) * 128 ^ i)).1 = n + ((c - 128) + 128 * M) * 128 ^ i := by
        rw [hN, Int.pow_succ, Int.add_mul, Int.mul_comm (128 ^ i) 128, ← Int.mul_assoc, Int.mul_comm M 128]
        omega
       omega
      rw [uB_step zq E, List.take_succ_cons, H]
      congr 1
      ·omega
      ·congr 1
       omega
   ·rw [if_neg C]
    by_cases hz : c = 0 ∧ 0 < i
    ·left; rw [if_pos hz]; simp
    ·right
     rw [if_neg hz]
     have A := or_up n c i h0 hn zq zq zq
     have B : n + c * 128 ^ i < 18446744073709551616 := by
      rcases A.2.2 with h | h
      ·have h2 : i = 0 ∨ i = 1 ∨ i = 2 ∨ i = 3 ∨ i = 4 ∨ i = 5 ∨ i = 6 ∨ i = 7 ∨ i = 8 := zq
       have h3 := A.2.1
       rcases h2 with rfl | rfl | rfl | rfl | rfl | rfl | rfl | rfl | rfl <;> simp at h3 ⊢ <;> omega
      ·exact h
     exact ⟨rfl, 1, c, zq, zv, zv, zq, rfl, B, by rw [uB_small zq]; rfl, fun h => zq⟩
theorem zW1 {p : Prop} (h : p := by first | exact Br | exact Br.drew | exact zac Br _) : p := h
end Go.Proofs.YtbkhjeacmmbabaaGreatDoor
