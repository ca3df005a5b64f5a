import Derived.Test.YtbkhjeacmmbabaaGreatDoorJ05
import Derived.Laws.AppendOwnNone
import Derived.Maps.AppendAt
import Derived.Deep.RegionLaw
import Derived.Laws.OwnMore
namespace Go.Proofs.YtbkhjeacmmbabaaGreatDoor
set_option maxRecDepth 100000
set_option maxHeartbeats 1000000
open Go.RowKit
theorem Rdq.cf {w w' : World} {r : Nat} {ao : Option Addr} {n cap at_ : Nat} {en : Bool} {F : Nat → Prop} (h : Rdq w r ao n cap at_ en) (hc : Cf F w w') (hg : ¬ F r) : Rdq w' r ao n cap at_ en := (hc.block r h.lt hg).trans h
structure Csq (w u : World) (k r g off n cap p : Nat) (en : Bool) (l : List Int) (x0 x1 x2 x3 x4 : Value) : Prop where
 rd : Rdq u r (some ⟨g, off, none⟩) n cap p en
 sl : Sl u (some ⟨g, off, none⟩) n cap l
 c2 : C5 u k (.slice none 0 0) (.int .i64 0) (.slice none 0 0) (.int .i64 0) (.int .i64 0)
 c3 : C5 u (k + 1) x0 x1 x2 x3 x4
 cf : Cf (· = r) w u
 hk : k = w.heap.size
 hp : p ≤ n
theorem Csq.r_lt {w u : World} {k r g off n cap p : Nat} {en : Bool} {l : List Int} {x0 x1 x2 x3 x4 : Value} (h : Csq w u k r g off n cap p en l x0 x1 x2 x3 x4) (hr : r < w.heap.size) : ¬ k = r ∧ ¬ k + 1 = r := by
 have := h.hk
 omega
theorem Csq.kind {w u : World} {k r g off n cap p : Nat} {en : Bool} {l : List Int} {x0 x1 x2 x3 x4 : Value} (h : Csq w u k r g off n cap p en l x0 x1 x2 x3 x4) (hr : r < w.heap.size) :
  Calls Tryz.prog 164 #[.pointer (some ⟨r, 0, none⟩)] u fun e w' => ∃ (v : Int) (p' : Nat) (en' : Bool), e = .returned (.int .i64 v) ∧ Hid (Csq w w' k r g off n cap p' en' l x0 x1 x2 x3 x4) ∧ Hid ((pNum 1 (l.drop p) = some (v, l.drop p') ∧ en' = en) ∨ (pNum 1 (l.drop p) = none ∧ en' = true)) ∧ Hid (Cf (· = r) u w') := by
 refine (kind_any l u r _ n cap p en h.rd h.sl h.hp).mono ?_
 rintro e w' ⟨v, p', en', rfl, HR, HC, HV⟩
 obtain ⟨h1, h2⟩ := h.r_lt hr
 obtain ⟨_, hp, hv⟩ := HV.out
 refine ⟨v, p', en', rfl, zaa ⟨HR.out, h.sl.cf HC.out (h.sl.apartq h.rd), h.c2.cf HC.out h1, h.c3.cf HC.out h2, h.cf.go HC.out, h.hk, hp⟩, zaa ?_, HC⟩
 rcases hv with ⟨a, b⟩ | ⟨a, b, c, d⟩
 ·exact .inl ⟨a, b⟩
 ·exact .inr ⟨a, b⟩
theorem Csq.unumber {w u : World} {k r g off n cap p : Nat} {en : Bool} {l : List Int} {x0 x1 x2 x3 x4 : Value} (h : Csq w u k r g off n cap p en l x0 x1 x2 x3 x4) (hr : r < w.heap.size) :
  Calls Tryz.prog 166 #[.pointer (some ⟨r, 0, none⟩)] u fun e w' => ∃ (v : Int) (p' : Nat) (en' : Bool), e = .returned (.int .u64 v) ∧ Hid (Csq w w' k r g off n cap p' en' l x0 x1 x2 x3 x4) ∧ Hid ((pU (l.drop p) = some (v, l.drop p') ∧ en' = en) ∨ (pU (l.drop p) = none ∧ en' = true)) ∧ Hid (Cf (· = r) u w') := by
 refine (unumber_any l u r _ n cap p en h.rd h.sl h.hp).mono ?_
 rintro e w' ⟨v, p', en', rfl, HR, HC, HV⟩
 obtain ⟨h1, h2⟩ := h.r_lt hr
 obtain ⟨_, hp, hv⟩ := HV.out
 refine ⟨v, p', en', rfl, zaa ⟨HR.out, h.sl.cf HC.out (h.sl.apartq h.rd), h.c2.cf HC.out h1, h.c3.cf HC.out h2, h.cf.go HC.out, h.hk, hp⟩, zaa ?_, HC⟩
 rcases hv with ⟨a, b⟩ | ⟨a, b, c, d⟩
 ·exact .inl ⟨a, b⟩
 ·exact .inr ⟨a, b⟩
theorem Csq.text {w u : World} {k r g off n cap p : Nat} {en : Bool} {l : List Int} {x0 x1 x2 x3 x4 : Value} (h : Csq w u k r g off n cap p en l x0 x1 x2 x3 x4) (hr : r < w.heap.size) :
  Calls Tryz.prog 165 #[.pointer (some ⟨r, 0, none⟩)] u fun e w' => ∃ (ko : Option Addr) (kn kc p' : Nat) (en' : Bool) (t : List Int), e = .returned (.slice ko kn kc) ∧ Hid (Csq w w' k r g off n cap p' en' l x0 x1 x2 x3 x4) ∧ Hid (Sl w' ko kn kc t ∧ (∀ q, ko = some q → q.block = g) ∧ kn ≤ n) ∧ Hid ((pT (l.drop p) = some (t, l.drop p') ∧ en' = en) ∨ (pT (l.drop p) = none ∧ en' = true)) ∧ Hid (Cf (· = r) u w') := by
 refine (utext_any l u r g off n cap p en h.rd h.sl h.hp).mono ?_
 rintro e w' ⟨ko, kn, kc, p', en', t, rfl, HR, HC, HV⟩
 obtain ⟨h1, h2⟩ := h.r_lt hr
 obtain ⟨hs, A, ⟨hp, B⟩, hv⟩ := HV.out
 exact ⟨ko, kn, kc, p', en', t, rfl, zaa ⟨HR.out, h.sl.cf HC.out (h.sl.apartq h.rd), h.c2.cf HC.out h1, h.c3.cf HC.out h2, h.cf.go HC.out, h.hk, hp⟩, zaa ⟨hs, fun q hq => A q hq _ rfl, B⟩, zaa hv, HC⟩
theorem Csq.store {w u : World} {k r g off n cap p : Nat} {en : Bool} {l : List Int} {a b : Option Addr} {c d e f : Nat} {x y z : Int} (h : Csq w u k r g off n cap p en l (.slice a c d) (.int .i64 x) (.slice b e f) (.int .i64 y) (.int .i64 z)) (hr : r < w.heap.size) (i : Nat) (v : Value) {y0 y1 y2 y3 y4 : Value} (hy : C5 (u.setCell ⟨k + 1, i, none⟩ v) (k + 1) y0 y1 y2 y3 y4) :
  Csq w (u.setCell ⟨k + 1, i, none⟩ v) k r g off n cap p en l y0 y1 y2 y3 y4 := by
 obtain ⟨h1, h2⟩ := h.r_lt hr
 have hc := Cf.set u (k + 1) i v
 refine ⟨h.rd.cf hc zq, h.sl.cf hc (h.sl.apart5 h.c3), h.c2.cf hc zq, hy, ?_, h.hk, h.hp⟩
 refine h.cf.trans hc ?_
 intro j hj e
 have := h.hk
 omega
def UCellTo (l : List Int) (w : World) (r g off n cap at_ : Nat) (en : Bool) (e : Ending) (w' : World) : Prop :=
 ∃ (ko : Option Addr) (kn kc : Nat) (kd : Int) (vo : Option Addr) (vn vc : Nat) (pg ct : Int) (p : Nat) (en' : Bool) (key val : List Int), e = .returned (.agg #[.slice ko kn kc, .int .i64 kd, .slice vo vn vc, .int .i64 pg, .int .i64 ct]) ∧ Hid (Rdq w' r (some ⟨g, off, none⟩) n cap p en') ∧ Hid (Cf (· = r) w w') ∧
  Hid (Sl w' ko kn kc key ∧ Sl w' vo vn vc val ∧ (∀ q, ko = some q → q.block = g) ∧ (∀ q, vo = some q → q.block = g) ∧ (p ≤ n ∧ kn ≤ n) ∧ ((pC (l.drop at_) = some (⟨key, kd, val, pg, ct⟩, l.drop p) ∧ en' = en) ∨ (pC (l.drop at_) = none ∧ en' = true)))
theorem ucellV {l : List Int} {a p1 p2 p3 : Nat} {en e1 e2 e3 : Bool} {key val : List Int} (h1 : (pNum 1 (l.drop a) = some (1, l.drop p1) ∧ e1 = en) ∨ (pNum 1 (l.drop a) = none ∧ e1 = true))
  (h2 : (pT (l.drop p1) = some (key, l.drop p2) ∧ e2 = e1) ∨ (pT (l.drop p1) = none ∧ e2 = true)) (h3 : (pT (l.drop p2) = some (val, l.drop p3) ∧ e3 = e2) ∨ (pT (l.drop p2) = none ∧ e3 = true)) :
  (pC (l.drop a) = some (⟨key, 1, val, 0, 0⟩, l.drop p3) ∧ e3 = en) ∨ (pC (l.drop a) = none ∧ e3 = true) := by
 unfold pC
 rcases h1 with ⟨h1, rfl⟩ | ⟨h1, rfl⟩
 ·rw [h1]
  simp only
  rcases h2 with ⟨h2, rfl⟩ | ⟨h2, rfl⟩
  ·rw [h2]
   simp only [if_true]
   rcases h3 with ⟨h3, rfl⟩ | ⟨h3, rfl⟩
   ·rw [h3]; exact .inl ⟨rfl, rfl⟩
   ·rw [h3]; exact .inr ⟨rfl, rfl⟩
  ·rw [h2]
   refine .inr ⟨rfl, ?_⟩
   rcases h3 with ⟨_, h⟩ | ⟨_, h⟩ <;> exact h
 ·rw [h1]
  refine .inr ⟨rfl, ?_⟩
  rcases h2 with ⟨_, rfl⟩ | ⟨_, rfl⟩ <;> rcases h3 with ⟨_, h⟩ | ⟨_, h⟩ <;> exact h
theorem ucellN {l : List Int} {a p1 p2 p3 p4 : Nat} {en e1 e2 e3 e4 : Bool} {key : List Int} {kd pg ct : Int} (hk : kd ≠ 1) (h1 : (pNum 1 (l.drop a) = some (kd, l.drop p1) ∧ e1 = en) ∨ (pNum 1 (l.drop a) = none ∧ e1 = true))
  (h2 : (pT (l.drop p1) = some (key, l.drop p2) ∧ e2 = e1) ∨ (pT (l.drop p1) = none ∧ e2 = true)) (h3 : (pU (l.drop p2) = some (pg, l.drop p3) ∧ e3 = e2) ∨ (pU (l.drop p2) = none ∧ e3 = true))
  (h4 : (pU (l.drop p3) = some (ct, l.drop p4) ∧ e4 = e3) ∨ (pU (l.drop p3) = none ∧ e4 = true)) :
  (pC (l.drop a) = some (⟨key, kd, [], wrap64 pg, wrap64 ct⟩, l.drop p4) ∧ e4 = en) ∨ (pC (l.drop a) = none ∧ e4 = true) := by
 unfold pC
 rcases h1 with ⟨h1, rfl⟩ | ⟨h1, rfl⟩
 ·rw [h1]
  simp only
  rcases h2 with ⟨h2, rfl⟩ | ⟨h2, rfl⟩
  ·rw [h2]
   simp only [if_neg hk]
   rcases h3 with ⟨h3, rfl⟩ | ⟨h3, rfl⟩
   ·rw [h3]
    simp only
    rcases h4 with ⟨h4, rfl⟩ | ⟨h4, rfl⟩
    ·rw [h4]; exact .inl ⟨rfl, rfl⟩
    ·rw [h4]; exact .inr ⟨rfl, rfl⟩
   ·rw [h3]
    refine .inr ⟨rfl, ?_⟩
    rcases h4 with ⟨_, h⟩ | ⟨_, h⟩ <;> exact h
  ·rw [h2]
   refine .inr ⟨rfl, ?_⟩
   rcases h3 with ⟨_, rfl⟩ | ⟨_, rfl⟩ <;> rcases h4 with ⟨_, h⟩ | ⟨_, h⟩ <;> exact h
 ·rw [h1]
  refine .inr ⟨rfl, ?_⟩
  rcases h2 with ⟨_, rfl⟩ | ⟨_, rfl⟩ <;> rcases h3 with ⟨_, rfl⟩ | ⟨_, rfl⟩ <;> rcases h4 with ⟨_, h⟩ | ⟨_, h⟩ <;> exact h
theorem Csq.fin {w u : World} {k r g off n cap p at_ : Nat} {en en' : Bool} {l : List Int} {ko vo : Option Addr} {kn kc vn vc : Nat} {kd pg ct : Int} (h : Csq w u k r g off n cap p en' l (.slice ko kn kc) (.int .i64 kd) (.slice vo vn vc) (.int .i64 pg) (.int .i64 ct)) (hr : r < w.heap.size) {key val : List Int}
  (hk : Sl u ko kn kc key) (hv : Sl u vo vn vc val) (B : ∀ q, ko = some q → q.block = g) (A : ∀ q, vo = some q → q.block = g) (C : kn ≤ n) (hc : (pC (l.drop at_) = some (⟨key, kd, val, pg, ct⟩, l.drop p) ∧ en' = en) ∨ (pC (l.drop at_) = none ∧ en' = true)) :
  UCellTo l w r g off n cap at_ en (.returned (.agg #[.slice ko kn kc, .int .i64 kd, .slice vo vn vc, .int .i64 pg, .int .i64 ct])) (put5 u k (.slice ko kn kc) (.int .i64 kd) (.slice vo vn vc) (.int .i64 pg) (.int .i64 ct)) := by
 obtain ⟨h1, h2⟩ := h.r_lt hr
 have hf := zaq u k (.slice ko kn kc) (.int .i64 kd) (.slice vo vn vc) (.int .i64 pg) (.int .i64 ct)
 refine ⟨ko, kn, kc, kd, vo, vn, vc, pg, ct, p, en', key, val, rfl, zaa (h.rd.cf hf zq), zaa (h.cf.trans hf ?_), zaa ⟨hk.cf hf (hk.apart5 h.c2), hv.cf hf (hv.apart5 h.c2), B, A, ⟨h.hp, C⟩, hc⟩⟩
 intro j hj e
 have := h.hk
 omega
theorem ucell_any (l : List Int) (w : World) (r g off n cap at_ : Nat) (en : Bool) (hr : Rdq w r (some ⟨g, off, none⟩) n cap at_ en) (hs : Sl w (some ⟨g, off, none⟩) n cap l) (ha : at_ ≤ n) :
  Calls Tryz.prog 129 #[.pointer (some ⟨r, 0, none⟩)] w fun e w' => UCellTo l w r g off n cap at_ en e w' := by
 have B := hr.lt
 obtain ⟨k, hk⟩ : ∃ k, w.heap.size = k := ⟨_, rfl⟩
 obtain ⟨u, hu⟩ : ∃ u, (w.alloc (.cells #[.slice none 0 0, .int .i64 0, .slice none 0 0, .int .i64 0, .int .i64 0] 50)).alloc (.cells #[.slice none 0 0, .int .i64 0, .slice none 0 0, .int .i64 0, .int .i64 0] 50) = u := ⟨_, rfl⟩
 have W : Hid (Csq w u k r g off n cap at_ en l (.slice none 0 0) (.int .i64 0) (.slice none 0 0) (.int .i64 0) (.int .i64 0)) := by
  have hc : Cf (· = r) w u := by rw [← hu]; exact (Cf.alloc _ _ _).go (Cf.alloc _ _ _)
  refine zaa ⟨?_, ?_, ?_, ?_, hc, hk.symm, ha⟩
  ·rw [← hu]
   exact (Below.heap_alloc _ _ _ zso).trans ((Below.heap_alloc _ _ _ B).trans hr)
  ·rw [← hu]
   exact hs.on Lr (zab (zab Br Lr _) Lr _)
  ·rw [← hu, ← hk]
   exact (Below.heap_alloc _ _ _ zv).trans (heap_alloc_last w _)
  ·rw [← hu, ← hk]
   have hz : (w.alloc (.cells #[.slice none 0 0, .int .i64 0, .slice none 0 0, .int .i64 0, .int .i64 0] 50)).heap.size = w.heap.size + 1 := by simp
   have := heap_alloc_last (w.alloc (.cells #[.slice none 0 0, .int .i64 0, .slice none 0 0, .int .i64 0, .int .i64 0] 50)) (.cells #[.slice none 0 0, .int .i64 0, .slice none 0 0, .int .i64 0, .int .i64 0] 50)
   rw [hz] at this
   exact this
 have N1 := zaa (W.out.kind B)
 clear hr hs
 go_enter Tryz.func129, Tryz.ntmps129
 go_wp2_with (go_at_call 164; refine N1.out.mono ?_; rintro e w1 ⟨v1, p1, e1, rfl, K, P, X⟩; refine Hid.out ?_)
 apply zaa
 clear N1 W hu
 obtain ⟨a0, a1, a2, a3, a4⟩ := K.out.c3.cells
 obtain ⟨f0, f1, f2, f3, f4⟩ := K.out.c3.free
 have Y := zaa (K.out.store B 1 (.int .i64 v1) (K.out.c3.set (.int .i64 v1)).2.1)
 have T1 := zaa (Y.out.text B)
 go_wp2_with (go_at_call 165; refine T1.out.mono ?_; rintro e w2 ⟨ko, kn, kc, p2, e2, key, rfl, F, J, Q, Z⟩; refine Hid.out ?_)
 apply zaa
 have R := zaa J.out.1
 have U := zaa J.out.2.1
 have A0 := zaa J.out.2.2
 clear J
 clear a0 a1 a2 a3 a4 f0 f1 f2 f3 f4 T1 Y K
 obtain ⟨a0, a1, a2, a3, a4⟩ := F.out.c3.cells
 obtain ⟨f0, f1, f2, f3, f4⟩ := F.out.c3.free
 have H := zaa (F.out.store B 0 (.slice ko kn kc) (F.out.c3.set (.slice ko kn kc)).1)
 have D : Hid (Sl (w2.setCell ⟨k + 1, 0, none⟩ (.slice ko kn kc)) ko kn kc key) := zaa (R.out.cf (Cf.set _ _ _ _) (R.out.apart5 F.out.c3))
 by_cases h1 : v1 = 1
 ·subst h1
  have T2 := zaa (H.out.text B)
  go_wp2_with (go_at_call 165; refine T2.out.mono ?_; rintro e w3 ⟨vo, vn, vc, p3, e3, val, rfl, A, N, L, M⟩; refine Hid.out ?_)
  apply zaa
  have T := zaa N.out.1
  have V := zaa N.out.2.1
  clear N
  have C : Hid (Sl w3 ko kn kc key) := zaa (D.out.cf M.out (D.out.apartq H.out.rd))
  clear a0 a1 a2 a3 a4 f0 f1 f2 f3 f4 T2 H F D
  obtain ⟨a0, a1, a2, a3, a4⟩ := A.out.c3.cells
  obtain ⟨f0, f1, f2, f3, f4⟩ := A.out.c3.free
  obtain ⟨b0, b1, b2, b3, b4⟩ := A.out.c2.cells
  obtain ⟨d0, d1, d2, d3, d4⟩ := A.out.c2.free
  have I := zaa (A.out.store B 2 (.slice vo vn vc) (A.out.c3.set (.slice vo vn vc)).2.2.1)
  have G : Hid (Sl (w3.setCell ⟨k + 1, 2, none⟩ (.slice vo vn vc)) ko kn kc key) := zaa (C.out.cf (Cf.set _ _ _ _) (C.out.apart5 A.out.c3))
  have A4 : Hid (Sl (w3.setCell ⟨k + 1, 2, none⟩ (.slice vo vn vc)) vo vn vc val) := zaa (T.out.cf (Cf.set _ _ _ _) (T.out.apart5 A.out.c3))
  have HV := zaa (ucellV P.out Q.out L.out)
  clear A T C P Q L X Z M R
  go_wp2
  refine bodyPost_ret (results_cell_row rfl _ _ k 50 #[.slice ko kn kc, .int .i64 1, .slice vo vn vc, .int .i64 0, .int .i64 0] (0, 0) _ zr (I.out.c2.put _ _ _ _ _) Tryz.underlying50 rfl zal) rfl ?_
  exact I.out.fin B G.out A4.out U.out V.out A0.out HV.out
 ·have T2 := zaa (H.out.unumber B)
  go_wp2_with (go_at_call 166; refine T2.out.mono ?_; rintro e w3 ⟨pg, p3, e3, rfl, A, L, M⟩; refine Hid.out ?_)
  apply zaa
  have C : Hid (Sl w3 ko kn kc key) := zaa (D.out.cf M.out (D.out.apartq H.out.rd))
  clear a0 a1 a2 a3 a4 f0 f1 f2 f3 f4 T2 H F D
  obtain ⟨a0, a1, a2, a3, a4⟩ := A.out.c3.cells
  obtain ⟨f0, f1, f2, f3, f4⟩ := A.out.c3.free
  have I := zaa (A.out.store B 3 (.int .i64 (wrap64 pg)) (A.out.c3.set (.int .i64 (wrap64 pg))).2.2.2.1)
  have G : Hid (Sl (w3.setCell ⟨k + 1, 3, none⟩ (.int .i64 (wrap64 pg))) ko kn kc key) := zaa (C.out.cf (Cf.set _ _ _ _) (C.out.apart5 A.out.c3))
  have T3 := zaa (I.out.unumber B)
  go_wp2_with (go_at_call 166; refine T3.out.mono ?_; rintro e w4 ⟨ct, p4, e4, rfl, E, A1, A2⟩; refine Hid.out ?_)
  apply zaa
  have O : Hid (Sl w4 ko kn kc key) := zaa (G.out.cf A2.out (G.out.apartq I.out.rd))
  clear a0 a1 a2 a3 a4 f0 f1 f2 f3 f4 T3 I A C G
  obtain ⟨a0, a1, a2, a3, a4⟩ := E.out.c3.cells
  obtain ⟨f0, f1, f2, f3, f4⟩ := E.out.c3.free
  obtain ⟨b0, b1, b2, b3, b4⟩ := E.out.c2.cells
  obtain ⟨d0, d1, d2, d3, d4⟩ := E.out.c2.free
  have A3 := zaa (E.out.store B 4 (.int .i64 (wrap64 ct)) (E.out.c3.set (.int .i64 (wrap64 ct))).2.2.2.2)
  have A5 : Hid (Sl (w4.setCell ⟨k + 1, 4, none⟩ (.int .i64 (wrap64 ct))) ko kn kc key) := zaa (O.out.cf (Cf.set _ _ _ _) (O.out.apart5 E.out.c3))
  have HV := zaa (ucellN h1 P.out Q.out L.out A1.out)
  clear E O P Q L A1 X Z M A2 R
  go_wp2
  refine bodyPost_ret (results_cell_row rfl _ _ k 50 #[.slice ko kn kc, .int .i64 v1, .slice none 0 0, .int .i64 (wrap64 pg), .int .i64 (wrap64 ct)] (0, 0) _ zr (A3.out.c2.put _ _ _ _ _) Tryz.underlying50 rfl zal) rfl ?_
  exact A3.out.fin B A5.out (Sl.nil_any _ _ _ fun _ => rfl) U.out (fun q hq => by cases hq) A0.out HV.out
theorem uint_any (n : Int) (w : World) (h0 : 0 ≤ n) (hn : n < 18446744073709551616) :
  Calls Tryz.prog 163 #[.int .u64 n] w fun e w' => ∃ v, e = .returned v ∧ OwnB w' w.heap.size v (uB n) ∧ Below w.heap.size w w' := by
 obtain ⟨i0, hi, F, G, H⟩ := info_parts info5
 go_enter Tryz.func163, Tryz.ntmps163
 go_wp2_with (at_make; refine wpList_make_own _ rfl _ _ 22 rfl w.heap.size 5 i0 (.int .u8 0) 1 Tryz.underlying22 hi F G .i64 .i64 10 10 rfl rfl rfl (by rw [H]; omega) zd Lr ?_)
 intro w1 E I
 have J : Below w.heap.size w w1 := Br.grown I Lr (fun k hk => by cases hk)
 go_wp2_with fail
 go_loopw [0, 3] (fun x v wr => ∃ (m : Int) (acc : List Int), 0 ≤ m ∧ m < 18446744073709551616 ∧ x = .int .u64 m ∧ acc ++ uB m = uB n ∧ OwnB wr w.heap.size v acc ∧ Below w.heap.size w wr) (fun x _ _ => (intOf x).toNat)
 case atStart => exact ⟨n, [], h0, hn, rfl, rfl, E, J⟩
 case round =>
  obtain ⟨m, acc, N, hm, rfl, C, D, hb⟩ := hrel
  have K := C
  have HA : Hid (acc ++ uB m = uB n) := C
  clear C K
  have hsz := hb.size
  have M : acc.length + 1 ≤ 10 := by
   have h1 := congrArg List.length HA.out
   have h2 := zba m
   have h3 := zba n
   simp only [zG] at h1
   omega
  have O := or128 m
  by_cases L : m < 128
  ·go_wp2_with (at_builtin; refine zdi _ rfl _ _ rfl w.heap.size acc _ rfl (D.alloc _) _ 1 1 [m] rfl rfl (one_cell _ _) zq zso ?_)
   intro v' w2 A B
   rw [← uB_small L, HA.out] at A
   have R : Below w.heap.size w w2 := (hb.alloc hsz _).trans B
   clear B
   go_wp2
   go_ret
   exact ⟨_, rfl, A, R⟩
  ·go_wp2_with (at_builtin; refine zdi _ rfl _ _ rfl w.heap.size acc _ rfl (D.alloc _) _ 1 1 [m % 128 + 128] rfl rfl (one_cell _ _) zq zso ?_)
   intro v' w2 A B
   have R : Below w.heap.size w w2 := (hb.alloc hsz _).trans B
   clear B
   go_wp2
   go_roundw
   case rel => exact ⟨m / 128, acc ++ [m % 128 + 128], zq, zq, rfl, by rw [← HA.out, uB_step zq hm]; simp, A, R⟩
   case measure => simp [intOf]; omega
def eV (ho : Option Addr) (hn hc : Nat) (ko : Option Addr) (kn kc : Nat) (kd : Int) (vo : Option Addr) (vn vc : Nat) (pg ct : Int) : Array Value := #[.slice ho hn hc, .slice ko kn kc, .int .i64 kd, .slice vo vn vc, .int .i64 pg, .int .i64 ct]
def E6 (w : World) (g : Nat) (x0 x1 x2 x3 x4 x5 : Value) : Prop := w.heap[g]? = some (.cells #[x0, x1, x2, x3, x4, x5] 123 (0, 0))
theorem E6.cells {w : World} {g : Nat} {x0 x1 x2 x3 x4 x5 : Value} (h : E6 w g x0 x1 x2 x3 x4 x5) :
  w.cell? ⟨g, 0, none⟩ = some x0 ∧ w.cell? ⟨g, 1, none⟩ = some x1 ∧ w.cell? ⟨g, 2, none⟩ = some x2 ∧ w.cell? ⟨g, 3, none⟩ = some x3 ∧ w.cell? ⟨g, 4, none⟩ = some x4 ∧ w.cell? ⟨g, 5, none⟩ = some x5 := by
 unfold E6 at h
 refine ⟨?_, ?_, ?_, ?_, ?_, ?_⟩
 ·rw [cell_of_row _ _ 0 _ _ _ h]; rfl
 ·rw [cell_of_row _ _ 1 _ _ _ h]; rfl
 ·rw [cell_of_row _ _ 2 _ _ _ h]; rfl
 ·rw [cell_of_row _ _ 3 _ _ _ h]; rfl
 ·rw [cell_of_row _ _ 4 _ _ _ h]; rfl
 ·rw [cell_of_row _ _ 5 _ _ _ h]; rfl
theorem E6.box (w : World) (x0 x1 x2 x3 x4 x5 : Value) : E6 (w.alloc (.cells #[x0, x1, x2, x3, x4, x5] 123)) w.heap.size x0 x1 x2 x3 x4 x5 := heap_alloc_last w _
theorem E6.gr {w w' : World} {v v' : Value} {g : Nat} {x0 x1 x2 x3 x4 x5 : Value} (h : E6 w g x0 x1 x2 x3 x4 x5) (hg : Gr w v w' v') (hv : v.ownBlock ≠ some g) : E6 w' g x0 x1 x2 x3 x4 x5 := (hg.grow.block g (zaf h) (fun e => hv e.symm)).trans h
theorem OwnB.apart6 {w : World} {B : Nat} {v : Value} {l : List Int} (h : OwnB w B v l) {g : Nat} {x0 x1 x2 x3 x4 x5 : Value} (hc : E6 w g x0 x1 x2 x3 x4 x5) : v.ownBlock ≠ some g := by
 intro e
 unfold OwnB at h
 rcases h.2 with ⟨rfl, _⟩ | ⟨q, cap, cur, rfl, _, hh, _⟩
 ·cases e
 ·simp only [Value.ownBlock, Option.some.injEq] at e
  subst e
  unfold E6 at hc
  rw [hc] at hh
  simp at hh
theorem add_block (a : Addr) (n : Nat) : (a.add n).block = a.block := by simp only [Addr.add]; split <;> rfl
theorem sl_from {w : World} {ao : Option Addr} {n cap : Nat} {l : List Int} (h : Sl w ao n cap l) (k : Nat) (hk : k ≤ n) : (ao = none ∧ n = 0 ∧ cap = 0) ∨ ∃ a, ao = some a ∧ ((cap = k ∧ Sl w (some a) (n - k) (cap - k) (l.drop k)) ∨ (cap ≠ k ∧ Sl w (some (a.add k)) (n - k) (cap - k) (l.drop k))) := by
 have hc := h.hcap
 cases ao with
 | none =>
  have := h.hnil rfl
  exact .inl ⟨rfl, zq, this⟩
 | some a =>
  refine .inr ⟨a, rfl, ?_⟩
  by_cases e : cap = k
  ·refine .inl ⟨e, ?_⟩
   have hn : n - k = 0 := zq
   have hd : l.drop k = [] := List.drop_eq_nil_of_le (by have := h.hlen; omega)
   rw [hn, hd]
   exact Sl.nil_any _ _ _ (by intro h; cases h)
  ·refine .inr ⟨e, ?_⟩
   by_cases hz : n = k
   ·subst hz
    rw [Nat.sub_self, List.drop_eq_nil_of_le (by have := h.hlen; omega)]
    exact Sl.nil_any _ _ _ (by intro h; cases h)
   ·rcases h.hat with h0 | ⟨b, off, e2, A, B⟩
    ·omega
    ·injection e2 with e2
     subst e2
     have := h.piece k (n - k) (cap - k) zq zq
     rw [List.take_of_length_le (by rw [zK]; have := h.hlen; omega)] at this
     simpa [Addr.add_lit] using this
def RestTo (ho ko : Option Addr) (hn kn : Nat) (l : List Int) (w : World) (e : Ending) (w' : World) : Prop :=
 ∃ (a1 : Option Addr) (n1 c1 : Nat) (a2 : Option Addr) (n2 c2 : Nat) (l1 l2 : List Int), e = .returned (.tuple #[.slice a1 n1 c1, .slice a2 n2 c2]) ∧ Hid (Below w.heap.size w w') ∧ Hid (Sl w' a1 n1 c1 l1 ∧ Sl w' a2 n2 c2 l2 ∧ l1 ++ l2 = l ∧ (∀ q, a1 = some q → ∃ o, ho = some o ∧ q.block = o.block) ∧ (∀ q, a2 = some q → ∃ o, ko = some o ∧ q.block = o.block) ∧ n1 ≤ hn ∧ n2 ≤ kn)
theorem erest_any (ho : Option Addr) (hn hc : Nat) (ko : Option Addr) (kn kc : Nat) (kd : Int) (vo : Option Addr) (vn vc : Nat) (pg ct : Int) (h key : List Int) (n : Nat) (w : World) (hh : Sl w ho hn hc h) (hk : Sl w ko kn kc key) (hl : n ≤ hn + kn) :
  Calls Tryz.prog 162 #[.agg (eV ho hn hc ko kn kc kd vo vn vc pg ct), .int .i64 (n : Int)] w fun e w' => RestTo ho ko hn kn ((h ++ key).drop n) w e w' := by
 unfold eV
 have O := hh.hroom
 have P := hk.hroom
 have E := hh.hlen
 have Q := hk.hlen
 have R := hh.hcap
 have T := hk.hcap
 obtain ⟨x, hx⟩ : ∃ x, w.alloc (.cells #[.slice ho hn hc, .slice ko kn kc, .int .i64 kd, .slice vo vn vc, .int .i64 pg, .int .i64 ct] 123) = x := ⟨_, rfl⟩
 have A : Below w.heap.size w x := by rw [← hx]; exact zab Br Lr _
 have B : E6 x w.heap.size (.slice ho hn hc) (.slice ko kn kc) (.int .i64 kd) (.slice vo vn vc) (.int .i64 pg) (.int .i64 ct) := by rw [← hx]; exact E6.box w _ _ _ _ _ _
 obtain ⟨b0, b1, b2, b3, b4, b5⟩ := B.cells
 have C := zaa A
 have HK := zaa (hk.on Lr A)
 have HH := zaa (hh.on Lr A)
 have i1 : (n : Int) ≤ 281474976710656 := zq
 have i2 : (hn : Int) ≤ 140737488355328 := zq
 have i3 : (kn : Int) ≤ 140737488355328 := zq
 by_cases J : n ≤ hn
 ·have F : (n : Int) ≤ (hn : Int) := zq
  have U : n ≤ hc := zq
  have L : (n : Int) ≤ (hc : Int) := zq
  have HD : Hid (h.drop n ++ key = (h ++ key).drop n) := zaa (by rw [List.drop_append_of_le_length zq])
  rcases sl_from HH.out n J with ⟨rfl, rfl, rfl⟩ | ⟨a, rfl, ⟨D, hs⟩ | ⟨D, hs⟩⟩
  ·obtain rfl : n = 0 := zq
   clear hh hk A B
   go_enter Tryz.func162, Tryz.ntmps162
   go_wp2_with fail
   go_quiet (fail)
   go_wp2
   go_ret2
   have : h = [] := List.eq_nil_of_length_eq_zero E
   subst this
   exact ⟨none, 0, 0, ko, kn, kc, [], key, rfl, zaa (zac C.out _), zaa ⟨Sl.nil_any _ _ _ (fun _ => rfl), HK.out.drewN _, zv, (by intro q hq; cases hq), (fun q hq => ⟨q, hq, rfl⟩), zv, zv⟩⟩
  ·have HS := zaa hs
   clear hh hk A B hs
   subst D
   obtain rfl : hn = hc := zq
   go_enter Tryz.func162, Tryz.ntmps162
   go_wp2_with fail
   go_quiet (fail)
   go_wp2
   go_ret2
   exact ⟨some a, _, _, ko, kn, kc, h.drop hn, key, rfl, zaa (zac C.out _), zaa ⟨by simpa using HS.out.drewN _, HK.out.drewN _, HD.out, (fun q hq => ⟨a, rfl, by injection hq with hq; rw [hq]⟩), (fun q hq => ⟨q, hq, rfl⟩), zv, zv⟩⟩
  ·have HS := zaa hs
   have G : hc - n ≠ 0 := zq
   have H : n < hc := zq
   have I : (n : Int) < (hc : Int) := zq
   clear hh hk A B hs
   go_enter Tryz.func162, Tryz.ntmps162
   go_wp2_with fail
   go_quiet (fail)
   go_wp2
   go_ret2
   exact ⟨some (a.add n), _, _, ko, kn, kc, h.drop n, key, rfl, zaa (zac C.out _), zaa ⟨by simpa using HS.out.drewN _, HK.out.drewN _, HD.out, (fun q hq => ⟨a, rfl, by injection hq with hq; rw [← hq, add_block]⟩), (fun q hq => ⟨q, hq, rfl⟩), zv, zv⟩⟩
 ·have F : ¬ (n : Int) ≤ (hn : Int) := zq
  obtain ⟨m, hm⟩ : ∃ m, n = hn + m := ⟨n - hn, zq⟩
  subst hm
  have K : m ≤ kn := zq
  have M : (m : Int) ≤ (kn : Int) := zq
  have V : m ≤ kc := zq
  have N : (m : Int) ≤ (kc : Int) := zq
  have HD : Hid ([] ++ key.drop m = (h ++ key).drop (hn + m)) := zaa (by rw [← E, List.drop_append]; simp)
  have hw : IntKind.i64.wrap (((hn + m : Nat) : Int) - (hn : Int)) = (m : Int) := by rw [IntKind.wrap_i64]; omega
  have W : ((hn : Int) + (m : Int)) - (hn : Int) = (m : Int) := zq
  rcases sl_from HK.out m K with ⟨rfl, rfl, rfl⟩ | ⟨a, rfl, ⟨D, hs⟩ | ⟨D, hs⟩⟩
  ·omega
  ·have HS := zaa hs
   clear hh hk A B hs
   subst D
   obtain rfl : kn = kc := zq
   go_enter Tryz.func162, Tryz.ntmps162
   go_wp2_with fail
   go_quiet (fail)
   go_wp2
   go_ret2
   exact ⟨none, 0, 0, some a, _, _, [], key.drop kn, rfl, zaa (zac C.out _), zaa ⟨Sl.nil_any _ _ _ (fun _ => rfl), by simpa using HS.out.drewN _, HD.out, (by intro q hq; cases hq), (fun q hq => ⟨a, rfl, by injection hq with hq; rw [hq]⟩), zv, zv⟩⟩
  ·have HS := zaa hs
   have G : kc - m ≠ 0 := zq
   have H : m < kc := zq
   have I : (m : Int) < (kc : Int) := zq
   clear hh hk A B hs
   go_enter Tryz.func162, Tryz.ntmps162
   go_wp2_with fail
   go_quiet (fail)
   go_wp2
   go_ret2
   exact ⟨none, 0, 0, some (a.add m), _, _, [], key.drop m, rfl, zaa (zac C.out _), zaa ⟨Sl.nil_any _ _ _ (fun _ => rfl), by simpa using HS.out.drewN _, HD.out, (by intro q hq; cases hq), (fun q hq => ⟨a, rfl, by injection hq with hq; rw [← hq, add_block]⟩), zv, zv⟩⟩
theorem run_app_sl (w : World) (ty : TypeId) (B : Nat) (l news : List Int) (v : Value) (ao : Option Addr) (n c : Nat) (C : OwnB w B v l) (A : Sl w ao n c news) (hb : l.length + n ≤ 140737488355328) (E : B ≤ w.heap.size) :
  ∃ v' w', (Builtin.append_ #[22, 22] ty #[v, .slice ao n c]).run Tryz.prog w = .ok v' w' ∧ OwnB w' B v' (l ++ news) ∧ Gr w v w' v' := by
 obtain ⟨i0, hi, F, G, H⟩ := info_parts info5
 have D := A.hlen
 cases ao with
 | none =>
  have : n = 0 := by have := A.hnil rfl; have := A.hcap; omega
  subst this
  have I := A.hnil rfl
  subst I
  obtain rfl : news = [] := List.eq_nil_of_length_eq_zero D
  exact ⟨v, w, run_append_owned_none (P := Tryz.prog) (w := w) B 22 ty 5 i0 1 Tryz.underlying22 hi v l.length (By l) C, by simpa using C, Gr.refl _ _⟩
 | some ad =>
  obtain ⟨v', w', hr, h1, h2, _, h4⟩ := run_append_own_at (P := Tryz.prog) w B 22 ty 5 i0 (.int .u8 0) 1 1 Tryz.underlying22 hi F G H rfl zd v l.length (By l) C ad n c (By news) (by simp [By, D])
   (fun j u hu => by
    obtain ⟨h1, h2⟩ := getElem?_By news j u hu
    rw [h2]
    rcases A.hat with h0 | ⟨b, off, e, _, hc⟩
    ·omega
    ·injection e with e
     subst e
     rw [Addr.add_lit]
     exact hc j zq) (zbt news) zml zq E
  refine ⟨v', w', hr, ?_, ⟨h2, h4.imp id fun e => ⟨_, e, Lr⟩⟩⟩
  unfold OwnB
  rw [zdb, zG, D]
  exact h1
theorem step_sl {ops : Array Oper} {o : Oper} {a : Act} {w : World} {K : Act → World → Prop} {Q : Exit → Act → World → Prop} {E : Prop} (F : o.guard = none) (s x : Operand)
  (ho : o.op = .call { callee := .builtin .append, args := #[s, x], argTypes := #[22, 22] }) (B : Nat) (l news : List Int) (v : Value) (ao : Option Addr) (n c : Nat) (hs : a.eval s = v) (hx : a.eval x = .slice ao n c)
  (C : OwnB w B v l) (G : Sl w ao n c news) (hb : l.length + n ≤ 140737488355328) (A : B ≤ w.heap.size)
  (h : ∀ v' w', OwnB w' B v' (l ++ news) → Gr w v w' v' → K (a.put o.dst v') w') :
  if Region.wanted o (yielded ops a.tmps) = true then Oper.wp Tryz.prog o a w K Q else E := by
 have hw : Region.wanted o (yielded ops a.tmps) = true := by simp [Region.wanted, F]
 rw [if_pos hw]
 obtain ⟨v', w', hr, h1, h2⟩ := run_app_sl w o.type B l news v ao n c C G hb A
 have D := h v' w' h1 h2
 unfold Oper.wp
 simp [execOp, ho, resolve, invoke, builtin, hs, hx, hr, Result.andThen]
 exact D
theorem withKey_any (v : Value) (B : Nat) (l : List Int) (ho : Option Addr) (hn hc : Nat) (ko : Option Addr) (kn kc : Nat) (kd : Int) (vo : Option Addr) (vn vc : Nat) (pg ct : Int) (h key : List Int) (w : World) (H : OwnB w B v l) (hB : B ≤ w.heap.size)
  (hh : Sl w ho hn hc h) (hk : Sl w ko kn kc key) (fh : Far ho hn v) (fk : Far ko kn v) (hl : l.length + hn + kn ≤ 140737488355328) :
  Calls Tryz.prog 167 #[.agg (eV ho hn hc ko kn kc kd vo vn vc pg ct), v] w fun e w' => ∃ v', e = .returned v' ∧ Hid (OwnB w' B v' (l ++ h ++ key)) ∧ Hid (Gr w v w' v') := by
 unfold eV
 obtain ⟨x, hx⟩ : ∃ x, w.alloc (.cells #[.slice ho hn hc, .slice ko kn kc, .int .i64 kd, .slice vo vn vc, .int .i64 pg, .int .i64 ct] 123) = x := ⟨_, rfl⟩
 have A : Below w.heap.size w x := by rw [← hx]; exact zab Br Lr _
 have C : E6 x w.heap.size (.slice ho hn hc) (.slice ko kn kc) (.int .i64 kd) (.slice vo vn vc) (.int .i64 pg) (.int .i64 ct) := by rw [← hx]; exact E6.box w _ _ _ _ _ _
 obtain ⟨s, hs⟩ : ∃ s, w.heap.size = s := ⟨_, rfl⟩
 rw [hs] at C
 have L := zaa C
 obtain ⟨b0, b1, b2, b3, b4, b5⟩ := C.cells
 have HO : Hid (OwnB x B v l) := zaa (H.on Lr A)
 have HK : Hid (Sl x ko kn kc key) := zaa (hk.on Lr A)
 have HH : Hid (Sl x ho hn hc h) := zaa (hh.on Lr A)
 have HG : Hid (Gr w v x v) := zaa (Gr.ofBelow v A)
 have E : B ≤ x.heap.size := zN hB A.size
 have R := zaa fh
 have M := zaa fk
 have N := zaa (HO.out.apart6 C)
 have T : h.length = hn := hh.hlen
 clear H hh hk fh fk A C
 go_enter Tryz.func167, Tryz.ntmps167
 go_wp2_with fail
 go_region_law (first
  | (refine step_sl rfl (.tmp 5) (.tmp 7) rfl B l h v ho hn hc rfl rfl (by first | exact HO.out | exact HO.out.on Lr Br.drew | exact HO.out.on Lr (zac Br _)) (by first | exact HH.out | exact HH.out.on Lr Br.drew | exact HH.out.drewN _) zq (by first | exact E | simpa using E) ?_; intro v1 w1 I g1; have D : Gr x v w1 v1 := (Gr.ofBelow v zW1).trans g1; have F := zaa I; have G := zaa (HK.out.gr D M.out); have O := zaa (HG.out.trans D); have J : B ≤ w1.heap.size := zN E D.grow.size; obtain ⟨y0, y1, y2, y3, y4, y5⟩ := (L.out.gr D N.out).cells; clear I g1 D)
  | (refine step_sl rfl (.tmp 8) (.tmp 11) rfl B (l ++ h) key v1 ko kn kc rfl rfl (by first | exact F.out | exact F.out.on Lr Br.drew | exact F.out.on Lr (zac Br _)) (by first | exact G.out | exact G.out.on Lr Br.drew | exact G.out.drewN _) (by rw [zG]; omega) (by first | exact J | simpa using J) ?_; intro v2 w2 K g2; have P := zaa K; have Q := zaa (O.out.trans ((Gr.ofBelow v1 zW1).trans g2)); clear K g2))
 all_goals
  go_wp2
  go_ret
  exact ⟨v2, rfl, P, Q⟩
end Go.Proofs.YtbkhjeacmmbabaaGreatDoor
