import Derived.Test.YtjpmfgoodcldcaaGreatDoorJ09
namespace Go.Proofs.YtjpmfgoodcldcaaGreatDoor
set_option maxRecDepth 100000
open Go.RowKit
theorem Cs.number1 {w u : World} {k r g off n cap p : Nat} {en : Bool} {l : List Int} {x0 x1 x2 x3 x4 : Value} (h : Cs w u k r g off n cap p en l x0 x1 x2 x3 x4) (hr : r < w.heap.size) :
  Calls Tryz.prog 138 #[.pointer (some ⟨r, 0, none⟩), .int .i64 1] u fun e w' => ∃ (v : Int) (p' : Nat) (en' : Bool), e = .returned (.int .i64 v) ∧ Hid (Cs w w' k r g off n cap p' en' l x0 x1 x2 x3 x4) ∧ Hid ((pNum 1 (l.drop p) = some (v, l.drop p') ∧ en' = en) ∨ (pNum 1 (l.drop p) = none ∧ en' = true)) ∧ Hid (Cf (· = r) u w') := by
 simpa using h.number hr 1 (.inl rfl)
theorem Cs.number4 {w u : World} {k r g off n cap p : Nat} {en : Bool} {l : List Int} {x0 x1 x2 x3 x4 : Value} (h : Cs w u k r g off n cap p en l x0 x1 x2 x3 x4) (hr : r < w.heap.size) :
  Calls Tryz.prog 138 #[.pointer (some ⟨r, 0, none⟩), .int .i64 4] u fun e w' => ∃ (v : Int) (p' : Nat) (en' : Bool), e = .returned (.int .i64 v) ∧ Hid (Cs w w' k r g off n cap p' en' l x0 x1 x2 x3 x4) ∧ Hid ((pNum 4 (l.drop p) = some (v, l.drop p') ∧ en' = en) ∨ (pNum 4 (l.drop p) = none ∧ en' = true)) ∧ Hid (Cf (· = r) u w') := by
 simpa using h.number hr 4 (.inr (.inr rfl))
def CellTo (l : List Int) (w : World) (r g off n cap at_ : Nat) (en : Bool) (e : Ending) (w' : World) : Prop :=
 ∃ (ko : Option Addr) (kn kc : Nat) (kd : Int) (vo : Option Addr) (vn vc : Nat) (pg ct : Int) (p : Nat) (en' : Bool) (key val : List Int), e = .returned (.agg #[.slice ko kn kc, .int .i64 kd, .slice vo vn vc, .int .i64 pg, .int .i64 ct]) ∧ Hid (Rd w' r (some ⟨g, off, none⟩) n cap p en') ∧ Hid (Cf (· = r) w w') ∧
  Hid (Sl w' ko kn kc key ∧ Sl w' vo vn vc val ∧ (∀ q, ko = some q → q.block = g) ∧ p ≤ n ∧ ((pCell (l.drop at_) = some (⟨key, kd, val, pg, ct⟩, l.drop p) ∧ en' = en) ∨ (pCell (l.drop at_) = none ∧ en' = true)))
theorem cellV {l : List Int} {a p1 p2 p3 : Nat} {en e1 e2 e3 : Bool} {key val : List Int} (h1 : (pNum 1 (l.drop a) = some (1, l.drop p1) ∧ e1 = en) ∨ (pNum 1 (l.drop a) = none ∧ e1 = true))
  (h2 : (pText (l.drop p1) = some (key, l.drop p2) ∧ e2 = e1) ∨ (pText (l.drop p1) = none ∧ e2 = true)) (h3 : (pText (l.drop p2) = some (val, l.drop p3) ∧ e3 = e2) ∨ (pText (l.drop p2) = none ∧ e3 = true)) :
  (pCell (l.drop a) = some (⟨key, 1, val, 0, 0⟩, l.drop p3) ∧ e3 = en) ∨ (pCell (l.drop a) = none ∧ e3 = true) := by
 unfold pCell
 rcases h1 with ⟨h1, rfl⟩ | ⟨h1, rfl⟩
 ·rw [h1]
  simp only
  rcases h2 with ⟨h2, rfl⟩ | ⟨h2, rfl⟩
  ·rw [h2]
   simp only [if_true]
   rcases h3 with ⟨h3, rfl⟩ | ⟨h3, rfl⟩
   ·rw [h3]; exact .inl ⟨rfl, rfl⟩
   ·rw [h3]; exact .inr ⟨rfl, rfl⟩
  ·rw [h2]
   refine .inr ⟨rfl, ?_⟩
   rcases h3 with ⟨_, h⟩ | ⟨_, h⟩ <;> exact h
 ·rw [h1]
  refine .inr ⟨rfl, ?_⟩
  rcases h2 with ⟨_, rfl⟩ | ⟨_, rfl⟩ <;> rcases h3 with ⟨_, h⟩ | ⟨_, h⟩ <;> exact h
theorem cellN {l : List Int} {a p1 p2 p3 p4 : Nat} {en e1 e2 e3 e4 : Bool} {key : List Int} {kd pg ct : Int} (hk : kd ≠ 1) (h1 : (pNum 1 (l.drop a) = some (kd, l.drop p1) ∧ e1 = en) ∨ (pNum 1 (l.drop a) = none ∧ e1 = true))
  (h2 : (pText (l.drop p1) = some (key, l.drop p2) ∧ e2 = e1) ∨ (pText (l.drop p1) = none ∧ e2 = true)) (h3 : (pNum 4 (l.drop p2) = some (pg, l.drop p3) ∧ e3 = e2) ∨ (pNum 4 (l.drop p2) = none ∧ e3 = true))
  (h4 : (pNum 4 (l.drop p3) = some (ct, l.drop p4) ∧ e4 = e3) ∨ (pNum 4 (l.drop p3) = none ∧ e4 = true)) :
  (pCell (l.drop a) = some (⟨key, kd, [], pg, ct⟩, l.drop p4) ∧ e4 = en) ∨ (pCell (l.drop a) = none ∧ e4 = true) := by
 unfold pCell
 rcases h1 with ⟨h1, rfl⟩ | ⟨h1, rfl⟩
 ·rw [h1]
  simp only
  rcases h2 with ⟨h2, rfl⟩ | ⟨h2, rfl⟩
  ·rw [h2]
   simp only [if_neg hk]
   rcases h3 with ⟨h3, rfl⟩ | ⟨h3, rfl⟩
   ·rw [h3]
    simp only
    rcases h4 with ⟨h4, rfl⟩ | ⟨h4, rfl⟩
    ·rw [h4]; exact .inl ⟨rfl, rfl⟩
    ·rw [h4]; exact .inr ⟨rfl, rfl⟩
   ·rw [h3]
    refine .inr ⟨rfl, ?_⟩
    rcases h4 with ⟨_, h⟩ | ⟨_, h⟩ <;> exact h
  ·rw [h2]
   refine .inr ⟨rfl, ?_⟩
   rcases h3 with ⟨_, rfl⟩ | ⟨_, rfl⟩ <;> rcases h4 with ⟨_, h⟩ | ⟨_, h⟩ <;> exact h
 ·rw [h1]
  refine .inr ⟨rfl, ?_⟩
  rcases h2 with ⟨_, rfl⟩ | ⟨_, rfl⟩ <;> rcases h3 with ⟨_, rfl⟩ | ⟨_, rfl⟩ <;> rcases h4 with ⟨_, h⟩ | ⟨_, h⟩ <;> exact h
def put5 (w : World) (g : Nat) (y0 y1 y2 y3 y4 : Value) : World := ((((w.setCell ⟨g, 0, none⟩ y0).setCell ⟨g, 1, none⟩ y1).setCell ⟨g, 2, none⟩ y2).setCell ⟨g, 3, none⟩ y3).setCell ⟨g, 4, none⟩ y4
theorem C5.put {w : World} {g : Nat} {x0 x1 x2 x3 x4 : Value} (h : C5 w g x0 x1 x2 x3 x4) (y0 y1 y2 y3 y4 : Value) : C5 (put5 w g y0 y1 y2 y3 y4) g y0 y1 y2 y3 y4 :=
 ((((((h.set y0).1).set y1).2.1.set y2).2.2.1.set y3).2.2.2.1.set y4).2.2.2.2
theorem put5_cf (w : World) (g : Nat) (y0 y1 y2 y3 y4 : Value) : Cf (· = g) w (put5 w g y0 y1 y2 y3 y4) := ((((Cf.set _ _ _ _).go (Cf.set _ _ _ _)).go (Cf.set _ _ _ _)).go (Cf.set _ _ _ _)).go (Cf.set _ _ _ _)
theorem sizeCell : (Tryz.prog.info? 32).map (·.size) = some 5 := by kernel_rfl
theorem Cs.fin {w u : World} {k r g off n cap p at_ : Nat} {en en' : Bool} {l : List Int} {ko vo : Option Addr} {kn kc vn vc : Nat} {kd pg ct : Int} (h : Cs w u k r g off n cap p en' l (.slice ko kn kc) (.int .i64 kd) (.slice vo vn vc) (.int .i64 pg) (.int .i64 ct)) (hr : r < w.heap.size) {key val : List Int}
  (hk : Sl u ko kn kc key) (hv : Sl u vo vn vc val) (hloc : ∀ q, ko = some q → q.block = g) (hc : (pCell (l.drop at_) = some (⟨key, kd, val, pg, ct⟩, l.drop p) ∧ en' = en) ∨ (pCell (l.drop at_) = none ∧ en' = true)) :
  CellTo l w r g off n cap at_ en (.returned (.agg #[.slice ko kn kc, .int .i64 kd, .slice vo vn vc, .int .i64 pg, .int .i64 ct])) (put5 u k (.slice ko kn kc) (.int .i64 kd) (.slice vo vn vc) (.int .i64 pg) (.int .i64 ct)) := by
 obtain ⟨h1, h2⟩ := h.r_lt hr
 have hf := put5_cf u k (.slice ko kn kc) (.int .i64 kd) (.slice vo vn vc) (.int .i64 pg) (.int .i64 ct)
 refine ⟨ko, kn, kc, kd, vo, vn, vc, pg, ct, p, en', key, val, rfl, hidden (h.rd.cf hf (by omega)), hidden (h.cf.trans hf ?_), hidden ⟨hk.cf hf (hk.apart5 h.c2), hv.cf hf (hv.apart5 h.c2), hloc, h.hp, hc⟩⟩
 intro j hj e
 have := h.hk
 omega
set_option maxHeartbeats 1000000 in
theorem cell_any (l : List Int) (w : World) (r g off n cap at_ : Nat) (en : Bool) (hr : Rd w r (some ⟨g, off, none⟩) n cap at_ en) (hs : Sl w (some ⟨g, off, none⟩) n cap l) (ha : at_ ≤ n) :
  Calls Tryz.prog 110 #[.pointer (some ⟨r, 0, none⟩)] w fun e w' => CellTo l w r g off n cap at_ en e w' := by
 have hrl := hr.lt
 obtain ⟨k, hk⟩ : ∃ k, w.heap.size = k := ⟨_, rfl⟩
 obtain ⟨u, hu⟩ : ∃ u, (w.alloc (.cells #[.slice none 0 0, .int .i64 0, .slice none 0 0, .int .i64 0, .int .i64 0] 32)).alloc (.cells #[.slice none 0 0, .int .i64 0, .slice none 0 0, .int .i64 0, .int .i64 0] 32) = u := ⟨_, rfl⟩
 have HC0 : Hid (Cs w u k r g off n cap at_ en l (.slice none 0 0) (.int .i64 0) (.slice none 0 0) (.int .i64 0) (.int .i64 0)) := by
  have hc : Cf (· = r) w u := by rw [← hu]; exact (Cf.alloc _ _ _).go (Cf.alloc _ _ _)
  refine hidden ⟨?_, ?_, ?_, ?_, hc, hk.symm, ha⟩
  ·rw [← hu]
   exact (Below.heap_alloc _ _ _ (by simp; omega)).trans ((Below.heap_alloc _ _ _ hrl).trans hr)
  ·rw [← hu]
   exact hs.on (Nat.le_refl _) (bl_al (bl_al (Below.refl _ _) (Nat.le_refl _) _) (Nat.le_refl _) _)
  ·rw [← hu, ← hk]
   exact (Below.heap_alloc _ _ _ (by simp)).trans (heap_alloc_last w _)
  ·rw [← hu, ← hk]
   have hz : (w.alloc (.cells #[.slice none 0 0, .int .i64 0, .slice none 0 0, .int .i64 0, .int .i64 0] 32)).heap.size = w.heap.size + 1 := by simp
   have := heap_alloc_last (w.alloc (.cells #[.slice none 0 0, .int .i64 0, .slice none 0 0, .int .i64 0, .int .i64 0] 32)) (.cells #[.slice none 0 0, .int .i64 0, .slice none 0 0, .int .i64 0, .int .i64 0] 32)
   rw [hz] at this
   exact this
 have N1 := hidden (HC0.out.number1 hrl)
 clear hr hs
 go_enter Tryz.func110, Tryz.ntmps110
 go_wp2_with (first | (go_at_call 138; refine N1.out.mono ?_; rintro e w1 ⟨v1, p1, e1, rfl, HS1, HV1, HX1⟩; refine Hid.out ?_))
 apply hidden
 clear N1 HC0 hu
 obtain ⟨a0, a1, a2, a3, a4⟩ := HS1.out.c3.cells
 obtain ⟨f0, f1, f2, f3, f4⟩ := HS1.out.c3.free
 have HT1 := hidden (HS1.out.store hrl 1 (.int .i64 v1) (HS1.out.c3.set (.int .i64 v1)).2.1)
 have T1 := hidden (HT1.out.text hrl)
 go_wp2_with (first | (go_at_call 139; refine T1.out.mono ?_; rintro e w2 ⟨ko, kn, kc, p2, e2, key, rfl, HS2, HK2L, HV2, HX2⟩; refine Hid.out ?_))
 apply hidden
 have HK2 := hidden HK2L.out.1
 have HLOC := hidden HK2L.out.2
 clear HK2L
 clear a0 a1 a2 a3 a4 f0 f1 f2 f3 f4 T1 HT1 HS1
 obtain ⟨a0, a1, a2, a3, a4⟩ := HS2.out.c3.cells
 obtain ⟨f0, f1, f2, f3, f4⟩ := HS2.out.c3.free
 have HT2 := hidden (HS2.out.store hrl 0 (.slice ko kn kc) (HS2.out.c3.set (.slice ko kn kc)).1)
 have HK2a : Hid (Sl (w2.setCell ⟨k + 1, 0, none⟩ (.slice ko kn kc)) ko kn kc key) := hidden (HK2.out.cf (Cf.set _ _ _ _) (HK2.out.apart5 HS2.out.c3))
 by_cases h1 : v1 = 1
 ·subst h1
  have T2 := hidden (HT2.out.text hrl)
  go_wp2_with (first | (go_at_call 139; refine T2.out.mono ?_; rintro e w3 ⟨vo, vn, vc, p3, e3, val, rfl, HS3, HK3L, HV3, HX3⟩; refine Hid.out ?_))
  apply hidden
  have HK3 := hidden HK3L.out.1
  clear HK3L
  have HK3a : Hid (Sl w3 ko kn kc key) := hidden (HK2a.out.cf HX3.out (HK2a.out.apart HT2.out.rd))
  clear a0 a1 a2 a3 a4 f0 f1 f2 f3 f4 T2 HT2 HS2 HK2a
  obtain ⟨a0, a1, a2, a3, a4⟩ := HS3.out.c3.cells
  obtain ⟨f0, f1, f2, f3, f4⟩ := HS3.out.c3.free
  obtain ⟨b0, b1, b2, b3, b4⟩ := HS3.out.c2.cells
  obtain ⟨d0, d1, d2, d3, d4⟩ := HS3.out.c2.free
  have HT3 := hidden (HS3.out.store hrl 2 (.slice vo vn vc) (HS3.out.c3.set (.slice vo vn vc)).2.2.1)
  have HK3b : Hid (Sl (w3.setCell ⟨k + 1, 2, none⟩ (.slice vo vn vc)) ko kn kc key) := hidden (HK3a.out.cf (Cf.set _ _ _ _) (HK3a.out.apart5 HS3.out.c3))
  have HK3c : Hid (Sl (w3.setCell ⟨k + 1, 2, none⟩ (.slice vo vn vc)) vo vn vc val) := hidden (HK3.out.cf (Cf.set _ _ _ _) (HK3.out.apart5 HS3.out.c3))
  have HV := hidden (cellV HV1.out HV2.out HV3.out)
  clear HS3 HK3 HK3a HV1 HV2 HV3 HX1 HX2 HX3 HK2
  go_wp2
  refine bodyPost_ret (results_cell_row rfl _ _ k 32 #[.slice ko kn kc, .int .i64 1, .slice vo vn vc, .int .i64 0, .int .i64 0] (0, 0) _ (by rfl) (HT3.out.c2.put _ _ _ _ _) Tryz.underlying32 rfl sizeCell) rfl ?_
  exact HT3.out.fin hrl HK3b.out HK3c.out HLOC.out HV.out
 ·have T2 := hidden (HT2.out.number4 hrl)
  go_wp2_with (first | (go_at_call 138; refine T2.out.mono ?_; rintro e w3 ⟨pg, p3, e3, rfl, HS3, HV3, HX3⟩; refine Hid.out ?_))
  apply hidden
  have HK3a : Hid (Sl w3 ko kn kc key) := hidden (HK2a.out.cf HX3.out (HK2a.out.apart HT2.out.rd))
  clear a0 a1 a2 a3 a4 f0 f1 f2 f3 f4 T2 HT2 HS2 HK2a
  obtain ⟨a0, a1, a2, a3, a4⟩ := HS3.out.c3.cells
  obtain ⟨f0, f1, f2, f3, f4⟩ := HS3.out.c3.free
  have HT3 := hidden (HS3.out.store hrl 3 (.int .i64 pg) (HS3.out.c3.set (.int .i64 pg)).2.2.2.1)
  have HK3b : Hid (Sl (w3.setCell ⟨k + 1, 3, none⟩ (.int .i64 pg)) ko kn kc key) := hidden (HK3a.out.cf (Cf.set _ _ _ _) (HK3a.out.apart5 HS3.out.c3))
  have T3 := hidden (HT3.out.number4 hrl)
  go_wp2_with (first | (go_at_call 138; refine T3.out.mono ?_; rintro e w4 ⟨ct, p4, e4, rfl, HS4, HV4, HX4⟩; refine Hid.out ?_))
  apply hidden
  have HK4a : Hid (Sl w4 ko kn kc key) := hidden (HK3b.out.cf HX4.out (HK3b.out.apart HT3.out.rd))
  clear a0 a1 a2 a3 a4 f0 f1 f2 f3 f4 T3 HT3 HS3 HK3a HK3b
  obtain ⟨a0, a1, a2, a3, a4⟩ := HS4.out.c3.cells
  obtain ⟨f0, f1, f2, f3, f4⟩ := HS4.out.c3.free
  obtain ⟨b0, b1, b2, b3, b4⟩ := HS4.out.c2.cells
  obtain ⟨d0, d1, d2, d3, d4⟩ := HS4.out.c2.free
  have HT4 := hidden (HS4.out.store hrl 4 (.int .i64 ct) (HS4.out.c3.set (.int .i64 ct)).2.2.2.2)
  have HK4b : Hid (Sl (w4.setCell ⟨k + 1, 4, none⟩ (.int .i64 ct)) ko kn kc key) := hidden (HK4a.out.cf (Cf.set _ _ _ _) (HK4a.out.apart5 HS4.out.c3))
  have HV := hidden (cellN h1 HV1.out HV2.out HV3.out HV4.out)
  clear HS4 HK4a HV1 HV2 HV3 HV4 HX1 HX2 HX3 HX4 HK2
  go_wp2
  refine bodyPost_ret (results_cell_row rfl _ _ k 32 #[.slice ko kn kc, .int .i64 v1, .slice none 0 0, .int .i64 pg, .int .i64 ct] (0, 0) _ (by rfl) (HT4.out.c2.put _ _ _ _ _) Tryz.underlying32 rfl sizeCell) rfl ?_
  exact HT4.out.fin hrl HK4b.out (Sl.nil_any _ _ _ fun _ => rfl) HLOC.out HV.out
end Go.Proofs.YtjpmfgoodcldcaaGreatDoor
