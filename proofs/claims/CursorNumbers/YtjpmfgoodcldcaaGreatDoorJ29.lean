import Derived.Test.YtjpmfgoodcldcaaGreatDoorJ28
namespace Go.Proofs.YtjpmfgoodcldcaaGreatDoor
set_option maxRecDepth 100000
open Go.RowKit
theorem setCell_noop {w : World} {c i : Nat} {cs : List Value} {t : TypeId} {v : Value} (h : w.heap[c]? = some (.cells cs.toArray t (0, 0))) (hv : cs[i]? = some v) : w.setCell ⟨c, i, none⟩ v = w := by
 have hX : (w.setCell ⟨c, i, none⟩ v).heap = w.heap := by
  apply Array.ext_getElem?
  intro k
  by_cases e : k = c
  ·subst e
   rw [set_row h, h]
   obtain ⟨hi, hv⟩ := List.getElem?_eq_some_iff.1 hv
   rw [← hv, List.set_getElem_self]
  ·exact Below.heap_setCell _ _ _ _ (fun e' => e (by simpa using e'))
 have : w.setCell ⟨c, i, none⟩ v = { w with heap := (w.setCell ⟨c, i, none⟩ v).heap } := rfl
 rw [this, hX]
theorem stand_s {w : World} {c b : Nat} {root : Int} {n : Value} {at_ : Int} (h : Cu w c b root n at_ 1 0) : Calls Tryz.prog 48 #[pB c, .int .i64 0] w fun e u => e = .returned (.bool true) ∧ u = w := by
 have hs : w.setCell ⟨c, 83, none⟩ (.int .i64 0) = w := setCell_noop h.eq rfl
 have HS := hidden (stands_1 h)
 obtain ⟨c0, c1, c2, c3, c4, c5⟩ := h.cells
 have f5 := h.free 83
 clear h
 go_enter Tryz.func48, Tryz.ntmps48
 go_wp2_with (first | (go_at_call 36; refine same_call HS.out ?_))
 go_ret
 exact ⟨rfl, rfl⟩
section
variable {w : World} {c b m E0 E : Nat} {rd : Int} {cs : List Cl}
set_option maxHeartbeats 1000000 in
theorem beside_in {r : Int} (h : Sn13 b m E0 E c r rd cs w) (hr : 0 < r ∧ r ≤ (cs.length : Int)) (hln : cs.length < 100000) :
  Calls Tryz.prog 37 #[pB c, .int .i64 (-1), .func (.func 41) #[pB c] #[]] w fun e u => e = .returned (.bool true) ∧ Hid (Sn13 b m E0 E c (r - 1) rd cs u ∧ Cf (Bc13 b m c) w u) := by
 obtain ⟨a, B, h1, h2, h3, h4, h5⟩ := h
 have hnI : (cs.length : Int) < 100000 := by omega
 have hW := h2
 have HST := hidden (stands_1 h2)
 have HEN := hidden (end_1 h2)
 have HC2 := hidden h2
 have HL2 := hidden h3
 have HR2 := hidden h4
 have HCB := hidden (And.intro h1 h5)
 clear h1 h2 h3 h4 h5 hW
 go_enter Tryz.func37, Tryz.ntmps37
 go_wp2_with (first | (go_at_call 36; refine same_call HST.out ?_))
 go_loopw [7] (fun _ wr => wr = w) (fun _ _ => 0)
 case atStart => rfl
 case round =>
  obtain rfl := hrel
  go_wp2_with (first | (go_at_call 36; refine same_call HST.out ?_) | (go_at_call 34; refine HEN.out.mono ?_; rintro e w3 ⟨rfl, q3, rfl⟩; refine Hid.out ?_))
  apply hidden
  have HC3 := hidden (HC2.out.drewN q3)
  obtain ⟨c0, c1, c2, c3, c4, c5⟩ := HC3.out.cells
  have f3 := HC3.out.free 3
  have hr1 : r + -1 = r - 1 := by omega
  have HC4 : Hid (Cu ((wr.drewN q3).setCell ⟨c, 3, none⟩ (.int .i64 (r - 1))) c b 5 (iP a) (r - 1) 1 0) := hidden (HC3.out.set3 (r - 1))
  have HF4 : Hid (Cf (· = c) wr ((wr.drewN q3).setCell ⟨c, 3, none⟩ (.int .i64 (r - 1)))) := hidden ((Cf.drew _ _ _).go (Cf.set _ c 3 _))
  obtain ⟨w4, hw4⟩ : ∃ w4, (wr.drewN q3).setCell ⟨c, 3, none⟩ (.int .i64 (r - 1)) = w4 := ⟨_, rfl⟩
  rw [hw4] at HC4 HF4
  have HL4 : Hid (Lf w4 B a cs) := hidden (HL2.out.cf HF4.out (fun k h1 h2 => by have := HCB.out.1; omega))
  have HR4 : Hid (R5 w4 b m E0 E rd cs) := hidden (HR2.out.cf HF4.out (fun k hk => by rw [hk]; exact HCB.out.2))
  have HTH := hidden (isThere_any HC4.out HL4.out true (by simp; omega))
  go_wp2_with (first | (go_at_call 35; refine HTH.out.mono ?_; rintro e w5 ⟨rfl, q5, rfl⟩; refine Hid.out ?_))
  apply hidden
  have HC5 := hidden (HC4.out.drewN q5)
  have HL5 := hidden (HL4.out.on (bl_dr (Below.refl _ _) q5))
  have HR5 := hidden (HR4.out.on (bl_dr (Below.refl _ _) q5))
  have HF5 : Hid (Cf (· = c) wr (w4.drewN q5)) := hidden (HF4.out.go (Cf.drew _ _ _))
  clear HST HEN HC2 HL2 HR2 HC3 HC4 HL4 HR4 HF4 HTH hw4 f3 c0 c1 c2 c3 c4 c5
  generalize w4.drewN q5 = w5 at *
  have HFX : Hid (∀ q, Sn13 b m E0 E c (r - 1) rd cs (w5.drewN q) ∧ Cf (Bc13 b m c) wr (w5.drewN q)) := hidden fun q => ⟨⟨a, B, HCB.out.1, HC5.out.drewN q, HL5.out.on (bl_dr (Below.refl _ _) q), HR5.out.on (bl_dr (Below.refl _ _) q), HCB.out.2⟩, ((HF5.out.wd13 (fun k hk => .inr hk)).go (Cf.drew _ _ _))⟩
  have HCH : Hid (∀ q, Calls Tryz.prog 50 #[iP a, .int .i64 (r - 1)] (w5.drewN q) fun e w' => e = .returned (.int .i64 0) ∧ w' = w5.drewN q) := hidden fun q => by
   obtain ⟨_, vb, vs, hp⟩ := HL5.out.on (bl_dr (Below.refl _ _) q)
   exact child_leaf _ _ a vb vs cs (r - 1) hp
  have HDL : Hid (∀ q, Calls Tryz.prog 41 #[pB c, .int .i64 0] (w5.drewN q) fun e w' => e = .returned (.int .i64 0) ∧ w' = w5.drewN q) := hidden fun q => downLast_0 c _
  have HSS : Hid (∀ q, Calls Tryz.prog 48 #[pB c, .int .i64 0] (w5.drewN q) fun e w' => e = .returned (.bool true) ∧ w' = w5.drewN q) := hidden fun q => stand_s (HC5.out.drewN q)
  obtain ⟨c0, c1, c2, c3, c4, c5⟩ := HC5.out.cells
  clear HC5 HL5 HR5 HF5
  go_wp2_with fail
  go_quiet (first | (go_at_call 50; exact Calls.quiet_of_same (HCH.out _)) | (go_at_call 41; exact Calls.quiet_of_same (HDL.out _)) | (go_at_call 48; exact Calls.quiet_of_same (HSS.out _)))
  go_wp2
  go_ret
  exact ⟨rfl, hidden (HFX.out _)⟩
end
end Go.Proofs.YtjpmfgoodcldcaaGreatDoor

namespace Go.Proofs.YtjpmfgoodcldcaaGreatDoor
set_option maxRecDepth 100000
open Go.RowKit
section
variable {w : World} {c b m E0 E : Nat} {rd : Int} {cs : List Cl}
set_option maxHeartbeats 1000000 in
theorem beside_out_n {r : Int} (h : Sn13 b m E0 E c r rd cs w) (hr : ¬ (0 ≤ r + 1 ∧ r + 1 < (cs.length : Int))) (hrb : -100000 ≤ r ∧ r ≤ 100000) :
  Calls Tryz.prog 37 #[pB c, .int .i64 (1), .func (.func 38) #[pB c] #[]] w fun e u => e = .returned (.bool false) ∧ Hid (S0 b m E0 E c rd cs u ∧ Cf (Bc13 b m c) w u) := by
 obtain ⟨a, B, h1, h2, h3, h4, h5⟩ := h
 have HST := hidden (stands_1 h2)
 have HEN := hidden (end_1 h2)
 have HC2 := hidden h2
 have HL2 := hidden h3
 have HR2 := hidden h4
 have HCB := hidden (And.intro h1 h5)
 have HDP : Hid (dpt w c = 1) := hidden h2.dpt
 have HNR := hidden hr
 clear h1 h2 h3 h4 h5 hr
 go_enter Tryz.func37, Tryz.ntmps37
 go_wp2_with (first | (go_at_call 36; refine same_call HST.out ?_))
 go_loopw [7] (fun _ wr => (wr = w) ∨ Hid (S0 b m E0 E c rd cs wr ∧ Cf (Bc13 b m c) w wr)) (fun _ wr => dpt wr c)
 case atStart => exact .inl rfl
 case round =>
  rcases hrel with rfl | HS0
  ·go_wp2_with (first | (go_at_call 36; refine same_call HST.out ?_) | (go_at_call 34; refine HEN.out.mono ?_; rintro e w3 ⟨rfl, q3, rfl⟩; refine Hid.out ?_))
   apply hidden
   have HC3 := hidden (HC2.out.drewN q3)
   obtain ⟨c0, c1, c2, c3, c4, c5⟩ := HC3.out.cells
   have f3 := HC3.out.free 3
   have HC4 : Hid (Cu ((wr.drewN q3).setCell ⟨c, 3, none⟩ (.int .i64 (r + 1))) c b 5 (iP a) (r + 1) 1 0) := hidden (HC3.out.set3 (r + 1))
   have HF4 : Hid (Cf (· = c) wr ((wr.drewN q3).setCell ⟨c, 3, none⟩ (.int .i64 (r + 1)))) := hidden ((Cf.drew _ _ _).go (Cf.set _ c 3 _))
   obtain ⟨w4, hw4⟩ : ∃ w4, (wr.drewN q3).setCell ⟨c, 3, none⟩ (.int .i64 (r + 1)) = w4 := ⟨_, rfl⟩
   rw [hw4] at HC4 HF4
   have HL4 : Hid (Lf w4 B a cs) := hidden (HL2.out.cf HF4.out (fun k h1 h2 => by have := HCB.out.1; omega))
   have HR4 : Hid (R5 w4 b m E0 E rd cs) := hidden (HR2.out.cf HF4.out (fun k hk => by rw [hk]; exact HCB.out.2))
   have HTH := hidden (isThere_any HC4.out HL4.out false (by have := HNR.out; simp only [decide_eq_false_iff_not]; exact this))
   go_wp2_with (first | (go_at_call 35; refine HTH.out.mono ?_; rintro e w5 ⟨rfl, q5, rfl⟩; refine Hid.out ?_))
   apply hidden
   have HU := hidden (up_1 (HC4.out.drewN q5))
   have HF5 : Hid (Cf (· = c) wr (w4.drewN q5)) := hidden (HF4.out.go (Cf.drew _ _ _))
   have HR5 := hidden (HR4.out.on (bl_dr (Below.refl _ _) q5))
   clear HST HEN HC2 HL2 HR2 HC3 HC4 HL4 HR4 HF4 HTH hw4 f3 c0 c1 c2 c3 c4 c5
   generalize w4.drewN q5 = w5 at *
   go_wp2_with (first | (go_at_call 51; refine HU.out.mono ?_; rintro e w6 ⟨rfl, HQ⟩))
   go_roundw
   case rel => exact .inr (hidden ⟨⟨HQ.out.1, HR5.out.cf HQ.out.2 (fun k hk => by rw [hk]; exact HCB.out.2), HCB.out.2⟩, (HF5.out.wd13 (fun k hk => .inr hk)).go (HQ.out.2.wd13 (fun k hk => .inr hk))⟩)
   case measure => rw [HQ.out.1.dpt, HDP.out]; decide
  ·have HS := hidden (stands_0 HS0.out.1.1)
   have HT := hidden (stand_0 HS0.out.1.1)
   go_wp2_with (first | (go_at_call 36; refine same_call HS.out ?_) | (go_at_call 48; refine HT.out.mono ?_; rintro e w7 ⟨rfl, HQ⟩))
   go_ret
   exact ⟨rfl, hidden ⟨⟨HQ.out.1, HS0.out.1.2.1.cf HQ.out.2 (fun k hk => by rw [hk]; exact HCB.out.2), HCB.out.2⟩, HS0.out.2.go (HQ.out.2.wd13 (fun k hk => .inr hk))⟩⟩
set_option maxHeartbeats 1000000 in
theorem beside_out_p {r : Int} (h : Sn13 b m E0 E c r rd cs w) (hr : ¬ (0 ≤ r + -1 ∧ r + -1 < (cs.length : Int))) (hrb : -100000 ≤ r ∧ r ≤ 100000) :
  Calls Tryz.prog 37 #[pB c, .int .i64 (-1), .func (.func 41) #[pB c] #[]] w fun e u => e = .returned (.bool false) ∧ Hid (S0 b m E0 E c rd cs u ∧ Cf (Bc13 b m c) w u) := by
 obtain ⟨a, B, h1, h2, h3, h4, h5⟩ := h
 have HST := hidden (stands_1 h2)
 have HEN := hidden (end_1 h2)
 have HC2 := hidden h2
 have HL2 := hidden h3
 have HR2 := hidden h4
 have HCB := hidden (And.intro h1 h5)
 have HDP : Hid (dpt w c = 1) := hidden h2.dpt
 have HNR := hidden hr
 clear h1 h2 h3 h4 h5 hr
 go_enter Tryz.func37, Tryz.ntmps37
 go_wp2_with (first | (go_at_call 36; refine same_call HST.out ?_))
 go_loopw [7] (fun _ wr => (wr = w) ∨ Hid (S0 b m E0 E c rd cs wr ∧ Cf (Bc13 b m c) w wr)) (fun _ wr => dpt wr c)
 case atStart => exact .inl rfl
 case round =>
  rcases hrel with rfl | HS0
  ·go_wp2_with (first | (go_at_call 36; refine same_call HST.out ?_) | (go_at_call 34; refine HEN.out.mono ?_; rintro e w3 ⟨rfl, q3, rfl⟩; refine Hid.out ?_))
   apply hidden
   have HC3 := hidden (HC2.out.drewN q3)
   obtain ⟨c0, c1, c2, c3, c4, c5⟩ := HC3.out.cells
   have f3 := HC3.out.free 3
   have HC4 : Hid (Cu ((wr.drewN q3).setCell ⟨c, 3, none⟩ (.int .i64 (r + -1))) c b 5 (iP a) (r + -1) 1 0) := hidden (HC3.out.set3 (r + -1))
   have HF4 : Hid (Cf (· = c) wr ((wr.drewN q3).setCell ⟨c, 3, none⟩ (.int .i64 (r + -1)))) := hidden ((Cf.drew _ _ _).go (Cf.set _ c 3 _))
   obtain ⟨w4, hw4⟩ : ∃ w4, (wr.drewN q3).setCell ⟨c, 3, none⟩ (.int .i64 (r + -1)) = w4 := ⟨_, rfl⟩
   rw [hw4] at HC4 HF4
   have HL4 : Hid (Lf w4 B a cs) := hidden (HL2.out.cf HF4.out (fun k h1 h2 => by have := HCB.out.1; omega))
   have HR4 : Hid (R5 w4 b m E0 E rd cs) := hidden (HR2.out.cf HF4.out (fun k hk => by rw [hk]; exact HCB.out.2))
   have HTH := hidden (isThere_any HC4.out HL4.out false (by have := HNR.out; simp only [decide_eq_false_iff_not]; exact this))
   go_wp2_with (first | (go_at_call 35; refine HTH.out.mono ?_; rintro e w5 ⟨rfl, q5, rfl⟩; refine Hid.out ?_))
   apply hidden
   have HU := hidden (up_1 (HC4.out.drewN q5))
   have HF5 : Hid (Cf (· = c) wr (w4.drewN q5)) := hidden (HF4.out.go (Cf.drew _ _ _))
   have HR5 := hidden (HR4.out.on (bl_dr (Below.refl _ _) q5))
   clear HST HEN HC2 HL2 HR2 HC3 HC4 HL4 HR4 HF4 HTH hw4 f3 c0 c1 c2 c3 c4 c5
   generalize w4.drewN q5 = w5 at *
   go_wp2_with (first | (go_at_call 51; refine HU.out.mono ?_; rintro e w6 ⟨rfl, HQ⟩))
   go_roundw
   case rel => exact .inr (hidden ⟨⟨HQ.out.1, HR5.out.cf HQ.out.2 (fun k hk => by rw [hk]; exact HCB.out.2), HCB.out.2⟩, (HF5.out.wd13 (fun k hk => .inr hk)).go (HQ.out.2.wd13 (fun k hk => .inr hk))⟩)
   case measure => rw [HQ.out.1.dpt, HDP.out]; decide
  ·have HS := hidden (stands_0 HS0.out.1.1)
   have HT := hidden (stand_0 HS0.out.1.1)
   go_wp2_with (first | (go_at_call 36; refine same_call HS.out ?_) | (go_at_call 48; refine HT.out.mono ?_; rintro e w7 ⟨rfl, HQ⟩))
   go_ret
   exact ⟨rfl, hidden ⟨⟨HQ.out.1, HS0.out.1.2.1.cf HQ.out.2 (fun k hk => by rw [hk]; exact HCB.out.2), HCB.out.2⟩, HS0.out.2.go (HQ.out.2.wd13 (fun k hk => .inr hk))⟩⟩
theorem next_out {r : Int} (h : Sn13 b m E0 E c r rd cs w) (hr : ¬ (0 ≤ r + 1 ∧ r + 1 < (cs.length : Int))) (hrb : -100000 ≤ r ∧ r ≤ 100000) :
  Calls Tryz.prog 13 #[pB c] w fun e u => e = .returned (.bool false) ∧ Hid (S0 b m E0 E c rd cs u ∧ Cf (Bc13 b m c) w u) := by
 have HB := hidden (beside_out_n h hr hrb)
 clear h hr hrb
 go_enter Tryz.func13, Tryz.ntmps13
 go_wp2_with (first | (go_at_call 37; refine HB.out.mono ?_; rintro e u ⟨rfl, HQ⟩))
 go_ret
 exact ⟨rfl, HQ⟩
theorem prev_out {r : Int} (h : Sn13 b m E0 E c r rd cs w) (hr : ¬ (0 ≤ r + -1 ∧ r + -1 < (cs.length : Int))) (hrb : -100000 ≤ r ∧ r ≤ 100000) :
  Calls Tryz.prog 19 #[pB c] w fun e u => e = .returned (.bool false) ∧ Hid (S0 b m E0 E c rd cs u ∧ Cf (Bc13 b m c) w u) := by
 have HB := hidden (beside_out_p h hr hrb)
 clear h hr hrb
 go_enter Tryz.func19, Tryz.ntmps19
 go_wp2_with (first | (go_at_call 37; refine HB.out.mono ?_; rintro e u ⟨rfl, HQ⟩))
 go_ret
 exact ⟨rfl, HQ⟩
theorem prev_in {r : Int} (h : Sn13 b m E0 E c r rd cs w) (hr : 0 < r ∧ r ≤ (cs.length : Int)) (hln : cs.length < 100000) :
  Calls Tryz.prog 19 #[pB c] w fun e u => e = .returned (.bool true) ∧ Hid (Sn13 b m E0 E c (r - 1) rd cs u ∧ Cf (Bc13 b m c) w u) := by
 have HB := hidden (beside_in h hr hln)
 clear h hr hln
 go_enter Tryz.func19, Tryz.ntmps19
 go_wp2_with (first | (go_at_call 37; refine HB.out.mono ?_; rintro e u ⟨rfl, HQ⟩))
 go_ret
 exact ⟨rfl, HQ⟩
end
end Go.Proofs.YtjpmfgoodcldcaaGreatDoor
