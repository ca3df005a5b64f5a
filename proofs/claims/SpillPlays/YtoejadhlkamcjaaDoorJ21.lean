import Derived.Test.YtoejadhlkamcjaaDoorJ20
namespace Go.Proofs.YtoejadhlkamcjaaDoor
set_option maxRecDepth 100000
open Go.RowKit Go.Maps
set_option maxHeartbeats 8000000 in
theorem awake_any (w : World) (ht : Tab w) (h0 : 0 < w.heap.size) : Calls Tryd.prog 4 #[] w fun e u => e = .returned (.bool true) ∧ Hid (Below w.heap.size w u) := by
 have HT := hidden ht
 have HNB := hidden (newBench_yes w 1 512 9 (.inl rfl) pg512 (by omega) (by omega))
 have hmk : ∀ u : World, (Instr.makeSlice 33 (.int .i64 500) (.int .i64 500)).run Tryd.prog u = .ok (.slice (some ⟨u.heap.size, 0, none⟩) 500 500) (u.alloc (.cells (madeCells #[.int .u8 0] 500) 5)) := fun u => made_full 500 (by omega) u
 clear ht
 go_enter Tryd.func4, Tryd.ntmps4
 go_wp2_with (first
  | (go_at_call 5; refine HNB.out.mono ?_; rintro e w1 ⟨b, m, rfl, HN⟩; refine Hid.out ?_))
 apply hidden
 clear HNB
 obtain ⟨hbl, hml, hbn, hb1⟩ := HN.out
 have HLO := hidden (And.intro hbl hml)
 have HB1 := hidden hb1
 obtain ⟨x, hx⟩ : ∃ x, w1.alloc (.cells (madeCells #[.int .u8 0] 500) 5) = x := ⟨_, rfl⟩
 have hbx : Below w1.heap.size w1 x := by rw [← hx]; exact bl_al (Below.refl _ _) (Nat.le_refl _) _
 have hkx : Bk x w1.heap.size (zs 500) := by rw [← hx]; exact made_zs w1 500
 obtain ⟨g, hg⟩ : ∃ g, w1.heap.size = g := ⟨_, rfl⟩
 have hgb : g ≠ b := by have := hbn.lt; omega
 have hgm : g ≠ m := by have := hbn.mlt; omega
 rw [hg] at hkx
 have hc9 : ∃ y, x.cell? ⟨g, 499, none⟩ = some y := ⟨_, hkx.cell 499 (by rw [zs_length]; omega)⟩
 obtain ⟨y9, hc9⟩ := hc9
 have hf9 := hkx.free 499
 obtain ⟨w2, hw2⟩ : ∃ w2, x.setCell ⟨g, 499, none⟩ (.int .u8 7) = w2 := ⟨_, rfl⟩
 have hk2 : Bk w2 g vA := by
  unfold Bk
  rw [← hw2, set_row hkx]
  simp [By, vA, List.map_set]
 have hcx2 : Cf (· = g) x w2 := by rw [← hw2]; exact Cf.setCell (F := (· = g)) x (p := ⟨g, 499, none⟩) rfl _
 have HBW2 : Hid (Below w.heap.size w w2) := hidden (by
  rw [← hw2]
  exact (bl_go hb1 (Nat.le_refl _) hbx).setCell (p := ⟨g, 499, none⟩) (by show w.heap.size ≤ g; rw [← hg]; exact hb1.size) _)
 have HS2 : Hid (Sl w2 (some ⟨g, 0, none⟩) 500 500 vA) := hidden (hk2.sl vA_length vA_wf (by omega))
 have HA2 : Hid (Aw w2 b m 1 512 9 0 (fun _ => none) 0) := hidden ⟨(hbn.on hbx).cf hcx2 (fun e => hgb e.symm) (fun e => hgm e.symm) (fun _ _ h => by cases h), HT.out.on HBW2.out h0, Nat.lt_of_lt_of_le h0 HBW2.out.size, by omega, by omega⟩
 have HWR := hidden (write_pre (P := 512) HA2.out.bn pg512 (by omega) (by omega) 2 2 (by omega) (fun k => by simp) rfl (by omega) _ 500 500 vA HS2.out (by omega) (by omega) pgA (by omega) (by omega) (by omega) HA2.out.tab HA2.out.pos HA2.out.m0)
 clear hbl hml hbn hb1 hbx hkx hk2 hcx2 HN
 go_wp2_with (first
  | (go_at_call 11; refine HWR.out.mono ?_; rintro e w3 ⟨rfl, HQ⟩; refine Hid.out ?_))
 apply hidden
 obtain ⟨M, hbM, hpre, hlaid, _, hc3⟩ := HQ.out
 have hcw : Cf (fun k => k = b ∨ k = m) w2 w3 := hc3.wide (fun k h => .inr h)
 have HA3 : Hid (Aw w3 b m 1 512 9 0 M 2) := hidden (HA2.out.next hbM hcw)
 have HS3 : Hid (Sl w3 (some ⟨g, 0, none⟩) 500 500 vA) := hidden (HA2.out.sl hcw HS2.out)
 have HC3 := hidden hcw
 have HLD := hidden hlaid
 have HPR := hidden hpre
 have HRD := hidden (read_may HA3.out.bn pg512 2 500 (wf64 _ (by omega) (by omega)) (by omega) (by omega) (by omega) (by omega) HA3.out.tab HA3.out.pos HA3.out.b0)
 rw [thrA hlaid] at HRD
 clear hbM hpre hlaid hc3 hcw HQ HWR HA2 HS2 hx hw2 hc9 hf9 hmk hg
 go_wp2_with (first
  | (go_at_call 12; refine HRD.out.mono ?_; rintro e w4 ⟨bo, bn, bc, k4, rfl, HQ⟩; refine Hid.out ?_))
 apply hidden
 obtain ⟨rfl, ho4, hbn4, hb4, hc4⟩ := HQ.out
 have hbn5 : bn = 500 := hbn4.trans vA_length
 subst hbn5
 have hcw : Cf (fun k => k = b ∨ k = m) w3 w4 := hc4.wide (fun k h => .inl h)
 have HA4 : Hid (Aw w4 b m 1 512 9 (0 + 2) M 2) := hidden (HA3.out.next hb4 hcw)
 have HS4 : Hid (Sl w4 (some ⟨g, 0, none⟩) 500 500 vA) := hidden (HA3.out.sl hcw HS3.out)
 have HR4 : Hid (Sl w4 bo 500 bc vA) := hidden (ho4.sl2 vA_wf (by rw [vA_length]; omega))
 have HC4 : Hid (Cf (fun k => k = b ∨ k = m) w2 w4) := hidden (HC3.out.go hcw)
 have HRE := hidden (read_may HA4.out.bn pg512 2 499 (wf64 _ (by omega) (by omega)) (by omega) (by omega) (by omega) (by omega) HA4.out.tab HA4.out.pos HA4.out.b0)
 rw [thrB HLD.out] at HRE
 clear ho4 hbn4 hb4 hc4 hcw HQ HRD HA3 HS3 HC3
 go_wp2_with (first
  | (go_at_call 12; refine HRE.out.mono ?_; rintro e w5 ⟨co, cn, cc, k5, rfl, HQ⟩; refine Hid.out ?_))
 apply hidden
 obtain ⟨rfl, _, _, hb5, hc5⟩ := HQ.out
 have hcw : Cf (fun k => k = b ∨ k = m) w4 w5 := hc5.wide (fun k h => .inl h)
 have HA5 : Hid (Aw w5 b m 1 512 9 (0 + 2 + 1 + 1) M 2) := hidden (HA4.out.next hb5 hcw)
 have HS5 : Hid (Sl w5 (some ⟨g, 0, none⟩) 500 500 vA) := hidden (HA4.out.sl hcw HS4.out)
 have HR5 : Hid (Sl w5 bo 500 bc vA) := hidden (HA4.out.sl hcw HR4.out)
 have HC5 : Hid (Cf (fun k => k = b ∨ k = m) w2 w5) := hidden (HC4.out.go hcw)
 have HLI := hidden (list_may HA5.out.bn pg512 2 500 (wf64 _ (by omega) (by omega)) (by omega) (by omega) (by omega) (by omega) HA5.out.tab HA5.out.pos HA5.out.b0)
 rw [thrA HLD.out] at HLI
 clear hb5 hc5 hcw HQ HRE HA4 HS4 HR4 HC4
 go_wp2_with (first
  | (go_at_call 13; refine HLI.out.mono ?_; rintro e w6 ⟨lo, ln, lc, k6, rfl, HQ⟩; refine Hid.out ?_))
 apply hidden
 obtain ⟨rfl, _, hln, hb6, hc6⟩ := HQ.out
 have hln2 : ln = 2 := hln
 subst hln2
 have hcw : Cf (fun k => k = b ∨ k = m) w5 w6 := hc6.wide (fun k h => .inl h)
 have HA6 : Hid (Aw w6 b m 1 512 9 (0 + 2 + 1 + 1 + 2) M 2) := hidden (HA5.out.next hb6 hcw)
 have HS6 : Hid (Sl w6 (some ⟨g, 0, none⟩) 500 500 vA) := hidden (HA5.out.sl hcw HS5.out)
 have HR6 : Hid (Sl w6 bo 500 bc vA) := hidden (HA5.out.sl hcw HR5.out)
 have HC6 : Hid (Cf (fun k => k = b ∨ k = m) w2 w6) := hidden (HC5.out.go hcw)
 have HSI : Hid (Calls Tryd.prog 14 #[iB b, .int .i64 2, .int .i64 500, .int .i64 499, .int .i64 500] w6 fun e u => SliceTo (0, rng 2 2, vA, 0 + 2 + 1 + 1 + 2 + 2) 499 500 w6 b m 1 512 9 M 2 e u) := hidden (by
  have hq := slice_may HA6.out.bn pg512 2 500 499 500 (wf64 _ (by omega) (by omega)) (by omega) (by omega) (by omega) (by omega) (by
   intro _
   rw [show ((500 : Nat) : Int) = 500 from rfl, thrA HLD.out]
   simp only
   rw [vA_length]
   exact ⟨by omega, by omega, vA_wf⟩) (by omega) (by omega) HA6.out.tab HA6.out.pos HA6.out.b0
  rw [show ((500 : Nat) : Int) = 500 from rfl, thrA HLD.out] at hq
  exact hq)
 clear hb6 hc6 hcw HQ HLI HA5 HS5 HR5 HC5 hln
 go_wp2_with (first
  | (go_at_call 14; refine HSI.out.mono ?_; rintro e w7 ⟨so, sn, sc, k7, rfl, HQ⟩; refine Hid.out ?_))
 apply hidden
 obtain ⟨rfl, _, hown, hb7, hc7⟩ := HQ.out
 obtain ⟨ho7, hsn⟩ := hown rfl
 have hsn2 : sn = 1 := hsn
 subst hsn2
 have hcw : Cf (fun k => k = b ∨ k = m) w6 w7 := hc7.wide (fun k h => .inl h)
 have HA7 : Hid (Aw w7 b m 1 512 9 (0 + 2 + 1 + 1 + 2 + 2) M 2) := hidden (HA6.out.next hb7 hcw)
 have HS7 : Hid (Sl w7 (some ⟨g, 0, none⟩) 500 500 vA) := hidden (HA6.out.sl hcw HS6.out)
 have HR7 : Hid (Sl w7 bo 500 bc vA) := hidden (HA6.out.sl hcw HR6.out)
 have HP7 : Hid (Sl w7 so 1 sc [7]) := hidden (by
  have hq : OwnB w7 w6.heap.size (.slice so 1 sc) [7] := by
   rw [← vA_last]
   exact ho7
  exact hq.sl2 (Wf.cons (by omega) Wf.nil) (by decide))
 have HC7 : Hid (Cf (fun k => k = b ∨ k = m) w2 w7) := hidden (HC6.out.go hcw)
 clear hb7 hc7 hcw HQ HSI HA6 HS6 HR6 HC6 ho7 hown hsn
 obtain ⟨x, hx⟩ : ∃ x, w7.alloc (.cells #[.int .u8 97, .int .u8 98] 5 (2, 3)) = x := ⟨_, rfl⟩
 have hbx : Below w7.heap.size w7 x := by rw [← hx]; exact bl_al (Below.refl _ _) (Nat.le_refl _) _
 obtain ⟨g7, hg7⟩ : ∃ g7, w7.heap.size = g7 := ⟨_, rfl⟩
 have hsx : Sl x (some ⟨g7, 0, none⟩) 2 2 [97, 98] := by
  refine ⟨rfl, Nat.le_refl _, by omega, Wf.cons (by omega) (Wf.cons (by omega) Wf.nil), (by intro h; cases h), .inr ⟨g7, 0, rfl, by rw [← hx, ← hg7]; simp, fun i hi => ?_⟩⟩
  have hi' : i = 0 ∨ i = 1 := by omega
  rw [← hx, lit_cell5 _ _ _ _ _ _ hg7]
  rcases hi' with rfl | rfl <;> rfl
 have hk7 : (convert 33 33 (.slice (some ⟨g7, 0, none⟩) 2 2)).run Tryd.prog (w7.alloc (.cells #[.int .u8 97, .int .u8 98] 5)) = .ok (.slice (some ⟨g7, 0, none⟩) 2 2) x := by rw [← hx]; exact conv6H w7 #[.int .u8 97, .int .u8 98] 2 2 g7 hg7
 have hax : Aw x b m 1 512 9 (0 + 2 + 1 + 1 + 2 + 2) M 2 := HA7.out.next (HA7.out.bn.on hbx) (Cf.of_below hbx)
 have HBX := hidden hbx
 have HAX := hidden hax
 have HEN : Hid (Calls Tryd.prog 15 #[.int .i64 0, .slice (some ⟨g7, 0, none⟩) 2 2, .int .i64 512] x fun e w' => ∃ g, e = .returned (.tuple #[.slice (some ⟨g, 0, none⟩) 512 512, .int .i64 0]) ∧ x.heap.size ≤ g ∧ Bk w' g (spB 0 [97, 98] 512) ∧ Below x.heap.size x w') := hidden (encS_yes 0 512 g7 0 2 2 [97, 98] x hsx pg512 (.inl rfl) (by omega) (by omega) hax.tab hax.pos)
 clear hbx hsx hax
 go_wp2_with (first
  | (go_at_call 15; refine HEN.out.mono ?_; rintro e w8 ⟨g8, rfl, hq1, hq2, hq3⟩; have HQ := hidden (And.intro hq1 (And.intro hq2 hq3)); clear hq1 hq2 hq3; refine Hid.out ?_))
 apply hidden
 clear hx hg7 HEN hk7
 have hc8 : Cf (fun k => k = b ∨ k = m) w7 w8 := (Cf.of_below HBX.out).go (Cf.of_below HQ.out.2.2)
 have HA8 : Hid (Aw w8 b m 1 512 9 (0 + 2 + 1 + 1 + 2 + 2) M 2) := hidden (HAX.out.next (HAX.out.bn.on HQ.out.2.2) (Cf.of_below HQ.out.2.2))
 have HS8 : Hid (Sl w8 (some ⟨g, 0, none⟩) 500 500 vA) := hidden (HA7.out.sl hc8 HS7.out)
 have HR8 : Hid (Sl w8 bo 500 bc vA) := hidden (HA7.out.sl hc8 HR7.out)
 have HP8 : Hid (Sl w8 so 1 sc [7]) := hidden (HA7.out.sl hc8 HP7.out)
 have HE8 : Hid (Sl w8 (some ⟨g8, 0, none⟩) 512 512 (spB 0 [97, 98] 512)) := hidden (HQ.out.2.1.sl (spB_length _ _ _ (by decide)) (spB_wf 512 (Wf.cons (by omega) (Wf.cons (by omega) Wf.nil))) (by omega))
 have HC8 : Hid (Cf (fun k => k = b ∨ k = m) w2 w8) := hidden (HC7.out.go hc8)
 have HDE := hidden (decS_any _ 512 512 _ w8 HE8.out HA8.out.tab HA8.out.pos)
 clear hc8 HQ HBX HAX HA7 HS7 HR7 HP7 HC7
 go_wp2_with (first
  | (go_at_call 16; refine HDE.out.mono ?_; rintro e w9 ⟨dx, eo, en, ec, k9, rfl, HB9, HQ⟩; refine Hid.out ?_))
 apply hidden
 clear HDE
 obtain ⟨rfl, rfl, rfl, hd9⟩ : dx = 0 ∧ k9 = 0 ∧ en = 2 ∧ Sl w9 eo 2 ec [97, 98] := by
  have hq := spD_of (p := 512) spX
  rcases HQ.out with ⟨h1, _⟩ | ⟨d, h1, h2, h3, gq, _, _, h4⟩
  ·rw [hq] at h1
   cases h1
  ·rw [hq] at h1
   injection h1 with h1
   injection h1 with h5 h6
   subst h6
   exact ⟨h5.symm, h2, h3, by have := h4.sl2 (Wf.cons (by omega) (Wf.cons (by omega) Wf.nil)) (by decide); rwa [h3] at this⟩
 have hc9 : Cf (fun k => k = b ∨ k = m) w8 w9 := Cf.of_below HB9.out
 have HA9 : Hid (Aw w9 b m 1 512 9 (0 + 2 + 1 + 1 + 2 + 2) M 2) := hidden (HA8.out.next (HA8.out.bn.on HB9.out) hc9)
 have HS9 : Hid (Sl w9 (some ⟨g, 0, none⟩) 500 500 vA) := hidden (HA8.out.sl hc9 HS8.out)
 have HR9 : Hid (Sl w9 bo 500 bc vA) := hidden (HA8.out.sl hc9 HR8.out)
 have HP9 : Hid (Sl w9 so 1 sc [7]) := hidden (HA8.out.sl hc9 HP8.out)
 have HE9 : Hid (Sl w9 (some ⟨g8, 0, none⟩) 512 512 (spB 0 [97, 98] 512)) := hidden (HA8.out.sl hc9 HE8.out)
 have HD9 := hidden hd9
 have HC9 : Hid (Cf (fun k => k = b ∨ k = m) w2 w9) := hidden (HC8.out.go hc9)
 have HFR := hidden (free_may HA9.out.bn pg512 2 500 (wf64 _ (by omega) (by omega)) (by omega) (by omega) (by omega) (by omega) HA9.out.tab HA9.out.pos HA9.out.b0 _ _ _ (thrA HLD.out _) (by decide) (by intro p hp; have := rng_mem hp; omega))
 clear hc9 hd9 HQ HB9 HA8 HS8 HR8 HP8 HE8 HC8
 go_wp2_with (first
  | (go_at_call 17; refine HFR.out.mono ?_; rintro e u ⟨rfl, HQ⟩; refine Hid.out ?_))
 apply hidden
 clear HFR
 obtain ⟨hbu, hcu⟩ := HQ.out
 have HAU := hidden (HA9.out.next hbu hcu)
 have HSU : Hid (Sl u (some ⟨g, 0, none⟩) 500 500 vA) := hidden (HA9.out.sl hcu HS9.out)
 have HRU : Hid (Sl u bo 500 bc vA) := hidden (HA9.out.sl hcu HR9.out)
 have HPU : Hid (Sl u so 1 sc [7]) := hidden (HA9.out.sl hcu HP9.out)
 have HEU : Hid (Sl u (some ⟨g8, 0, none⟩) 512 512 (spB 0 [97, 98] 512)) := hidden (HA9.out.sl hcu HE9.out)
 have HDU : Hid (Sl u eo 2 ec [97, 98]) := hidden (HA9.out.sl hcu HD9.out)
 have HCU : Hid (Cf (fun k => k = b ∨ k = m) w2 u) := hidden (HC9.out.go hcu)
 have HTK : Hid (Calls Tryd.prog 8 #[pB b] u fun e z => ∃ ao c, e = .returned (.slice ao 0 c) ∧ Hid (Below u.heap.size u z)) := hidden (by
  refine (taken_list HAU.out.bn (by omega) (by omega)).mono ?_
  rintro e z ⟨v, rfl, ho, hb⟩
  rw [tkL_none (delA HPR.out)] at ho
  obtain ⟨ao, c, rfl, _⟩ := ho.out.sl
  exact ⟨ao, c, rfl, hb⟩)
 have HPC := fun z => pages_any 512 497 (by omega) z
 rw [pgC] at HPC
 clear hbu hcu HQ HA9 HS9 HR9 HP9 HE9 HD9 HC9
 obtain ⟨sv, hsv⟩ : ∃ sv, strOfNums vA = sv := ⟨_, rfl⟩
 have HFIN : Hid (∀ z, Hid (Below u.heap.size u z) → Below w.heap.size w z ∧ (convert 33 9 (.slice (some ⟨g, 0, none⟩) 500 500)).run Tryd.prog z = .ok (.string sv) z ∧ (convert 33 9 (.slice bo 500 bc)).run Tryd.prog z = .ok (.string sv) z ∧ (convert 33 9 (.slice so 1 sc)).run Tryd.prog z = .ok (.string ⟨#[7]⟩) z ∧
   (convert 33 9 (.slice (some ⟨g8, 0, none⟩) 14 512)).run Tryd.prog z = .ok (.string ⟨#[4, 0, 0, 0, 0, 0, 0, 0, 0, 0, 0, 2, 97, 98]⟩) z ∧ (convert 33 9 (.slice eo 2 ec)).run Tryd.prog z = .ok (.string ⟨#[97, 98]⟩) z) := hidden (by
  intro z hz
  have k1 := conv_sl (HSU.out.on (Nat.le_refl _) hz.out)
  have k2 := conv_sl (HRU.out.on (Nat.le_refl _) hz.out)
  have k3 := conv_sl (HPU.out.on (Nat.le_refl _) hz.out)
  have k4 := conv_sl ((HEU.out.head9 14 (by omega)).on (Nat.le_refl _) hz.out)
  have k5 := conv_sl (HDU.out.on (Nat.le_refl _) hz.out)
  rw [hsv] at k1 k2
  rw [spX_head] at k4
  refine ⟨?_, k1, k2, k3, k4, k5⟩
  have h1 := HCU.out.below (B := w.heap.size) HBW2.out.size (by
   rintro k hk (e | e)
   ·have := HLO.out.1; omega
   ·have := HLO.out.2; omega)
  exact bl_go (HBW2.out.trans h1) (Nat.le_refl _) hz.out)
 clear hsv HSU HRU HPU HEU HDU HCU HAU HLD HPR HBW2 HLO HB1 HT
 go_wp2_with (first
  | (go_at_call 8; refine HTK.out.mono ?_; rintro e z ⟨to_, tc, rfl, HZ⟩; obtain ⟨hbz, c1, c2, c3, c4, c5⟩ := HFIN.out z HZ; have HBZ := hidden hbz; clear hbz HTK HFIN)
  | (go_at_call 18; refine same_call (HPC _) ?_))
 go_ret
 exact ⟨rfl, HBZ⟩
end Go.Proofs.YtoejadhlkamcjaaDoor
