import Derived.Test.YtoejadhlkamcjaaDoorJ04
namespace Go.Proofs.YtoejadhlkamcjaaDoor
set_option maxRecDepth 100000
open Go.RowKit
theorem fix9 (n : Int) (h0 : 0 ≤ n) {x w : World} {g : Nat} {L : List Int} (HK : Bk x g L) (HB : Below w.heap.size w x) (v : World) (hv : Below x.heap.size x v) :
  Calls Tryd.prog 40 #[.int .u64 n, .int .i64 4] v fun e v2 => ∃ b off c, e = .returned (.slice (some ⟨b, off, none⟩) 4 c) ∧ Hid (Sl v2 (some ⟨b, off, none⟩) 4 c (fB 4 n)) ∧ Hid (Bk v2 g L) ∧ Hid (Below w.heap.size w v2) := by
 refine (fixed_row n 4 v h0 (by omega) (by omega)).mono ?_
 rintro e v2 ⟨b, off, c, rfl, hs, hb⟩
 exact ⟨b, off, c, rfl, hs, (HK.on hv).on hb.out, bl_go (bl_go HB (Nat.le_refl _) hv) (Nat.le_refl _) hb.out⟩
set_option maxHeartbeats 2000000 in
theorem encS_yes (n : Int) (P : Nat) (b off dn cap : Nat) (d : List Int) (w : World) (hs : Sl w (some ⟨b, off, none⟩) dn cap d) (hp : pw P) (hn : nxt n) (h1 : 1 ≤ dn) (h2 : dn + 16 ≤ P) (ht : Tab w) (h0 : 0 < w.heap.size) :
  Calls Tryd.prog 15 #[.int .i64 n, .slice (some ⟨b, off, none⟩) dn cap, .int .i64 (P : Int)] w fun e w' => ∃ g, e = .returned (.tuple #[.slice (some ⟨g, 0, none⟩) P P, .int .i64 0]) ∧ w.heap.size ≤ g ∧ Bk w' g (spB n d P) ∧ Below w.heap.size w w' := by
 obtain ⟨i0, hi, hz0, hz1, hz2⟩ := info_parts info5
 have hsz : (Tryd.prog.info? 5).map (·.size) = some 1 := by rw [hi]; simp [hz1]
 have hpp := pw_le hp
 have hP0 : 512 ≤ P ∧ P ≤ 65536 := by omega
 have hdl : d.length = dn := hs.hlen
 have HS := hidden hs
 have HT := hidden ht
 have HDL := hidden hdl
 have e1 : decide (pw (P : Int)) = true := by simpa using hp
 have e2 : decide (nxt n) = true := by simpa using hn
 have hn0 : 0 ≤ n ∧ n < 65536 := by unfold nxt at hn; omega
 have q1 : ((dn : Int) == 0) = false := by rw [beq_eq_false_iff_ne]; omega
 have q2 : decide ((P : Int) - 16 < (dn : Int)) = false := by rw [decide_eq_false_iff_not]; omega
 have q3 : (dn : Int) ≤ 65536 := by omega
 have q4 : (dn : Int) ≤ (P : Int) - 16 := by omega
 have q5 : (P : Int) ≤ 65536 := by omega
 have q6 : 512 ≤ (P : Int) := by omega
 have HI := fun u => isSize_any (P : Int) u
 have HN := fun u => mayBeNext_any n u
 have HH := fun u => hold_any (P : Int) u (by omega) (by omega)
 have HPW := hidden hp
 have HNX := hidden hn
 clear hs ht hdl hpp hp hn
 go_enter Tryd.func15, Tryd.ntmps15
 go_wp2_with (first
  | (go_at_call 37; refine same_call (HI _) ?_; rw [e1])
  | (go_at_call 38; refine same_call (HN _) ?_; rw [e2])
  | (go_at_call 39; refine same_call (HH _) ?_)
  | (at_make; refine wpList_make_full _ rfl _ _ 33 rfl w.heap.size 5 i0 (.int .u8 0) 1 Tryd.underlying33 hi hz0 hz1 .i64 .i64 P P P rfl rfl rfl rfl (by rw [hz2]; omega) (by unfold maxLen; omega) (by simp) ?_; refine Hid.out ?_))
 apply hidden
 intro w1 hown1 hg1
 have hb1 : Below w.heap.size w w1 := (Below.refl _ _).grown hg1 (Nat.le_refl _) (fun k hk => by cases hk)
 have hrow : Bk w1 w.heap.size (zs P) := made_bk9 hown1
 clear hown1 hg1 HI HN HH e1 e2
 obtain ⟨g, hg⟩ : ∃ g, w.heap.size = g := ⟨_, rfl⟩
 have HGW := hidden hg
 rw [hg] at hrow ⊢
 have hbg : b ≠ g := by
  rcases HS.out.hat with h | ⟨b', o', e, hlt, _⟩
  ·omega
  ·cases e; omega
 clear hg
 have hc0 := hrow.cell 0 (by rw [zs_length]; omega)
 have hf0 := hrow.free 0
 obtain ⟨y0, hc0⟩ : ∃ y, w1.cell? ⟨g, 0, none⟩ = some y := ⟨_, hc0⟩
 obtain ⟨x, hx⟩ : ∃ x, w1.setCell ⟨g, 0, none⟩ (.int .u8 4) = x := ⟨_, rfl⟩
 have HK1 : Hid (Bk x g (ly1 P)) := hidden (by
  unfold Bk
  rw [← hx, set_row hrow, ← ly1_of P (by omega)]
  simp [By, List.map_set])
 have HB1 : Hid (Below w.heap.size w x) := hidden (by rw [← hx]; exact hb1.setCell (p := ⟨g, 0, none⟩) (by rw [← HGW.out]; exact Nat.le_refl _) _)
 clear hrow hb1
 have HF := hidden (fix9 n hn0.1 HK1.out HB1.out)
 have hwn : IntKind.u64.wrap n = n := by rw [IntKind.wrap_u64]; omega
 have hwd : IntKind.u64.wrap (dn : Int) = (dn : Int) := by rw [IntKind.wrap_u64]; omega
 have a1 : ¬ P = 4 := by omega
 have a2 : ¬ P = 8 := by omega
 have a3 : ¬ P = 12 := by omega
 have a4 : (4 : Int) ≤ (P : Int) := by omega
 have a5 : (8 : Int) ≤ (P : Int) := by omega
 have a6 : (12 : Int) ≤ (P : Int) := by omega
 have b4 : 4 ≤ P := by omega
 have b5 : 8 ≤ P := by omega
 have b6 : 12 ≤ P := by omega
 have HM4 : Hid ((By (fB 4 n)).length = Nat.min 4 (P - 4)) := hidden (by rw [By_length, fB_length]; exact (Nat.min_eq_left (by omega)).symm)
 have HF4 : Hid (4 + (By (fB 4 n)).length ≤ (By (ly1 P)).length) := hidden (by rw [By_length, By_length, ly_len1 P hP0.1, fB_length]; omega)
 have HG : Hid (w.heap.size ≤ g) := hidden (by rw [HGW.out]; exact Nat.le_refl _)
 go_wp2_with fail
 clear hx hc0 hf0
 go_region_law (first
  | (go_simp; go_at_call 40; refine (HF.out _ ?_).mono ?_; (repeat (first | exact Below.refl _ _ | apply Below.drew)); rintro e v2 ⟨fb, fo, fc, rfl, HS2, HK2, HB2⟩)
  | (refine step_copy_rw rfl _ _ 33 33 rfl 5 Tryd.underlying33 hsz g 4 (P - 4) (P - 4) ⟨fb, fo, none⟩ 4 fc rfl rfl (By (ly1 P)) 5 HK2.out (By (fB 4 n)) HM4.out (sl_src5 HS2.out) HF4.out (By_one _) ?_; intro u3 HU))
 have HK3 : Hid (Bk u3 g (ly2 n P)) := hidden (by
  unfold Bk
  rw [HU.out, setRow_heap _ _ _ _ _ _ HK2.out, By_splice5, ly2_of])
 have HB3 : Hid (Below w.heap.size w u3) := hidden (by rw [HU.out]; exact below_setRow HB2.out HG.out _)
 clear HU HS2 HK2 HB2 HF HM4 HF4 HK1 HB1
 have HF := hidden (fix9 (dn : Int) (by omega) HK3.out HB3.out)
 have HM4 : Hid ((By (fB 4 (dn : Int))).length = Nat.min 4 (P - 8)) := hidden (by rw [By_length, fB_length]; exact (Nat.min_eq_left (by omega)).symm)
 have HF4 : Hid (8 + (By (fB 4 (dn : Int))).length ≤ (By (ly2 n P)).length) := hidden (by rw [By_length, By_length, ly_len2 n P hP0.1, fB_length]; omega)
 go_wp2_with fail
 go_region_law (first
  | (go_simp; go_at_call 40; refine (HF.out _ ?_).mono ?_; (repeat (first | exact Below.refl _ _ | apply Below.drew)); rintro e v2 ⟨fb, fo, fc, rfl, HS2, HK2, HB2⟩)
  | (refine step_copy_rw rfl _ _ 33 33 rfl 5 Tryd.underlying33 hsz g 8 (P - 8) (P - 8) ⟨fb, fo, none⟩ 4 fc rfl rfl (By (ly2 n P)) 5 HK2.out (By (fB 4 (dn : Int))) HM4.out (sl_src5 HS2.out) HF4.out (By_one _) ?_; intro u4 HU))
 have HK4 : Hid (Bk u4 g (ly3 n dn P)) := hidden (by
  unfold Bk
  rw [HU.out, setRow_heap _ _ _ _ _ _ HK2.out, By_splice5, ly3_of])
 have HB4 : Hid (Below w.heap.size w u4) := hidden (by rw [HU.out]; exact below_setRow HB2.out HG.out _)
 clear HU HS2 HK2 HB2 HF HM4 HF4 HK3 HB3
 have HSD : Hid (Sl u4 (some ⟨b, off, none⟩) dn cap d) := hidden (HS.out.on (Nat.le_refl _) HB4.out)
 have hmn : (By d).length = Nat.min dn (P - 12) := by rw [By_length, HDL.out]; exact (Nat.min_eq_left (by omega)).symm
 have HCR := hidden (run_copy_row (P := Tryd.prog) u4 33 33 3 5 g 12 (P - 12) (P - 12) ⟨b, off, none⟩ dn cap (By (ly3 n dn P)).toArray 5 (By d) Tryd.underlying33 hsz HK4.out hmn (sl_src5 HSD.out) (by simp only [List.size_toArray, By_length, ly_len3 n dn P hP0.1, HDL.out]; omega) (By_one _))
 clear hmn
 obtain ⟨Q, hQ⟩ : ∃ Q, P - 4 = Q := ⟨_, rfl⟩
 have hQI : (P : Int) - 4 = (Q : Int) := by omega
 have c1 : (Q : Int) ≤ (P : Int) := by omega
 have c2 : Q ≤ P := by omega
 have c3 : ¬ P = Q := by omega
 have c4 : P - Q = 4 := by omega
 have HQ := hidden hQ
 clear hQ
 go_wp2_with (refine Lib.wpList_copy_run _ rfl _ _ 33 33 rfl _ _ rfl rfl HCR.out ?_; refine Hid.out ?_)
 apply hidden
 obtain ⟨u5, hu5⟩ : ∃ u, u = u4.setRow g (List.take 12 (By (ly3 n dn P)) ++ (By d ++ List.drop (12 + (By d).length) (By (ly3 n dn P)))).toArray := ⟨_, rfl⟩
 rw [← hu5]
 obtain ⟨L, hL⟩ : ∃ L, ly4 n d P = L := ⟨_, rfl⟩
 have hd16 : d.length + 16 ≤ P := by rw [HDL.out]; exact h2
 have HK5 : Hid (Bk u5 g L) := hidden (by
  unfold Bk
  rw [hu5, setRow_heap _ _ _ _ _ _ HK4.out, ← hL, ← ly4_of n d P hd16, HDL.out, ← By_splice5]
  simp [splice])
 have HB5 : Hid (Below w.heap.size w u5) := hidden (by rw [hu5]; exact below_setRow HB4.out HG.out _)
 have HLEN : Hid (L.length = P) := hidden (by rw [← hL]; exact ly_len4 n d P hd16)
 obtain ⟨H, hH⟩ : ∃ H, spH n d P = H := ⟨_, rfl⟩
 have HBD : Hid (L.take Q = H) := hidden (by rw [← hL, ← HQ.out, ← hH]; exact ly4_body n d P hd16)
 have HPG : Hid (splice L Q (fB 4 (sumN [H])) = spB n d P) := hidden (by rw [← hL, ← HQ.out, ← hH]; exact ly4_page n d P hd16)
 have HHW : Hid (Wf H) := hidden (by rw [← hH]; exact spH_wf P HS.out.wf)
 clear hu5 hL hH hd16 HK4 HB4 HCR HSD hc0
 have HSL : Hid (Sl u5 (some ⟨g, 0, none⟩) Q P H) := hidden (by
  refine ⟨by rw [← HBD.out, List.length_take, HLEN.out]; omega, by omega, by omega, HHW.out, (by intro h; cases h), .inr ⟨g, 0, rfl, lt_some HK5.out, fun i hi => ?_⟩⟩
  rw [Nat.zero_add, HK5.out.cell i (by rw [HLEN.out]; omega), ← HBD.out]
  simp [List.getD, hi])
 have hs32 := sumN_lt H HHW.out
 obtain ⟨SN, hS⟩ : ∃ SN, sumN [H] = SN := ⟨_, rfl⟩
 rw [hS] at hs32 HPG
 have HSS := hidden hS
 have hws : IntKind.u64.wrap ((SN : Nat) : Int) = (SN : Int) := by rw [IntKind.wrap_u64]; omega
 have HTR : Hid (Tab u5) := HT.out.on HB5.out h0
 have h0r : 0 < u5.heap.size := Nat.lt_of_lt_of_le h0 HB5.out.size
 have HSUM : Hid (Calls Tryd.prog 41 #[.slice (some ⟨u5.heap.size, 0, none⟩) 1 1] (u5.alloc (.cells #[.slice (some ⟨g, 0, none⟩) Q P] 33)).drew fun e v2 => e = .returned (.int .u32 (SN : Int)) ∧ Hid (Bk v2 g L) ∧ Hid (Below w.heap.size w v2)) := by
  have hss : SlS (u5.alloc (.cells #[.slice (some ⟨g, 0, none⟩) Q P] 33)).drew (some ⟨u5.heap.size, 0, none⟩) 1 1 [H] := (sls_one5 u5 _ _ _ _ HSL.out _ rfl).drew5
  refine hidden ((sum_any _ _ _ _ _ hss (HTR.out.on ((Below.refl _ _).alloc (Nat.le_refl _) _).drew h0r)).mono ?_)
  rintro e v2 ⟨rfl, q, rfl⟩
  rw [HSS.out]
  exact ⟨rfl, (Below.heap_alloc _ _ _ (lt_some HK5.out)).trans HK5.out, bl_dr (bl_al HB5.out (Nat.le_refl _) _).drew q⟩
 have HF : Hid (∀ v, Hid (Bk v g L) → Hid (Below w.heap.size w v) → Calls Tryd.prog 40 #[.int .u64 (SN : Int), .int .i64 4] v fun e v2 => ∃ b off c, e = .returned (.slice (some ⟨b, off, none⟩) 4 c) ∧ Hid (Sl v2 (some ⟨b, off, none⟩) 4 c (fB 4 (SN : Int))) ∧ Hid (Bk v2 g L) ∧ Hid (Below w.heap.size w v2)) :=
  hidden fun v hk hv => fix9 (SN : Int) (by omega) hk.out hv.out v (Below.refl _ _)
 have HM4 : Hid ((By (fB 4 (SN : Int))).length = Nat.min 4 4) := hidden (by rw [By_length, fB_length]; rfl)
 have HF4 : Hid (Q + (By (fB 4 (SN : Int))).length ≤ (By L).length) := hidden (by rw [By_length, By_length, HLEN.out, fB_length]; omega)
 clear hs32 hS HLEN
 go_wp2_with fail
 go_region_law (first
  | (go_simp; go_at_call 41; refine HSUM.out.mono ?_; rintro e v2 ⟨rfl, HK6, HB6⟩)
  | (go_simp; go_at_call 40; refine (HF.out _ HK6 HB6).mono ?_; rintro e v3 ⟨fb, fo, fc, rfl, HS2, HK2, HB2⟩)
  | (refine step_copy_rw rfl _ _ 33 33 rfl 5 Tryd.underlying33 hsz g Q 4 4 ⟨fb, fo, none⟩ 4 fc rfl rfl (By L) 5 HK2.out (By (fB 4 (SN : Int))) HM4.out (sl_src5 HS2.out) HF4.out (By_one _) ?_; intro u6 HU))
 all_goals
  have HK7 : Hid (Bk u6 g (spB n d P)) := hidden (by
   unfold Bk
   rw [HU.out, setRow_heap _ _ _ _ _ _ HK2.out, By_splice5, HPG.out])
  have HB7 : Hid (Below w.heap.size w u6) := hidden (by rw [HU.out]; exact below_setRow HB2.out HG.out _)
  clear HU HS2 HK2 HB2 HF HM4 HF4 HSUM HK6 HB6 HK5 HB5 HSL HTR HBD HPG
  go_wp2
  go_ret2
  exact ⟨g, rfl, HG.out, HK7.out, HB7.out⟩
theorem encS_any (n p : Int) (ao : Option Addr) (dn cap : Nat) (d : List Int) (w : World) (hs : Sl w ao dn cap d) (ht : Tab w) (h0 : 0 < w.heap.size) :
  Calls Tryd.prog 15 #[.int .i64 n, .slice ao dn cap, .int .i64 p] w fun e w' => EncS n d p w e w' := by
 have hl := hs.hlen
 have hr := hs.hroom
 by_cases hz : spE n d p = 0
 ·obtain ⟨h1, h2, h3, h4⟩ := spE_zero.1 hz
  have hp := pw_le h1
  obtain ⟨P, rfl⟩ : ∃ P : Nat, p = P := ⟨p.toNat, by omega⟩
  rcases hs.hat with h | ⟨b, off, rfl, _, _⟩
  ·omega
  refine (encS_yes n P b off dn cap d w hs h1 h2 (by omega) (by omega) ht h0).mono ?_
  rintro e w' ⟨g, rfl, hg, hk, hb⟩
  exact ⟨hb, .inl ⟨hz, g, rfl, hg, hk⟩⟩
 ·have HI := fun u => isSize_any p u
  have HN := fun u => mayBeNext_any n u
  refine Calls.mono (R := fun e w' => e = .returned (.tuple #[.slice none 0 0, .int .i64 (spE n d p)]) ∧ w' = w) ?_ ?_
  ·by_cases hp : pw p
   ·have e1 : decide (pw p) = true := by simpa using hp
    have hpl := pw_le hp
    by_cases hn : nxt n
    ·have e2 : decide (nxt n) = true := by simpa using hn
     have hq : dn = 0 ∨ p - 16 < dn := by
      rw [spE_zero] at hz
      by_cases h3 : 1 ≤ d.length ∧ (d.length : Int) ≤ p - 16
      ·exact absurd ⟨hp, hn, h3⟩ hz
      ·omega
     have he : spE n d p = 31 := by
      unfold spE
      rw [if_neg (by simp [hp, hn]), if_pos (by omega)]
     rw [he]
     have HH := fun u => hold_any p u (by omega) (by omega)
     clear he hz hp hn hs ht
     by_cases hd : dn = 0
     ·subst hd
      clear hq
      go_enter Tryd.func15, Tryd.ntmps15
      go_wp2_with (first
       | (go_at_call 37; refine same_call (HI _) ?_; rw [e1])
       | (go_at_call 38; refine same_call (HN _) ?_; rw [e2])
       | (go_at_call 39; refine same_call (HH _) ?_))
      go_ret2
      exact ⟨rfl, rfl⟩
     ·have q1 : ((dn : Int) == 0) = false := by rw [beq_eq_false_iff_ne]; omega
      have q2 : decide (p - 16 < (dn : Int)) = true := by rw [decide_eq_true_iff]; omega
      clear hq hd
      go_enter Tryd.func15, Tryd.ntmps15
      go_wp2_with (first
       | (go_at_call 37; refine same_call (HI _) ?_; rw [e1])
       | (go_at_call 38; refine same_call (HN _) ?_; rw [e2])
       | (go_at_call 39; refine same_call (HH _) ?_))
      go_ret2
      exact ⟨rfl, rfl⟩
    ·have e2 : decide (nxt n) = false := by simpa using hn
     have he : spE n d p = 1 := by unfold spE; rw [if_pos (.inr hn)]
     rw [he]
     clear he hz hp hn hs ht
     go_enter Tryd.func15, Tryd.ntmps15
     go_wp2_with (first
      | (go_at_call 37; refine same_call (HI _) ?_; rw [e1])
      | (go_at_call 38; refine same_call (HN _) ?_; rw [e2]))
     go_ret2
     exact ⟨rfl, rfl⟩
   ·have e1 : decide (pw p) = false := by simpa using hp
    have he : spE n d p = 1 := by unfold spE; rw [if_pos (.inl hp)]
    rw [he]
    clear he hz hp hs ht
    go_enter Tryd.func15, Tryd.ntmps15
    go_wp2_with (first
     | (go_at_call 37; refine same_call (HI _) ?_; rw [e1])
     | (go_at_call 38; refine same_call (HN _) ?_))
    go_ret2
    exact ⟨rfl, rfl⟩
  ·rintro e w' ⟨rfl, rfl⟩
   exact ⟨Below.refl _ _, .inr ⟨hz, rfl⟩⟩
end Go.Proofs.YtoejadhlkamcjaaDoor
