import Derived.Test.YtoejadhlkamcjaaDoorJ45
import Derived.BigQuiet
namespace Go.Proofs.YtoejadhlkamcjaaDoor
set_option maxRecDepth 100000
open Go.RowKit Go.Maps
set_option maxHeartbeats 16000000 in
theorem own9 {w : World} {B x b m b2 m2 P T t : Nat} (h : Pp9 w B x b m b2 m2 P T t) (ht : t ≤ 1100000) :
  Calls Tryd.prog 10 #[.pointer (some ⟨x, 0, none⟩)] w fun e u => e = .returned (.bool true) ∧ Hid (Cf (B ≤ ·) w u) := by
 obtain ⟨rd, M, N, ct, K, rb, R, FL, its, lss, hs, hco, hit, l1, l2, l3, hr0, hr1⟩ := h
 have hxl := lt_some hs.row
 have hBw : B ≤ w.heap.size := Nat.le_trans hs.hB.1 (Nat.le_of_lt hxl)
 have c3 : w.cell? ⟨x, 3, none⟩ = some (rb 1) := by simp [World.cell?, hs.row, rowX]
 have c4 : w.cell? ⟨x, 4, none⟩ = some (rb 2) := by simp [World.cell?, hs.row, rowX]
 have c5 : w.cell? ⟨x, 5, none⟩ = some (rb 3) := by simp [World.cell?, hs.row, rowX]
 have c6 : w.cell? ⟨x, 6, none⟩ = some (rb 4) := by simp [World.cell?, hs.row, rowX]
 have HO1 := hidden (hs.oo 1 (by omega))
 have HO2 := hidden (hs.oo 2 (by omega))
 have HO3 := hidden (hs.oo 3 (by omega))
 have HO4 := hidden (hs.oo 4 (by omega))
 obtain ⟨o1, q1, e1, d1⟩ := row_slice HO1.out
 obtain ⟨o2, q2, e2, d2⟩ := row_slice HO2.out
 obtain ⟨o3, q3, e3, d3⟩ := row_slice HO3.out
 obtain ⟨o4, q4, e4, d4⟩ := row_slice HO4.out
 have n1 : (R 1).length = its.length := by rw [hit.r1, List.length_map]
 have n2 : (R 2).length = its.length := by rw [hit.r2, List.length_map]
 have n3 : (R 3).length = lss.length := by rw [hit.r3, List.length_map]
 have n4 : (R 4).length = lss.length := by rw [hit.r4, List.length_map]
 rw [n1] at e1 d1
 rw [n2] at e2 d2
 rw [n3] at e3 d3
 rw [n4] at e4 d4
 rw [e1] at c3
 rw [e2] at c4
 rw [e3] at c5
 rw [e4] at c6
 obtain ⟨NI, hNI⟩ : ∃ NI, its.length = NI := ⟨_, rfl⟩
 obtain ⟨NL, hNL⟩ : ∃ NL, lss.length = NL := ⟨_, rfl⟩
 rw [hNI] at c3 c4 d1 d2 l2
 rw [hNL] at c5 c6 d3 d4 l3
 have hNI2 : (NI : Int) ≤ 1100000 := by omega
 have hNL2 : (NL : Int) ≤ 1100000 := by omega
 have D1 : Hid (∀ i y, its[i]? = some y → ∃ g, o1 = some ⟨g, 0, none⟩ ∧ NI ≤ q1 ∧ w.cell? ⟨g, i, none⟩ = some y.1 ∧ g < w.heap.size) := hidden (fun i y hi => by
  have hlt := (List.getElem?_eq_some_iff.1 hi).1
  rcases d1 with h0 | ⟨g, h1, h2, h3⟩
  ·omega
  ·refine ⟨g, h1, h2, h3 i y.1 (by rw [hit.r1, List.getElem?_map, hi]; rfl), ?_⟩
   exact (World.ownsRow.lt HO1.out g (by rw [e1, h1]; rfl)).2)
 have D2 : Hid (∀ i y, its[i]? = some y → ∃ g, o2 = some ⟨g, 0, none⟩ ∧ NI ≤ q2 ∧ w.cell? ⟨g, i, none⟩ = some (.string (strOfNums y.2)) ∧ g < w.heap.size) := hidden (fun i y hi => by
  have hlt := (List.getElem?_eq_some_iff.1 hi).1
  rcases d2 with h0 | ⟨g, h1, h2, h3⟩
  ·omega
  ·refine ⟨g, h1, h2, h3 i _ (by rw [hit.r2, List.getElem?_map, hi]; rfl), ?_⟩
   exact (World.ownsRow.lt HO2.out g (by rw [e2, h1]; rfl)).2)
 have D3 : Hid (∀ i y, lss[i]? = some y → ∃ g, o3 = some ⟨g, 0, none⟩ ∧ NL ≤ q3 ∧ w.cell? ⟨g, i, none⟩ = some y.1 ∧ g < w.heap.size ∧ Mu x b m b2 m2 rb g) := hidden (fun i y hi => by
  have hlt := (List.getElem?_eq_some_iff.1 hi).1
  rcases d3 with h0 | ⟨g, h1, h2, h3⟩
  ·omega
  ·have ho : (rb 3).ownBlock = some g := by rw [e3, h1]; rfl
   exact ⟨g, h1, h2, h3 i y.1 (by rw [hit.r3, List.getElem?_map, hi]; rfl), (World.ownsRow.lt HO3.out g ho).2, Mu_row (i := 3) (by omega) ho⟩)
 have D4 : Hid (∀ i y, lss[i]? = some y → ∃ g, o4 = some ⟨g, 0, none⟩ ∧ NL ≤ q4 ∧ w.cell? ⟨g, i, none⟩ = some y.2.1 ∧ g < w.heap.size ∧ Mu x b m b2 m2 rb g) := hidden (fun i y hi => by
  have hlt := (List.getElem?_eq_some_iff.1 hi).1
  rcases d4 with h0 | ⟨g, h1, h2, h3⟩
  ·omega
  ·have ho : (rb 4).ownBlock = some g := by rw [e4, h1]; rfl
   exact ⟨g, h1, h2, h3 i y.2.1 (by rw [hit.r4, List.getElem?_map, hi]; rfl), (World.ownsRow.lt HO4.out g ho).2, Mu_row (i := 4) (by omega) ho⟩)
 have HXL := hidden hxl
 have HBW := hidden hBw
 have HNI := hidden hNI
 have HNL := hidden hNL
 have HIT := hidden hit
 have HKX : Hid (∀ g, K g → g < w.heap.size ∧ ¬ Mu x b m b2 m2 rb g) := hidden hs.kl
 have HXB := hidden hs.hB.1
 clear hs hco hit hxl hBw HO1 HO2 HO3 HO4 e1 e2 e3 e4 d1 d2 d3 d4 n1 n2 n3 n4 hNI hNL hr0 hr1 l1
 go_enter Tryd.func10, Tryd.ntmps10
 obtain ⟨s, hs⟩ : ∃ s, w.heap.size = s := ⟨_, rfl⟩
 obtain ⟨z, hz⟩ : ∃ z, w.alloc (.cells #[.slice none 0 0] 70) = z := ⟨_, rfl⟩
 have hbz : Below w.heap.size w z := by rw [← hz]; exact bl_al (Below.refl _ _) (Nat.le_refl _) _
 have HB0 : Hid (Bk9 w z B s its 0) := hidden ⟨_, (box9 (by rw [← hz, ← hs]; exact Array.getElem?_push_size)).cong (fun t ht => by simp at ht), hbz, fun g e => by cases e⟩
 have HS := hidden hs
 clear hbz
 go_wp2_with fail
 go_loopw [4] (fun i wr => ∃ j : Nat, j ≤ NI ∧ i = .int .i64 (j : Int) ∧ Hid (Bk9 w wr B s its j)) (fun i _ => NI - (intOf i).toNat)
 case atStart => exact ⟨0, by omega, rfl, HB0⟩
 case round =>
  obtain ⟨j, hj, rfl, HQ⟩ := hrel
  have a3 : wr.cell? ⟨x, 3, none⟩ = some (.slice o1 NI q1) := by obtain ⟨_, _, hb, _⟩ := HQ.out; exact (hb.cell (p := ⟨x, 3, none⟩) HXL.out).trans c3
  by_cases hlt : j < NI
  ·have hltI : (j : Int) < (NI : Int) := by omega
   have a4 : wr.cell? ⟨x, 4, none⟩ = some (.slice o2 NI q2) := by obtain ⟨_, _, hb, _⟩ := HQ.out; exact (hb.cell (p := ⟨x, 4, none⟩) HXL.out).trans c4
   obtain ⟨y, hy⟩ : ∃ y, its[j]? = some y := ⟨_, List.getElem?_eq_getElem (by have := HNI.out; omega)⟩
   obtain ⟨yo, ho, hw, hl, hk⟩ : ∃ _ : True, OwnB w B y.1 y.2 ∧ Wf y.2 ∧ y.2.length ≤ 65536 ∧ ∀ g, y.1.ownBlock = some g → K g := ⟨trivial, HIT.out.i1 y (List.mem_of_getElem? hy)⟩
   obtain ⟨g1, rfl, hq1, k1, hg1⟩ := D1.out j y hy
   obtain ⟨g2, rfl, hq2, k2, hg2⟩ := D2.out j y hy
   obtain ⟨ao, ac, ey, hsl, _⟩ := ho.sl hw (by omega)
   have HY := hidden hy
   have HOW : Hid (OwnB w B (.slice ao y.2.length ac) y.2) := hidden (by rw [← ey]; exact ho)
   have HWL := hidden (And.intro hw hl)
   have b1 : wr.cell? ⟨g1, j, none⟩ = some (.slice ao y.2.length ac) := by obtain ⟨_, _, hb, _⟩ := HQ.out; rw [← ey]; exact (hb.cell (p := ⟨g1, j, none⟩) hg1).trans k1
   obtain ⟨S, hS⟩ : ∃ S, strOfNums y.2 = S := ⟨_, rfl⟩
   rw [hS] at k2
   have b2' : wr.cell? ⟨g2, j, none⟩ = some (.string S) := by obtain ⟨_, _, hb, _⟩ := HQ.out; exact (hb.cell (p := ⟨g2, j, none⟩) hg2).trans k2
   obtain ⟨an, han⟩ : ∃ an, y.2.length = an := ⟨_, rfl⟩
   rw [han] at hsl b1 HOW ey
   have HEY := hidden ey
   have kb : ∀ q, (convert 33 9 (.slice ao an ac)).run Tryd.prog (wr.drewN q) = .ok (.string S) (wr.drewN q) := fun q => by
    obtain ⟨_, _, hb, _⟩ := HQ.out
    rw [← hS]
    exact conv_sl ((hsl.on (Nat.le_refl _) hb).on (Nat.le_refl _) (bl_drw9 (Below.refl _ _) _))
   have eS : (S.toList == S.toList) = true := by simp
   have eN : (S.toList != S.toList) = false := by simp
   clear hy ho hw hl hk ey hsl k1 k2 hg1 hg2 han hS
   go_upto_region 5 with fail
   go_quiet (fail)
   have HTK : ∀ q, Hid (Calls Tryd.prog 30 #[.pointer (some ⟨s, 0, none⟩), .slice ao an ac] (wr.drewN q) fun e w' => e = .returned (.tuple #[]) ∧ Hid (Bk9 w w' B s its (j + 1))) := fun q => hidden (by
    obtain ⟨bv, h1, h2, h3⟩ := HQ.out
    have hj2 : ((its.take j).map (·.1)).length = j := by rw [List.length_map, List.length_take]; have := HNI.out; omega
    have hd : Below w.heap.size w (wr.drewN q) := bl_drw9 h2 q
    refine (take9G (wr.drewN q) B s bv _ (dOf its) ao an ac y.2 (h1.on (bl_drw9 (Below.refl _ _) q)) (by omega) (Nat.le_trans HBW.out hd.size) (HOW.out.on (Nat.le_refl _) hd) HWL.out.1 HWL.out.2 (fun t u hu => ?_)).mono ?_
    ·obtain ⟨y', hy', e', ht'⟩ := map_at hu
     rw [← e', ← HEY.out]
     exact HIT.out.iN t j y' y hy' HY.out (by omega)
    ·rintro e w' ⟨rfl, hq⟩
     obtain ⟨bv', r1, r2, r3⟩ := hq.out
     refine ⟨rfl, hidden ⟨bv', ?_, hd.trans (r2.below hd.size (fun k hk e => ?_)), fun g hg => ?_⟩⟩
     ·rw [take_snoc9 HY.out, HEY.out]
      refine r1.cong fun t ht => ?_
      rw [hj2]
      split
      ·rfl
      ·rw [List.length_append, hj2] at ht
       simp only [List.length_cons, List.length_nil] at ht
       obtain rfl : t = j := by omega
       exact (dOf_at HY.out).symm
     ·rcases e with e | e
      ·have := HS.out; omega
      ·have := h3 k e; omega
     ·rcases r3 g hg with e | e
      ·exact h3 g e
      ·exact Nat.le_trans hd.size e)
   go_wp2_with (first
    | (go_at_call 30; refine (HTK _).out.mono ?_; rintro e w2 ⟨rfl, HQ2⟩; refine Hid.out ?_))
   apply hidden
   clear HTK
   go_wp2
   go_roundw
   case rel => exact ⟨j + 1, by omega, by go_num, HQ2⟩
   case measure => simp [intOf]; omega
  ·obtain rfl : j = NI := by omega
   have hlI : ¬ (j : Int) < (j : Int) := by omega
   go_wp2_with fail
   have HX5 : Hid (∀ (u : World) (C : Nat → List Int), Lw w u B s its lss C → ∀ (q i : Nat), q < w.heap.size → Mu x b m b2 m2 rb q → u.cell? ⟨q, i, none⟩ = w.cell? ⟨q, i, none⟩) := hidden (fun u C h q i hq hm => h.cell hq (fun t y ht e => (HKX.out _ ((HIT.out.l1 y (List.mem_of_getElem? ht)).2.2.2.1 q e)).2 hm) i)
   have HMX : Hid (Mu x b m b2 m2 rb x) := hidden (.inl (.inl rfl))
   have HL0 : Hid (Lw w wr B s its lss (cL lss 0 0)) := hidden (by
    obtain ⟨bv, h1, h2, h3⟩ := HQ.out
    rw [List.take_of_length_le (by have := HNI.out; omega)] at h1
    exact ⟨⟨bv, h1, h3⟩, Cf.of_below h2, fun t y ht => by rw [cL_zero lss ht]; exact ⟨(HIT.out.l1 y (List.mem_of_getElem? ht)).1.below h2, rfl⟩⟩)
   clear HQ a3 c3 c4 D1 D2
   go_loopw [5] (fun i wr => ∃ j : Nat, j ≤ NL ∧ i = .int .i64 (j : Int) ∧ Hid (Lw w wr B s its lss (cL lss j 0))) (fun i _ => NL - (intOf i).toNat)
   case atStart => exact ⟨0, by omega, rfl, HL0⟩
   case round =>
    obtain ⟨i, hi, rfl, HL⟩ := hrel
    have a5 : wr.cell? ⟨x, 5, none⟩ = some (.slice o3 NL q3) := (HX5.out _ _ HL.out x 5 HXL.out HMX.out).trans c5
    by_cases hlt2 : i < NL
    ·have hltI2 : (i : Int) < (NL : Int) := by omega
     obtain ⟨⟨ya, yc, l⟩, hy⟩ : ∃ y, lss[i]? = some y := ⟨_, List.getElem?_eq_getElem (by have := HNL.out; omega)⟩
     have hll : l.length ≤ 65536 := (HIT.out.l1 _ (List.mem_of_getElem? hy)).2.2.1
     have hoa : OwnJ wr B ya l := by
      have h1 := (HL.out.own i _ hy).1
      rw [cL_at hy] at h1
      simpa using h1
     have hoc : OwnJ wr B yc l := HL.out.oth HIT.out hy
     obtain ⟨ao, ac, rfl, hsl⟩ := hoa.sl
     obtain ⟨co, cc, rfl, hsl2⟩ := hoc.sl
     obtain ⟨an, han⟩ : ∃ an, l.length = an := ⟨_, rfl⟩
     obtain ⟨g3, rfl, hq3, k3, hg3, hm3⟩ := D3.out i _ hy
     obtain ⟨g4, rfl, hq4, k4, hg4, hm4⟩ := D4.out i _ hy
     dsimp only at k3 k4
     have HG3 := hidden (And.intro hg3 hm3)
     have HY := hidden hy
     have HLN : Hid (l.length = an) := hidden han
     rw [han] at k3 k4 hsl hsl2 hll hoa
     have HK3 := hidden k3
     have b3 : wr.cell? ⟨g3, i, none⟩ = some (.slice ao an ac) := (HX5.out _ _ HL.out g3 i hg3 hm3).trans k3
     have b4 : wr.cell? ⟨g4, i, none⟩ = some (.slice co an cc) := (HX5.out _ _ HL.out g4 i hg4 hm4).trans k4
     have a6 : wr.cell? ⟨x, 6, none⟩ = some (.slice (some ⟨g4, 0, none⟩) NL q4) := (HX5.out _ _ HL.out x 6 HXL.out HMX.out).trans c6
     have HSM : Hid (∀ u, Below wr.heap.size wr u → Calls Tryd.prog 25 #[.slice ao an ac, .slice co an cc] u fun e u' => e = .returned (.bool true) ∧ ∃ q, u' = u.drewN q) := hidden (fun u hu => same9d u ao co an ac cc l (hsl.on9 hu) (hsl2.on9 hu) (by omega))
     obtain ⟨mi, hmi⟩ : ∃ mi : Int, 1000 + (i : Int) = mi := ⟨_, rfl⟩
     have wi : IntKind.i64.wrap mi = mi := by rw [IntKind.wrap_i64]; omega
     have hanI : (an : Int) ≤ 65536 := by omega
     have HMI := hidden hmi
     clear hy hoa hoc hsl hsl2 k3 k4 hg3 hm3 hg4 hm4 hll han
     go_upto_region 11 with fail
     go_quiet ((go_at_call 25; exact Calls.quiet_of (HSM.out _ (bl_drw9 (Below.refl _ _) _))))
     clear HSM b4 a6
     go_wp2_with fail
     go_loopw [6] (fun kx wq => ∃ k : Nat, k ≤ an ∧ kx = .int .i64 (k : Int) ∧ Hid (Lw w wq B s its lss (cL lss i k))) (fun kx _ => an - (intOf kx).toNat)
     case atStart => exact ⟨0, by omega, rfl, hidden (HL.out.dr (bl_drw9 (Below.refl _ _) _))⟩
     case round =>
      obtain ⟨k, hk, rfl, HK⟩ := hrel
      clear a5 b3
      have a5 : wr.cell? ⟨x, 5, none⟩ = some (.slice (some ⟨g3, 0, none⟩) NL q3) := (HX5.out _ _ HK.out x 5 HXL.out HMX.out).trans c5
      have b3 : wr.cell? ⟨g3, i, none⟩ = some (.slice ao an ac) := (HX5.out _ _ HK.out g3 i HG3.out.1 HG3.out.2).trans HK3.out
      by_cases hltk : k < an
      ·have hltkI : (k : Int) < (an : Int) := by omega
       have ho : OwnJ wr B (.slice ao an ac) (cL lss i k i) := by
        have := (HK.out.own i _ HY.out).1
        dsimp only at this
        rw [HLN.out] at this
        exact this
       obtain ⟨gl, rfl⟩ : ∃ gl, ao = some ⟨gl, 0, none⟩ := by
        have h1 := ho.slj
        rcases h1.hat with h0 | ⟨bb, e, _⟩
        ·omega
        ·exact ⟨bb, e⟩
       obtain ⟨s1, s2, s3⟩ := ho.set hltk mi
       obtain ⟨zz, hzz⟩ := Option.isSome_iff_exists.1 s1
       have hac : an ≤ ac := ho.slj.hcap
       have HUP : Hid (Lw w (wr.setCell ⟨gl, k, none⟩ (.int .i64 mi)) B s its lss (cL lss i (k + 1))) := hidden (HK.out.upd HIT.out HS.out.symm HY.out (Cf.setCell (F := fun q => (Value.slice (some ⟨gl, 0, none⟩) l.length ac).ownBlock = some q) wr (p := ⟨gl, k, none⟩) rfl _) (by dsimp only; rw [HLN.out]; exact s3) (by rw [List.length_set]; exact (HK.out.own i _ HY.out).2) (fun t => by rw [cL_set HY.out (by show k < l.length; rw [HLN.out]; exact hltk), HMI.out]))
       clear ho s1 s3
       go_wp2_with fail
       go_roundw
       case rel => exact ⟨k + 1, by omega, by go_num, HUP⟩
       case measure => simp [intOf]; omega
      ·obtain rfl : k = an := by omega
       have hkI : ¬ (k : Int) < (k : Int) := by omega
       have HNX : Hid (Lw w wr B s its lss (cL lss (i + 1) 0)) := hidden (HK.out.cong fun t y _ => by rw [cL_next HY.out]; show cL lss i l.length t = _; rw [HLN.out])
       go_wp2_with fail
       go_roundw
       case rel => exact ⟨i + 1, by omega, by go_num, HNX⟩
       case measure => simp [intOf]; omega
    ·obtain rfl : i = NL := by omega
     have hlI2 : ¬ (i : Int) < (i : Int) := by omega
     go_wp2_with fail
     have HLZ : Hid (Lw w wr B s its lss (cL lss i 0)) := HL
     clear HL a5
     go_loopw [7] (fun j wr => ∃ r : Nat, r ≤ i ∧ j = .int .i64 (r : Int) ∧ Hid (Lw w wr B s its lss (cL lss i 0))) (fun j _ => i - (intOf j).toNat)
     case atStart => exact ⟨0, by omega, rfl, HLZ⟩
     case round =>
      obtain ⟨r, hr, rfl, HL⟩ := hrel
      have a5 : wr.cell? ⟨x, 5, none⟩ = some (.slice o3 i q3) := (HX5.out _ _ HL.out x 5 HXL.out HMX.out).trans c5
      by_cases hlt4 : r < i
      ·have hltI4 : (r : Int) < (i : Int) := by omega
       obtain ⟨⟨ya, yc, l⟩, hy⟩ : ∃ y, lss[r]? = some y := ⟨_, List.getElem?_eq_getElem (by have := HNL.out; omega)⟩
       have hll : l.length ≤ 65536 := (HIT.out.l1 _ (List.mem_of_getElem? hy)).2.2.1
       obtain ⟨mi, hmi⟩ : ∃ mi : Int, 1000 + (r : Int) = mi := ⟨_, rfl⟩
       have wi : IntKind.i64.wrap mi = mi := by rw [IntKind.wrap_i64]; omega
       have hCd := cL_done hy hlt4
       dsimp only at hCd
       rw [hmi] at hCd
       obtain ⟨an, han⟩ : ∃ an, l.length = an := ⟨_, rfl⟩
       rw [han] at hCd hll
       have hoa : OwnJ wr B ya (List.replicate an mi) := by
        have h1 := (HL.out.own r _ hy).1
        rw [hCd] at h1
        exact h1
       obtain ⟨ao, ac, rfl, hsl⟩ := hoa.sl
       obtain ⟨g3, rfl, hq3, k3, hg3, hm3⟩ := D3.out r _ hy
       dsimp only at k3
       rw [List.length_replicate] at k3 hsl hoa
       have b3 : wr.cell? ⟨g3, r, none⟩ = some (.slice ao an ac) := (HX5.out _ _ HL.out g3 r hg3 hm3).trans k3
       have HG3 := hidden (And.intro hg3 hm3)
       have HY := hidden hy
       have HK3 := hidden k3
       have HCD := hidden hCd
       have HLN := hidden han
       obtain ⟨x1, hx1⟩ : ∃ x1, wr.alloc (.cells #[.int .i64 mi] 3) = x1 := ⟨_, rfl⟩
       have hbx : Below wr.heap.size wr x1 := by rw [← hx1]; exact bl_al (Below.refl _ _) (Nat.le_refl _) _
       have hcx : x1.cell? ⟨wr.heap.size, 0, none⟩ = some (.int .i64 mi) := by rw [← hx1]; simp
       have HLX := hidden (HL.out.dr hbx)
       have HJX := hidden (hoa.below hbx)
       have hxs : B ≤ x1.heap.size := Nat.le_trans HBW.out (Nat.le_trans HL.out.cf.size hbx.size)
       have hlb : (List.replicate an mi).length + 1 ≤ 4000000 := by rw [List.length_replicate]; omega
       have hanI : (an : Int) ≤ 65536 := by omega
       clear hy hCd hoa hsl k3 hg3 hm3 hll han hbx
       go_wp2_with (at_builtin; refine app_j2 _ rfl _ _ rfl B (List.replicate an mi) mi _ wr.heap.size rfl rfl HJX.out hcx hlb hxs ?_; refine Hid.out ?_)
       apply hidden
       intro v' w2 hj2 hg2 ho2
       have HL2 : Hid (Lw w w2 B s its lss (cL lss i 0)) := hidden (HLX.out.upd HIT.out HS.out.symm HY.out ⟨hg2.grow.os, hg2.grow.tape, hg2.grow.output, hg2.grow.size, fun q hq hne => hg2.grow.block q hq (fun e => hne (by show (Value.slice ao (List.replicate an mi).length ac).ownBlock = some q; rw [List.length_replicate]; exact e.symm ▸ rfl))⟩ (by dsimp only; rw [List.length_replicate]; exact ho2) (by rw [List.length_replicate]; exact HLN.out.symm) (fun t => by
        by_cases e : t = r
        ·subst e; rw [if_pos rfl]; exact HCD.out
        ·rw [if_neg e]))
       obtain ⟨vo, vc, rfl, hv⟩ := hj2.sl
       have hrl : (List.replicate an mi ++ [mi]).length = an + 1 := by simp
       have hrg : ∀ k, k < an + 1 → (List.replicate an mi ++ [mi]).getD k 0 = mi := fun k hk => by
        rw [← List.replicate_succ', List.getD_eq_getElem?_getD, List.getElem?_replicate, if_pos hk]
        rfl
       rw [hrl] at hv ⊢
       have HV := hidden hv
       have HRG := hidden hrg
       have HS2 := hidden ho2.slj
       clear hj2 hg2 ho2 hv hrg hrl hx1 hcx a5 b3 HJX HLX
       have a5 : w2.cell? ⟨x, 5, none⟩ = some (.slice (some ⟨g3, 0, none⟩) i q3) := (HX5.out _ _ HL2.out x 5 HXL.out HMX.out).trans c5
       have b3 : w2.cell? ⟨g3, r, none⟩ = some (.slice ao an ac) := (HX5.out _ _ HL2.out g3 r HG3.out.1 HG3.out.2).trans HK3.out
       have eN : (mi != mi) = false := by simp
       go_wp2_with fail
       go_loopw [9] (fun kx wq => ∃ k : Nat, k ≤ an + 1 ∧ kx = .int .i64 (k : Int) ∧ wq = w2) (fun kx _ => an + 1 - (intOf kx).toNat)
       case atStart => exact ⟨0, by omega, rfl, rfl⟩
       case round =>
        obtain ⟨k, hk, rfl, rfl⟩ := hrel
        by_cases hltk : k < an + 1
        ·have hltkI : (k : Int) < (an : Int) + 1 := by omega
         have hvc := HV.out.hcap
         obtain ⟨gv, rfl, hgv, hcv⟩ : ∃ b, vo = some ⟨b, 0, none⟩ ∧ b < wr.heap.size ∧ ∀ i, i < an + 1 → wr.cell? ⟨b, i, none⟩ = some (.int .i64 ((List.replicate an mi ++ [mi]).getD i 0)) := by
          rcases HV.out.hat with h | h
          ·omega
          ·exact h
         have ck := hcv k hltk
         rw [HRG.out k hltk] at ck
         clear hcv
         go_wp2_with fail
         go_roundw
         case rel => exact ⟨k + 1, by omega, by go_num, by first | rfl | trivial⟩
         case measure => simp [intOf]; omega
        ·obtain rfl : k = an + 1 := by omega
         have hkI : ¬ (an : Int) + 1 < (an : Int) + 1 := by omega
         go_wp2_with fail
         go_loopw [10] (fun kx wq => ∃ k : Nat, k ≤ an ∧ kx = .int .i64 (k : Int) ∧ wq = wr) (fun kx _ => an - (intOf kx).toNat)
         case atStart => exact ⟨0, by omega, rfl, rfl⟩
         case round =>
          obtain ⟨k, hk, rfl, rfl⟩ := hrel
          by_cases hltk : k < an
          ·have hltkI : (k : Int) < (an : Int) := by omega
           have hvc := HS2.out.hcap
           obtain ⟨gv, rfl, hgv, hcv⟩ : ∃ b, ao = some ⟨b, 0, none⟩ ∧ b < wr.heap.size ∧ ∀ i, i < an → wr.cell? ⟨b, i, none⟩ = some (.int .i64 ((List.replicate an mi).getD i 0)) := by
            rcases HS2.out.hat with h | h
            ·omega
            ·exact h
           have ck := hcv k hltk
           rw [List.getD_eq_getElem?_getD, List.getElem?_replicate, if_pos hltk] at ck
           change wr.cell? ⟨gv, k, none⟩ = some (.int .i64 mi) at ck
           clear hcv
           go_wp2_with fail
           go_roundw
           case rel => exact ⟨k + 1, by omega, by go_num, by first | rfl | trivial⟩
           case measure => simp [intOf]; omega
          ·obtain rfl : k = an := by omega
           have hkI2 : ¬ (k : Int) < (k : Int) := by omega
           go_wp2_with fail
           go_roundw
           case rel => exact ⟨r + 1, by omega, by go_num, HL2⟩
           case measure => simp [intOf]; omega
      ·obtain rfl : r = i := by omega
       have hlI4 : ¬ (r : Int) < (r : Int) := by omega
       have HOW : Hid (Calls Tryd.prog 31 #[.pointer (some ⟨s, 0, none⟩)] wr fun e u => e = .returned (.bool true) ∧ Hid (Cf (B ≤ ·) wr u)) := hidden (by
        obtain ⟨bv, h1, h2⟩ := HL.out.book
        exact owned9 wr B s (its.map (·.1)).length bv _ _ h1 rfl (by rw [List.length_map]; have := HNI.out; omega) (Nat.le_trans HBW.out HL.out.cf.size))
       have HCW : Hid (Cf (B ≤ ·) w wr) := hidden (HL.out.cf.wide fun k ⟨t, y, h1, h2⟩ => ((HIT.out.l1 y (List.mem_of_getElem? h1)).1.lt h2).1)
       go_wp2_with (first
        | (go_at_call 31; refine HOW.out.mono ?_; rintro e w9 ⟨rfl, HC9⟩; refine Hid.out ?_))
       apply hidden
       clear HOW
       go_wp2
       go_ret
       exact ⟨rfl, hidden (HCW.out.go HC9.out)⟩
end Go.Proofs.YtoejadhlkamcjaaDoor
