/- Layer 7: the document's read, walked: pre (written by mkread7.py). -/
import Derived.Test.YtobfkcepjnjfpaaGreatDoorJ36
namespace Go.Proofs.YtobfkcepjnjfpaaGreatDoor
open Go.RowKit

set_option maxRecDepth 100000 in
set_option maxHeartbeats 8000000 in
theorem rread_pre (g off n cap : Nat) (l : List Int) (at_ : Nat) (k : Int) (i : Nat) (po : Option Addr) (pn pc : Nat) (P : List Int) (w : World) (hs : Sl w (some ⟨g, off, none⟩) n cap l) (hn : n ≤ 65536) (hP : Sl w po pn pc P) (_hpn : pn ≤ 65536) (_hi : i ≤ 65536) (ha : at_ < n) (he : (rUx l ((at_ + 1 : Nat) : Int)).2.2 = 0) (v t : Nat) (hvt : rUx l ((at_ + 1 : Nat) : Int) = ((v : Int), (t : Int), 0)) (hok : t + v ≤ n) (hki : ¬ (k = 3 ∧ i = 0)) :
    Calls Tryz.prog 26 #[.slice (some ⟨g, off, none⟩) n cap, .int .i64 (at_ : Int), .int .i64 k, .int .i64 (i : Int), .slice po pn pc] w (RdTo l at_ k i P w) := by
  have HS := hidden hs
  have HP := hidden hP
  have hlen := hs.hlen
  have hcap := hs.hcap
  have hnI : (n : Int) ≤ 65536 := by omega
  obtain ⟨kk, hkk⟩ : ∃ kk, w.heap.size = kk := ⟨_, rfl⟩
  have hgl : g < kk := by
    rcases hs.hat with h0 | ⟨b, o, e, hb, _⟩
    · omega
    · cases e; omega
  have HGL := hidden hgl
  have hlt : at_ < l.length := by omega
  obtain ⟨x, hx⟩ : ∃ x, l.getD at_ 0 = x := ⟨_, rfl⟩
  have hby := hs.wf.getD at_
  rw [hx] at hby
  obtain ⟨hx0, hx1⟩ := hby
  have b0 : (w.alloc (.cells #[.slice none 0 0, .int .i64 0, .slice none 0 0, .int .i64 0, .int .i64 0] 37)).cell? ⟨g, off + at_, none⟩ = some (.int .u8 x) := by
    rcases hs.hat with h0 | ⟨b, o, e, hb, hc⟩
    · omega
    · cases e
      rw [← hx]
      exact ((bl_al (Below.refl w.heap.size w) (Nat.le_refl _) _).cell (p := ⟨g, off + at_, none⟩) hb).trans (hc at_ (by omega))
  have TB := two_box7 w (.slice none 0 0) (.int .i64 x) (.slice none 0 0) (.int .i64 0) (.int .i64 0)
  rw [hkk] at TB
  obtain ⟨y2, hy2⟩ : ∃ y2, (w.alloc (.cells #[.slice none 0 0, .int .i64 0, .slice none 0 0, .int .i64 0, .int .i64 0] 37)).alloc (.cells #[.slice none 0 0, .int .i64 x, .slice none 0 0, .int .i64 0, .int .i64 0] 37) = y2 := ⟨_, rfl⟩
  rw [hy2] at TB
  have HM0 : Hid (Md7 w y2 kk (.slice none 0 0) x []) := hidden ⟨TB.1, TB.2.1, OwnB.nil _ _, TB.2.2, by have := lt_some TB.1; omega⟩
  have haI : ¬ (n : Int) ≤ (at_ : Int) := by omega
  have haJ : (at_ : Int) < (n : Int) := by omega
  have h0 : ¬ (at_ : Int) < 0 := by omega
  have HSU : Hid (∀ u, Below kk w u → Sl u (some ⟨g, off, none⟩) n cap l) := hidden fun u hu => HS.out.on (by rw [hkk]; exact Nat.le_refl _) hu
  have HPU : Hid (∀ u, Below kk w u → Sl u po pn pc P) := hidden fun u hu => HP.out.on (by rw [hkk]; exact Nat.le_refl _) hu
  have HRU : Hid (∀ (p : Int) u, Below kk w u → Calls Tryz.prog 51 #[.slice (some ⟨g, off, none⟩) n cap, .int .i64 p] u fun e w' => e = .returned (.tuple #[.int .u64 (rUx l p).1, .int .i64 (rUx l p).2.1, .int .i64 (rUx l p).2.2]) ∧ w' = u) := hidden fun p u hu => refReadUint_all _ n cap l p u (HSU.out u hu)
  have HY2 : Hid (Below kk w y2) := hidden TB.2.2
  clear TB
  obtain ⟨v1, t1, hr1, hd1, ht1, ht1l, hv1⟩ := ru_ok hs.wf (by omega) he
  have H1 := hidden ((HRU.out ((at_ + 1 : Nat) : Int) y2 HY2.out).mono fun e w' h => (And.intro h.1 (hidden h.2) : _ ∧ Hid (w' = y2)))
  rw [hr1] at H1
  simp only at H1
  obtain ⟨s1, hs1⟩ : ∃ s1, at_ + 1 = s1 := ⟨_, rfl⟩
  have hsI : (at_ : Int) + 1 = (s1 : Int) := by omega
  rw [hs1] at H1
  have t1b : (t1 : Int) ≤ 65536 := by omega
  obtain ⟨rfl, rfl⟩ : v1 = v ∧ t1 = t := by
    rw [hvt] at hr1
    injection hr1 with q1 q2
    injection q2 with q2 _
    omega
  have HPRE : Hid (pre7 k i P = P) := hidden (by unfold pre7; rw [if_neg hki])
  obtain ⟨po1, pc1, hp1, hp2, hp3⟩ := part_yes g off n cap t1 v1 l w hs hn hok
  have HP1 := hidden hp1
  have HR1 : Hid (∀ u, Below kk w u → Sl u po1 v1 pc1 ((l.drop t1).take v1)) := hidden (by rw [← hkk]; exact hp2)
  have HG1 : Hid (∀ p, po1 = some p → p.block < kk) := hidden fun p hp => by rw [hp3 p hp]; exact hgl
  obtain ⟨t2, ht2⟩ : ∃ t2, t1 + v1 = t2 := ⟨_, rfl⟩
  have ht2I : (t1 : Int) + (v1 : Int) = (t2 : Int) := by omega
  have t2b : (t2 : Int) ≤ 65536 := by omega
  have v1b : (v1 : Int) ≤ 65536 := by omega
  have HPL := hidden hP.hlen
  have HL := hidden hlen
  have HLT := hidden hlt
  have HX := hidden hx
  have HD1 := hidden hd1
  have HT1 := hidden ht1
  have HT2 := hidden ht2
  have HT2N : Hid (t2 ≤ n) := hidden (by omega)
  have HV1 := hidden hv1
  have HWF := hidden hs.wf
  have hiI : (i : Int) ≤ 65536 := by omega
  have hR1l : ((l.drop t1).take v1).length = v1 := by rw [List.length_take, List.length_drop]; omega
  obtain ⟨R1, hR1⟩ : ∃ R1, (l.drop t1).take v1 = R1 := ⟨_, rfl⟩
  rw [hR1] at HR1 hR1l
  have HRR := hidden hR1
  have HRL := hidden hR1l
  have HAA : Hid (∀ u, Md7 w u kk (.slice none 0 0) x [] → Calls Tryz.prog 52 #[.slice none 0 0, .slice po pn pc] u fun e w' => ∃ v', e = .returned v' ∧ Hid (OwnB w' kk v' P) ∧ Hid (Gr u (.slice none 0 0) w' v')) := hidden fun u hu => by
    have := radd_any (.slice none 0 0) kk [] P po pn pc u (OwnB.nil _ _) (HPU.out u hu.2.2.2.1) (.inr fun p _ => by simp [Value.ownBlock]) (by simp; omega) hu.2.2.2.2
    rw [List.nil_append] at this
    exact this
  have hkk3 : (k != 3) = true ∨ (k = 3 ∧ 0 < i) := by
    by_cases h3 : k = 3
    · exact .inr ⟨h3, by omega⟩
    · exact .inl (by simpa using h3)
  clear hs hP hlen hcap hx hr1 hvt hgl hlt hs1 hd1 ht1 he hok hki hp1 hp2 hp3 ht2 hR1 hR1l ht1l hv1
  have hcase : (k != 3) = true ∨ (k = 3 ∧ ∃ j, i = j + 1) := by
    rcases hkk3 with h | ⟨h, h2⟩
    · exact .inl h
    · exact .inr ⟨h, i - 1, by omega⟩
  clear hkk3
  subst hy2
  rcases hcase with hb1 | ⟨rfl, j9, rfl⟩
  all_goals
    go_enter Tryz.func26, Tryz.ntmps26
    go_wp2_with (first | (go_at_call 51; refine H1.out.mono ?_; rintro e w1 ⟨rfl, hw1⟩; refine Hid.out ?_))
    apply hidden
    have HM9 : Hid (Md7 w w1 kk (.slice none 0 0) x []) := hidden (by rw [hw1.out]; exact HM0.out)
    have H2 := hidden (HP1.out w1)
    have HA0 := hidden (HAA.out w1 HM9.out)
    obtain ⟨d0, d1, d2, d3, d4⟩ := HM9.out.2.1.cells
    clear HM0 hw1 H1 b0 HY2 HP1 HAA
    go_wp2_with (first
      | (go_at_call 25; refine same_call H2.out ?_)
      | (go_at_call 52; refine HA0.out.mono ?_; rintro e u1 ⟨v0, rfl, HO0, HG0⟩; refine Hid.out ?_))
    apply hidden
    clear d0 d1 d2 d3 d4
    obtain ⟨a0, c0', rfl⟩ := own_shape7 HO0.out
    rw [HPL.out] at HO0 HG0
    have HM1 := hidden (HM9.out.key HO0.out HG0.out)
    have h51 := HM9.out.2.1.gr7 HG0.out (by simp [Value.ownBlock])
    obtain ⟨d0, d1, d2, d3, d4⟩ := h51.cells
    obtain ⟨f0, f1, f2, f3, f4⟩ := h51.free
    obtain ⟨u2, hu2⟩ : ∃ u2, u1.setCell ⟨kk + 1, 0, none⟩ (.slice a0 pn c0') = u2 := ⟨_, rfl⟩
    rw [hu2] at HM1
    have HA1 := hidden (radd_any (.slice a0 pn c0') kk P R1 po1 v1 pc1 u2 HM1.out.2.2.1 (HR1.out u2 HM1.out.2.2.2.1) (HM1.out.2.2.1.far HG1.out) (by rw [HPL.out]; omega) HM1.out.2.2.2.2)
    obtain ⟨g0, g1, g2, g3, g4⟩ := HM1.out.2.1.cells
    rw [HPL.out]
    clear h51 HA0 HO0 HG0 H2
    go_wp2_with (first | (go_at_call 52; refine HA1.out.mono ?_; rintro e u3 ⟨v3, rfl, HO1, HG3⟩; refine Hid.out ?_))
    apply hidden
    clear d0 d1 d2 d3 d4 f0 f1 f2 f3 f4 g0 g1 g2 g3 g4 hu2
    obtain ⟨KN, hKN⟩ : ∃ KN, (P ++ R1).length = KN := ⟨_, rfl⟩
    obtain ⟨a1, c1', rfl⟩ := own_shape7 HO1.out
    rw [hKN] at HO1 HG3 ⊢
    have HKN := hidden hKN
    have HM2 := hidden (HM1.out.key HO1.out HG3.out)
    have h52 := HM1.out.2.1.gr7 HG3.out (HM1.out.2.2.1.apart5 HM1.out.2.1)
    obtain ⟨d0, d1, d2, d3, d4⟩ := h52.cells
    obtain ⟨f0, f1, f2, f3, f4⟩ := h52.free
    obtain ⟨u4, hu4⟩ : ∃ u4, u3.setCell ⟨kk + 1, 0, none⟩ (.slice a1 KN c1') = u4 := ⟨_, rfl⟩
    rw [hu4] at HM2
    have H3 := hidden (HRU.out (t2 : Int) u4 HM2.out.2.2.2.1)
    have hw4 := HM2.out.2.2.2.1
    have HW4 := hidden hw4
    obtain ⟨e0, e1, e2, e3, e4⟩ := HM2.out.2.1.cells
    obtain ⟨k0, k1, k2, k3, k4⟩ := HM2.out.2.1.free
    obtain ⟨c0, c1, c2, c3, c4⟩ := HM2.out.1.cells
    obtain ⟨j0, j1, j2, j3, j4⟩ := HM2.out.1.free
    clear h52 hw4 HA1 hKN HO1 HG3
    by_cases he3 : (rUx l (t2 : Int)).2.2 = 0
    · obtain ⟨m, s3, hr3, hd3, hs3, hs3l, hm⟩ := ru_ok HWF.out (by rw [HL.out]; exact HT2N.out) he3
      rw [hr3] at H3
      simp only at H3
      have s3b : (s3 : Int) ≤ 65536 := by have := HL.out; omega
      have HD3 := hidden hd3
      have HS3 := hidden hs3
      have HMB := hidden hm
      have HS3L := hidden hs3l
      clear he3 hr3 hd3 hs3
      by_cases hx1' : x = 1
      · by_cases hv2 : s3 + m ≤ n
        · obtain ⟨po2, pc2, hq1, hq2, hq3⟩ := part_yes g off n cap s3 m l w HS.out hn hv2
          have H4 := hidden (hq1 u4)
          have hR2l : ((l.drop s3).take m).length = m := by rw [List.length_take, List.length_drop, HL.out]; omega
          obtain ⟨R2, hR2⟩ : ∃ R2, (l.drop s3).take m = R2 := ⟨_, rfl⟩
          rw [hR2] at hq2 hR2l
          have HA2 := hidden (radd_any (.slice none 0 0) kk [] R2 po2 m pc2 u4 (OwnB.nil _ _) (hq2 u4 (by rw [hkk]; exact HW4.out)) (.inr fun p _ => by simp [Value.ownBlock]) (by simp; omega) HM2.out.2.2.2.2)
          rw [List.nil_append] at HA2
          have HIS := hidden (is_val HWF.out (by rw [HL.out]; exact hn) HLT.out HD1.out (by have := HT1.out; omega) (by rw [HL.out, HT2.out]; exact HT2N.out) (by rw [HX.out]; exact hx1') (by rw [HT2.out]; exact HD3.out) (by rw [HT2.out]; exact HS3.out) (by rw [HL.out]; exact hv2))
          rw [HRR.out, hR2] at HIS
          have HR2L := hidden hR2l
          obtain ⟨t4, ht4⟩ : ∃ t4, s3 + m = t4 := ⟨_, rfl⟩
          have ht4I : (s3 : Int) + (m : Int) = (t4 : Int) := by omega
          have mb : (m : Int) ≤ 65536 := by omega
          have t4b : (t4 : Int) ≤ 65536 := by omega
          rw [ht4] at HIS
          clear hq1 hq2 hq3 hR2 hR2l hv2 ht4 hm hs3l
          subst hx1'
          go_wp2_with (first
            | (go_at_call 51; refine same_call H3.out ?_)
            | (go_at_call 25; refine same_call H4.out ?_)
            | (go_at_call 52; refine HA2.out.mono ?_; rintro e u5 ⟨v5, rfl, HO5, HG5⟩; refine Hid.out ?_))
          apply hidden
          obtain ⟨a5, c5', rfl⟩ := own_shape7 HO5.out
          rw [HR2L.out] at HO5 HG5 ⊢
          have q51 := HM2.out.2.1.gr7 HG5.out (by simp [Value.ownBlock])
          have q50 := HM2.out.1.gr7 HG5.out (by simp [Value.ownBlock])
          have hk5 : OwnB u5 kk (.slice a1 KN c1') (P ++ R1) := World.ownsRow.kept HM2.out.2.2.1 HG5.out.grow (by
            cases hz : (Value.slice a1 KN c1').ownBlock with
            | none => exact .inl rfl
            | some z => exact .inr (by simp [Value.ownBlock]))
          have hb5 : Below kk u4 u5 := HG5.out.below (OwnB.nil u4 kk) HM2.out.2.2.2.2
          have hs5 := hb5.size
          have hk4 := HM2.out.2.2.2.2
          have hc6 := Cf.set u5 (kk + 1) 2 (.slice a5 m c5')
          have q61 := (q51.set (.slice a5 m c5')).2.2.1
          have q60 := q50.cf hc6 (by omega)
          have hk6 := hk5.c5 hc6 q51
          have hv6 := HO5.out.c5 hc6 q51
          obtain ⟨u6, hu6⟩ : ∃ u6, u5.setCell ⟨kk + 1, 2, none⟩ (.slice a5 m c5') = u6 := ⟨_, rfl⟩
          have hs6 := hc6.size
          rw [hu6] at q61 q60 hk6 hv6 hc6 hs6
          have hc7 := put5_cf u6 kk (.slice a1 KN c1') (.int .i64 1) (.slice a5 m c5') (.int .i64 0) (.int .i64 0)
          have HEND : Hid (Below w.heap.size w (put5 u6 kk (.slice a1 KN c1') (.int .i64 1) (.slice a5 m c5') (.int .i64 0) (.int .i64 0)) ∧ OwnB (put5 u6 kk (.slice a1 KN c1') (.int .i64 1) (.slice a5 m c5') (.int .i64 0) (.int .i64 0)) kk (.slice a1 KN c1') (P ++ R1) ∧ OwnB (put5 u6 kk (.slice a1 KN c1') (.int .i64 1) (.slice a5 m c5') (.int .i64 0) (.int .i64 0)) kk (.slice a5 m c5') R2) := hidden ⟨by
            rw [hkk]
            exact (HM2.out.2.2.2.1.trans hb5).trans ((hc6.below (by omega) (fun j hj e => by omega)).trans (hc7.below (by omega) (fun j hj e => by omega))), hk6.c5 hc7 q60, hv6.c5 hc7 q60⟩
          have H60 := hidden q60
          obtain ⟨x0, x1, x2, x3, x4⟩ := q51.cells
          obtain ⟨y0, y1, y2', y3, y4⟩ := q51.free
          obtain ⟨z0, z1, z2, z3, z4⟩ := q61.cells
          obtain ⟨o0, o1, o2, o3, o4⟩ := q60.cells
          obtain ⟨n0, n1, n2, n3, n4⟩ := q60.free
          clear q51 q50 hk5 hb5 hs5 hk4 hc6 q61 q60 hk6 hv6 hs6 hc7 e0 e1 e2 e3 e4 k0 k1 k2 k3 k4 c0 c1 c2 c3 c4 j0 j1 j2 j3 j4 d0 d1 d2 d3 d4 f0 f1 f2 f3 f4 hu4
          go_wp2
          refine bodyPost_ret (results_row27 rfl _ _ kk 37 #[.slice a1 KN c1', .int .i64 1, .slice a5 m c5', .int .i64 0, .int .i64 0] (0, 0) _ (.int .i64 (t4 : Int)) (by rfl) (by rfl) (H60.out.put _ _ _ _ _) Tryz.underlying37 rfl sizeCell) rfl ?_
          refine ⟨a1, KN, c1', 1, a5, m, c5', 0, 0, (t4 : Int), rfl, hidden HEND.out.1, hidden (.inr ⟨t4, _, rfl, HIS.out, ?_, ?_, rfl, rfl, rfl, ?_, ?_⟩)⟩
          · rw [HPRE.out]; exact HKN.out.symm
          · exact HR2L.out.symm
          · rw [HPRE.out, hkk]; exact HEND.out.2.1
          · rw [hkk]; exact HEND.out.2.2
        · have H4 := hidden (part_no (some ⟨g, off, none⟩) n cap s3 (m : Int) u4 (by have := HL.out; omega) hn (by omega))
          have HNO := hidden (no_val HLT.out HV1.out HD1.out (by rw [HX.out]; exact hx1') hm (by rw [HT2.out]; exact HD3.out) hs3l (by rw [HL.out]; omega))
          clear hv2 hm hs3l
          subst hx1'
          go_wp2_with (first | (go_at_call 51; refine same_call H3.out ?_) | (go_at_call 25; refine same_call H4.out ?_))
          refine bodyPost_ret (results_row27 rfl _ _ kk 37 #[.slice none 0 0, .int .i64 0, .slice none 0 0, .int .i64 0, .int .i64 0] (0, 0) _ (.int .i64 0) (by rfl) (by rfl) (HM2.out.1.put _ _ _ _ _) Tryz.underlying37 rfl sizeCell) rfl ?_
          have hf := put5_cf u4 kk (.slice none 0 0) (.int .i64 0) (.slice none 0 0) (.int .i64 0) (.int .i64 0)
          refine RdTo.no ?_ HNO.out
          rw [hkk]
          exact HM2.out.2.2.2.1.trans (hf.below HM2.out.2.2.2.2 (fun j hj e => by omega))
      · have hxb : (x == 1) = false := by simpa using hx1'
        have H5 := hidden (HRU.out (s3 : Int) u4 HM2.out.2.2.2.1)
        by_cases he5 : (rUx l (s3 : Int)).2.2 = 0
        · obtain ⟨q, z, hr5, hd5, hz5, hz5l, hq⟩ := ru_ok HWF.out hs3l he5
          rw [hr5] at H5
          simp only at H5
          have zb : (z : Int) ≤ 65536 := by have := HL.out; omega
          have H35 : Hid (∀ (p : Int) (a b c : Int), (p = (t2 : Int) ∧ a = (m : Int) ∧ b = (s3 : Int) ∧ c = 0) ∨ (p = (s3 : Int) ∧ a = (q : Int) ∧ b = (z : Int) ∧ c = 0) → Calls Tryz.prog 51 #[.slice (some ⟨g, off, none⟩) n cap, .int .i64 p] u4 fun e w' => e = .returned (.tuple #[.int .u64 a, .int .i64 b, .int .i64 c]) ∧ w' = u4) := hidden (by
            rintro p a b c (⟨rfl, rfl, rfl, rfl⟩ | ⟨rfl, rfl, rfl, rfl⟩)
            · exact H3.out
            · exact H5.out)
          clear he5 hr5
          by_cases hbig : 65536 < m ∨ 1073741824 < q
          · have HNO := hidden (no_big HLT.out HV1.out HD1.out (by rw [HX.out]; exact hx1') hm (by rw [HT2.out]; exact HD3.out) hq hd5 hbig)
            have hbb : (decide ((65536 : Int) < (m : Int)) = true) ∨ (decide ((65536 : Int) < (m : Int)) = false ∧ decide ((1073741824 : Int) < (q : Int)) = true) := by
              by_cases hm6 : 65536 < m
              · exact .inl (by simp; omega)
              · exact .inr ⟨by simp; omega, by simp; omega⟩
            clear hbig hd5 hz5 hx1' hz5l hs3l
            rcases hbb with hb6 | ⟨hb6, hb7⟩
            all_goals
              go_wp2_with (first | (go_at_call 51; first | with_reducible refine same_call (H35.out _ _ _ _ (.inl ⟨rfl, rfl, rfl, rfl⟩)) ?_ | with_reducible refine same_call (H35.out _ _ _ _ (.inr ⟨rfl, rfl, rfl, rfl⟩)) ?_))
              refine bodyPost_ret (results_row27 rfl _ _ kk 37 #[.slice none 0 0, .int .i64 0, .slice none 0 0, .int .i64 0, .int .i64 0] (0, 0) _ (.int .i64 0) (by rfl) (by rfl) (HM2.out.1.put _ _ _ _ _) Tryz.underlying37 rfl sizeCell) rfl ?_
              have hf := put5_cf u4 kk (.slice none 0 0) (.int .i64 0) (.slice none 0 0) (.int .i64 0) (.int .i64 0)
              refine RdTo.no ?_ HNO.out
              rw [hkk]
              exact HM2.out.2.2.2.1.trans (hf.below HM2.out.2.2.2.2 (fun j hj e => by omega))
          · have HIS := hidden (is_ct HWF.out (by rw [HL.out]; exact hn) HLT.out HD1.out (by have := HT1.out; omega) (by rw [HL.out, HT2.out]; exact HT2N.out) (by rw [HX.out]; exact hx1') (by rw [HT2.out]; exact HD3.out) (by rw [HT2.out]; exact HS3.out) hd5 hz5 hz5l (by omega) (by omega))
            rw [HRR.out, HX.out] at HIS
            have mb : (m : Int) ≤ 65536 := by omega
            have qb : (q : Int) ≤ 1073741824 := by omega
            have hc5 := Cf.set u4 (kk + 1) 3 (.int .i64 (m : Int))
            have q51 := (HM2.out.2.1.set (.int .i64 (m : Int))).2.2.2.1
            have hc6 := Cf.set (u4.setCell ⟨kk + 1, 3, none⟩ (.int .i64 (m : Int))) (kk + 1) 4 (.int .i64 (q : Int))
            have q61 := (q51.set (.int .i64 (q : Int))).2.2.2.2
            have hcc := hc5.go hc6
            have q60 := HM2.out.1.cf hcc (by omega)
            have hk6 := HM2.out.2.2.1.c5 hcc HM2.out.2.1
            have hs6 := hcc.size
            have hk4 := HM2.out.2.2.2.2
            obtain ⟨u5, hu5⟩ : ∃ u5, u4.setCell ⟨kk + 1, 3, none⟩ (.int .i64 (m : Int)) = u5 := ⟨_, rfl⟩
            rw [hu5] at q51 q61 q60 hk6 hcc hs6
            obtain ⟨u6, hu6⟩ : ∃ u6, u5.setCell ⟨kk + 1, 4, none⟩ (.int .i64 (q : Int)) = u6 := ⟨_, rfl⟩
            rw [hu6] at q61 q60 hk6 hcc hs6
            have hc7 := put5_cf u6 kk (.slice a1 KN c1') (.int .i64 x) (.slice none 0 0) (.int .i64 (m : Int)) (.int .i64 (q : Int))
            have HEND : Hid (Below w.heap.size w (put5 u6 kk (.slice a1 KN c1') (.int .i64 x) (.slice none 0 0) (.int .i64 (m : Int)) (.int .i64 (q : Int))) ∧ OwnB (put5 u6 kk (.slice a1 KN c1') (.int .i64 x) (.slice none 0 0) (.int .i64 (m : Int)) (.int .i64 (q : Int))) kk (.slice a1 KN c1') (P ++ R1)) := hidden ⟨by
              rw [hkk]
              exact HM2.out.2.2.2.1.trans ((hcc.below (by omega) (fun j hj e => by omega)).trans (hc7.below (by omega) (fun j hj e => by omega))), hk6.c5 hc7 q60⟩
            have H60 := hidden q60
            obtain ⟨x0, x1, x2, x3, x4⟩ := q51.cells
            obtain ⟨y0, y1, y2', y3, y4⟩ := q51.free
            obtain ⟨z0, z1, z2, z3, z4⟩ := q61.cells
            obtain ⟨o0, o1, o2, o3, o4⟩ := q60.cells
            obtain ⟨n0, n1, n2, n3, n4⟩ := q60.free
            clear q51 hc5 hc6 q61 hcc q60 hk6 hs6 hk4 hc7 hbig hd5 hz5 hx1' hz5l hs3l hm hq c0 c1 c2 c3 c4 j0 j1 j2 j3 j4
            have HMQ := hidden (And.intro mb qb)
            have hb6 : decide ((65536 : Int) < (m : Int)) = false := by simp; omega
            have hb7 : decide ((1073741824 : Int) < (q : Int)) = false := by simp; omega
            clear mb qb
            go_wp2_with (first | (go_at_call 51; first | with_reducible refine same_call (H35.out _ _ _ _ (.inl ⟨rfl, rfl, rfl, rfl⟩)) ?_ | (with_reducible refine same_call (H35.out _ _ _ _ (.inr ⟨rfl, rfl, rfl, rfl⟩)) ?_; refine Hid.out ?_)))
            apply hidden
            go_upto_region 26 with fail
            obtain ⟨mb, qb⟩ := HMQ.out
            go_wp2
            refine bodyPost_ret (results_row27 rfl _ _ kk 37 #[.slice a1 KN c1', .int .i64 x, .slice none 0 0, .int .i64 (m : Int), .int .i64 (q : Int)] (0, 0) _ (.int .i64 (z : Int)) (by rfl) (by rfl) (H60.out.put _ _ _ _ _) Tryz.underlying37 rfl sizeCell) rfl ?_
            refine ⟨a1, KN, c1', x, none, 0, 0, (m : Int), (q : Int), (z : Int), rfl, hidden HEND.out.1, hidden (.inr ⟨z, _, rfl, HIS.out, ?_, rfl, rfl, rfl, rfl, ?_, OwnB.nil _ _⟩)⟩
            · rw [HPRE.out]; exact HKN.out.symm
            · rw [HPRE.out, hkk]; exact HEND.out.2
        · have HNO := hidden (no_ct HLT.out HV1.out HD1.out (by rw [HX.out]; exact hx1') hm (by rw [HT2.out]; exact HD3.out) hs3l he5)
          obtain ⟨⟨r1, r2, r3⟩, hr⟩ : ∃ r, rUx l (s3 : Int) = r := ⟨_, rfl⟩
          rw [hr] at H5 he5
          simp only at H5 he5
          have H35 : Hid (∀ (p : Int) (a b c : Int), (p = (t2 : Int) ∧ a = (m : Int) ∧ b = (s3 : Int) ∧ c = 0) ∨ (p = (s3 : Int) ∧ a = r1 ∧ b = r2 ∧ c = r3) → Calls Tryz.prog 51 #[.slice (some ⟨g, off, none⟩) n cap, .int .i64 p] u4 fun e w' => e = .returned (.tuple #[.int .u64 a, .int .i64 b, .int .i64 c]) ∧ w' = u4) := hidden (by
            rintro p a b c (⟨rfl, rfl, rfl, rfl⟩ | ⟨rfl, rfl, rfl, rfl⟩)
            · exact H3.out
            · exact H5.out)
          clear hr hx1' hm hs3l
          go_wp2_with (first | (go_at_call 51; first | with_reducible refine same_call (H35.out _ _ _ _ (.inl ⟨rfl, rfl, rfl, rfl⟩)) ?_ | with_reducible refine same_call (H35.out _ _ _ _ (.inr ⟨rfl, rfl, rfl, rfl⟩)) ?_))
          refine bodyPost_ret (results_row27 rfl _ _ kk 37 #[.slice none 0 0, .int .i64 0, .slice none 0 0, .int .i64 0, .int .i64 0] (0, 0) _ (.int .i64 0) (by rfl) (by rfl) (HM2.out.1.put _ _ _ _ _) Tryz.underlying37 rfl sizeCell) rfl ?_
          have hf := put5_cf u4 kk (.slice none 0 0) (.int .i64 0) (.slice none 0 0) (.int .i64 0) (.int .i64 0)
          refine RdTo.no ?_ HNO.out
          rw [hkk]
          exact HM2.out.2.2.2.1.trans (hf.below HM2.out.2.2.2.2 (fun j hj e => by omega))
    · have HNO := hidden (no_tail HLT.out HV1.out HD1.out (by rw [HL.out, HT2.out]; exact HT2N.out) (by rw [HT2.out]; exact he3))
      obtain ⟨⟨r1, r2, r3⟩, hr⟩ : ∃ r, rUx l (t2 : Int) = r := ⟨_, rfl⟩
      rw [hr] at H3 he3
      simp only at H3 he3
      have he4 : (r3 != 0) = true := by simpa using he3
      clear hr e0 e1 e2 e3 e4 k0 k1 k2 k3 k4 he3
      go_wp2_with (first | (go_at_call 51; with_reducible refine same_call H3.out ?_))
      refine bodyPost_ret (results_row27 rfl _ _ kk 37 #[.slice none 0 0, .int .i64 0, .slice none 0 0, .int .i64 0, .int .i64 0] (0, 0) _ (.int .i64 0) (by rfl) (by rfl) (HM2.out.1.put _ _ _ _ _) Tryz.underlying37 rfl sizeCell) rfl ?_
      have hf := put5_cf u4 kk (.slice none 0 0) (.int .i64 0) (.slice none 0 0) (.int .i64 0) (.int .i64 0)
      refine RdTo.no ?_ HNO.out
      rw [hkk]
      exact HM2.out.2.2.2.1.trans (hf.below HM2.out.2.2.2.2 (fun j hj e => by omega))
end Go.Proofs.YtobfkcepjnjfpaaGreatDoor
