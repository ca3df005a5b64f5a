import Derived.Test.YtbkhjeacmmbabaaGreatDoorJ40
namespace Go.Proofs.YtbkhjeacmmbabaaGreatDoor
set_option maxRecDepth 100000
open Go.RowKit
set_option maxHeartbeats 8000000 in
theorem rread_whole (g off n cap : Nat) (l : List Int) (at_ : Nat) (k : Int) (i : Nat) (po : Option Addr) (pn pc : Nat) (P : List Int) (w : World) (hs : Sl w (some ⟨g, off, none⟩) n cap l) (hn : n ≤ 65536) (hP : Sl w po pn pc P) (_hpn : pn ≤ 65536) (_hi : i ≤ 65536) (ha : at_ < n) (he : (rUx l ((at_ + 1 : Nat) : Int)).2.2 = 0) (v t : Nat) (hvt : rUx l ((at_ + 1 : Nat) : Int) = ((v : Int), (t : Int), 0)) (hok : t + v ≤ n) (hki : k = 3 ∧ i = 0) :
  Calls Tryz.prog 58 #[.slice (some ⟨g, off, none⟩) n cap, .int .i64 (at_ : Int), .int .i64 k, .int .i64 (i : Int), .slice po pn pc] w (RdTo l at_ k i P w) := by
 have HS := zaa hs
 have HP := zaa hP
 have hlen := hs.hlen
 have hcap := hs.hcap
 have hnI : (n : Int) ≤ 65536 := by omega
 obtain ⟨kk, hkk⟩ : ∃ kk, w.heap.size = kk := ⟨_, rfl⟩
 have hgl : g < kk := by
  rcases hs.hat with h0 | ⟨b, o, e, hb, _⟩
  ·omega
  ·cases e; omega
 have HGL := zaa hgl
 have hlt : at_ < l.length := by omega
 obtain ⟨x, hx⟩ : ∃ x, l.getD at_ 0 = x := ⟨_, rfl⟩
 have hby := hs.wf.getD at_
 rw [hx] at hby
 obtain ⟨hx0, hx1⟩ := hby
 have b0 : (w.alloc (.cells #[.slice none 0 0, .int .i64 0, .slice none 0 0, .int .i64 0, .int .i64 0] 50)).cell? ⟨g, off + at_, none⟩ = some (.int .u8 x) := by
  rcases hs.hat with h0 | ⟨b, o, e, hb, hc⟩
  ·omega
  ·cases e
   rw [← hx]
   exact ((zad (Below.refl w.heap.size w) Lr _).cell (p := ⟨g, off + at_, none⟩) hb).trans (hc at_ (by omega))
 have TB := two_box7 w (.slice none 0 0) (.int .i64 x) (.slice none 0 0) (.int .i64 0) (.int .i64 0)
 rw [hkk] at TB
 obtain ⟨y2, hy2⟩ : ∃ y2, (w.alloc (.cells #[.slice none 0 0, .int .i64 0, .slice none 0 0, .int .i64 0, .int .i64 0] 50)).alloc (.cells #[.slice none 0 0, .int .i64 x, .slice none 0 0, .int .i64 0, .int .i64 0] 50) = y2 := ⟨_, rfl⟩
 rw [hy2] at TB
 have HM0 : Hid (Md7 w y2 kk (.slice none 0 0) x []) := zaa ⟨TB.1, TB.2.1, OwnB.nil _ _, TB.2.2, by have := zaf TB.1; omega⟩
 have haI : ¬ (n : Int) ≤ (at_ : Int) := by omega
 have haJ : (at_ : Int) < (n : Int) := by omega
 have h0 : ¬ (at_ : Int) < 0 := by omega
 have HSU : Hid (∀ u, Below kk w u → Sl u (some ⟨g, off, none⟩) n cap l) := zaa fun u hu => HS.out.on (by rw [hkk]; exact Lr) hu
 have HPU : Hid (∀ u, Below kk w u → Sl u po pn pc P) := zaa fun u hu => HP.out.on (by rw [hkk]; exact Lr) hu
 have HRU : Hid (∀ (p : Int) u, Below kk w u → Calls Tryz.prog 100 #[.slice (some ⟨g, off, none⟩) n cap, .int .i64 p] u fun e w' => e = .returned (.tuple #[.int .u64 (rUx l p).1, .int .i64 (rUx l p).2.1, .int .i64 (rUx l p).2.2]) ∧ w' = u) := zaa fun p u hu => zee _ n cap l p u (HSU.out u hu)
 have HY2 : Hid (Below kk w y2) := zaa TB.2.2
 clear TB
 obtain ⟨v1, t1, hr1, hd1, ht1, ht1l, hv1⟩ := ru_ok hs.wf (by omega) he
 have H1 := zaa ((HRU.out ((at_ + 1 : Nat) : Int) y2 HY2.out).mono fun e w' h => (And.intro h.1 (zaa h.2) : _ ∧ Hid (w' = y2)))
 rw [hr1] at H1
 simp only at H1
 obtain ⟨s1, hs1⟩ : ∃ s1, at_ + 1 = s1 := ⟨_, rfl⟩
 have hsI : (at_ : Int) + 1 = (s1 : Int) := by omega
 rw [hs1] at H1
 have t1b : (t1 : Int) ≤ 65536 := by omega
 obtain ⟨rfl, rfl⟩ : v1 = v ∧ t1 = t := by
  rw [hvt] at hr1
  injection hr1 with q1 q2
  injection q2 with q2 _
  omega
 have HPRE : Hid (pre7 k i P = []) := zaa (by unfold pre7; rw [if_pos hki])
 obtain ⟨po1, pc1, hp1, hp2, hp3⟩ := part_yes g off n cap t1 v1 l w hs hn hok
 have HP1 := zaa hp1
 have HR1 : Hid (∀ u, Below kk w u → Sl u po1 v1 pc1 ((l.drop t1).take v1)) := zaa (by rw [← hkk]; exact hp2)
 have HG1 : Hid (∀ p, po1 = some p → p.block < kk) := zaa fun p hp => by rw [hp3 p hp]; exact hgl
 obtain ⟨t2, ht2⟩ : ∃ t2, t1 + v1 = t2 := ⟨_, rfl⟩
 have ht2I : (t1 : Int) + (v1 : Int) = (t2 : Int) := by omega
 have t2b : (t2 : Int) ≤ 65536 := by omega
 have v1b : (v1 : Int) ≤ 65536 := by omega
 have HPL := zaa hP.hlen
 have HL := zaa hlen
 have HLT := zaa hlt
 have HX := zaa hx
 have HD1 := zaa hd1
 have HT1 := zaa ht1
 have HT2 := zaa ht2
 have HT2N : Hid (t2 ≤ n) := zaa (by omega)
 have HV1 := zaa hv1
 have HWF := zaa hs.wf
 have hiI : (i : Int) ≤ 65536 := by omega
 have hR1l : ((l.drop t1).take v1).length = v1 := by rw [zJ, zK]; omega
 obtain ⟨R1, hR1⟩ : ∃ R1, (l.drop t1).take v1 = R1 := ⟨_, rfl⟩
 rw [hR1] at HR1 hR1l
 have HRR := zaa hR1
 have HRL := zaa hR1l
 have HAA : Hid (∀ u, Md7 w u kk (.slice none 0 0) x [] → Calls Tryz.prog 101 #[.slice none 0 0, .slice po1 v1 pc1] u fun e w' => ∃ v', e = .returned v' ∧ Hid (OwnB w' kk v' ([] ++ R1)) ∧ Hid (Gr u (.slice none 0 0) w' v')) := zaa fun u hu => zcf (.slice none 0 0) kk [] R1 po1 v1 pc1 u (OwnB.nil _ _) (HR1.out u hu.2.2.2.1) (.inr fun p _ => by simp [Value.ownBlock]) (by simp; omega) hu.2.2.2.2
 obtain ⟨rfl, rfl⟩ := hki
 clear hs hP hlen hcap hx hr1 hvt hgl hlt hs1 hd1 ht1 he hok hp1 hp2 hp3 ht2 hR1 hR1l ht1l hv1
 subst hy2
 all_goals
  go_enter Tryz.func58, Tryz.ntmps58
  go_wp2_with (go_at_call 100; refine H1.out.mono ?_; rintro e w1 ⟨rfl, hw1⟩; refine Hid.out ?_)
  apply zaa
  have HM1 : Hid (Md7 w w1 kk (.slice none 0 0) x []) := zaa (by rw [hw1.out]; exact HM0.out)
  have H2 := zaa (HP1.out w1)
  have HA1 := zaa (HAA.out w1 HM1.out)
  obtain ⟨g0, g1, g2, g3, g4⟩ := HM1.out.2.1.cells
  clear HM0 hw1 H1 b0 HY2 HP1 HAA
  go_wp2_with (first
   | (go_at_call 57; refine zac H2.out ?_)
   | (go_at_call 101; refine HA1.out.mono ?_; rintro e u3 ⟨v3, rfl, HO1, HG3⟩; refine Hid.out ?_))
  apply zaa
  clear g0 g1 g2 g3 g4 H2
  obtain ⟨KN, hKN⟩ : ∃ KN, ([] ++ R1).length = KN := ⟨_, rfl⟩
  obtain ⟨a1, c1', rfl⟩ := zdy HO1.out
  rw [hKN] at HO1 HG3 ⊢
  have HKN := zaa hKN
  have HM2 := zaa (HM1.out.key HO1.out HG3.out)
  have h52 := HM1.out.2.1.gr7 HG3.out (HM1.out.2.2.1.apart5 HM1.out.2.1)
  obtain ⟨d0, d1, d2, d3, d4⟩ := h52.cells
  obtain ⟨f0, f1, f2, f3, f4⟩ := h52.free
  obtain ⟨u4, hu4⟩ : ∃ u4, u3.setCell ⟨kk + 1, 0, none⟩ (.slice a1 KN c1') = u4 := ⟨_, rfl⟩
  rw [hu4] at HM2
  have H3 := zaa (HRU.out (t2 : Int) u4 HM2.out.2.2.2.1)
  have hw4 := HM2.out.2.2.2.1
  have HW4 := zaa hw4
  obtain ⟨e0, e1, e2, e3, e4⟩ := HM2.out.2.1.cells
  obtain ⟨k0, k1, k2, k3, k4⟩ := HM2.out.2.1.free
  obtain ⟨c0, c1, c2, c3, c4⟩ := HM2.out.1.cells
  obtain ⟨j0, j1, j2, j3, j4⟩ := HM2.out.1.free
  clear h52 hw4 HA1 hKN HO1 HG3
  by_cases he3 : (rUx l (t2 : Int)).2.2 = 0
  ·obtain ⟨m, s3, hr3, hd3, hs3, hs3l, hm⟩ := ru_ok HWF.out (by rw [HL.out]; exact HT2N.out) he3
   rw [hr3] at H3
   simp only at H3
   have s3b : (s3 : Int) ≤ 65536 := by have := HL.out; omega
   have HD3 := zaa hd3
   have HS3 := zaa hs3
   have HMB := zaa hm
   have HS3L := zaa hs3l
   clear he3 hr3 hd3 hs3
   by_cases hx1' : x = 1
   ·by_cases hv2 : s3 + m ≤ n
    ·obtain ⟨po2, pc2, hq1, hq2, hq3⟩ := part_yes g off n cap s3 m l w HS.out hn hv2
     have H4 := zaa (hq1 u4)
     have hR2l : ((l.drop s3).take m).length = m := by rw [zJ, zK, HL.out]; omega
     obtain ⟨R2, hR2⟩ : ∃ R2, (l.drop s3).take m = R2 := ⟨_, rfl⟩
     rw [hR2] at hq2 hR2l
     have HA2 := zaa (zcf (.slice none 0 0) kk [] R2 po2 m pc2 u4 (OwnB.nil _ _) (hq2 u4 (by rw [hkk]; exact HW4.out)) (.inr fun p _ => by simp [Value.ownBlock]) (by simp; omega) HM2.out.2.2.2.2)
     rw [List.nil_append] at HA2
     have HIS := zaa (is_val HWF.out (by rw [HL.out]; exact hn) HLT.out HD1.out (by have := HT1.out; omega) (by rw [HL.out, HT2.out]; exact HT2N.out) (by rw [HX.out]; exact hx1') (by rw [HT2.out]; exact HD3.out) (by rw [HT2.out]; exact HS3.out) (by rw [HL.out]; exact hv2))
     rw [HRR.out, hR2] at HIS
     have HR2L := zaa hR2l
     obtain ⟨t4, ht4⟩ : ∃ t4, s3 + m = t4 := ⟨_, rfl⟩
     have ht4I : (s3 : Int) + (m : Int) = (t4 : Int) := by omega
     have mb : (m : Int) ≤ 65536 := by omega
     have t4b : (t4 : Int) ≤ 65536 := by omega
     rw [ht4] at HIS
     clear hq1 hq2 hq3 hR2 hR2l hv2 ht4 hm hs3l
     subst hx1'
     go_wp2_with (first
      | (go_at_call 100; refine zac H3.out ?_)
      | (go_at_call 57; refine zac H4.out ?_)
      | (go_at_call 101; refine HA2.out.mono ?_; rintro e u5 ⟨v5, rfl, HO5, HG5⟩; refine Hid.out ?_))
     apply zaa
     obtain ⟨a5, c5', rfl⟩ := zdy HO5.out
     rw [HR2L.out] at HO5 HG5 ⊢
     have q51 := HM2.out.2.1.gr7 HG5.out (by simp [Value.ownBlock])
     have q50 := HM2.out.1.gr7 HG5.out (by simp [Value.ownBlock])
     have hk5 : OwnB u5 kk (.slice a1 KN c1') ([] ++ R1) := World.ownsRow.kept HM2.out.2.2.1 HG5.out.grow (by
      cases hz : (Value.slice a1 KN c1').ownBlock with
      | none => exact .inl rfl
      | some z => exact .inr (by simp [Value.ownBlock]))
     have hb5 : Below kk u4 u5 := HG5.out.below (OwnB.nil u4 kk) HM2.out.2.2.2.2
     have hs5 := hb5.size
     have hk4 := HM2.out.2.2.2.2
     have hc6 := Cf.set u5 (kk + 1) 2 (.slice a5 m c5')
     have q61 := (q51.set (.slice a5 m c5')).2.2.1
     have q60 := q50.cf hc6 (by omega)
     have hk6 := hk5.c5 hc6 q51
     have hv6 := HO5.out.c5 hc6 q51
     obtain ⟨u6, hu6⟩ : ∃ u6, u5.setCell ⟨kk + 1, 2, none⟩ (.slice a5 m c5') = u6 := ⟨_, rfl⟩
     have hs6 := hc6.size
     rw [hu6] at q61 q60 hk6 hv6 hc6 hs6
     have hc7 := zas u6 kk (.slice a1 KN c1') (.int .i64 1) (.slice a5 m c5') (.int .i64 0) (.int .i64 0)
     have HEND : Hid (Below w.heap.size w (put5 u6 kk (.slice a1 KN c1') (.int .i64 1) (.slice a5 m c5') (.int .i64 0) (.int .i64 0)) ∧ OwnB (put5 u6 kk (.slice a1 KN c1') (.int .i64 1) (.slice a5 m c5') (.int .i64 0) (.int .i64 0)) kk (.slice a1 KN c1') ([] ++ R1) ∧ OwnB (put5 u6 kk (.slice a1 KN c1') (.int .i64 1) (.slice a5 m c5') (.int .i64 0) (.int .i64 0)) kk (.slice a5 m c5') R2) := zaa ⟨by
      rw [hkk]
      exact (HM2.out.2.2.2.1.trans hb5).trans ((hc6.below (by omega) (fun j hj e => by omega)).trans (hc7.below (by omega) (fun j hj e => by omega))), hk6.c5 hc7 q60, hv6.c5 hc7 q60⟩
     have H60 := zaa q60
     obtain ⟨x0, x1, x2, x3, x4⟩ := q51.cells
     obtain ⟨y0, y1, y2', y3, y4⟩ := q51.free
     obtain ⟨z0, z1, z2, z3, z4⟩ := q61.cells
     obtain ⟨o0, o1, o2, o3, o4⟩ := q60.cells
     obtain ⟨n0, n1, n2, n3, n4⟩ := q60.free
     clear q51 q50 hk5 hb5 hs5 hk4 hc6 q61 q60 hk6 hv6 hs6 hc7 e0 e1 e2 e3 e4 k0 k1 k2 k3 k4 c0 c1 c2 c3 c4 j0 j1 j2 j3 j4 d0 d1 d2 d3 d4 f0 f1 f2 f3 f4 hu4
     go_wp2
     refine bodyPost_ret (zbd rfl _ _ kk 50 #[.slice a1 KN c1', .int .i64 1, .slice a5 m c5', .int .i64 0, .int .i64 0] (0, 0) _ (.int .i64 (t4 : Int)) (by rfl) (by rfl) (H60.out.put _ _ _ _ _) Tryz.underlying50 rfl zal) rfl ?_
     refine ⟨a1, KN, c1', 1, a5, m, c5', 0, 0, (t4 : Int), rfl, zaa HEND.out.1, zaa (.inr ⟨t4, _, rfl, HIS.out, ?_, ?_, rfl, rfl, rfl, ?_, ?_⟩)⟩
     ·rw [HPRE.out]; exact HKN.out.symm
     ·exact HR2L.out.symm
     ·rw [HPRE.out, hkk]; exact HEND.out.2.1
     ·rw [hkk]; exact HEND.out.2.2
    ·have H4 := zaa (part_no (some ⟨g, off, none⟩) n cap s3 (m : Int) u4 (by have := HL.out; omega) hn (by omega))
     have HNO := zaa (no_val HLT.out HV1.out HD1.out (by rw [HX.out]; exact hx1') hm (by rw [HT2.out]; exact HD3.out) hs3l (by rw [HL.out]; omega))
     clear hv2 hm hs3l
     subst hx1'
     go_wp2_with (first | (go_at_call 100; refine zac H3.out ?_) | (go_at_call 57; refine zac H4.out ?_))
     refine bodyPost_ret (zbd rfl _ _ kk 50 #[.slice none 0 0, .int .i64 0, .slice none 0 0, .int .i64 0, .int .i64 0] (0, 0) _ (.int .i64 0) (by rfl) (by rfl) (HM2.out.1.put _ _ _ _ _) Tryz.underlying50 rfl zal) rfl ?_
     have hf := zas u4 kk (.slice none 0 0) (.int .i64 0) (.slice none 0 0) (.int .i64 0) (.int .i64 0)
     refine RdTo.no ?_ HNO.out
     rw [hkk]
     exact HM2.out.2.2.2.1.trans (hf.below HM2.out.2.2.2.2 (fun j hj e => by omega))
   ·have hxb : (x == 1) = false := by simpa using hx1'
    have H5 := zaa (HRU.out (s3 : Int) u4 HM2.out.2.2.2.1)
    by_cases he5 : (rUx l (s3 : Int)).2.2 = 0
    ·obtain ⟨q, z, hr5, hd5, hz5, hz5l, hq⟩ := ru_ok HWF.out hs3l he5
     rw [hr5] at H5
     simp only at H5
     have zb : (z : Int) ≤ 65536 := by have := HL.out; omega
     have H35 : Hid (∀ (p : Int) (a b c : Int), (p = (t2 : Int) ∧ a = (m : Int) ∧ b = (s3 : Int) ∧ c = 0) ∨ (p = (s3 : Int) ∧ a = (q : Int) ∧ b = (z : Int) ∧ c = 0) → Calls Tryz.prog 100 #[.slice (some ⟨g, off, none⟩) n cap, .int .i64 p] u4 fun e w' => e = .returned (.tuple #[.int .u64 a, .int .i64 b, .int .i64 c]) ∧ w' = u4) := zaa (by
      rintro p a b c (⟨rfl, rfl, rfl, rfl⟩ | ⟨rfl, rfl, rfl, rfl⟩)
      ·exact H3.out
      ·exact H5.out)
     clear he5 hr5
     by_cases hbig : 65536 < m ∨ 1073741824 < q
     ·have HNO := zaa (no_big HLT.out HV1.out HD1.out (by rw [HX.out]; exact hx1') hm (by rw [HT2.out]; exact HD3.out) hq hd5 hbig)
      have hbb : (decide ((65536 : Int) < (m : Int)) = true) ∨ (decide ((65536 : Int) < (m : Int)) = false ∧ decide ((1073741824 : Int) < (q : Int)) = true) := by
       by_cases hm6 : 65536 < m
       ·exact .inl (by simp; omega)
       ·exact .inr ⟨by simp; omega, by simp; omega⟩
      clear hbig hd5 hz5 hx1' hz5l hs3l
      rcases hbb with hb6 | ⟨hb6, hb7⟩
      all_goals
       go_wp2_with (go_at_call 100; first | with_reducible refine zac (H35.out _ _ _ _ (.inl ⟨rfl, rfl, rfl, rfl⟩)) ?_ | with_reducible refine zac (H35.out _ _ _ _ (.inr ⟨rfl, rfl, rfl, rfl⟩)) ?_)
       refine bodyPost_ret (zbd rfl _ _ kk 50 #[.slice none 0 0, .int .i64 0, .slice none 0 0, .int .i64 0, .int .i64 0] (0, 0) _ (.int .i64 0) (by rfl) (by rfl) (HM2.out.1.put _ _ _ _ _) Tryz.underlying50 rfl zal) rfl ?_
       have hf := zas u4 kk (.slice none 0 0) (.int .i64 0) (.slice none 0 0) (.int .i64 0) (.int .i64 0)
       refine RdTo.no ?_ HNO.out
       rw [hkk]
       exact HM2.out.2.2.2.1.trans (hf.below HM2.out.2.2.2.2 (fun j hj e => by omega))
     ·have HIS := zaa (is_ct HWF.out (by rw [HL.out]; exact hn) HLT.out HD1.out (by have := HT1.out; omega) (by rw [HL.out, HT2.out]; exact HT2N.out) (by rw [HX.out]; exact hx1') (by rw [HT2.out]; exact HD3.out) (by rw [HT2.out]; exact HS3.out) hd5 hz5 hz5l (by omega) (by omega))
      rw [HRR.out, HX.out] at HIS
      have mb : (m : Int) ≤ 65536 := by omega
      have qb : (q : Int) ≤ 1073741824 := by omega
      have hc5 := Cf.set u4 (kk + 1) 3 (.int .i64 (m : Int))
      have q51 := (HM2.out.2.1.set (.int .i64 (m : Int))).2.2.2.1
      have hc6 := Cf.set (u4.setCell ⟨kk + 1, 3, none⟩ (.int .i64 (m : Int))) (kk + 1) 4 (.int .i64 (q : Int))
      have q61 := (q51.set (.int .i64 (q : Int))).2.2.2.2
      have hcc := hc5.go hc6
      have q60 := HM2.out.1.cf hcc (by omega)
      have hk6 := HM2.out.2.2.1.c5 hcc HM2.out.2.1
      have hs6 := hcc.size
      have hk4 := HM2.out.2.2.2.2
      obtain ⟨u5, hu5⟩ : ∃ u5, u4.setCell ⟨kk + 1, 3, none⟩ (.int .i64 (m : Int)) = u5 := ⟨_, rfl⟩
      rw [hu5] at q51 q61 q60 hk6 hcc hs6
      obtain ⟨u6, hu6⟩ : ∃ u6, u5.setCell ⟨kk + 1, 4, none⟩ (.int .i64 (q : Int)) = u6 := ⟨_, rfl⟩
      rw [hu6] at q61 q60 hk6 hcc hs6
      have hc7 := zas u6 kk (.slice a1 KN c1') (.int .i64 x) (.slice none 0 0) (.int .i64 (m : Int)) (.int .i64 (q : Int))
      have HEND : Hid (Below w.heap.size w (put5 u6 kk (.slice a1 KN c1') (.int .i64 x) (.slice none 0 0) (.int .i64 (m : Int)) (.int .i64 (q : Int))) ∧ OwnB (put5 u6 kk (.slice a1 KN c1') (.int .i64 x) (.slice none 0 0) (.int .i64 (m : Int)) (.int .i64 (q : Int))) kk (.slice a1 KN c1') ([] ++ R1)) := zaa ⟨by
       rw [hkk]
       exact HM2.out.2.2.2.1.trans ((hcc.below (by omega) (fun j hj e => by omega)).trans (hc7.below (by omega) (fun j hj e => by omega))), hk6.c5 hc7 q60⟩
      have H60 := zaa q60
      obtain ⟨x0, x1, x2, x3, x4⟩ := q51.cells
      obtain ⟨y0, y1, y2', y3, y4⟩ := q51.free
      obtain ⟨z0, z1, z2, z3, z4⟩ := q61.cells
      obtain ⟨o0, o1, o2, o3, o4⟩ := q60.cells
      obtain ⟨n0, n1, n2, n3, n4⟩ := q60.free
      clear q51 hc5 hc6 q61 hcc q60 hk6 hs6 hk4 hc7 hbig hd5 hz5 hx1' hz5l hs3l hm hq c0 c1 c2 c3 c4 j0 j1 j2 j3 j4
      have HMQ := zaa (And.intro mb qb)
      have hb6 : decide ((65536 : Int) < (m : Int)) = false := by simp; omega
      have hb7 : decide ((1073741824 : Int) < (q : Int)) = false := by simp; omega
      clear mb qb
      go_wp2_with (go_at_call 100; first | with_reducible refine zac (H35.out _ _ _ _ (.inl ⟨rfl, rfl, rfl, rfl⟩)) ?_ | (with_reducible refine zac (H35.out _ _ _ _ (.inr ⟨rfl, rfl, rfl, rfl⟩)) ?_; refine Hid.out ?_))
      apply zaa
      go_upto_region 26 with fail
      obtain ⟨mb, qb⟩ := HMQ.out
      go_wp2
      refine bodyPost_ret (zbd rfl _ _ kk 50 #[.slice a1 KN c1', .int .i64 x, .slice none 0 0, .int .i64 (m : Int), .int .i64 (q : Int)] (0, 0) _ (.int .i64 (z : Int)) (by rfl) (by rfl) (H60.out.put _ _ _ _ _) Tryz.underlying50 rfl zal) rfl ?_
      refine ⟨a1, KN, c1', x, none, 0, 0, (m : Int), (q : Int), (z : Int), rfl, zaa HEND.out.1, zaa (.inr ⟨z, _, rfl, HIS.out, ?_, rfl, rfl, rfl, rfl, ?_, OwnB.nil _ _⟩)⟩
      ·rw [HPRE.out]; exact HKN.out.symm
      ·rw [HPRE.out, hkk]; exact HEND.out.2
    ·have HNO := zaa (no_ct HLT.out HV1.out HD1.out (by rw [HX.out]; exact hx1') hm (by rw [HT2.out]; exact HD3.out) hs3l he5)
     obtain ⟨⟨r1, r2, r3⟩, hr⟩ : ∃ r, rUx l (s3 : Int) = r := ⟨_, rfl⟩
     rw [hr] at H5 he5
     simp only at H5 he5
     have H35 : Hid (∀ (p : Int) (a b c : Int), (p = (t2 : Int) ∧ a = (m : Int) ∧ b = (s3 : Int) ∧ c = 0) ∨ (p = (s3 : Int) ∧ a = r1 ∧ b = r2 ∧ c = r3) → Calls Tryz.prog 100 #[.slice (some ⟨g, off, none⟩) n cap, .int .i64 p] u4 fun e w' => e = .returned (.tuple #[.int .u64 a, .int .i64 b, .int .i64 c]) ∧ w' = u4) := zaa (by
      rintro p a b c (⟨rfl, rfl, rfl, rfl⟩ | ⟨rfl, rfl, rfl, rfl⟩)
      ·exact H3.out
      ·exact H5.out)
     clear hr hx1' hm hs3l
     go_wp2_with (go_at_call 100; first | with_reducible refine zac (H35.out _ _ _ _ (.inl ⟨rfl, rfl, rfl, rfl⟩)) ?_ | with_reducible refine zac (H35.out _ _ _ _ (.inr ⟨rfl, rfl, rfl, rfl⟩)) ?_)
     refine bodyPost_ret (zbd rfl _ _ kk 50 #[.slice none 0 0, .int .i64 0, .slice none 0 0, .int .i64 0, .int .i64 0] (0, 0) _ (.int .i64 0) (by rfl) (by rfl) (HM2.out.1.put _ _ _ _ _) Tryz.underlying50 rfl zal) rfl ?_
     have hf := zas u4 kk (.slice none 0 0) (.int .i64 0) (.slice none 0 0) (.int .i64 0) (.int .i64 0)
     refine RdTo.no ?_ HNO.out
     rw [hkk]
     exact HM2.out.2.2.2.1.trans (hf.below HM2.out.2.2.2.2 (fun j hj e => by omega))
  ·have HNO := zaa (no_tail HLT.out HV1.out HD1.out (by rw [HL.out, HT2.out]; exact HT2N.out) (by rw [HT2.out]; exact he3))
   obtain ⟨⟨r1, r2, r3⟩, hr⟩ : ∃ r, rUx l (t2 : Int) = r := ⟨_, rfl⟩
   rw [hr] at H3 he3
   simp only at H3 he3
   have he4 : (r3 != 0) = true := by simpa using he3
   clear hr e0 e1 e2 e3 e4 k0 k1 k2 k3 k4 he3
   go_wp2_with (go_at_call 100; with_reducible refine zac H3.out ?_)
   refine bodyPost_ret (zbd rfl _ _ kk 50 #[.slice none 0 0, .int .i64 0, .slice none 0 0, .int .i64 0, .int .i64 0] (0, 0) _ (.int .i64 0) (by rfl) (by rfl) (HM2.out.1.put _ _ _ _ _) Tryz.underlying50 rfl zal) rfl ?_
   have hf := zas u4 kk (.slice none 0 0) (.int .i64 0) (.slice none 0 0) (.int .i64 0) (.int .i64 0)
   refine RdTo.no ?_ HNO.out
   rw [hkk]
   exact HM2.out.2.2.2.1.trans (hf.below HM2.out.2.2.2.2 (fun j hj e => by omega))
theorem mayP.gd {k : Int} {n : Nat} {c : Cl} (h : mayP k n c) (hn : n ≤ 65536) (m : Nat) : Gd7 (c.cut m) := by
 have hk := h.1
 have hd : (c.key.drop m).length ≤ c.key.length := by rw [zK]; omega
 unfold mayP zcc zcg at h
 obtain ⟨h1, h2⟩ := h
 unfold Cl.cut
 rcases h2 with ⟨_, h3, h4, h5, h6⟩ | ⟨_, _, ⟨h3, h4, h5⟩ | ⟨h3, h4, h5⟩ | ⟨h3, h4, h5⟩⟩
 ·exact ⟨by simp only; omega, by simp only; omega, fun e => by simp only at e; omega, fun _ => ⟨h4, by simp only; omega, by simp only; omega, by simp only; omega, by simp only; omega⟩, by simp only; omega, by simp only [h4]; simp⟩
 ·exact ⟨by simp only; omega, by simp only; omega, fun _ => ⟨by simp only; omega, by simp only; omega⟩, fun e => by simp only at e; omega, by simp only; omega, by simp only; omega⟩
 ·exact ⟨by simp only; omega, by simp only; omega, fun e => by simp only at e; omega, fun _ => ⟨h4, by simp only; omega, by simp only; omega, by simp only; omega, by simp only; omega⟩, by simp only; omega, by simp only [h4]; simp⟩
 ·exact ⟨by simp only; omega, by simp only; omega, fun e => by simp only at e; omega, fun _ => ⟨h4, by simp only; omega, by simp only; omega, by simp only; omega, by simp only; omega⟩, by simp only; omega, by simp only [h4]; simp⟩
theorem qB_cut (m : Nat) (c : Cl) : qB m c = qB 0 (c.cut m) := by
 unfold qB Cl.cut
 simp
theorem qB_inj {c d : Cl} {R S : List Int} (hc : Gd7 c) (hd : Gd7 d) (h : qB 0 c ++ R = qB 0 d ++ S) : c = d ∧ R = S := by
 rw [zdb, zdb] at h
 injection h with h0 h1
 have c1 := hc.k0
 have c2 := hc.k1
 have d1 := hd.k0
 have d2 := hd.k1
 have hk : c.kd = d.kd := by omega
 have l1 := hc.l1
 have l2 := hd.l1
 have l3 := hc.l2
 have l4 := hd.l2
 obtain ⟨e1, e2⟩ := uB_inj (by omega) (by omega) (by omega) (by omega) h1
 have hkl : c.key.length = d.key.length := by omega
 obtain ⟨e3, e4⟩ := List.append_inj e2 hkl
 obtain ⟨ck, ckd, cv, cp, cc⟩ := c
 obtain ⟨dk, dkd, dv, dp, dc⟩ := d
 simp only at hk e3 hkl l3 l4
 subst hk
 subst e3
 unfold qtl at e4
 simp only at e4
 by_cases h1 : ckd = 1
 ·rw [if_pos h1, if_pos h1, zM, zM] at e4
  obtain ⟨e5, e6⟩ := uB_inj (by omega) (by omega) (by omega) (by omega) e4
  obtain ⟨e7, e8⟩ := List.append_inj e6 (by omega)
  have g1 := hc.v1 h1
  have g2 := hd.v1 h1
  simp only at g1 g2
  subst e7
  exact ⟨by rw [g1.1, g1.2, g2.1, g2.2], e8⟩
 ·rw [if_neg h1, if_neg h1, zM, zM] at e4
  obtain ⟨e5, e6⟩ := uB_inj (by omega) (by omega) (by omega) (by omega) e4
  obtain ⟨e7, e8⟩ := uB_inj (by omega) (by omega) (by omega) (by omega) e6
  have g1 := hc.v2 h1
  have g2 := hd.v2 h1
  simp only at g1 g2
  obtain ⟨a1, a2, a3, a4, a5⟩ := g1
  obtain ⟨b1, b2, b3, b4, b5⟩ := g2
  subst a1
  subst b1
  have q1 : cp = dp := by omega
  have q2 : cc = dc := by omega
  subst q1
  subst q2
  exact ⟨rfl, e8⟩
theorem qbd_pre7 (m : Nat) : ∀ (cs : List Cl) (f : Bool) (j : Nat), ∃ X, qbd m f cs = qbd m f (cs.take j) ++ X
 | [], f, j => ⟨[], by simp [qbd]⟩
 | c :: r, f, 0 => ⟨qbd m f (c :: r), by simp [qbd]⟩
 | c :: r, f, j + 1 => by
  obtain ⟨X, hX⟩ := qbd_pre7 m r false j
  exact ⟨X, by simp only [qbd, List.take_succ_cons, zM]; rw [hX]⟩
def offQ (k : Int) (cs : List Cl) (j : Nat) : Nat := 6 + (shP k cs).length + 2 * cs.length + (qbd (shP k cs).length (whl k) (cs.take j)).length
def cutQ (k : Int) (cs : List Cl) (j : Nat) : Nat := if whl k = true ∧ j = 0 then 0 else (shP k cs).length
theorem qtk_six {m : Nat} {c : Cl} (h : c.kd ≠ 1 ∨ m < c.key.length) : 6 ≤ qtk m c := by
 unfold qtk tL
 have h1 := zcp ((c.key.length - m : Nat) : Int)
 have h2 := zcp (c.val.length : Int)
 have h3 := zcp (c.pg % 18446744073709551616)
 have h4 := zcp (c.ct % 18446744073709551616)
 split
 ·rcases h with h | h
  ·omega
  ·omega
 ·omega
theorem qtk_five (m : Nat) (c : Cl) : 5 ≤ qtk m c := by
 unfold qtk tL
 have h1 := zcp ((c.key.length - m : Nat) : Int)
 have h2 := zcp (c.val.length : Int)
 have h3 := zcp (c.pg % 18446744073709551616)
 have h4 := zcp (c.ct % 18446744073709551616)
 split <;> omega
theorem qsm_branch (m : Nat) : ∀ (cs : List Cl) (f : Bool), (∀ c ∈ cs, c.kd ≠ 1) → 6 * cs.length ≤ qsm m f cs
 | [], _, _ => by simp
 | c :: r, f, h => by
  have h1 := qsm_branch m r false (fun d hd => h d (by simp [hd]))
  have h2 := qtk_six (m := if f then 0 else m) (c := c) (.inl (h c (by simp)))
  simp only [qsm, List.length_cons]
  omega
theorem qsm_far (P : List Int) : ∀ (cs : List Cl), (∀ c ∈ cs, P.length < c.key.length) → 6 * cs.length ≤ qsm P.length false cs
 | [], _ => by simp
 | c :: r, h => by
  have h1 := qsm_far P r (fun d hd => h d (by simp [hd]))
  have h2 := qtk_six (m := P.length) (c := c) (.inr (h c (by simp)))
  simp only [qsm, List.length_cons, Bool.false_eq_true, if_false]
  omega
theorem qsm_leaf (P : List Int) : ∀ (cs : List Cl), Rs cs → (∀ c ∈ cs, c.key.take P.length = P) → 6 * cs.length ≤ qsm P.length false cs + 1
 | [], _, _ => by simp
 | c :: r, hr, hb => by
  unfold Rs at hr
  have hp := List.pairwise_cons.1 hr
  have hl : P.length ≤ c.key.length := beg_len (hb c (by simp))
  by_cases e : P.length < c.key.length
  ·have h1 := qsm_leaf P r hp.2 (fun d hd => hb d (by simp [hd]))
   have h2 := qtk_six (m := P.length) (c := c) (.inr e)
   simp only [qsm, List.length_cons, Bool.false_eq_true, if_false]
   omega
  ·have hcP : c.key = P := by
    have := hb c (by simp)
    rwa [List.take_of_length_le (by omega)] at this
   have h1 := qsm_far P r (fun d hd => by
    have hdl : P.length ≤ d.key.length := beg_len (hb d (by simp [hd]))
    by_cases e2 : P.length < d.key.length
    ·exact e2
    ·exfalso
     have hdP : d.key = P := by
      have := hb d (by simp [hd])
      rwa [List.take_of_length_le (by omega)] at this
     have := hp.1 d hd
     rw [hcP, hdP] at this
     exact kl_irr _ this)
   have h2 := qtk_five P.length c
   simp only [qsm, List.length_cons, Bool.false_eq_true, if_false]
   omega
theorem IsQ.lay {k : Int} {n : Nat} {cs : List Cl} {b : List Int} (h : IsQ k n cs b) : b.length = n ∧ b.getD 0 0 = k ∧ rdN b 2 2 = (cs.length : Int) ∧ rdN b 4 2 = ((shP k cs).length : Int) ∧ (b.drop 6).take (shP k cs).length = shP k cs ∧ 6 + (shP k cs).length ≤ n ∧ cs.length ≤ n / 6 ∧ ∃ Z, b.drop (6 + (shP k cs).length + 2 * cs.length) = qbd (shP k cs).length (whl k) cs ++ Z := by
 have hchk := h.ok
 have hkd := h.kd
 obtain ⟨h1, h2, h3, h4, h5⟩ := h
 have hp := zao h2
 have hz := zbn k (shP k cs).length cs
 have hlen : b.length = n := by rw [← h5, zdw k n cs h4]
 have hg : b.getD 0 0 = k := by rw [← h5]; rfl
 obtain ⟨U, hU, hsp⟩ := pkB_split k n cs
 rw [h5] at hsp
 have hbeg := zce k cs
 have h6 : cs.length ≤ n / 6 := by
  have hs : 6 * cs.length ≤ qsm (shP k cs).length (whl k) cs + 1 := by
   by_cases hk3 : k = 3
   ·have := qsm_branch (shP k cs).length cs (whl k) (fun c hc => by
     have hm := zcv hchk c hc
     unfold mayP at hm
     rcases hm.2 with ⟨_, h, _⟩ | ⟨h, _⟩
     ·omega
     ·exact absurd hk3 h)
    omega
   ·have hw : whl k = false := by unfold whl; simpa using hk3
    rw [hw]
    refine qsm_leaf _ cs (chk_rs hchk) (fun c hc => hbeg c ?_)
    unfold ktl
    rw [if_neg hk3]
    exact hc
  unfold szQ at h4
  omega
 generalize shP k cs = P at *
 obtain ⟨Z, hZ⟩ : ∃ Z, zs (n - szQ k P.length cs) = Z := ⟨_, rfl⟩
 obtain ⟨S, hS⟩ : ∃ S, sloB (qst P.length (whl k) (6 + P.length + 2 * cs.length) cs) = S := ⟨_, rfl⟩
 have hSl : S.length = 2 * cs.length := by rw [← hS, zbq, zbm]
 unfold pkL at hsp
 rw [hZ, hS] at hsp
 simp only [zM] at hsp
 have hr2 : rdN b 2 2 = (cs.length : Int) := by
  rw [hsp, zcu [k, 2] (fB 2 cs.length) _ 2 2 rfl (zah _ _), zco 2 _ (by omega) (by omega)]
 have hr4 : rdN b 4 2 = (P.length : Int) := by
  rw [hsp, ← zM [k, 2], zcu ([k, 2] ++ fB 2 cs.length) (fB 2 P.length) _ 4 2 (by simp [zah]) (zah _ _), zco 2 _ (by omega) (by omega)]
 have hP6 : (b.drop 6).take P.length = P := by
  rw [hsp, ← zM (fB 2 cs.length), ← zM [k, 2], List.drop_left' (by simp [zah]), List.take_left]
 refine ⟨hlen, hg, hr2, hr4, hP6, by omega, h6, Z ++ U, ?_⟩
 have e : b = ([k, 2] ++ (fB 2 cs.length ++ (fB 2 P.length ++ (P ++ S)))) ++ (qbd P.length (whl k) cs ++ (Z ++ U)) := by
  rw [hsp]
  simp only [zM]
 rw [e, List.drop_left' (by simp only [zG, List.length_cons, List.length_nil, zah, hSl]; omega)]
theorem IsQ.cell {k : Int} {n : Nat} {cs : List Cl} {b : List Int} (h : IsQ k n cs b) {j : Nat} {c : Cl} (hc : cs[j]? = some c) : b.drop (offQ k cs j) = qB 0 (c.cut (cutQ k cs j)) ++ b.drop (offQ k cs (j + 1)) ∧ Gd7 (c.cut (cutQ k cs j)) ∧ offQ k cs (j + 1) ≤ n ∧ c.key.take (cutQ k cs j) = (if k = 3 ∧ j = 0 then [] else shP k cs) := by
 obtain ⟨hlen, _, _, _, _, _, _, Z, hZ⟩ := h.lay
 have hn := (zao h.sz).2
 have hm := zcv h.ok c (List.mem_of_getElem? hc)
 obtain ⟨X, hX⟩ := qbd_pre7 (shP k cs).length cs (whl k) j
 obtain ⟨Y, hY⟩ := qbd_pre7 (shP k cs).length cs (whl k) (j + 1)
 have h1 := qbd_take1 (shP k cs).length cs (whl k) j c hc
 have d0 : b.drop (offQ k cs j) = X ++ Z := by
  unfold offQ
  rw [← List.drop_drop, hZ, hX, zM, List.drop_left]
 have d1 : b.drop (offQ k cs (j + 1)) = Y ++ Z := by
  unfold offQ
  rw [← List.drop_drop, hZ, hY, zM, List.drop_left]
 have hXY : X = qB (cutQ k cs j) c ++ Y := by
  rw [h1, zM] at hY
  exact List.append_cancel_left (hX.symm.trans hY)
 refine ⟨?_, hm.gd hn _, ?_, ?_⟩
 ·rw [d0, d1, hXY, qB_cut, zM]
 ·have hz := zbn k (shP k cs).length cs
  have := h.fit
  have := qbd_take_le (shP k cs).length cs (whl k) (j + 1)
  unfold offQ
  omega
 ·unfold cutQ
  by_cases hk : k = 3 ∧ j = 0
  ·rw [if_pos hk, if_pos ⟨by unfold whl; simpa using hk.1, hk.2⟩, List.take_zero]
  ·rw [if_neg hk, if_neg (fun e => hk ⟨by have := e.1; unfold whl at this; simpa using this, e.2⟩)]
   refine zce k cs c ?_
   unfold ktl
   by_cases hk3 : k = 3
   ·rw [if_pos hk3]
    have hj : j ≠ 0 := fun e => hk ⟨hk3, e⟩
    obtain ⟨i, rfl⟩ : ∃ i, j = i + 1 := ⟨j - 1, by omega⟩
    cases cs with
    | nil => simp at hc
    | cons d r => exact List.mem_of_getElem? (by simpa using hc)
   ·rw [if_neg hk3]
    exact List.mem_of_getElem? hc
end Go.Proofs.YtbkhjeacmmbabaaGreatDoor
