/- The walk of TupleSorts. -/
import Derived.Test.YtmfnccffpajfnaaGreatDoorSmC
import Derived.Test.YtmfnccffpajfnaaGreatDoorWeigh2
import Derived.Test.YtmfnccffpajfnaaGreatDoorAwake
import Derived.Laws.Cover1
import Derived.Deep.DeepCutAuto
namespace Go.Proofs.YtmfnccffpajfnaaGreatDoor
open Go.RowKit

set_option maxRecDepth 100000 in
theorem three {x : Int} (h : -1 ≤ x ∧ x ≤ 1) : x = -1 ∨ x = 0 ∨ x = 1 := by omega
set_option maxRecDepth 100000 in
theorem hiB_wf {l : List Int} (h : Wf l) (hl : l.length ≤ 65536) : Wf (hiB l) ∧ (hiB l).length ≤ 65536 := by
  obtain ⟨s1, s2, _⟩ := lastNe_spec l
  unfold hiB
  split
  · exact ⟨Wf.nil, by simp⟩
  · rename_i h0
    refine ⟨?_, by rw [List.length_set, List.length_take]; omega⟩
    intro x hx
    rcases List.mem_or_eq_of_mem_set hx with hx | rfl
    · exact h x (List.mem_of_mem_take hx)
    · have h3 := h.getD (lastNe l - 1)
      have h4 := s2 (by omega)
      omega
set_option maxHeartbeats 8000000 in
set_option maxRecDepth 100000 in
theorem walk_TupleSorts (w : World) (hT : Tb w) (ao : Option Addr) (n c : Nat) (a : Its) (bo : Option Addr) (m d : Nat) (b : Its) (co : Option Addr) (k e : Nat) (cc : Its) (N : Int) (hN : -9223372036854775808 ≤ N ∧ N ≤ 9223372036854775807) (ha : SlI w Tp ao n c a) (hb : SlI w Tp bo m d b) (hc : SlI w Tp co k e cc) :
    Calls Tryz.prog 3 #[.slice ao n c, .slice bo m d, .slice co k e, .int .i64 N] w fun e w' => e = .returned (.bool true) ∧ Below w.heap.size w w' := by
  have hla := ha.hlen
  have hlb := hb.hlen
  have hca := ha.hcap
  have hcb := hb.hcap
  have hra := ha.hroom
  have hrb := hb.hroom
  have HLA := hidden hla
  have HLB := hidden hlb
  have HA := hidden ha
  have HB := hidden hb
  have HC := hidden hc
  have HTB := hidden hT
  have HON := hidden (And.intro ha.ok hb.ok)
  clear ha hb hc hT hla hlb
  go_enter Tryz.func3, Tryz.ntmps3
  go_wp2_with fail
  refine (awake_any w).mono ?_
  rintro e1 w1 ⟨rfl, hb1⟩
  have H1 := hidden hb1
  clear hb1
  go_wp2_with fail
  refine (great_any a ao n c w1 (HA.out.on (Nat.le_refl _) H1.out)).mono ?_
  rintro e1 w2 ⟨rfl, q2, hw2⟩
  have H2 : Hid (Below w.heap.size w w2) := (by rw [hw2]; exact hidden (below_draws H1.out _))
  clear hw2 H1
  by_cases ga : 100000 < wgh a 0
  · have ga' : decide (100000 < wgh a 0) = true := by simp [ga]
    rw [ga']
    clear ga ga'
    go_wp2_with fail
    go_ret
    exact ⟨rfl, H2.out⟩
  have ga' : decide (100000 < wgh a 0) = false := by simp; omega
  rw [ga']
  have hsa : a.sz ≤ 100000 := by have := wgh_sz a 0 (by omega) (by omega); omega
  clear ga ga'
  go_wp2_with fail
  refine (great_any b bo m d w2 (HB.out.on (Nat.le_refl _) H2.out)).mono ?_
  rintro e1 w3 ⟨rfl, q3, hw3⟩
  have H3 : Hid (Below w.heap.size w w3) := (by rw [hw3]; exact hidden (below_draws H2.out _))
  clear hw3 H2
  by_cases gb : 100000 < wgh b 0
  · have gb' : decide (100000 < wgh b 0) = true := by simp [gb]
    rw [gb']
    clear gb gb'
    go_wp2_with fail
    go_ret
    exact ⟨rfl, H3.out⟩
  have gb' : decide (100000 < wgh b 0) = false := by simp; omega
  rw [gb']
  have hsb : b.sz ≤ 100000 := by have := wgh_sz b 0 (by omega) (by omega); omega
  clear gb gb'
  go_wp2_with fail
  refine (great_any cc co k e w3 (HC.out.on (Nat.le_refl _) H3.out)).mono ?_
  rintro e1 w4 ⟨rfl, q4, hw4⟩
  have H4 : Hid (Below w.heap.size w w4) := (by rw [hw4]; exact hidden (below_draws H3.out _))
  clear hw4 H3
  by_cases gc : 100000 < wgh cc 0
  · have gc' : decide (100000 < wgh cc 0) = true := by simp [gc]
    rw [gc']
    clear gc gc'
    go_wp2_with fail
    go_ret
    exact ⟨rfl, H4.out⟩
  have gc' : decide (100000 < wgh cc 0) = false := by simp; omega
  rw [gc']
  clear gc gc'
  have HSz := hidden (And.intro hsa hsb)
  clear hsa hsb
  have HE1 := hidden (encode_any Tb Vl (fun _ _ h hb => h.on hb) a ao n c w4 (HTB.out.on H4.out) (HA.out.on (Nat.le_refl _) H4.out) (tx_all a HON.out.1) (by have := HSz.out.1; omega))
  have HWX := hidden (enc_wf Vl a HON.out.1)
  obtain ⟨X, hX⟩ : ∃ X, (encR Vl a).1 = X := ⟨_, rfl⟩
  obtain ⟨ex, hex⟩ : ∃ ex, (encR Vl a).2 = ex := ⟨_, rfl⟩
  rw [hX] at HE1 HWX
  rw [hex] at HE1
  have HX := hidden hX
  have HEX := hidden hex
  clear hX hex
  go_wp2_with (first | (go_at_call 6; refine HE1.out.mono ?_; rintro e1 w5 ⟨v1, rfl, ho1, hb5⟩; refine Hid.out ?_))
  apply hidden
  obtain ⟨xo, xc, rfl, s1, _⟩ := ho1.sl HWX.out.1 (by have := HWX.out.2; omega)
  have HS5 := hidden s1
  have H5 : Hid (Below w.heap.size w w5) := hidden (H4.out.trans (hb5.mono H4.out.size))
  clear HE1 ho1 hb5 s1 H4
  obtain ⟨xn, hxn⟩ : ∃ xn, X.length = xn := ⟨_, rfl⟩
  rw [hxn] at HS5 ⊢
  clear hxn
  have HE2 := hidden (encode_any Tb Vl (fun _ _ h hb => h.on hb) b bo m d w5 (HTB.out.on H5.out) (HB.out.on (Nat.le_refl _) H5.out) (tx_all b HON.out.2) (by have := HSz.out.2; omega))
  have HWY := hidden (enc_wf Vl b HON.out.2)
  obtain ⟨Y, hY⟩ : ∃ Y, (encR Vl b).1 = Y := ⟨_, rfl⟩
  obtain ⟨ey, hey⟩ : ∃ ey, (encR Vl b).2 = ey := ⟨_, rfl⟩
  rw [hY] at HE2 HWY
  rw [hey] at HE2
  have HY := hidden hY
  have HEY := hidden hey
  clear hY hey
  go_wp2_with (first | (go_at_call 6; refine HE2.out.mono ?_; rintro e1 w6 ⟨v2, rfl, ho2, hb6⟩; refine Hid.out ?_))
  apply hidden
  obtain ⟨yo, yc, rfl, s2, _⟩ := ho2.sl HWY.out.1 (by have := HWY.out.2; omega)
  have HY6 := hidden s2
  have HS6 : Hid (Sl w6 xo xn xc X) := hidden (HS5.out.on (Nat.le_refl _) hb6)
  have H6 : Hid (Below w.heap.size w w6) := hidden (H5.out.trans (hb6.mono H5.out.size))
  clear HE2 ho2 hb6 s2 H5 HS5
  obtain ⟨yn, hyn⟩ : ∃ yn, Y.length = yn := ⟨_, rfl⟩
  rw [hyn] at HY6 ⊢
  clear hyn
  have HC1 := hidden (compare_any a b ao bo n m c d w6 (HA.out.on (Nat.le_refl _) H6.out) (HB.out.on (Nat.le_refl _) H6.out))
  have HR1 := hidden (cmpL_range a b)
  have HR2 := hidden (cmpL_range b cc)
  have HR3 := hidden (cmpL_range a cc)
  have HONE := hidden (cmpL_one a b cc)
  obtain ⟨x, hx⟩ : ∃ x, cmpL a b = x := ⟨_, rfl⟩
  obtain ⟨y, hy⟩ : ∃ y, cmpL b cc = y := ⟨_, rfl⟩
  obtain ⟨z, hz⟩ : ∃ z, cmpL a cc = z := ⟨_, rfl⟩
  rw [hx] at HC1 HR1 HONE
  rw [hy] at HR2 HONE
  rw [hz] at HR3 HONE
  have HXX := hidden hx
  have HYY := hidden hy
  have HZZ := hidden hz
  clear hx hy hz
  go_wp2_with (first | (go_at_call 7; refine HC1.out.mono ?_; rintro e1 w7 ⟨rfl, hb7⟩; refine Hid.out ?_))
  apply hidden
  have H7 : Hid (Below w.heap.size w w7) := hidden (H6.out.trans (hb7.mono H6.out.size))
  have HS7 : Hid (Sl w7 xo xn xc X) := hidden (HS6.out.on (Nat.le_refl _) hb7)
  have HY7 : Hid (Sl w7 yo yn yc Y) := hidden (HY6.out.on (Nat.le_refl _) hb7)
  clear HC1 hb7 H6 HS6 HY6
  have HC2 := hidden (compare_any b cc bo co m k d e w7 (HB.out.on (Nat.le_refl _) H7.out) (HC.out.on (Nat.le_refl _) H7.out))
  rw [HYY.out] at HC2
  go_wp2_with (first | (go_at_call 7; refine HC2.out.mono ?_; rintro e1 w8 ⟨rfl, hb8⟩; refine Hid.out ?_))
  apply hidden
  have H8 : Hid (Below w.heap.size w w8) := hidden (H7.out.trans (hb8.mono H7.out.size))
  have HS8 : Hid (Sl w8 xo xn xc X) := hidden (HS7.out.on (Nat.le_refl _) hb8)
  have HY8 : Hid (Sl w8 yo yn yc Y) := hidden (HY7.out.on (Nat.le_refl _) hb8)
  clear HC2 hb8 H7 HS7 HY7
  have HC3 := hidden (compare_any a cc ao co n k c e w8 (HA.out.on (Nat.le_refl _) H8.out) (HC.out.on (Nat.le_refl _) H8.out))
  rw [HZZ.out] at HC3
  go_wp2_with (first | (go_at_call 7; refine HC3.out.mono ?_; rintro e1 w9 ⟨rfl, hb9⟩; refine Hid.out ?_))
  apply hidden
  have H9 : Hid (Below w.heap.size w w9) := hidden (H8.out.trans (hb9.mono H8.out.size))
  have HS9 : Hid (Sl w9 xo xn xc X) := hidden (HS8.out.on (Nat.le_refl _) hb9)
  have HY9 : Hid (Sl w9 yo yn yc Y) := hidden (HY8.out.on (Nat.le_refl _) hb9)
  clear HC3 hb9 H8 HS8 HY8
  go_upto_region 12 with fail
  go_cut [81] (fun v u => v = .bool false ∧ Hid (u = w9))
  case first =>
    have h1 := HONE.out
    rcases three HR1.out with rfl | rfl | rfl <;> rcases three HR2.out with rfl | rfl | rfl <;> rcases three HR3.out with rfl | rfl | rfl <;> first | (exact absurd (by omega) h1) | (clear h1; go_wp2; go_meet; exact ⟨rfl, hidden rfl⟩)
  obtain ⟨rfl, HWC⟩ := hcut
  have hwc := HWC.out
  subst hwc
  clear HWC HONE HR2 HR3 HYY HZZ HC
  by_cases ex0 : ex = 0
  · by_cases ey0 : ey = 0
    · subst ex0
      subst ey0
      obtain ⟨a1, a2, a3, a4⟩ := enc_yes Vl a HEX.out
      obtain ⟨b1, b2, b3, b4⟩ := enc_yes Vl b HEY.out
      rw [HX.out] at a3
      rw [HY.out] at b3
      have HKD := hidden (And.intro a4 b4)
      have HXE := hidden a3
      have HYE := hidden b3
      clear a1 a2 a3 a4 b1 b2 b3 b4
      have HOD : Hid (ordL X Y = x) := hidden (by rw [HXE.out, HYE.out, items_ord a b HKD.out.1 HKD.out.2 HON.out.1 HON.out.2, HXX.out])
      have q1 := conv_st HS9.out
      have q2 := conv_st HY9.out
      have l1 := str_lt HWX.out.1 HWY.out.1
      have l2 := str_eq HWX.out.1 HWY.out.1
      rw [HOD.out] at l1 l2
      obtain ⟨sx, hsx⟩ : ∃ sx, strOfNums X = sx := ⟨_, rfl⟩
      obtain ⟨sy, hsy⟩ : ∃ sy, strOfNums Y = sy := ⟨_, rfl⟩
      rw [hsx] at q1 l1 l2
      rw [hsy] at q2 l1 l2
      have HSX := hidden hsx
      clear hsx hsy
      go_upto_region 18 with fail
      obtain ⟨wA, hwA⟩ : ∃ wA, wA = wc := ⟨_, rfl⟩
      subst hwA
      go_cut [107] (fun v u => v = .bool false ∧ Hid (u = wA))
      case first =>
        rcases three HR1.out with rfl | rfl | rfl <;> (clear l1 l2; go_wp2; go_meet; exact ⟨rfl, hidden rfl⟩)
      obtain ⟨rfl, HWC⟩ := hcut
      have hwc := HWC.out
      subst hwc
      obtain ⟨wB, hwB⟩ : ∃ wB, wB = wc := ⟨_, rfl⟩
      subst hwB
      clear HWC HR1 HXX HOD q1 q2 l1 l2 HY HYE HWY HY9
      obtain ⟨M, hM, hMm⟩ : ∃ M : Nat, (M : Int) = (if N < 0 ∨ (m : Int) < N then (m : Int) else N) ∧ M ≤ m := by
        by_cases h : N < 0 ∨ (m : Int) < N
        · exact ⟨m, by rw [if_pos h], Nat.le_refl _⟩
        · exact ⟨N.toNat, by rw [if_neg h]; omega, by omega⟩
      have HM := hidden hM
      clear hM
      obtain ⟨bb, hbb⟩ : ∃ bb, decide (N < 0 ∨ (m : Int) < N) = bb := ⟨_, rfl⟩
      have HBB := hidden hbb
      clear hbb
      go_upto_region 20 with fail
      go_cut [115] (fun v u => v = .bool bb ∧ Hid (u = wB))
      case first =>
        by_cases h1 : N < 0
        · have HE0 : Hid (bb = true) := hidden (by rw [← HBB.out]; simp [h1])
          go_wp2
          go_meet
          exact ⟨by rw [HE0.out], hidden rfl⟩
        · by_cases h2 : (m : Int) < N
          · have HE0 : Hid (bb = true) := hidden (by rw [← HBB.out]; simp [h2])
            go_wp2
            go_meet
            exact ⟨by rw [HE0.out], hidden rfl⟩
          · have HE0 : Hid (bb = false) := hidden (by rw [← HBB.out]; simp [h1]; omega)
            go_wp2
            go_meet
            exact ⟨by rw [HE0.out], hidden rfl⟩
      obtain ⟨rfl, HWC⟩ := hcut
      have hwc := HWC.out
      subst hwc
      obtain ⟨wB2, hwB2⟩ : ∃ wB2, wB2 = wc := ⟨_, rfl⟩
      subst hwB2
      clear HWC
      go_upto_if 115 with fail
      go_cut [3] (fun v u => v = .int .i64 (M : Int) ∧ Hid (u = wB2))
      case first =>
        cases bb with
        | true =>
          have HE0 : Hid ((M : Int) = (m : Int)) := hidden (by rw [HM.out, if_pos (by simpa using HBB.out)])
          go_wp2
          go_meet
          exact ⟨by rw [HE0.out], hidden rfl⟩
        | false =>
          have HE0 : Hid ((M : Int) = N) := hidden (by rw [HM.out, if_neg (by simpa using HBB.out)])
          go_wp2
          go_meet
          exact ⟨by rw [HE0.out], hidden rfl⟩
      obtain ⟨rfl, HWC⟩ := hcut
      have hwc := HWC.out
      subst hwc
      obtain ⟨wD, hwD⟩ : ∃ wD, wD = wc := ⟨_, rfl⟩
      subst hwD
      clear HWC HM hN HBB
      have hMI : (M : Int) ≤ (d : Int) := by omega
      have hMd : M ≤ d := by omega
      have hM0 : M ≤ 140737488355328 := by omega
      have hBO : b.len = m := HLB.out
      obtain ⟨t1, t2⟩ := enc_take Vl b M (by omega) HEY.out
      have HP := hidden (prefix_ok Tb Vl (fun _ _ h hb => h.on hb) (b.take M) bo M d wD (HTB.out.on H9.out) ((HB.out.on (Nat.le_refl _) H9.out).take M hMm) (tx_all _ (b.take_ok M HON.out.2)) (by have := HSz.out.2; have := b.take_sz M; omega) t1)
      rw [t2] at HP
      have HWL : Hid (Wf (EI (b.take M)) ∧ (EI (b.take M)).length ≤ 65536) := hidden (by rw [← t2]; exact enc_wf Vl _ (b.take_ok M HON.out.2))
      have HBG := hidden (begins_iff (b.take M) a (b.take_kd M HKD.out.2) HKD.out.1 (b.take_ok M HON.out.2) HON.out.1)
      have HRG := hidden (range_iff (EI (b.take M)) X HWX.out.1)
      have HTL : Hid ((b.take M).len = M) := hidden (b.take_len M (by omega))
      have HBT : Hid (SlI wD Tp bo M d (b.take M)) := hidden ((HB.out.on (Nat.le_refl _) H9.out).take M hMm)
      have HCM := hidden (fun (h : M ≤ n) (u : World) (hu : Below wD.heap.size wD u) => compare_any (a.take M) (b.take M) ao bo M M c d u (((HA.out.on (Nat.le_refl _) H9.out).take M h).on (Nat.le_refl _) hu) (HBT.out.on (Nat.le_refl _) hu))
      rw [← HXE.out] at HBG
      rw [HTL.out, HLA.out] at HBG
      obtain ⟨L, hL⟩ : ∃ L, EI (b.take M) = L := ⟨_, rfl⟩
      rw [hL] at HP HWL HBG HRG
      obtain ⟨rc, hrc⟩ : ∃ rc, cmpL (a.take M) (b.take M) = rc := ⟨_, rfl⟩
      rw [hrc] at HBG HCM
      have HHW : Hid (Wf (hiB L) ∧ (hiB L).length ≤ 65536) := hidden (hiB_wf HWL.out.1 HWL.out.2)
      clear t1 t2 hL hrc HTL HBT hBO HEX HEY HX HKD HSz
      go_wp2_with (first | (go_at_call 8; refine HP.out.mono ?_; rintro e1 wE ⟨v3, v4, rfl, ho3, ho4, _, hbE⟩; refine Hid.out ?_))
      apply hidden
      obtain ⟨lo, lc, rfl, s3, _⟩ := ho3.sl HWL.out.1 (by have := HWL.out.2; omega)
      obtain ⟨io, ic, rfl, s4, _⟩ := ho4.sl HHW.out.1 (by have := HHW.out.2; omega)
      have q1 := conv_st (HS9.out.on (Nat.le_refl _) hbE)
      have q2 := conv_st s3
      have q3 := conv_st s4
      have l1 := str_lt HWX.out.1 HWL.out.1
      have l2 := str_lt HWX.out.1 HHW.out.1
      rw [HSX.out] at q1 l1 l2
      obtain ⟨sl, hsl⟩ : ∃ sl, strOfNums L = sl := ⟨_, rfl⟩
      obtain ⟨sh, hsh⟩ : ∃ sh, strOfNums (hiB L) = sh := ⟨_, rfl⟩
      rw [hsl] at q2 l1
      rw [hsh] at q3 l2
      obtain ⟨g1, hg1⟩ : ∃ g1, Op.bytesLess sx.toList sl.toList = g1 := ⟨_, rfl⟩
      obtain ⟨g2, hg2⟩ : ∃ g2, Op.bytesLess sx.toList sh.toList = g2 := ⟨_, rfl⟩
      obtain ⟨g3, hg3⟩ : ∃ g3, decide (lastNe L = 0) = g3 := ⟨_, rfl⟩
      have HIN : Hid ((!g1 && (g3 || g2)) = decide (M ≤ n ∧ rc = 0)) := hidden (by
        rw [Bool.eq_iff_iff, decide_eq_true_iff, ← HBG.out, HRG.out, ← hg1, ← hg2, ← hg3, l1, l2]
        simp only [Bool.and_eq_true, Bool.or_eq_true, Bool.not_eq_true', decide_eq_true_iff, decide_eq_false_iff_not, Int.not_lt])
      rw [hg3]
      have HE9 : Hid (Below w.heap.size w wE) := hidden (H9.out.trans (hbE.mono H9.out.size))
      have HBE := hidden hbE
      generalize L.length = ln at *
      generalize (hiB L).length = hn at *
      clear HP ho3 ho4 hbE s3 s4 l1 l2 hsl hsh HBG HRG hg3 HS9
      go_upto_region 26 with fail
      go_cut [25] (fun v u => v = .bool (!g1 && (g3 || g2)) ∧ Hid (u = wE))
      case first =>
        cases g1 <;> cases g3 <;> cases g2 <;> (go_wp2; go_meet; exact ⟨rfl, hidden rfl⟩)
      obtain ⟨rfl, HWC⟩ := hcut
      have hwc := HWC.out
      subst hwc
      obtain ⟨wF, hwF⟩ : ∃ wF, wF = wc := ⟨_, rfl⟩
      subst hwF
      rw [HIN.out]
      clear HIN HWC q1 q2 q3 hg1 hg2
      by_cases hge : M ≤ n
      · have hgeI : (M : Int) ≤ (n : Int) := by omega
        have hMc : (M : Int) ≤ (c : Int) := by omega
        have HC9 := hidden (HCM.out hge wF HBE.out)
        have e5 : decide (M ≤ n ∧ rc = 0) = (rc == 0) := by
          rw [Bool.eq_iff_iff]
          simp [hge]
        rw [e5]
        clear e5 HCM
        go_wp2_with (first | (go_at_call 7; refine HC9.out.mono ?_; rintro e1 wG ⟨rfl, hbG⟩; refine Hid.out ?_))
        apply hidden
        have HG : Hid (Below w.heap.size w wG) := hidden (HE9.out.trans (hbG.mono HE9.out.size))
        have eb : ((rc == 0) == (rc == 0)) = true := by simp
        clear hbG
        go_wp2
        go_ret
        refine ⟨?_, HG.out⟩
        simp
      · have hgeI : ¬ (M : Int) ≤ (n : Int) := by omega
        have e5 : decide (M ≤ n ∧ rc = 0) = false := by simp [hge]
        rw [e5]
        go_wp2
        go_ret
        exact ⟨rfl, HE9.out⟩
    · go_wp2_with fail
      go_ret
      exact ⟨rfl, H9.out⟩
  · go_wp2_with fail
    go_ret
    exact ⟨rfl, H9.out⟩
end Go.Proofs.YtmfnccffpajfnaaGreatDoor
