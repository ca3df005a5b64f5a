import Derived.Test.YtoejadhlkamcjaaDoorJ29
namespace Go.Proofs.YtoejadhlkamcjaaDoor
set_option maxRecDepth 100000
open Go.RowKit Go.Maps
set_option maxHeartbeats 2000000 in
theorem refD2 (ao : Option Addr) (n cap : Nat) (l : List Int) (w : World) (hs : Sl w ao n cap l) :
  Calls Tryd.prog 52 #[.slice ao n cap] w fun e w' => ∃ eo en ec, e = .returned (.tuple #[.int .i64 (dNx l), .slice eo en ec, .int .i64 (dKy l)]) ∧ Hid (OwnB w' w.heap.size (.slice eo en ec) (dBy l)) ∧ Hid (Below w.heap.size w w') := by
 have hl := hs.hlen
 have hr := hs.hroom
 have HI := hidden (refIsPage_any (n : Int) w)
 have hnil : ∀ u : World, OwnB u w.heap.size (.slice none 0 0) [] := fun u => OwnB.nil _ _
 by_cases hp : pw (n : Int)
 ·have e1 : decide (pw (n : Int)) = true := by simpa using hp
  have hpl := pw_le hp
  rcases hs.hat with h | ⟨b, off, rfl, hlt, hc⟩
  ·omega
  have e4 : rF l 4 4 = (rdN l 4 4, 0) := by
   unfold rF
   rw [if_neg (by omega), if_neg (by omega)]
   rfl
  have e8 : rF l 8 4 = (rdN l 8 4, 0) := by
   unfold rF
   rw [if_neg (by omega), if_neg (by omega)]
   rfl
  have h4 := refReadFixed_all _ n cap l 4 4 w hs
  have h8 := refReadFixed_all _ n cap l 8 4 w hs
  rw [e4] at h4
  rw [e8] at h8
  have HN4 := hidden h4
  have HN8 := hidden h8
  have r4 := rdN_bound l hs.wf 4 4
  have r8 := rdN_bound l hs.wf 8 4
  simp only [Int.reducePow] at r4 r8
  obtain ⟨cnt, hcnt⟩ : ∃ cnt : Nat, rdN l 8 4 = (cnt : Int) := ⟨(rdN l 8 4).toNat, by omega⟩
  have HS := hidden hs
  have hcap := hs.hcap
  have HPW : Hid (pw (l.length : Int)) := hidden (by rw [hl]; exact hp)
  have HL := hidden hl
  have HCN := hidden hcnt
  obtain ⟨nx, hnx⟩ : ∃ nx, rdN l 4 4 = nx := ⟨_, rfl⟩
  have HNX := hidden hnx
  rw [hnx] at HN4 r4
  rw [hcnt] at HN8 r8
  have hcI : (n : Int) ≤ 65536 := by omega
  have hnI : 512 ≤ (n : Int) := by omega
  have hc2 : ¬ cap = 12 := by omega
  have hc3 : (12 : Int) ≤ (cap : Int) := by omega
  have w4 : IntKind.i64.wrap nx = nx := by rw [IntKind.wrap_i64]; omega
  have w8 : IntKind.i64.wrap (cnt : Int) = (cnt : Int) := by rw [IntKind.wrap_i64]; omega
  clear hs hp hc hl hcnt hnx hpl h4 h8 e4 e8
  by_cases hq : (n : Int) - 16 < (cnt : Int)
  ·have HNO : Hid (¬ spIs l) := hidden (by
    rintro ⟨_, h2, _⟩
    rw [HCN.out, HL.out] at h2
    omega)
   rw [(d_no HNO.out).1, (d_no HNO.out).2.1, (d_no HNO.out).2.2]
   go_enter Tryd.func52, Tryd.ntmps52
   go_wp2_with (first
    | (go_at_call 65; refine same_call HI.out ?_; rw [e1])
    | (go_at_call 66; refine same_call HN4.out ?_; refine Hid.out ?_))
   apply hidden
   go_wp2_with (first
    | (go_at_call 66; refine same_call HN8.out ?_))
   go_returns
   exact ⟨_, _, _, rfl, hidden (hnil _), hidden (Below.refl _ _)⟩
  ·have hq2 : (cnt : Int) ≤ (n : Int) - 16 := by omega
   have hq3 : 12 + cnt ≤ n := by omega
   have HD : Hid (Sl w (some ⟨b, off + 12, none⟩) cnt (cap - 12) (spT l)) := hidden (by
    have := HS.out.cut9 12 cnt hq3
    unfold spT
    rw [HCN.out, Int.toNat_natCast]
    exact this)
   have HLT : Hid ((spT l).length = cnt) := hidden HD.out.hlen
   have HWT : Hid (Wf (spT l)) := hidden HD.out.wf
   have HIS : Hid (spIs l ↔ spE nx (spT l) n = 0 ∧ spB nx (spT l) n = l) := hidden (by
    unfold spIs
    rw [HNX.out, HCN.out, HL.out]
    exact ⟨fun h => h.2.2, fun h => ⟨by have := HPW.out; rwa [HL.out] at this, by omega, h⟩⟩)
   obtain ⟨z, hz⟩ : ∃ z, 12 + cnt = z := ⟨_, rfl⟩
   have hzI : 12 + (cnt : Int) = (z : Int) := by omega
   have z1 : (z : Int) ≤ (cap : Int) := by omega
   have z2 : (12 : Int) ≤ (z : Int) := by omega
   have z3 : z - 12 = cnt := by omega
   have z4 : z ≤ cap := by omega
   have z5 : 12 ≤ z := by omega
   have HB0 : Hid (OwnB w w.heap.size (.slice none 0 0) []) := hidden (OwnB.nil _ _)
   have hc9 : 0 + cnt ≤ 140737488355328 := by omega
   have hww : w.heap.size ≤ w.heap.size := Nat.le_refl _
   clear hz
   go_enter Tryd.func52, Tryd.ntmps52
   go_wp2_with (first
    | (go_at_call 65; refine same_call HI.out ?_; rw [e1])
    | (go_at_call 66; refine same_call HN4.out ?_; refine Hid.out ?_))
   apply hidden
   go_wp2_with (first
    | (go_at_call 66; refine same_call HN8.out ?_; refine Hid.out ?_))
   apply hidden
   go_wp2_with (at_builtin; refine app_sl _ rfl _ _ rfl w.heap.size [] (spT l) _ (some ⟨b, off + 12, none⟩) cnt (cap - 12) rfl rfl HB0.out HD.out hc9 hww ?_; refine Hid.out ?_)
   apply hidden
   intro v1 w1 ho1 hg1
   have HB1 : Hid (Below w.heap.size w w1) := hidden (hg1.below HB0.out hww)
   obtain ⟨vo, vc, rfl, _⟩ := own_shape ho1
   rw [HLT.out] at ho1 ⊢
   have HSD : Hid (Sl w1 vo cnt vc (spT l)) := hidden (ho1.sl2 HWT.out (by rw [HLT.out]; omega))
   have HO1 : Hid (OwnB w1 w.heap.size (.slice vo cnt vc) (spT l)) := hidden ho1
   have HE := hidden (refU nx (n : Int) vo cnt vc (spT l) w1 HSD.out)
   clear ho1 hg1 HN4 HN8 HI HB0 HD
   go_wp2_with (first
    | (go_at_call 53; refine HE.out.mono ?_; rintro e w2 ⟨ro, rn, rc, rfl, HP, HB2⟩; refine Hid.out ?_))
   apply hidden
   have HS2 : Hid (Sl w2 (some ⟨b, off, none⟩) n cap l) := hidden ((HS.out.on (Nat.le_refl _) HB1.out).on (Nat.le_refl _) HB2.out)
   have HD2 : Hid (OwnB w2 w.heap.size (.slice vo cnt vc) (spT l)) := hidden (HO1.out.on (Nat.le_refl _) HB2.out)
   have HBE : Hid (Below w.heap.size w w2) := hidden (bl_go HB1.out (Nat.le_refl _) HB2.out)
   by_cases hk : spE nx (spT l) n = 0
   ·have hpg : pgL nx (spT l) n = spB nx (spT l) n := by unfold pgL; rw [if_pos hk, Int.toNat_natCast]
    have k1 := conv_sl HP.out
    have k2 := conv_sl HS2.out
    have kq := str_beq HP.out.wf HS2.out.wf
    obtain ⟨s1, hs1⟩ : ∃ s1, strOfNums (pgL nx (spT l) n) = s1 := ⟨_, rfl⟩
    obtain ⟨s2, hs2⟩ : ∃ s2, strOfNums l = s2 := ⟨_, rfl⟩
    rw [hs1] at k1 kq
    rw [hs2] at k2 kq
    rw [hpg] at kq
    cases hq5 : decide (spB nx (spT l) n = l) with
    | true =>
     rw [hq5] at kq
     have HYE : Hid (spIs l) := hidden (by rw [HIS.out]; exact ⟨hk, by simpa using hq5⟩)
     have HD3 : Hid (OwnB w2 w.heap.size (.slice vo cnt vc) (dBy l)) := hidden (by rw [(d_yes HYE.out).2.1]; exact HD2.out)
     have HDN : Hid (dNx l = nx ∧ dKy l = 0) := hidden ⟨by rw [(d_yes HYE.out).1, HNX.out], (d_yes HYE.out).2.2⟩
     rw [hk]
     clear hq5 hk hpg hs1 hs2 HE HP HIS
     go_wp2_with fail
     go_returns
     exact ⟨vo, cnt, vc, (by rw [HDN.out.1, HDN.out.2]; rfl), HD3, HBE⟩
    | false =>
     rw [hq5] at kq
     have HNO : Hid (¬ spIs l) := hidden (by rw [HIS.out]; rintro ⟨_, h⟩; rw [decide_eq_false_iff_not] at hq5; exact hq5 h)
     rw [hk]
     clear hq5 hk hpg hs1 hs2 HE HP HIS
     go_wp2_with fail
     go_returns
     exact ⟨none, 0, 0, (by rw [(d_no HNO.out).1, (d_no HNO.out).2.2]; rfl), hidden (by rw [(d_no HNO.out).2.1]; exact hnil _), HBE⟩
   ·have HNO : Hid (¬ spIs l) := hidden (by rw [HIS.out]; rintro ⟨h, _⟩; exact hk h)
    have hz2 : (spE nx (spT l) n == 0) = false := by rw [beq_eq_false_iff_ne]; exact hk
    clear HE HP HIS
    generalize spE nx (spT l) n = ek at *
    go_wp2_with fail
    go_returns
    exact ⟨none, 0, 0, (by rw [(d_no HNO.out).1, (d_no HNO.out).2.2]; rfl), hidden (by rw [(d_no HNO.out).2.1]; exact hnil _), HBE⟩
 ·have e1 : decide (pw (n : Int)) = false := by simpa using hp
  have HNO : Hid (¬ spIs l) := hidden (by
   rintro ⟨h1, _⟩
   rw [hl] at h1
   exact hp h1)
  rw [(d_no HNO.out).1, (d_no HNO.out).2.1, (d_no HNO.out).2.2]
  clear hs hp
  go_enter Tryd.func52, Tryd.ntmps52
  go_wp2_with (first
   | (go_at_call 65; refine same_call HI.out ?_; rw [e1]))
  go_returns
  exact ⟨_, _, _, rfl, hidden (hnil _), hidden (Below.refl _ _)⟩
def pgO (M : Int → Option Pf) (pg : Int) (at_ n : Int) (last : Bool) : Int ⊕ (Int × List Int) :=
 match ldM M pg at_ with
 | .inl e => .inl e
 | .inr x => if (x.2.length : Int) ≠ n ∨ decide (x.1 = 0) ≠ last then .inl 90 else .inr x
theorem d_some {l : List Int} {n : Int} {d : List Int} (h : spD l = some (n, d)) : dNx l = n ∧ dBy l = d ∧ dKy l = 0 := by
 unfold dNx dBy dKy
 rw [h]
 exact ⟨rfl, rfl, rfl⟩
theorem d_none {l : List Int} (h : spD l = none) : dNx l = 0 ∧ dBy l = [] ∧ dKy l = 60 := by
 unfold dNx dBy dKy
 rw [h]
 exact ⟨rfl, rfl, rfl⟩
set_option maxHeartbeats 1000000 in
theorem rpage_any {w : World} {b m : Nat} {en pg ps rd : Int} {M : Int → Option Pf} {ct : Nat} (h : Bn w b m en pg ps rd M ct) (at_ n : Int) (last : Bool) (hat : (Lit.int .i64 at_).wf = true) (hrd : rd < 4611686018427387904) (hr0 : 0 ≤ rd) :
  Calls Tryd.prog 64 #[pB b, .int .i64 at_, .int .i64 n, .bool last] w fun e u => ∃ nx ao dn c k, e = .returned (.tuple #[.int .i64 nx, .slice ao dn c, .int .i64 k]) ∧ Hid (Bn u b m en pg ps (rd + isM M at_) M ct ∧ Cf (· = b) w u) ∧
   Hid ((pgO M pg at_ n last = .inl k ∧ k ≠ 0 ∧ nx = 0 ∧ ao = none ∧ dn = 0 ∧ c = 0) ∨ ∃ d, pgO M pg at_ n last = .inr (nx, d) ∧ k = 0 ∧ Sl u ao dn c d ∧ OwnB u w.heap.size (.slice ao dn c) d) := by
 have HR := hidden (bread_any h at_ hat hrd hr0)
 have HB := hidden h
 clear h
 go_enter Tryd.func64, Tryd.ntmps64
 go_wp2_with (first
  | (go_at_call 9; refine HR.out.mono ?_; rintro e w1 ⟨ao, sn, c, k, rfl, HK⟩; refine Hid.out ?_))
 apply hidden
 clear HR
 rcases HK.out with ⟨hM, rfl, rfl, rfl, rfl, rfl⟩ | ⟨f, hM, rfl, rfl, ho, hbn, hcf⟩
 ·have HL : Hid (pgO M pg at_ n last = .inl 30) := hidden (by unfold pgO ldM; rw [hM])
  have HI : Hid (isM M at_ = 0) := hidden (by unfold isM; rw [hM]; rfl)
  clear HK hM
  go_wp2
  go_returns
  refine ⟨_, _, _, _, _, rfl, hidden ⟨?_, Cf.refl _ _⟩, hidden (.inl ⟨HL.out, by decide, rfl, rfl, rfl, rfl⟩)⟩
  rw [HI.out, Int.add_zero]
  exact HB.out
 ·have HI : Hid (isM M at_ = 1) := hidden (by unfold isM; rw [hM]; rfl)
  have hwl := (HB.out.pgs at_ f hM).1.wf
  have hrl := (HB.out.pgs at_ f hM).1.hroom
  have HM := hidden hM
  have hsl : Sl w1 ao f.l.length c f.l := by
   obtain ⟨ao', c', e, hs, _⟩ := ho.sl hwl hrl
   injection e with e1 e2 e3
   subst e1 e3
   exact hs
  have HBN := hidden hbn
  have HCF := hidden hcf
  have HD := hidden (refD2 ao _ c f.l w1 hsl)
  have HLE : Hid (∀ x, f.l.length = x → pgO M pg at_ n last = (match (if (x : Int) ≠ pg then (.inl 60 : Int ⊕ (Int × List Int)) else match spD f.l with | none => .inl 60 | some y => .inr y) with | .inl e => .inl e | .inr y => if (y.2.length : Int) ≠ n ∨ decide (y.1 = 0) ≠ last then .inl 90 else .inr y)) := hidden (by
   rintro _ rfl
   unfold pgO ldM
   rw [HM.out]
   by_cases e : (f.l.length : Int) ≠ pg
   ·simp only [if_pos e]
   ·simp only [if_neg e]
    cases spD f.l <;> rfl)
  have hlI : (f.l.length : Int) ≤ 140737488355328 := by omega
  clear HK hM hbn hcf ho hsl
  go_wp2_with (first
   | (go_at_call 52; refine HD.out.mono ?_; rintro e w2 ⟨eo, en2, ec, rfl, HO2, HB2⟩; refine Hid.out ?_))
  apply hidden
  clear HD
  have HS2 : Hid (Sl w2 eo en2 ec (dBy f.l)) := hidden (HO2.out.sl2 (dBy_wf hwl) (by have := dBy_len (l := f.l); omega))
  have HBU : Hid (Bn w2 b m en pg ps (rd + 1) M ct) := hidden (HBN.out.on HB2.out)
  have HCU : Hid (Cf (· = b) w w2) := hidden (HCF.out.go (Cf.of_below HB2.out))
  have HSZ := hidden (size_any HBU.out)
  cases hd : spD f.l with
  | none =>
   obtain ⟨d1, d2, d3⟩ := d_none hd
   have HPO : Hid (pgO M pg at_ n last = .inl 60) := hidden (by
    rw [HLE.out _ rfl, hd]
    by_cases e : (f.l.length : Int) ≠ pg
    ·rw [if_pos e]
    ·rw [if_neg e])
   rw [d1, d3]
   clear HLE hd d1 d2 d3 HBN HCF HS2
   go_wp2
   go_returns
   refine ⟨_, _, _, _, _, rfl, hidden ⟨by rw [HI.out]; exact HBU.out, HCU.out⟩, hidden (.inl ⟨HPO.out, by decide, rfl, rfl, rfl, rfl⟩)⟩
  | some y =>
   obtain ⟨nx, d⟩ := y
   obtain ⟨d1, d2, d3⟩ := d_some hd
   rw [d2] at HS2 HO2
   have HOW : Hid (OwnB w2 w.heap.size (.slice eo en2 ec) d) := hidden (HO2.out.low HCF.out.size)
   rw [d1, d3]
   have HSD := hidden HS2.out
   have hdl := HS2.out.hlen
   have hdr := HS2.out.hroom
   obtain ⟨fl, hfl⟩ : ∃ fl, f.l.length = fl := ⟨_, rfl⟩
   have HPX := hidden (HLE.out fl hfl)
   rw [hd] at HPX
   rw [hfl] at hlI ⊢
   have HDL := hidden hdl
   have hnI : (en2 : Int) ≤ 140737488355328 := by omega
   clear HLE hd d1 d2 d3 HBN HCF hfl hdl HS2
   by_cases hp : (fl : Int) = pg
   ·have b1 : ((fl : Int) == pg) = true := by rw [beq_iff_eq]; exact hp
    have b1' : ((fl : Int) != pg) = false := by simp [hp]
    have HP2 : Hid (pgO M pg at_ n last = if (en2 : Int) ≠ n ∨ decide (nx = 0) ≠ last then .inl 90 else .inr (nx, d)) := hidden (by
     rw [HPX.out, if_neg (by simp [hp])]
     simp only [HDL.out])
    have HPI := hidden hp
    clear hp HPX
    by_cases hA : (en2 : Int) = n
    ·have b2 : ((en2 : Int) == n) = true := by rw [beq_iff_eq]; exact hA
     have b2' : ((en2 : Int) != n) = false := by simp [hA]
     obtain ⟨bC, hC⟩ : ∃ bC, (nx == 0) = bC := ⟨_, rfl⟩
     have eC : decide (nx = 0) = bC := by rw [← hC]; rfl
     rw [eC] at HP2
     have HAI := hidden hA
     clear eC hA
     by_cases hl : bC = last
     ·subst hl
      have HP3 : Hid (pgO M pg at_ n bC = .inr (nx, d)) := hidden (by rw [HP2.out, if_neg (by simp [HAI.out])])
      have b3 : (bC != bC) = false := by cases bC <;> rfl
      clear HP2
      cases bC
      all_goals
       go_wp2_with (first | (go_at_call 49; refine same_call HSZ.out ?_))
       go_returns
       exact ⟨_, _, _, _, _, rfl, hidden ⟨by rw [HI.out]; exact HBU.out, HCU.out⟩, hidden (.inr ⟨d, HP3.out, rfl, HSD.out, HOW.out⟩)⟩
     ·have HP3 : Hid (pgO M pg at_ n last = .inl 90) := hidden (by rw [HP2.out, if_pos (.inr hl)])
      clear HP2
      cases bC <;> cases last
      ·exact absurd rfl hl
      ·go_wp2_with (first | (go_at_call 49; refine same_call HSZ.out ?_))
       go_returns
       exact ⟨_, _, _, _, _, rfl, hidden ⟨by rw [HI.out]; exact HBU.out, HCU.out⟩, hidden (.inl ⟨HP3.out, by decide, rfl, rfl, rfl, rfl⟩)⟩
      ·go_wp2_with (first | (go_at_call 49; refine same_call HSZ.out ?_))
       go_returns
       exact ⟨_, _, _, _, _, rfl, hidden ⟨by rw [HI.out]; exact HBU.out, HCU.out⟩, hidden (.inl ⟨HP3.out, by decide, rfl, rfl, rfl, rfl⟩)⟩
      ·exact absurd rfl hl
    ·have b2 : ((en2 : Int) == n) = false := by rw [beq_eq_false_iff_ne]; exact hA
     have b2' : ((en2 : Int) != n) = true := by simp [hA]
     have HP3 : Hid (pgO M pg at_ n last = .inl 90) := hidden (by rw [HP2.out, if_pos (.inl hA)])
     clear hA HP2
     go_wp2_with (first | (go_at_call 49; refine same_call HSZ.out ?_))
     go_returns
     exact ⟨_, _, _, _, _, rfl, hidden ⟨by rw [HI.out]; exact HBU.out, HCU.out⟩, hidden (.inl ⟨HP3.out, by decide, rfl, rfl, rfl, rfl⟩)⟩
   ·have b1 : ((fl : Int) == pg) = false := by rw [beq_eq_false_iff_ne]; exact hp
    have b1' : ((fl : Int) != pg) = true := by simp [hp]
    have HP3 : Hid (pgO M pg at_ n last = .inl 60) := hidden (by rw [HPX.out, if_pos hp])
    clear hp HPX
    go_wp2_with (first | (go_at_call 49; refine same_call HSZ.out ?_))
    go_returns
    exact ⟨_, _, _, _, _, rfl, hidden ⟨by rw [HI.out]; exact HBU.out, HCU.out⟩, hidden (.inl ⟨HP3.out, by decide, rfl, rfl, rfl, rfl⟩)⟩
end Go.Proofs.YtoejadhlkamcjaaDoor
