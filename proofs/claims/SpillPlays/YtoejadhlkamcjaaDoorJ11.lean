import Derived.Test.YtoejadhlkamcjaaDoorJ10
import Derived.WalkMore
namespace Go.Proofs.YtoejadhlkamcjaaDoor
set_option maxRecDepth 100000
open Go.RowKit Go.Maps
def ThrTo (x : Int × List Int × List Int × Int) (w : World) (b m : Nat) (en pg ps : Int) (M : Int → Option Pf) (ct : Nat) (e : Ending) (u : World) : Prop :=
 ∃ ao an ac bo bn bc k, e = .returned (.tuple #[.slice ao an ac, .slice bo bn bc, .int .i64 k]) ∧ Hid (x.1 = k ∧ OwnJ u w.heap.size (.slice ao an ac) x.2.1 ∧ an = x.2.1.length ∧ OwnB u w.heap.size (.slice bo bn bc) x.2.2.1 ∧ bn = x.2.2.1.length ∧ Bn u b m en pg ps x.2.2.2 M ct ∧ Cf (· = b) w u)
theorem ThrTo.fault {k r : Int} {w u : World} {b m : Nat} {en pg ps : Int} {M : Int → Option Pf} {ct : Nat} (hb : Bn u b m en pg ps r M ct) (hc : Cf (· = b) w u) : ThrTo (k, [], [], r) w b m en pg ps M ct (.returned (.tuple #[.slice none 0 0, .slice none 0 0, .int .i64 k])) u :=
 ⟨_, _, _, _, _, _, _, rfl, hidden ⟨rfl, OwnJ.nil _ _, rfl, OwnB.nil _ _, rfl, hb, hc⟩⟩
set_option maxHeartbeats 4000000 in
theorem through_any {w : World} {b m : Nat} {en pg ps rd : Int} {M : Int → Option Pf} {ct : Nat} (h : Bn w b m en pg ps rd M ct) (hp : pw pg) (first n to : Int) (hf : (Lit.int .i64 first).wf = true) (hn : 0 ≤ n) (hn2 : n ≤ 65536) (ht0 : 0 ≤ to) (ht2 : to ≤ 65536) (hrd : rd < 2305843009213693952) (hr0 : 0 ≤ rd) (ht : Tab w) (h0 : 0 < w.heap.size) (hb0 : b ≠ 0) :
  Calls Tryd.prog 35 #[iB b, .int .i64 first, .int .i64 n, .int .i64 to] w fun e u => ThrTo (thr M pg n (pgN pg n) (pgN pg to).toNat first [] [] rd) w b m en pg ps M ct e u := by
 have HB := hidden h
 have HT := hidden ht
 have hpl := pw_le hp
 have HP1 := fun u => pages_any pg n (by omega) u
 have HP2 := fun u => pages_any pg to (by omega) u
 have HS := hidden (size_any h)
 have HWF := hidden h.wfs
 obtain ⟨T, hT⟩ : ∃ T : Nat, pgN pg to = (T : Int) := ⟨(pgN pg to).toNat, by
  unfold pgN
  split
  ·rfl
  ·have : 0 ≤ (to - 1) / (pg - 16) := Int.ediv_nonneg (by omega) (by omega)
   omega⟩
 have hTb : T ≤ 65537 := by
  have : pgN pg to ≤ 65537 := by
   unfold pgN
   split
   ·omega
   ·have := Int.ediv_le_self (pg - 16) (show 0 ≤ to - 1 by omega)
    omega
  omega
 rw [hT, Int.toNat_natCast]
 rw [hT] at HP2
 obtain ⟨all, hall⟩ : ∃ all, pgN pg n = all := ⟨_, rfl⟩
 rw [hall] at HP1 ⊢
 have hTI : (T : Int) ≤ 65537 := by omega
 have HBS := hidden (And.intro h.lt h.mlt)
 obtain ⟨X, hX⟩ : ∃ X, thr M pg n all T first [] [] rd = X := ⟨_, rfl⟩
 have HX := hidden hX
 rw [hX]
 have HSH := fun z u => share_any pg z (by omega) (by omega) u
 clear h ht hp hall hT hX
 go_enter Tryd.func35, Tryd.ntmps35
 go_wp2_with fail
 go_step3
 go_wp2_with (first
  | (go_at_call 49; refine same_call HS.out ?_)
  | (go_at_call 18; refine same_call (HP1 _) ?_; refine Hid.out ?_))
 apply hidden
 go_wp2_with fail
 go_step3
 go_wp2_with (first
  | (go_at_call 18; refine same_call (HP2 _) ?_))
 clear HP1 HP2 HS
 go_loopw [12, 13, 14, 15, 32] (fun v1 v2 ft av i wr => ∃ (j : Nat) (a : Int) (ao : Option Addr) (ac : Nat) (bo : Option Addr) (bc : Nat) (ql d : List Int) (r : Int), j ≤ T ∧ i = .int .i64 (j : Int) ∧ ft = .int .i64 0 ∧ av = .int .i64 a ∧ v1 = .slice ao j ac ∧ v2 = .slice bo d.length bc ∧
   Hid (OwnJ wr w.heap.size (.slice ao j ac) ql) ∧ Hid (OwnB wr w.heap.size (.slice bo d.length bc) d) ∧ Hid (Bn wr b m en pg ps r M ct) ∧ Hid (Cf (· = b) w wr) ∧ Hid (ql.length = j ∧ d.length ≤ 65520 * j ∧ (Lit.int .i64 a).wf = true ∧ 0 ≤ r ∧ r ≤ rd + j ∧ Wf d) ∧ Hid (thr M pg n all (T - j) a ql d r = X)) (fun _ _ _ _ i _ => T - (intOf i).toNat)
 case atStart =>
  exact ⟨0, first, none, 0, none, 0, [], [], rd, by omega, rfl, rfl, rfl, rfl, rfl, hidden (OwnJ.nil _ _), hidden (OwnB.nil _ _), HB, hidden (Cf.refl _ _), hidden ⟨rfl, by simp, hf, hr0, by omega, Wf.nil⟩, HX⟩
 case round =>
  obtain ⟨j, a, ao, ac, bo, bc, ql, d, r, hj, rfl, rfl, rfl, rfl, rfl, HJ, HD, HBR, HCR, HQ, HXR⟩ := hrel
  have bj : (j : Int) ≤ 65537 := by omega
  by_cases hlt : j < T
  ·have hltI : (j : Int) < (T : Int) := by omega
   obtain ⟨k, hk⟩ : ∃ k, T - j = k + 1 := ⟨T - j - 1, by omega⟩
   rw [hk] at HXR
   have HK : Hid (T - (j + 1) = k) := hidden (by omega)
   clear hk HX
   have HSJ : Hid (SlJ wr ao j ac ql) := hidden (by
    obtain ⟨ao', c', e, hs⟩ := HJ.out.sl
    injection e with e1 e2 e3
    subst e1 e3
    rw [← e2] at hs
    exact hs)
   go_wp2_with fail
   go_loop [14, 36] (fun ft i => ∃ q : Nat, q ≤ j ∧ i = .int .i64 (q : Int) ∧ ft = .int .i64 0 ∧ Hid (∀ i, i < q → ql.getD i 0 ≠ a)) (fun _ i => j - (intOf i).toNat)
   case atStart => exact ⟨0, by omega, rfl, rfl, hidden (fun i hi => by omega)⟩
   case round =>
    obtain ⟨q, hq, rfl, rfl, HNE⟩ := hrel
    have bq : (q : Int) ≤ 65537 := by omega
    by_cases hqj : q < j
    ·have hqI : (q : Int) < (j : Int) := by omega
     obtain ⟨b1, rfl, hb1, hcs⟩ : ∃ b, ao = some ⟨b, 0, none⟩ ∧ b < wr.heap.size ∧ ∀ i, i < j → wr.cell? ⟨b, i, none⟩ = some (.int .i64 (ql.getD i 0)) := by
      rcases HSJ.out.hat with h0 | h0
      ·omega
      ·exact h0
     have cq := hcs q hqj
     have HC := hidden hcs
     clear hcs
     by_cases he : ql.getD q 0 = a
     ·have HIN : Hid (a ∈ ql) := hidden (by
       rw [← he]
       have h1 : q < ql.length := by rw [HQ.out.1]; exact hqj
       rw [show ql.getD q 0 = ql[q] from by simp [List.getD, h1]]
       exact List.getElem_mem h1)
      rw [he] at cq
      have he2 : (a == a) = true := by simp
      have HE : Hid (X = (90, [], [], r)) := hidden (by rw [← HXR.out]; simp only [thr]; rw [if_pos HIN.out])
      clear he HNE HXR
      go_wp2
      try rw [Exit.noGoto_ret]
      go_returns
      rw [HE.out]
      exact ThrTo.fault HBR.out HCR.out
     ·have he2 : (ql.getD q 0 == a) = false := by rw [beq_eq_false_iff_ne]; exact he
      have HN2 : Hid (∀ i, i < q + 1 → ql.getD i 0 ≠ a) := hidden (by
       intro i hi
       by_cases e : i = q
       ·rw [e]; exact he
       ·exact HNE.out i (by omega))
      generalize ql.getD q 0 = y at *
      clear HNE
      go_wp2
      go_round
      case rel => exact ⟨q + 1, by omega, by go_num, rfl, HN2⟩
      case measure => simp [intOf]; omega
    ·obtain rfl : q = j := by omega
     have HNI : Hid (¬ a ∈ ql) := hidden (by
      intro hm
      obtain ⟨i, hi, e⟩ := List.getElem_of_mem hm
      refine HNE.out i (by rw [← HQ.out.1]; exact hi) ?_
      simp [List.getD, hi, e])
     have h0r : 0 < wr.heap.size := Nat.lt_of_lt_of_le h0 HCR.out.size
     have HTR : Hid (Tab wr) := hidden (fun i hi => (World.cell?_of_block (HCR.out.block 0 h0 (fun e => hb0 e.symm))).trans (HT.out i hi))
     have hrr := HQ.out.2.2.2
     have HLD := hidden (load_any HBR.out a HQ.out.2.2.1 (by omega) hrr.1 HTR.out h0r hb0)
     have hlq : ¬ (q : Int) < (q : Int) := by omega
     clear HNE hrr
     go_wp2_with (first
      | (go_at_call 56; refine HLD.out.mono ?_; rintro e w1 ⟨nx, po, pn, pc, k9, rfl, HBC, HK9⟩; refine Hid.out ?_))
     apply hidden
     clear HLD HTR
     rcases HK9.out with ⟨hl, hk0, rfl, rfl, rfl, rfl⟩ | ⟨pd, hl, rfl, rfl, g, rfl, hg, hown⟩
     ·have hk2 : (k9 == 0) = false := by rw [beq_eq_false_iff_ne]; exact hk0
      have HE : Hid (X = (k9, [], [], r + isM M a)) := hidden (by rw [← HXR.out]; simp only [thr]; rw [if_neg HNI.out, hl])
      clear HK9 hl HXR
      go_wp2
      try rw [Exit.noGoto_ret]
      go_returns
      rw [HE.out]
      exact ThrTo.fault HBC.out.1 (HCR.out.go HBC.out.2)
     ·obtain ⟨hwd, hnx, hd1, hd2, hi1⟩ := ldM_good hl HWF.out
      have HLD := hidden hl
      have HNX := hidden hnx
      have HWD := hidden hwd
      have HI1 := hidden hi1
      have hnw : 0 ≤ nx ∧ nx < 65536 := by unfold nxt at hnx; omega
      have hJ1 : OwnJ w1 w.heap.size (.slice ao q ac) ql := HJ.out.cf HBC.out.2 (fun k hk e => by
       have h1 := (HJ.out.lt hk).1
       have h2 := HBS.out.1
       omega)
      have hD1 : OwnB w1 w.heap.size (.slice bo d.length bc) d := HD.out.cf HBC.out.2 (fun k hk e => by
       have h1 := (HD.out.blk hk).1
       have h2 := HBS.out.1
       omega)
      have hP1 : Sl w1 (some ⟨g, 0, none⟩) pd.length pc pd := by
       obtain ⟨ao', c', e, hs, _⟩ := hown.sl hwd (by omega)
       injection e with e1 e2 e3
       subst e1 e3
       exact hs
      obtain ⟨x, hx⟩ : ∃ x, w1.alloc (.cells #[.int .i64 a] 3) = x := ⟨_, rfl⟩
      have hbx : Below w1.heap.size w1 x := by rw [← hx]; exact bl_al (Below.refl _ _) (Nat.le_refl _) _
      have hcx : x.cell? ⟨w1.heap.size, 0, none⟩ = some (.int .i64 a) := by rw [← hx]; simp
      have hw1 : w.heap.size ≤ w1.heap.size := Nat.le_trans HCR.out.size HBC.out.2.size
      have hxs : w.heap.size ≤ x.heap.size := Nat.le_trans hw1 hbx.size
      have HJX := hidden (hJ1.below hbx)
      have HDX : Hid (OwnB x w.heap.size (.slice bo d.length bc) d) := hidden (hD1.on (Nat.le_refl _) hbx)
      have HPX : Hid (Sl x (some ⟨g, 0, none⟩) pd.length pc pd) := hidden (hP1.on (Nat.le_refl _) hbx)
      have HFR : Hid (Far (some ⟨g, 0, none⟩) pd.length (.slice ao q ac)) := hidden (.inr fun p hp e => by
       cases hp
       have := (HJ.out.lt e).2
       simp only at this
       omega)
      have HBX : Hid (Below w.heap.size w1 x) := hidden (hbx.mono hw1)
      have hql : ql.length + 1 ≤ 4000000 := by rw [HQ.out.1]; omega
      obtain ⟨P, rfl⟩ : ∃ P : Nat, pg = (P : Int) := ⟨pg.toNat, by omega⟩
      clear hl hnx hwd hi1 HK9 hJ1 hD1 hP1 hbx hown
      go_wp2_with (at_builtin; refine app_j _ rfl _ _ rfl w.heap.size ql a _ w1.heap.size rfl rfl HJX.out hcx hql hxs ?_; refine Hid.out ?_)
      apply hidden
      intro v1 w2 hj2 hg2
      have HGB : Hid (Below w.heap.size x w2) := hidden (own_below HJX.out hxs hg2.grow)
      have HP2 : Hid (Sl w2 (some ⟨g, 0, none⟩) pd.length pc pd) := hidden (HPX.out.gr hg2 HFR.out)
      have HD2 : Hid (OwnB w2 w.heap.size (.slice bo d.length bc) d) := hidden (HDX.out.gr hg2 (own_apart2 HJX.out HDX.out))
      obtain ⟨ao2, ac2, rfl, hs2⟩ := hj2.sl
      have hl2 : (ql ++ [a]).length = q + 1 := by rw [List.length_append, HQ.out.1]; rfl
      rw [hl2] at hj2 ⊢
      have HJ2 := hidden hj2
      have HB2 : Hid (Bn w2 b m en (P : Int) ps (r + isM M a) M ct) := hidden (HB.out.up HBC.out.1 (HBX.out.trans HGB.out))
      have HC2 : Hid (Cf (· = b) w w2) := hidden ((HCR.out.go HBC.out.2).thenB (HBX.out.trans HGB.out))
      clear hj2 hg2 hs2 hx hcx HPX HDX HJX HGB HBX HFR HBC HSJ
      have hdl := HQ.out.2.1
      obtain ⟨q1, hq1⟩ : ∃ q1, q + 1 = q1 := ⟨_, rfl⟩
      rw [hq1] at HJ2 hl2 ⊢
      have hq1I : (q : Int) + 1 = (q1 : Int) := by omega
      have hdI : (d.length : Int) ≤ 4294967296 := by omega
      have HND := fun u => HSH (n - (d.length : Int)) u
      have HSTEP : Hid (X = if (pd.length : Int) ≠ min ((P : Int) - 16) (n - (d.length : Int)) ∨ decide ((q1 : Int) = all) ≠ decide (nx = 0) then (90, [], [], r + isM M a) else thr M (P : Int) n all k nx (ql ++ [a]) (d ++ pd) (r + isM M a)) := hidden (by
       rw [← HXR.out]
       simp only [thr]
       rw [if_neg HNI.out, HLD.out]
       simp only
       rw [HQ.out.1, hq1])
      have hnd : IntKind.i64.wrap (n - (d.length : Int)) = n - (d.length : Int) := by rw [IntKind.wrap_i64]; omega
      obtain ⟨z, hz⟩ : ∃ z, min ((P : Int) - 16) (n - (d.length : Int)) = z := ⟨_, rfl⟩
      rw [hz] at HSTEP HND
      obtain ⟨dl, hdl9⟩ : ∃ dl, d.length = dl := ⟨_, rfl⟩
      obtain ⟨pl, hpl9⟩ : ∃ pl, pd.length = pl := ⟨_, rfl⟩
      have HDL := hidden hdl9
      have HPL := hidden hpl9
      rw [hdl9] at HND hnd hdI hdl
      rw [hpl9] at hd1 hd2
      simp only [hdl9, hpl9]
      rw [hdl9] at HD2
      rw [hpl9] at HP2 HSTEP
      clear hz hdl9 hpl9 HSH HLD HXR HNI
      by_cases hA : (pl : Int) = z
      ·subst hA
       obtain ⟨bB, hB⟩ : ∃ bB, ((q1 : Int) == all) = bB := ⟨_, rfl⟩
       obtain ⟨bC, hC⟩ : ∃ bC, (nx == 0) = bC := ⟨_, rfl⟩
       have eB : decide ((q1 : Int) = all) = bB := by rw [← hB]; rfl
       have eC : decide (nx = 0) = bC := by rw [← hC]; rfl
       rw [eB, eC] at HSTEP
       clear eB eC
       by_cases hBC : bB = bC
       ·have HE : Hid (X = thr M (P : Int) n all k nx (ql ++ [a]) (d ++ pd) (r + isM M a)) := hidden (by rw [HSTEP.out, if_neg (by simp [hBC])])
        subst hBC
        have hbb : (bB != bB) = false := by cases bB <;> rfl
        clear HSTEP
        have hw2 : w.heap.size ≤ w2.heap.size := HC2.out.size
        have hsum : dl + pl ≤ 140737488355328 := by omega
        have HSUM : Hid (d.length + pl ≤ 140737488355328) := hidden (by rw [HDL.out]; exact hsum)
        cases bB
        all_goals
         go_wp2_with (first
          | (go_at_call 55; refine same_call (HND _) ?_)
          | (at_builtin; refine app_sl _ rfl _ _ rfl w.heap.size d pd _ (some ⟨g, 0, none⟩) pl pc rfl rfl HD2.out HP2.out HSUM.out hw2 ?_; refine Hid.out ?_))
         apply hidden
         intro v2 w3 hd3 hg3
         have HB3 : Hid (Below w.heap.size w2 w3) := hidden (hg3.below HD2.out hw2)
         have HJ3 : Hid (OwnJ w3 w.heap.size (.slice ao2 q1 ac2) (ql ++ [a])) := hidden (HJ2.out.gr hg3 (own_apart HJ2.out HD2.out))
         obtain ⟨bo3, bc3, rfl, _, _⟩ := hd3.sl (HQ.out.2.2.2.2.2.append HWD.out) (by rw [List.length_append, HPL.out]; exact HSUM.out)
         have HD3 := hidden hd3
         have HBN3 : Hid (Bn w3 b m en (P : Int) ps (r + isM M a) M ct) := hidden (HB.out.up HB2.out HB3.out)
         have HC3 : Hid (Cf (· = b) w w3) := hidden (HC2.out.thenB HB3.out)
         have HLL : Hid ((d ++ pd).length ≤ 65520 * q1) := hidden (by rw [List.length_append, HDL.out, HPL.out]; omega)
         obtain ⟨dl3, hdl3⟩ : ∃ dl3, (d ++ pd).length = dl3 := ⟨_, rfl⟩
         have HDL3 := hidden hdl3
         rw [hdl3] at HD3 HLL ⊢
         clear hd3 hg3 hdl3 HJ2 HD2 HP2 HB2 HC2
         go_wp2
         go_roundw
         case rel =>
          refine ⟨q1, nx, ao2, ac2, bo3, bc3, ql ++ [a], d ++ pd, r + isM M a, by omega, by go_num, rfl, rfl, rfl, by rw [HDL3.out], HJ3, by rw [HDL3.out]; exact HD3, HBN3, HC3, hidden ⟨hl2, by rw [HDL3.out]; exact HLL.out, wf64 _ (by omega) (by omega), ?_, ?_, HQ.out.2.2.2.2.2.append HWD.out⟩, ?_⟩
          ·rw [HI1.out]; have := HQ.out.2.2.2.1; omega
          ·rw [HI1.out]; have := HQ.out.2.2.2.2.1; omega
          ·refine hidden ?_
           rw [← hq1, HK.out]
           exact HE.out.symm
         case measure => simp [intOf]; omega
       ·have HE : Hid (X = (90, [], [], r + isM M a)) := hidden (by rw [HSTEP.out, if_pos (.inr hBC)])
        clear HSTEP
        cases bB <;> cases bC
        ·exact absurd rfl hBC
        ·go_wp2_with (first | (go_at_call 55; refine same_call (HND _) ?_))
         try rw [Exit.noGoto_ret]
         go_returns
         rw [HE.out]
         exact ThrTo.fault HB2.out HC2.out
        ·go_wp2_with (first | (go_at_call 55; refine same_call (HND _) ?_))
         try rw [Exit.noGoto_ret]
         go_returns
         rw [HE.out]
         exact ThrTo.fault HB2.out HC2.out
        ·exact absurd rfl hBC
      ·have hA2 : ((pl : Int) == z) = false := by rw [beq_eq_false_iff_ne]; exact hA
       have HE : Hid (X = (90, [], [], r + isM M a)) := hidden (by rw [HSTEP.out, if_pos (.inl hA)])
       clear HSTEP
       go_wp2_with (first | (go_at_call 55; refine same_call (HND _) ?_))
       try rw [Exit.noGoto_ret]
       go_returns
       rw [HE.out]
       exact ThrTo.fault HB2.out HC2.out
  ·obtain rfl : j = T := by omega
   have hlI : ¬ (j : Int) < (j : Int) := by omega
   have HE : Hid (X = (0, ql, d, r)) := hidden (by rw [← HXR.out, Nat.sub_self]; rfl)
   clear HXR HX
   go_wp2
   try rw [Exit.noGoto_ret]
   go_returns
   rw [HE.out]
   exact ⟨_, _, _, _, _, _, _, rfl, hidden ⟨rfl, HJ.out, HQ.out.1.symm, HD.out, rfl, HBR.out, HCR.out⟩⟩
end Go.Proofs.YtoejadhlkamcjaaDoor
