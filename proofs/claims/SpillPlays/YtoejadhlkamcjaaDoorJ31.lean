import Derived.Test.YtoejadhlkamcjaaDoorJ30
namespace Go.Proofs.YtoejadhlkamcjaaDoor
set_option maxRecDepth 100000
open Go.RowKit Go.Maps
set_option maxHeartbeats 4000000 in
theorem rchain_any {w : World} {b m : Nat} {en pg ps rd : Int} {M : Int → Option Pf} {ct : Nat} (h : Bn w b m en pg ps rd M ct) (hp : pw pg) (first n : Int) (T : Nat) (hf : (Lit.int .i64 first).wf = true) (hn : 1 ≤ n) (hn2 : n ≤ 65536) (hTa : (T : Int) ≤ pgN pg n) (hrd : rd < 2305843009213693952) (hr0 : 0 ≤ rd) :
  Calls Tryd.prog 47 #[pB b, .int .i64 first, .int .i64 n, .int .i64 (T : Int)] w fun e u => ThrTo (thr M pg n (pgN pg n) T first [] [] rd) w b m en pg ps M ct e u := by
 have HB := hidden h
 have hpl := pw_le hp
 have HP1 := fun u => refPages_any pg n (by omega) u
 have HS := hidden (size_any h)
 have HWF := hidden h.wfs
 have hpn := pgN_le hp hn hn2
 have HFU := hidden (fun i (hi : i + 1 < pgN pg n) => pg_full (P := pg) (n := n) (i := i) hp hn hi)
 obtain ⟨all, hall⟩ : ∃ all, pgN pg n = all := ⟨_, rfl⟩
 rw [hall] at HP1 hTa hpn HFU ⊢
 have hTb : T ≤ 65536 := by omega
 have hTI : (T : Int) ≤ 65536 := by omega
 have haI : 0 ≤ all ∧ all ≤ 65536 := by omega
 have HBS := hidden (And.intro h.lt h.mlt)
 obtain ⟨X, hX⟩ : ∃ X, thr M pg n all T first [] [] rd = X := ⟨_, rfl⟩
 have HX := hidden hX
 have HTA := hidden hTa
 rw [hX]
 obtain ⟨H, hH⟩ : ∃ H : Nat, pg - 16 = (H : Int) := ⟨(pg - 16).toNat, by omega⟩
 have hHI : (H : Int) ≤ 65520 := by omega
 have HHP := hidden hH
 rw [hH] at HFU
 clear h hp hall hX hpn hTa
 go_enter Tryd.func47, Tryd.ntmps47
 go_wp2_with (first
  | (go_at_call 49; refine same_call HS.out ?_)
  | (go_at_call 48; refine same_call (HP1 _) ?_))
 clear HP1 HS
 go_loopw [11, 12, 15, 16] (fun v1 v2 av i wr => ∃ (j : Nat) (a : Int) (ao : Option Addr) (ac : Nat) (bo : Option Addr) (bc : Nat) (ql d : List Int) (r : Int), j ≤ T ∧ i = .int .i64 (j : Int) ∧ av = .int .i64 a ∧ v1 = .slice ao j ac ∧ v2 = .slice bo d.length bc ∧
   Hid (OwnJ wr w.heap.size (.slice ao j ac) ql) ∧ Hid (OwnB wr w.heap.size (.slice bo d.length bc) d) ∧ Hid (Bn wr b m en pg ps r M ct) ∧ Hid (Cf (· = b) w wr) ∧ Hid (ql.length = j ∧ d.length ≤ 65520 * j ∧ (Lit.int .i64 a).wf = true ∧ 0 ≤ r ∧ r ≤ rd + j ∧ Wf d ∧ ((j : Int) < all → d.length = H * j)) ∧ Hid (thr M pg n all (T - j) a ql d r = X)) (fun _ _ _ i _ => T - (intOf i).toNat)
 case atStart =>
  exact ⟨0, first, none, 0, none, 0, [], [], rd, by omega, rfl, rfl, rfl, rfl, hidden (OwnJ.nil _ _), hidden (OwnB.nil _ _), HB, hidden (Cf.refl _ _), hidden ⟨rfl, by simp, hf, hr0, by omega, Wf.nil, fun _ => by simp⟩, HX⟩
 case round =>
  obtain ⟨j, a, ao, ac, bo, bc, ql, d, r, hj, rfl, rfl, rfl, rfl, HJ, HD, HBR, HCR, HQ, HXR⟩ := hrel
  have bj : (j : Int) ≤ 65536 := by omega
  by_cases hlt : j < T
  ·have hltI : (j : Int) < (T : Int) := by omega
   obtain ⟨k, hk⟩ : ∃ k, T - j = k + 1 := ⟨T - j - 1, by omega⟩
   rw [hk] at HXR
   have HK : Hid (T - (j + 1) = k) := hidden (by omega)
   clear hk HX
   have HSJ : Hid (SlJ wr ao j ac ql) := hidden (by
    obtain ⟨ao', c', e, hs⟩ := HJ.out.sl
    injection e with e1 e2 e3
    subst e1 e3
    rw [← e2] at hs
    exact hs)
   go_wp2_with fail
   go_loop [17] (fun i => ∃ q : Nat, q ≤ j ∧ i = .int .i64 (q : Int) ∧ Hid (∀ i, i < q → ql.getD i 0 ≠ a)) (fun i => j - (intOf i).toNat)
   case atStart => exact ⟨0, by omega, rfl, hidden (fun i hi => by omega)⟩
   case round =>
    obtain ⟨q, hq, rfl, HNE⟩ := hrel
    have bq : (q : Int) ≤ 65537 := by omega
    by_cases hqj : q < j
    ·have hqI : (q : Int) < (j : Int) := by omega
     obtain ⟨b1, rfl, hb1, hcs⟩ : ∃ b, ao = some ⟨b, 0, none⟩ ∧ b < wr.heap.size ∧ ∀ i, i < j → wr.cell? ⟨b, i, none⟩ = some (.int .i64 (ql.getD i 0)) := by
      rcases HSJ.out.hat with h0 | h0
      ·omega
      ·exact h0
     have cq := hcs q hqj
     clear hcs
     by_cases he : ql.getD q 0 = a
     ·have HIN : Hid (a ∈ ql) := hidden (by
       rw [← he]
       exact getD_mem (by rw [HQ.out.1]; exact hqj))
      rw [he] at cq
      have he2 : (a == a) = true := by simp
      have HE : Hid (X = (90, [], [], r)) := hidden (by rw [← HXR.out]; simp only [thr]; rw [if_pos HIN.out])
      clear he HNE HXR
      go_wp2
      go_returns
      rw [HE.out]
      exact ThrTo.fault HBR.out HCR.out
     ·have he2 : (ql.getD q 0 == a) = false := by rw [beq_eq_false_iff_ne]; exact he
      have HN2 : Hid (∀ i, i < q + 1 → ql.getD i 0 ≠ a) := hidden (by
       intro i hi
       by_cases e : i = q
       ·rw [e]; exact he
       ·exact HNE.out i (by omega))
      generalize ql.getD q 0 = y at *
      clear HNE
      go_wp2
      go_round
      case rel => exact ⟨q + 1, by omega, by go_num, HN2⟩
      case measure => simp [intOf]; omega
    ·obtain rfl : q = j := by omega
     have HNI : Hid (¬ a ∈ ql) := hidden (by
      intro hm
      obtain ⟨i, hi, e⟩ := List.getElem_of_mem hm
      refine HNE.out i (by rw [← HQ.out.1]; exact hi) ?_
      simp [List.getD, hi, e])
     have hrr := HQ.out.2.2.2
     have hja : (q : Int) < all := by have := HTA.out; omega
     have hdl := hrr.2.2.2 hja
     obtain ⟨k0, hk0⟩ : ∃ k0, H * q = k0 := ⟨_, rfl⟩
     have hm0 : (H : Int) * (q : Int) = (k0 : Int) := by rw [← hk0]; exact (Int.natCast_mul H q).symm
     have hk0b : k0 ≤ 4294967296 := by
      have h1 : H * q ≤ 65520 * 65536 := Nat.mul_le_mul (by omega) (by omega)
      omega
     have k0I : (k0 : Int) ≤ 4294967296 := by omega
     have hdk : d.length = k0 := by rw [hdl, hk0]
     obtain ⟨z, hz⟩ : ∃ z, min (H : Int) (n - (k0 : Int)) = z := ⟨_, rfl⟩
     obtain ⟨la, hla⟩ : ∃ la, ((q : Int) == all - 1) = la := ⟨_, rfl⟩
     have HPG := hidden (rpage_any HBR.out a z la HQ.out.2.2.1 (by omega) hrr.1)
     have HLA : Hid (decide (((q + 1 : Nat) : Int) = all) = la) := hidden (by
      rw [← hla]
      cases e : ((q : Int) == all - 1) with
      | true => rw [beq_iff_eq] at e; exact decide_eq_true (by omega)
      | false => rw [beq_eq_false_iff_ne] at e; exact decide_eq_false (by omega))
     have HPO : Hid (∀ k9, pgO M pg a z la = .inl k9 → X = (k9, [], [], r + isM M a)) := hidden (by
      intro k9 hpo
      rw [← HXR.out]
      simp only [thr]
      rw [if_neg HNI.out]
      unfold pgO at hpo
      cases hl : ldM M pg a with
      | inl e =>
       rw [hl] at hpo
       simp only [Sum.inl.injEq] at hpo
       rw [hpo]
      | inr x =>
       rw [hl] at hpo
       simp only at hpo ⊢
       rw [HQ.out.1, HHP.out, hdk, hz, HLA.out]
       by_cases e : (x.2.length : Int) ≠ z ∨ decide (x.1 = 0) ≠ la
       ·rw [if_pos e] at hpo
        simp only [Sum.inl.injEq] at hpo
        rw [if_pos (e.imp id fun e => fun q => e q.symm), ← hpo]
       ·rw [if_neg e] at hpo
        cases hpo)
     have HPY : Hid (∀ nx pd, pgO M pg a z la = .inr (nx, pd) → ldM M pg a = .inr (nx, pd) ∧ (pd.length : Int) = z ∧ X = thr M pg n all k nx (ql ++ [a]) (d ++ pd) (r + isM M a)) := hidden (by
      intro nx pd hpo
      unfold pgO at hpo
      cases hl : ldM M pg a with
      | inl e =>
       rw [hl] at hpo
       cases hpo
      | inr x =>
       rw [hl] at hpo
       simp only at hpo
       by_cases e : (x.2.length : Int) ≠ z ∨ decide (x.1 = 0) ≠ la
       ·rw [if_pos e] at hpo
        cases hpo
       ·rw [if_neg e] at hpo
        injection hpo with hpo
        subst hpo
        refine ⟨rfl, by
         by_cases e2 : (pd.length : Int) = z
         ·exact e2
         ·exact absurd (.inl e2) e, ?_⟩
        rw [← HXR.out]
        simp only [thr]
        rw [if_neg HNI.out, hl]
        simp only
        rw [HQ.out.1, HHP.out, hdk, hz, HLA.out, if_neg (fun q => e (q.imp id fun e => fun q => e q.symm))])
     have hlq : ¬ (q : Int) < (q : Int) := by omega
     have HDK := hidden hdk
     have HK0 := hidden hk0
     have HZ := hidden hz
     have wn : IntKind.i64.wrap (n - (k0 : Int)) = n - (k0 : Int) := by rw [IntKind.wrap_i64]; omega
     have wa : IntKind.i64.wrap (all - 1) = all - 1 := by rw [IntKind.wrap_i64]; omega
     clear HNE hrr hdl hk0 hdk HXR HNI
     go_wp2_with (first
      | (go_at_call 64; refine HPG.out.mono ?_; rintro e w1 ⟨nx, po, pn, pc, k9, rfl, HBC, HK9⟩; refine Hid.out ?_))
     apply hidden
     clear HPG
     rcases HK9.out with ⟨hl, hk0', rfl, rfl, rfl, rfl⟩ | ⟨pd, hl, rfl, hps, hpo⟩
     ·have hk2 : (k9 == 0) = false := by rw [beq_eq_false_iff_ne]; exact hk0'
      have HE : Hid (X = (k9, [], [], r + isM M a)) := hidden (HPO.out k9 hl)
      clear HK9 hl HPO HPY
      go_wp2
      go_returns
      rw [HE.out]
      exact ThrTo.fault HBC.out.1 (HCR.out.go HBC.out.2)
     ·obtain ⟨hl2, hpz, hXs⟩ := HPY.out nx pd hl
      obtain ⟨hwd, hnx, hd1, hd2, hi1⟩ := ldM_good hl2 HWF.out
      have HXS := hidden hXs
      have HWD := hidden hwd
      have HI1 := hidden hi1
      have HPZ := hidden hpz
      have hpn := hps.hlen
      have hnw : 0 ≤ nx ∧ nx < 65536 := by unfold nxt at hnx; omega
      have hJ1 : OwnJ w1 w.heap.size (.slice ao q ac) ql := HJ.out.cf HBC.out.2 (fun k hk e => by
       have h1 := (HJ.out.lt hk).1
       have h2 := HBS.out.1
       omega)
      have hD1 : OwnB w1 w.heap.size (.slice bo d.length bc) d := HD.out.cf HBC.out.2 (fun k hk e => by
       have h1 := (HD.out.blk hk).1
       have h2 := HBS.out.1
       omega)
      obtain ⟨x, hx⟩ : ∃ x, w1.alloc (.cells #[.int .i64 a] 3) = x := ⟨_, rfl⟩
      have hbx : Below w1.heap.size w1 x := by rw [← hx]; exact bl_al (Below.refl _ _) (Nat.le_refl _) _
      have hcx : x.cell? ⟨w1.heap.size, 0, none⟩ = some (.int .i64 a) := by rw [← hx]; simp
      have hw1 : w.heap.size ≤ w1.heap.size := Nat.le_trans HCR.out.size HBC.out.2.size
      have hxs : w.heap.size ≤ x.heap.size := Nat.le_trans hw1 hbx.size
      have HJX := hidden (hJ1.below hbx)
      have HDX : Hid (OwnB x w.heap.size (.slice bo d.length bc) d) := hidden (hD1.on (Nat.le_refl _) hbx)
      have HPX : Hid (Sl x po pn pc pd) := hidden (hps.on (Nat.le_refl _) hbx)
      have HBX : Hid (Below w.heap.size w1 x) := hidden (hbx.mono hw1)
      have HFR : Hid (Far po pn (.slice ao q ac)) := hidden (.inr fun p hp e => by
       subst hp
       have h1 := (HJ.out.lt e).2
       have h2 := (hpo.blk (k := p.block) rfl).1
       omega)
      have hql : ql.length + 1 ≤ 4000000 := by rw [HQ.out.1]; omega
      clear hl hl2 hnx hwd hi1 HK9 hJ1 hD1 hbx hps hpo hpz hXs HPO HPY
      go_wp2_with (at_builtin; refine app_j _ rfl _ _ rfl w.heap.size ql a _ w1.heap.size rfl rfl HJX.out hcx hql hxs ?_; refine Hid.out ?_)
      apply hidden
      intro v1 w2 hj2 hg2
      have HGB : Hid (Below w.heap.size x w2) := hidden (own_below HJX.out hxs hg2.grow)
      have HP2 : Hid (Sl w2 po pn pc pd) := hidden (HPX.out.gr hg2 HFR.out)
      have HD2 : Hid (OwnB w2 w.heap.size (.slice bo d.length bc) d) := hidden (HDX.out.gr hg2 (own_apart2 HJX.out HDX.out))
      obtain ⟨ao2, ac2, rfl, hs2⟩ := hj2.sl
      have hl2 : (ql ++ [a]).length = q + 1 := by rw [List.length_append, HQ.out.1]; rfl
      rw [hl2] at hj2 ⊢
      have HJ2 := hidden hj2
      have HB2 : Hid (Bn w2 b m en pg ps (r + isM M a) M ct) := hidden (HB.out.up HBC.out.1 (HBX.out.trans HGB.out))
      have HC2 : Hid (Cf (· = b) w w2) := hidden ((HCR.out.go HBC.out.2).thenB (HBX.out.trans HGB.out))
      clear hj2 hg2 hs2 hx hcx HPX HDX HJX HGB HBX HFR HBC HSJ
      obtain ⟨q1, hq1⟩ : ∃ q1, q + 1 = q1 := ⟨_, rfl⟩
      rw [hq1] at HJ2 hl2 ⊢
      have hq1I : (q : Int) + 1 = (q1 : Int) := by omega
      obtain ⟨dl, hdl9⟩ : ∃ dl, d.length = dl := ⟨_, rfl⟩
      have HDL := hidden hdl9
      rw [hdl9] at HD2 ⊢
      have hw2 : w.heap.size ≤ w2.heap.size := HC2.out.size
      have HSUM : Hid (d.length + pn ≤ 140737488355328) := hidden (by rw [HDK.out, ← hpn]; omega)
      have HQ1 := hidden hq1
      clear hdl9 hq1
      go_wp2_with (at_builtin; refine app_sl _ rfl _ _ rfl w.heap.size d pd _ po pn pc rfl rfl HD2.out HP2.out HSUM.out hw2 ?_; refine Hid.out ?_)
      apply hidden
      intro v2 w3 hd3 hg3
      have HB3 : Hid (Below w.heap.size w2 w3) := hidden (hg3.below HD2.out hw2)
      have HJ3 : Hid (OwnJ w3 w.heap.size (.slice ao2 q1 ac2) (ql ++ [a])) := hidden (HJ2.out.gr hg3 (own_apart HJ2.out HD2.out))
      obtain ⟨bo3, bc3, rfl, _, _⟩ := hd3.sl (HQ.out.2.2.2.2.2.1.append HWD.out) (by rw [List.length_append, hpn]; exact HSUM.out)
      have HD3 := hidden hd3
      have HBN3 : Hid (Bn w3 b m en pg ps (r + isM M a) M ct) := hidden (HB.out.up HB2.out HB3.out)
      have HC3 : Hid (Cf (· = b) w w3) := hidden (HC2.out.thenB HB3.out)
      have HLL : Hid ((d ++ pd).length ≤ 65520 * q1) := hidden (by rw [List.length_append, ← HQ1.out]; have := HQ.out.2.1; omega)
      have HFL : Hid ((q1 : Int) < all → (d ++ pd).length = H * q1) := hidden (by
       intro hlt1
       have h1 := HFU.out (q : Int) (by omega)
       have h2 := HPZ.out
       have h3 := HZ.out
       rw [Int.mul_add, Int.mul_one, hm0] at h1
       rw [List.length_append, HDK.out, ← HQ1.out, Nat.mul_succ, HK0.out]
       omega)
      obtain ⟨dl3, hdl3⟩ : ∃ dl3, (d ++ pd).length = dl3 := ⟨_, rfl⟩
      have HDL3 := hidden hdl3
      rw [hdl3] at HD3 HLL HFL ⊢
      clear hd3 hg3 hdl3 HJ2 HD2 HP2 HB2 HC2
      go_wp2
      go_roundw
      case rel =>
       refine ⟨q1, nx, ao2, ac2, bo3, bc3, ql ++ [a], d ++ pd, r + isM M a, by omega, by go_num, rfl, rfl, by rw [HDL3.out], HJ3, by rw [HDL3.out]; exact HD3, HBN3, HC3, hidden ⟨hl2, by rw [HDL3.out]; exact HLL.out, wf64 _ (by omega) (by omega), ?_, ?_, HQ.out.2.2.2.2.2.1.append HWD.out, by rw [HDL3.out]; exact HFL.out⟩, ?_⟩
       ·rw [HI1.out]; have := HQ.out.2.2.2.1; omega
       ·rw [HI1.out]; have := HQ.out.2.2.2.2.1; have := HQ1.out; omega
       ·refine hidden ?_
        rw [← HQ1.out, HK.out]
        exact HXS.out.symm
      case measure => simp [intOf]; omega
  ·obtain rfl : j = T := by omega
   have hlI : ¬ (j : Int) < (j : Int) := by omega
   have HE : Hid (X = (0, ql, d, r)) := hidden (by rw [← HXR.out, Nat.sub_self]; rfl)
   clear HXR HX
   go_wp2
   go_returns
   rw [HE.out]
   exact ⟨_, _, _, _, _, _, _, rfl, hidden ⟨rfl, HJ.out, HQ.out.1.symm, HD.out, rfl, HBR.out, HCR.out⟩⟩
end Go.Proofs.YtoejadhlkamcjaaDoor
