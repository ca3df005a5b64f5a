import Derived.Test.YtfgffajgfgifhaaGreatDoorJ42
namespace Go.Proofs.YtfgffajgfgifhaaGreatDoor
set_option maxRecDepth 100000
open Go.RowKit
set_option maxHeartbeats 8000000 in
theorem dset_any (w : World) (K : Nat → Prop) (r : Nat) (k : Int) (n : Nat) (s : Qs) (h : Dm w K r k n s) (hn : pw n) (I : Int) (c : Cl) (ka va : Option Addr) (kc vc : Nat) (hk : Sl w ka c.key.length kc c.key) (hv : Sl w va c.val.length vc c.val) :
  Calls Tryz.prog 33 #[.pointer (some ⟨r, 0, none⟩), .int .i64 I, .agg #[.slice ka c.key.length kc, .int .i64 c.kd, .slice va c.val.length vc, .int .i64 c.pg, .int .i64 c.ct]] w (ChD (SetR k n s I c) K r k n w) := by
 have hn2 := zai hn
 obtain ⟨lo, N, lc, vs, so, sn, sc, hA⟩ := h
 obtain ⟨l1, l2, l3, l4, l5⟩ := hA.lens hn
 obtain ⟨x, hx⟩ : ∃ x, w.alloc (.cells #[.slice ka c.key.length kc, .int .i64 c.kd, .slice va c.val.length vc, .int .i64 c.pg, .int .i64 c.ct] 39) = x := ⟨_, rfl⟩
 have hbx : Below w.heap.size w x := by rw [← hx]; exact zac Br Lr _
 have hc5 : C5 x w.heap.size (.slice ka c.key.length kc) (.int .i64 c.kd) (.slice va c.val.length vc) (.int .i64 c.pg) (.int .i64 c.ct) := by rw [← hx]; exact C5.box _ _ _ _ _ _
 have HC5 : Hid (C5 x w.heap.size (.slice ka c.key.length kc) (.int .i64 c.kd) (.slice va c.val.length vc) (.int .i64 c.pg) (.int .i64 c.ct)) := zaa hc5
 obtain ⟨z0, z1, z2, z3, z4⟩ := hc5.cells
 have HMX := zaa ((Mid.start hA).go hbx)
 obtain ⟨t0, t1, t2, t3, t4⟩ := HMX.out.row.cells
 have HOK := zaa hA.ok
 have HBX := zaa hbx
 have HL := zaa (And.intro l1 l2)
 have NI : (N : Int) ≤ 65000 := by omega
 by_cases hin : 0 ≤ I ∧ I < (N : Int)
 ·obtain ⟨i, rfl⟩ : ∃ i : Nat, I = (i : Int) := ⟨I.toNat, by omega⟩
  have hiN : i + 1 ≤ N := by omega
  have HI : Hid (i ≤ s.cs.length ∧ i + 1 ≤ s.cs.length ∧ i < s.cs.length) := zaa (by omega)
  have hn0 : ¬ (i : Int) < 0 := by omega
  have hnN : ¬ (N : Int) ≤ (i : Int) := by omega
  have hw1 : IntKind.i64.wrap ((i : Int) + 1) = ((i + 1 : Nat) : Int) := by rw [IntKind.wrap_i64]; omega
  have hi1 : (i : Int) + 1 = ((i + 1 : Nat) : Int) := by omega
  obtain ⟨i1, hi1E⟩ : ∃ i1, i + 1 = i1 := ⟨_, rfl⟩
  rw [hi1E] at hw1 hi1
  have hw2 : IntKind.i64.wrap (i1 : Int) = (i1 : Int) := by rw [IntKind.wrap_i64]; omega
  have i1I : (i1 : Int) ≤ 65000 := by omega
  have HKW : Hid (c.Wf ∧ c.key.length ≤ 140737488355328 ∧ c.val.length ≤ 140737488355328) := zaa ⟨⟨hk.wf, hv.wf⟩, hk.hroom, hv.hroom⟩
  have hkx := hk.on Lr hbx
  have HKX : Hid (Sl x ka c.key.length kc c.key) := zaa hkx
  have HCH := zaa (dchanged_any x (Zk K w x) r k n lo N lc (.slice so sn sc) (s.ws : Int) vs s.cs HMX.out.row HMX.out.cells HMX.out.lt (by omega) i i1 (by omega) (by omega) c ka va kc vc hkx (hv.on Lr hbx))
  have HMC : Hid (∀ e u, DchTo x i i1 N vs c e u → ∃ lo' lc' vs', e = .returned (.slice lo' N lc') ∧ Hid (RwK u (Zk K w u) lo' N lc' vs' (spl s.cs i (i + 1) c)) ∧ Hid (Below x.heap.size x u)) := zaa fun e u hc => by
   rw [← hi1E] at hc
   have h1 := HMX.out.chg (Nat.le_succ _) hiN HKW.out.1 HKW.out.2.1 HKW.out.2.2 hc
   rwa [show i + 1 + (N - (i + 1)) = N by omega] at h1
  obtain ⟨ds, hds⟩ : ∃ ds, spl s.cs i (i + 1) c = ds := ⟨_, rfl⟩
  rw [hds] at HMC
  have HDS := zaa hds
  obtain ⟨M, hM⟩ : ∃ M, N = M := ⟨_, rfl⟩
  have MI : (M : Int) ≤ 65001 := by omega
  have HMM : Hid (M = N ∧ M ≤ 65001 ∧ i < M ∧ ds.length = M) := zaa (by
   have := zbx s.cs i (i + 1) c (by omega)
   rw [hds] at this
   omega)
  have HPN := zaa hn
  have HKL := zaa hA.kl
  subst hM
  clear hk hv hkx hbx hc5 hA l1 l2 hin hiN hds hn hn2
  go_enter Tryz.func33, Tryz.ntmps33
  go_wp2_with (go_at_call 69; refine HCH.out.mono ?_; intro e u1 hch; obtain ⟨lo', lc', vs', rfl, HR1, HB1⟩ := HMC.out _ _ hch; clear hch; refine Hid.out ?_)
  apply zaa
  have HM1 := zaa (HMX.out.go HB1.out)
  have HRF : Hid (Calls Tryz.prog 70 #[.pointer (some ⟨r, 0, none⟩), .slice lo' N lc', .int .i64 (i : Int)] u1 fun e w' => ∃ code, e = .returned (.int .i64 code) ∧ Hid (RfR k n ds i c code) ∧ Hid (Below u1.heap.size u1 w')) := zaa (by
   obtain ⟨h1, h2, h3, h4⟩ := HMM.out
   refine drefused_any u1 r k n _ _ _ HM1.out.row HPN.out lo' N lc' ds (HR1.out.slc (by omega)) (by omega) i c ?_ ?_
   ·rw [← HDS.out, zbq _ _ _ _ HI.out.1, if_neg (by omega), if_pos rfl]
   ·rw [← HDS.out]
    exact spl_fit HI.out.1 fun d hd => (HOK.out.may d hd).fit (by have := zai HPN.out; omega))
  clear z0 z1 z2 z3 z4 t0 t1 t2 t3 t4 HCH HMC hx
  go_wp2_with (go_at_call 70; refine HRF.out.mono ?_; rintro e u2 ⟨code, rfl, HR2, HB2⟩; refine Hid.out ?_)
  apply zaa
  have HM2 := zaa (HM1.out.go HB2.out)
  have HCS : Hid ((code = 0 ∧ mayP k n c ∧ zau s.cs i (i + 1) c ∧ szQ k (shP k ds).length ds ≤ n) ∨ (¬ code = 0 ∧ PutR k n s i (i + 1) c code s)) := zaa (by
   have h1 := HR2.out
   rw [← HDS.out] at h1
   have h2 := RfR.put HOK.out (.inr rfl) HI.out.2.1 HKW.out.1 h1
   rwa [HDS.out] at h2)
  by_cases hcd : code = 0
  ·subst hcd
   have HMY : Hid (mayP k n c ∧ zau s.cs i (i + 1) c ∧ szQ k (shP k ds).length ds ≤ n) := zaa (by
    rcases HCS.out with h | h
    ·exact h.2
    ·exact absurd rfl h.1)
   obtain ⟨d, hd⟩ : ∃ d, s.cs[i]? = some d := ⟨_, zI HI.out.2.2⟩
   have HDD := zaa hd
   obtain ⟨g, d', dka, dkc, dva, dvc, hlo, hd', e0, e1, e2, e3, e4, _, hdk, hdv⟩ := HM2.out.cells.item i (by have := HMM.out; omega)
   rw [hd] at hd'
   injection hd' with hd'
   subst hd' hlo
   obtain ⟨L, hL⟩ : ∃ L, (qB (hdQ k i s.P).length d).length = L := ⟨_, rfl⟩
   have hLb : L ≤ 200000 := by
    have h0 := zai HPN.out
    have h1 := ((HOK.out.may d (List.mem_of_getElem? hd)).fit (by omega))
    have := qB_most (hdQ k i s.P).length d
    have := h1.key
    have := h1.val
    omega
   have LI : (L : Int) ≤ 200000 := by omega
   have HBY : Hid (∀ u, Below u2.heap.size u2 u → Calls Tryz.prog 74 #[.int .i64 k, .int .i64 (i : Int), .agg #[.slice dka d.key.length dkc, .int .i64 d.kd, .slice dva d.val.length dvc, .int .i64 d.pg, .int .i64 d.ct], .int .i64 (sn : Int)] u fun e w' => ∃ ao cp, e = .returned (.slice ao L cp) ∧ Hid (Below u2.heap.size u2 w')) := zaa fun u hu => by
    have h0 := zai HPN.out
    have h1 := ((HOK.out.may d (List.mem_of_getElem? hd)).fit (by omega))
    have h2 := h1.key
    have h3 := h1.val
    refine (rbytesG_any k (i : Int) d dka dva dkc dvc sn u (hdk.on Lr hu) (hdv.on Lr hu) (by omega)).mono ?_
    rintro e w' ⟨v, rfl, HO, HB⟩
    have hcu : cutG k (i : Int) sn d.key.length = (hdQ k i s.P).length := by
     unfold cutG hdQ
     by_cases hh : k = 3 ∧ i = 0
     ·rw [if_pos (.inl ⟨hh.1, by omega⟩), if_pos hh]; rfl
     ·have h4 := zbv (HOK.out.beg d (zaw hd hh))
      have h5 := HL.out.2
      rw [if_neg (by omega), if_neg hh, h5]
    obtain ⟨ao, cp, rfl⟩ := HO.out.shape
    rw [hcu, hL]
    exact ⟨ao, cp, rfl, zaa (zab hu Lr HB.out)⟩
   have HLL := zaa hL
   obtain ⟨kd', hkd'⟩ : ∃ y, d.kd = y := ⟨_, rfl⟩
   obtain ⟨pg', hpg'⟩ : ∃ y, d.pg = y := ⟨_, rfl⟩
   obtain ⟨ct', hct'⟩ : ∃ y, d.ct = y := ⟨_, rfl⟩
   obtain ⟨kn', hkn'⟩ : ∃ y, d.key.length = y := ⟨_, rfl⟩
   obtain ⟨vn', hvn'⟩ : ∃ y, d.val.length = y := ⟨_, rfl⟩
   rw [hkd', hpg', hct', hkn', hvn'] at HBY
   rw [hkn'] at e0
   rw [hkd'] at e1
   rw [hvn'] at e2
   rw [hpg'] at e3
   rw [hct'] at e4
   obtain ⟨t0, t1, t2, t3, t4⟩ := HM2.out.row.cells
   have HBB1 := HB1
   have hiNI : (i : Int) < (N : Int) := by have := HMM.out; omega
   have snI : (sn : Int) ≤ 65536 := by omega
   clear hd hdk hdv hL hkd' hpg' hct' hkn' hvn' HRF HB1
   go_upto_region 7 with fail
   go_cut [9] from 36 to 53 (fun v u => ∃ ao cp, v = .slice ao L cp ∧ Hid (Below u2.heap.size u2 u))
   case first =>
    go_wp2_with fail
    go_region_with (first | (go_at_call 74; refine (HBY.out _ (by first | exact Br | exact Br.drew | exact zad Br _)).mono ?_; rintro e w4 ⟨ao, cp, rfl, HB4⟩))
    all_goals (try go_wp2_with fail)
    all_goals go_meet
    all_goals exact ⟨_, _, rfl, by first | exact HB4 | exact zaa HB4.out.drew | exact zaa (zad HB4.out _)⟩
   obtain ⟨bao, bcp, rfl, HBC⟩ := hcut
   obtain ⟨uc, huc⟩ : ∃ uc, uc = wc := ⟨_, rfl⟩
   subst huc
   have HMc := zaa (HM2.out.go HBC.out)
   clear t0 t1 t2 t3 t4 e0 e1 e2 e3 e4 HBY
   obtain ⟨uL, huL⟩ : ∃ u3, uc.setCell ⟨r, 2, none⟩ (.slice lo' N lc') = u3 := ⟨_, rfl⟩
   obtain ⟨W, hW⟩ : ∃ W, s.ws + L = W := ⟨_, rfl⟩
   have HWW : Hid (s.ws + (qB (hdQ k i s.P).length d).length = W) := zaa (by rw [HLL.out]; exact hW)
   have hWI : (s.ws : Int) + (L : Int) = (W : Int) := by omega
   have hWw : IntKind.i64.wrap (W : Int) = (W : Int) := by rw [IntKind.wrap_i64]; omega
   have hWb : (W : Int) ≤ 300000 := by omega
   obtain ⟨u3, hu3⟩ : ∃ u3, uL.setCell ⟨r, 4, none⟩ (.int .i64 (W : Int)) = u3 := ⟨_, rfl⟩
   have HR2' := zaa ((HR1.out.keep (Agr.below (Zk.lt HKL.out (zN HBX.out.size HBB1.out.size)) HB2.out)).wide (zk_sub HB2.out.size))
   have HR3' := zaa ((HR2'.out.keep (Agr.below HM2.out.lt HBC.out)).wide (zk_sub HBC.out.size))
   have HML : Hid (Mid w uL K r k n lo' N lc' vs' ds so sn sc s.P s.ws) := zaa (by rw [← huL]; exact HMc.out.hang HR3'.out)
   have hcfL : Cf (· = r) uc uL := by rw [← huL]; exact Cf.set _ _ _ _
   have hcf3 : Cf (· = r) uL u3 := by rw [← hu3]; exact Cf.set _ _ _ _
   have HM3 : Hid (Mid w u3 K r k n lo' N lc' vs' ds so sn sc s.P W) := zaa (HML.out.set hcf3 (by rw [← hu3]; exact HML.out.row.set4 _))
   have hcf : Cf (· = r) uc u3 := hcfL.go hcf3
   have hbox : C5 u3 w.heap.size (.slice ka c.key.length kc) (.int .i64 c.kd) (.slice va c.val.length vc) (.int .i64 c.pg) (.int .i64 c.ct) := C5.cf (w := uc) (zaf (zaf (zaf HC5.out HBB1.out) HB2.out) HBC.out) hcf (by have := HM3.out.rl; omega)
   have HKY : Hid (Sl u3 ka c.key.length kc c.key) := zaa (Sl.qd HMc.out.row HMc.out.row.sls hcf (((HKX.out.on Lr HBB1.out).on Lr HB2.out).on Lr HBC.out))
   have HBG : Hid (Calls Tryz.prog 71 #[.pointer (some ⟨r, 0, none⟩), .slice ka c.key.length kc] u3 fun e w' => e = .returned (.bool (decide (c.key.take s.P.length = s.P))) ∧ Hid (Below u3.heap.size u3 w')) := zaa (dbegins_any u3 r k n _ so sn sc _ s.P HM3.out.row (HM3.out.pre u3 (Agr.refl _ _)) ka _ kc c.key HKY.out)
   obtain ⟨b1, hb1⟩ : ∃ b1, decide (c.key.take s.P.length = s.P) = b1 := ⟨_, rfl⟩
   rw [hb1] at HBG
   have HB1 := zaa hb1
   have HAF : Hid (∀ d ∈ ds, d.fit) := zaa fun d hd => by
    have h0 := zai HPN.out
    rw [← HDS.out] at hd
    rcases zbr hd with rfl | hd
    ·exact HMY.out.1.fit (by omega)
    ·exact (HOK.out.may d hd).fit (by omega)
   have HFU : Hid (∀ u, Below u3.heap.size u3 u → Calls Tryz.prog 72 #[.pointer (some ⟨r, 0, none⟩)] u fun e w' => ∃ b, e = .returned (.bool b) ∧ Hid (c.key.take (hdQ k i s.P).length = hdQ k i s.P → b = decide (n < szQ k s.P.length ds + W)) ∧ Hid (Below u3.heap.size u3 w')) := zaa fun u hu => by
    have hm := HM3.out.go hu
    have h0 := zai HPN.out
    obtain ⟨h1, h2, h3, h4⟩ := HMM.out
    have hsl := (hm.cells.slc (by omega))
    have hl2 := HL.out.2
    by_cases hh : c.key.take (hdQ k i s.P).length = hdQ k i s.P
    ·have hbg : Beg k s.P ds := by
      rw [← HDS.out]
      exact beg_spl HOK.out.beg (.inr rfl) HI.out.2.1 (fun e => by omega) hh
     refine (dfull_any u r k n lo' N lc' so sn sc W ds hm.row hsl (fun j d hd hj => by rw [← hl2]; exact zbv (hbg d (zaw hd hj))) HAF.out (by omega) (by omega) (by omega) (by omega)).mono ?_
     rintro e w' ⟨rfl, HB⟩
     exact ⟨_, rfl, zaa fun _ => by rw [hl2], zaa (zab hu Lr HB.out)⟩
    ·refine (dfullE_any u r k n lo' N lc' so sn sc W ds hm.row hsl HAF.out (by omega) (by omega) (by omega) (by omega)).mono ?_
     rintro e w' ⟨b, rfl, HB⟩
     exact ⟨b, rfl, zaa fun h1 => absurd h1 hh, zaa (zab hu Lr HB.out)⟩
   have HTD : Hid (∀ u, Mid w u K r k n lo' N lc' vs' ds so sn sc s.P W → Calls Tryz.prog 35 #[.pointer (some ⟨r, 0, none⟩)] u fun e w' => e = .returned (.tuple #[]) ∧ Hid (∃ so sn sc, Mid w w' K r k n lo' N lc' vs' ds so sn sc (shP k ds) 0)) := zaa fun u hm => by
    have h0 := zai HPN.out
    have h1 := HMY.out.2.2
    have h2 := zal k (shP k ds).length ds
    obtain ⟨h3, h4, h5, h6⟩ := HMM.out
    refine dtidy_mid hm (by omega) (fun d hd => ?_) (by omega)
    rw [← HDS.out] at hd
    rcases zbr hd with rfl | hd
    ·exact HKW.out.1
    ·exact HOK.out.wf d hd
   have HQN : Hid (Qok k n ⟨shP k ds, ds, 0⟩) := zaa (by
    have h1 := HMY.out.2.2
    rw [← HDS.out] at h1 ⊢
    exact HOK.out.laid (.inr rfl) HI.out.2.1 HMY.out.1 HKW.out.1 HMY.out.2.1 h1)
   have HQY : Hid (inPl k n s i (i + 1) c → Qok k n ⟨s.P, ds, W⟩) := zaa fun e => by
    have h1 := inPl.lay HOK.out (.inr rfl) HI.out.2.1 HMY.out.1 HKW.out.1 HMY.out.2.1 e
    rwa [gone_set HDD.out, HDS.out, HWW.out] at h1
   have HRN : Hid (¬ inPl k n s i (i + 1) c → SetR k n s (i : Int) c 0 ⟨shP k ds, ds, 0⟩) := zaa fun e => .inr ⟨i, rfl, HI.out.2.2, .inr (.inr ⟨HMY.out.1, HMY.out.2.1, .inr ⟨e, .inl (by rw [HDS.out]; exact ⟨HMY.out.2.2, rfl, rfl⟩)⟩⟩)⟩
   have HRY : Hid (inPl k n s i (i + 1) c → SetR k n s (i : Int) c 0 ⟨s.P, ds, W⟩) := zaa fun e => .inr ⟨i, rfl, HI.out.2.2, .inr (.inr ⟨HMY.out.1, HMY.out.2.1, .inl ⟨e, rfl, by rw [gone_set HDD.out, HDS.out, HWW.out]⟩⟩)⟩
   obtain ⟨t0, t1, t2, t3, t4⟩ := HMc.out.row.cells
   have f2 := HMc.out.row.free 2
   obtain ⟨v0, v1, v2, v3, v4⟩ := HML.out.row.cells
   have f4 := HML.out.row.free 4
   obtain ⟨y0, y1, y2, y3, y4⟩ := hbox.cells
   clear hcf hcfL hcf3 hbox hb1 HCS HR1 HR2 HR2' HR3' hW
   go_wp2_with (first | (go_at_call 71; refine HBG.out.mono ?_; rintro e u4 ⟨rfl, HB4⟩) | (go_at_call 72; refine (HFU.out _ HB4.out).mono ?_; rintro e u5 ⟨b2, rfl, HF4, HB5⟩; refine Hid.out ?_))
   apply zaa
   have HM5 := zaa (HM3.out.go HB5.out)
   obtain ⟨g0, g1, g2, g3, g4⟩ := HM5.out.row.cells
   clear t0 t1 t2 t3 t4 v0 v1 v2 v3 v4 f2 f4 y0 y1 y2 y3 y4 hu3 huL HBG HFU hWw hWI
   by_cases hk3 : k = 3
   ·have hk3B : decide (k = 3) = true := decide_eq_true hk3
    by_cases hi0 : i = 0
    ·have hi0I : ¬ 0 < (i : Int) := by omega
     have hi0N : ¬ 0 < i := by omega
     have hi0B : decide (0 < i) = false := decide_eq_false hi0N
     have HHD : Hid (c.key.take (hdQ k i s.P).length = hdQ k i s.P) := zaa (by
      rw [show hdQ k i s.P = [] by unfold hdQ; rw [if_pos ⟨hk3, hi0⟩]]
      rfl)
     clear hi0
     cases b1 with
     | false =>
      have HF5 := zaa (HF4.out HHD.out)
      cases b2 with
      | false =>
       have HNI : Hid (inPl k n s i (i + 1) c) := zaa ((zcm HDD.out HHD.out).2 (by rw [HDS.out, HWW.out]; exact of_decide_eq_false HF5.out.symm))
       go_wp2
       go_ret
       first
        | exact ⟨0, ⟨s.P, ds, W⟩, rfl, zaa (HRY.out HNI.out), zaa (HM5.out.dm (HQY.out HNI.out)), zaa HM5.out.cf⟩
        | (subst hk3; exact ⟨0, ⟨s.P, ds, W⟩, rfl, zaa (HRY.out HNI.out), zaa (HM5.out.dm (HQY.out HNI.out)), zaa HM5.out.cf⟩)
      | true =>
       have HNI : Hid (¬ inPl k n s i (i + 1) c) := zaa fun e => (zcm HDD.out HHD.out).1 e (by rw [HDS.out, HWW.out]; exact of_decide_eq_true HF5.out.symm)
       go_wp2_with (go_at_call 35; refine (HTD.out _ HM5.out).mono ?_; rintro e w6 ⟨rfl, HM6⟩)
       go_ret
       obtain ⟨so6, sn6, sc6, hm6⟩ := HM6.out
       exact ⟨0, ⟨shP k ds, ds, 0⟩, rfl, zaa (HRN.out HNI.out), zaa (hm6.dm HQN.out), zaa hm6.cf⟩
     | true =>
      have HF5 := zaa (HF4.out HHD.out)
      cases b2 with
      | false =>
       have HNI : Hid (inPl k n s i (i + 1) c) := zaa ((zcm HDD.out HHD.out).2 (by rw [HDS.out, HWW.out]; exact of_decide_eq_false HF5.out.symm))
       go_wp2
       go_ret
       first
        | exact ⟨0, ⟨s.P, ds, W⟩, rfl, zaa (HRY.out HNI.out), zaa (HM5.out.dm (HQY.out HNI.out)), zaa HM5.out.cf⟩
        | (subst hk3; exact ⟨0, ⟨s.P, ds, W⟩, rfl, zaa (HRY.out HNI.out), zaa (HM5.out.dm (HQY.out HNI.out)), zaa HM5.out.cf⟩)
      | true =>
       have HNI : Hid (¬ inPl k n s i (i + 1) c) := zaa fun e => (zcm HDD.out HHD.out).1 e (by rw [HDS.out, HWW.out]; exact of_decide_eq_true HF5.out.symm)
       go_wp2_with (go_at_call 35; refine (HTD.out _ HM5.out).mono ?_; rintro e w6 ⟨rfl, HM6⟩)
       go_ret
       obtain ⟨so6, sn6, sc6, hm6⟩ := HM6.out
       exact ⟨0, ⟨shP k ds, ds, 0⟩, rfl, zaa (HRN.out HNI.out), zaa (hm6.dm HQN.out), zaa hm6.cf⟩
    ·have hi0I : 0 < (i : Int) := by omega
     have hi0N : 0 < i := by omega
     have hi0B : decide (0 < i) = true := decide_eq_true hi0N
     have HA : Hid (¬ (k = 3 ∧ i = 0)) := zaa fun e => hi0 e.2
     clear hi0
     cases b1 with
     | false =>
      have HNI : Hid (¬ inPl k n s i (i + 1) c) := zaa fun e => by
       have h1 := e.2.1
       rw [show hdQ k i s.P = s.P by unfold hdQ; rw [if_neg HA.out]] at h1
       exact of_decide_eq_false HB1.out h1
      go_wp2_with (go_at_call 35; refine (HTD.out _ HM5.out).mono ?_; rintro e w6 ⟨rfl, HM6⟩)
      go_ret
      obtain ⟨so6, sn6, sc6, hm6⟩ := HM6.out
      exact ⟨0, ⟨shP k ds, ds, 0⟩, rfl, zaa (HRN.out HNI.out), zaa (hm6.dm HQN.out), zaa hm6.cf⟩
     | true =>
      have HHD : Hid (c.key.take (hdQ k i s.P).length = hdQ k i s.P) := zaa (by
       rw [show hdQ k i s.P = s.P by unfold hdQ; rw [if_neg HA.out]]
       exact of_decide_eq_true HB1.out)
      have HF5 := zaa (HF4.out HHD.out)
      cases b2 with
      | false =>
       have HNI : Hid (inPl k n s i (i + 1) c) := zaa ((zcm HDD.out HHD.out).2 (by rw [HDS.out, HWW.out]; exact of_decide_eq_false HF5.out.symm))
       go_wp2
       go_ret
       first
        | exact ⟨0, ⟨s.P, ds, W⟩, rfl, zaa (HRY.out HNI.out), zaa (HM5.out.dm (HQY.out HNI.out)), zaa HM5.out.cf⟩
        | (subst hk3; exact ⟨0, ⟨s.P, ds, W⟩, rfl, zaa (HRY.out HNI.out), zaa (HM5.out.dm (HQY.out HNI.out)), zaa HM5.out.cf⟩)
      | true =>
       have HNI : Hid (¬ inPl k n s i (i + 1) c) := zaa fun e => (zcm HDD.out HHD.out).1 e (by rw [HDS.out, HWW.out]; exact of_decide_eq_true HF5.out.symm)
       go_wp2_with (go_at_call 35; refine (HTD.out _ HM5.out).mono ?_; rintro e w6 ⟨rfl, HM6⟩)
       go_ret
       obtain ⟨so6, sn6, sc6, hm6⟩ := HM6.out
       exact ⟨0, ⟨shP k ds, ds, 0⟩, rfl, zaa (HRN.out HNI.out), zaa (hm6.dm HQN.out), zaa hm6.cf⟩
   ·have hk3B : decide (k = 3) = false := decide_eq_false hk3
    have HA : Hid (¬ (k = 3 ∧ i = 0)) := zaa fun e => hk3 e.1
    cases b1 with
    | false =>
     have HNI : Hid (¬ inPl k n s i (i + 1) c) := zaa fun e => by
      have h1 := e.2.1
      rw [show hdQ k i s.P = s.P by unfold hdQ; rw [if_neg HA.out]] at h1
      exact of_decide_eq_false HB1.out h1
     go_wp2_with (go_at_call 35; refine (HTD.out _ HM5.out).mono ?_; rintro e w6 ⟨rfl, HM6⟩)
     go_ret
     obtain ⟨so6, sn6, sc6, hm6⟩ := HM6.out
     exact ⟨0, ⟨shP k ds, ds, 0⟩, rfl, zaa (HRN.out HNI.out), zaa (hm6.dm HQN.out), zaa hm6.cf⟩
    | true =>
     have HHD : Hid (c.key.take (hdQ k i s.P).length = hdQ k i s.P) := zaa (by
      rw [show hdQ k i s.P = s.P by unfold hdQ; rw [if_neg HA.out]]
      exact of_decide_eq_true HB1.out)
     have HF5 := zaa (HF4.out HHD.out)
     cases b2 with
     | false =>
      have HNI : Hid (inPl k n s i (i + 1) c) := zaa ((zcm HDD.out HHD.out).2 (by rw [HDS.out, HWW.out]; exact of_decide_eq_false HF5.out.symm))
      go_wp2
      go_ret
      first
       | exact ⟨0, ⟨s.P, ds, W⟩, rfl, zaa (HRY.out HNI.out), zaa (HM5.out.dm (HQY.out HNI.out)), zaa HM5.out.cf⟩
       | (subst hk3; exact ⟨0, ⟨s.P, ds, W⟩, rfl, zaa (HRY.out HNI.out), zaa (HM5.out.dm (HQY.out HNI.out)), zaa HM5.out.cf⟩)
     | true =>
      have HNI : Hid (¬ inPl k n s i (i + 1) c) := zaa fun e => (zcm HDD.out HHD.out).1 e (by rw [HDS.out, HWW.out]; exact of_decide_eq_true HF5.out.symm)
      go_wp2_with (go_at_call 35; refine (HTD.out _ HM5.out).mono ?_; rintro e w6 ⟨rfl, HM6⟩)
      go_ret
      obtain ⟨so6, sn6, sc6, hm6⟩ := HM6.out
      exact ⟨0, ⟨shP k ds, ds, 0⟩, rfl, zaa (HRN.out HNI.out), zaa (hm6.dm HQN.out), zaa hm6.cf⟩
  ·have HPR : Hid (PutR k n s i (i + 1) c code s) := zaa (by
    rcases HCS.out with h | h
    ·exact absurd h.1 hcd
    ·exact h.2)
   go_wp2
   go_ret
   exact ⟨code, s, rfl, zaa (.inr ⟨i, rfl, HI.out.2.2, HPR.out⟩), zaa (HM2.out.dm HOK.out), zaa HM2.out.cf⟩
 ·have HNI : Hid (¬ (0 ≤ I ∧ I < (s.cs.length : Int))) := zaa (by rw [l1]; exact hin)
  by_cases h0 : I < 0
  ·clear hk hv hbx hc5 hA l1 l2 hin hn hn2
   go_enter Tryz.func33, Tryz.ntmps33
   go_wp2
   go_ret
   exact ⟨64, s, rfl, zaa (.inl ⟨HNI.out, rfl, rfl⟩), zaa (HMX.out.dm HOK.out), zaa HMX.out.cf⟩
  ·have h1 : (N : Int) ≤ I := by omega
   clear hk hv hbx hc5 hA l1 l2 hin hn hn2
   go_enter Tryz.func33, Tryz.ntmps33
   go_wp2
   go_ret
   exact ⟨64, s, rfl, zaa (.inl ⟨HNI.out, rfl, rfl⟩), zaa (HMX.out.dm HOK.out), zaa HMX.out.cf⟩
end Go.Proofs.YtfgffajgfgifhaaGreatDoor
