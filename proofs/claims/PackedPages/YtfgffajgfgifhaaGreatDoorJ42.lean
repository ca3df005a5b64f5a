import Derived.Test.YtfgffajgfgifhaaGreatDoorJ41
namespace Go.Proofs.YtfgffajgfgifhaaGreatDoor
set_option maxRecDepth 100000
open Go.RowKit
theorem dtidy_mid {w0 w : World} {K : Nat → Prop} {r : Nat} {k : Int} {n : Nat} {lo : Option Addr} {N lc : Nat} {vs : List Value} {cs : List Cl} {so : Option Addr} {sn sc : Nat} {P : List Int} {ws : Nat} (h : Mid w0 w K r k n lo N lc vs cs so sn sc P ws) (hN : N ≤ 70000) (hw : ∀ c ∈ cs, c.Wf) (hl : (shP k cs).length ≤ 70000) :
  Calls Tryz.prog 35 #[.pointer (some ⟨r, 0, none⟩)] w fun e w' => e = .returned (.tuple #[]) ∧ Hid (∃ so sn sc, Mid w0 w' K r k n lo N lc vs cs so sn sc (shP k cs) 0) := by
 refine (dtidy_raw w r k n lo N lc (.slice so sn sc) (ws : Int) cs h.row (h.cells.slc (by omega)) hN).mono ?_
 rintro e w' ⟨rfl, HT⟩
 obtain ⟨v, hq, ho, hc⟩ := HT.out
 obtain ⟨ao, cap, rfl⟩ := ho.shape
 have ha := zk_agr h.rl h.nr h.kl h.cf.size hc
 refine ⟨rfl, zaa ⟨ao, _, cap, ⟨hq, (h.cells.keep ha).wide (zk_sub hc.size), fun u hu => ?_, h.cf.go hc, h.nr, h.rl, h.kl⟩⟩⟩
 exact OwnB.sl8 (ho.agr7 fun g e => hu g (.inr ⟨zN h.cf.size (ho.blk e).1, (ho.blk e).2⟩)) (shP_wf hw) (by omega)
def ChD (R : Int → Qs → Prop) (K : Nat → Prop) (r : Nat) (k : Int) (n : Nat) (w : World) (e : Ending) (w' : World) : Prop :=
 ∃ code t, e = .returned (.int .i64 code) ∧ Hid (R code t) ∧ Hid (Dm w' (Zk K w w') r k n t) ∧ Hid (Cf (· = r) w w')
theorem QD.sls {w : World} {r : Nat} {k : Int} {n : Nat} {lo so : Option Addr} {N lc sn sc : Nat} {ws : Int} (_ : QD w r k n (.slice lo N lc) (.slice so sn sc) ws) : (∃ a b c, Value.slice lo N lc = .slice a b c) ∧ ∃ a b c, Value.slice so sn sc = .slice a b c := ⟨⟨_, _, _, rfl⟩, _, _, _, rfl⟩
theorem spl_fit {cs : List Cl} {i j : Nat} {c : Cl} (hi : i ≤ cs.length) (hf : ∀ d ∈ cs, d.fit) : ∀ (q : Nat) (d : Cl), (spl cs i j c)[q]? = some d → ¬ q = i → d.fit := by
 intro q d hd hq
 rw [zbq _ _ _ _ hi] at hd
 split at hd
 ·exact hf d (List.mem_of_getElem? hd)
 ·exact hf d (List.mem_of_getElem? hd)
set_option maxHeartbeats 8000000 in
theorem dinsert_any (w : World) (K : Nat → Prop) (r : Nat) (k : Int) (n : Nat) (s : Qs) (h : Dm w K r k n s) (hn : pw n) (I : Int) (c : Cl) (ka va : Option Addr) (kc vc : Nat) (hk : Sl w ka c.key.length kc c.key) (hv : Sl w va c.val.length vc c.val) :
  Calls Tryz.prog 31 #[.pointer (some ⟨r, 0, none⟩), .int .i64 I, .agg #[.slice ka c.key.length kc, .int .i64 c.kd, .slice va c.val.length vc, .int .i64 c.pg, .int .i64 c.ct]] w (ChD (InsR k n s I c) K r k n w) := by
 have hn2 := zai hn
 obtain ⟨lo, N, lc, vs, so, sn, sc, hA⟩ := h
 obtain ⟨l1, l2, l3, l4, l5⟩ := hA.lens hn
 obtain ⟨x, hx⟩ : ∃ x, w.alloc (.cells #[.slice ka c.key.length kc, .int .i64 c.kd, .slice va c.val.length vc, .int .i64 c.pg, .int .i64 c.ct] 39) = x := ⟨_, rfl⟩
 have hbx : Below w.heap.size w x := by rw [← hx]; exact zac Br Lr _
 have hc5 : C5 x w.heap.size (.slice ka c.key.length kc) (.int .i64 c.kd) (.slice va c.val.length vc) (.int .i64 c.pg) (.int .i64 c.ct) := by rw [← hx]; exact C5.box _ _ _ _ _ _
 have HC5 : Hid (C5 x w.heap.size (.slice ka c.key.length kc) (.int .i64 c.kd) (.slice va c.val.length vc) (.int .i64 c.pg) (.int .i64 c.ct)) := zaa hc5
 obtain ⟨z0, z1, z2, z3, z4⟩ := hc5.cells
 have HMX := zaa ((Mid.start hA).go hbx)
 obtain ⟨t0, t1, t2, t3, t4⟩ := HMX.out.row.cells
 have HOK := zaa hA.ok
 have HBX := zaa hbx
 have HL := zaa (And.intro l1 l2)
 have NI : (N : Int) ≤ 65000 := by omega
 by_cases hin : 0 ≤ I ∧ I ≤ (N : Int)
 ·obtain ⟨i, rfl⟩ : ∃ i : Nat, I = (i : Int) := ⟨I.toNat, by omega⟩
  have hiN : i ≤ N := by omega
  have HI : Hid (i ≤ s.cs.length) := zaa (by omega)
  have hn0 : ¬ (i : Int) < 0 := by omega
  have hnN : ¬ (N : Int) < (i : Int) := by omega
  have HKW : Hid (c.Wf ∧ c.key.length ≤ 140737488355328 ∧ c.val.length ≤ 140737488355328) := zaa ⟨⟨hk.wf, hv.wf⟩, hk.hroom, hv.hroom⟩
  have hkx := hk.on Lr hbx
  have HKX : Hid (Sl x ka c.key.length kc c.key) := zaa hkx
  have HCH := zaa (dchanged_any x (Zk K w x) r k n lo N lc (.slice so sn sc) (s.ws : Int) vs s.cs HMX.out.row HMX.out.cells HMX.out.lt (by omega) i i Lr hiN c ka va kc vc hkx (hv.on Lr hbx))
  have HMC : Hid (∀ e u, DchTo x i i N vs c e u → ∃ lo' lc' vs', e = .returned (.slice lo' (N + 1) lc') ∧ Hid (RwK u (Zk K w u) lo' (N + 1) lc' vs' (spl s.cs i i c)) ∧ Hid (Below x.heap.size x u)) := zaa fun e u hc => by
   have h1 := HMX.out.chg Lr hiN HKW.out.1 HKW.out.2.1 HKW.out.2.2 hc
   rwa [show i + 1 + (N - i) = N + 1 by omega] at h1
  obtain ⟨ds, hds⟩ : ∃ ds, spl s.cs i i c = ds := ⟨_, rfl⟩
  rw [hds] at HMC
  have HDS := zaa hds
  obtain ⟨M, hM⟩ : ∃ M, N + 1 = M := ⟨_, rfl⟩
  rw [hM] at HMC
  have MI : (M : Int) ≤ 65001 := by omega
  have HMM : Hid (M = N + 1 ∧ M ≤ 65001 ∧ i < M ∧ ds.length = M) := zaa (by
   have := zbx s.cs i i c (by omega)
   rw [hds] at this
   omega)
  have HPN := zaa hn
  have HKL := zaa hA.kl
  clear hk hv hkx hbx hc5 hA l1 l2 hin hiN hds hM hn hn2
  go_enter Tryz.func31, Tryz.ntmps31
  go_wp2_with (go_at_call 69; refine HCH.out.mono ?_; intro e u1 hch; obtain ⟨lo', lc', vs', rfl, HR1, HB1⟩ := HMC.out _ _ hch; clear hch; refine Hid.out ?_)
  apply zaa
  have HM1 := zaa (HMX.out.go HB1.out)
  have HRF : Hid (Calls Tryz.prog 70 #[.pointer (some ⟨r, 0, none⟩), .slice lo' M lc', .int .i64 (i : Int)] u1 fun e w' => ∃ code, e = .returned (.int .i64 code) ∧ Hid (RfR k n ds i c code) ∧ Hid (Below u1.heap.size u1 w')) := zaa (by
   obtain ⟨h1, h2, h3, h4⟩ := HMM.out
   refine drefused_any u1 r k n _ _ _ HM1.out.row HPN.out lo' M lc' ds (HR1.out.slc (by omega)) (by omega) i c ?_ ?_
   ·rw [← HDS.out, zbq _ _ _ _ HI.out, if_neg (by omega), if_pos rfl]
   ·rw [← HDS.out]
    exact spl_fit HI.out fun d hd => (HOK.out.may d hd).fit (by have := zai HPN.out; omega))
  clear z0 z1 z2 z3 z4 t0 t1 t2 t3 t4 HCH HMC hx
  go_wp2_with (go_at_call 70; refine HRF.out.mono ?_; rintro e u2 ⟨code, rfl, HR2, HB2⟩; refine Hid.out ?_)
  apply zaa
  have HM2 := zaa (HM1.out.go HB2.out)
  have HCS : Hid ((code = 0 ∧ mayP k n c ∧ zau s.cs i i c ∧ szQ k (shP k ds).length ds ≤ n) ∨ (¬ code = 0 ∧ PutR k n s i i c code s)) := zaa (by
   have h1 := HR2.out
   rw [← HDS.out] at h1
   have h2 := RfR.put HOK.out (.inl rfl) HI.out HKW.out.1 h1
   rwa [HDS.out] at h2)
  by_cases hcd : code = 0
  ·subst hcd
   have HMY : Hid (mayP k n c ∧ zau s.cs i i c ∧ szQ k (shP k ds).length ds ≤ n) := zaa (by
    rcases HCS.out with h | h
    ·exact h.2
    ·exact absurd rfl h.1)
   obtain ⟨u3, hu3⟩ : ∃ u3, u2.setCell ⟨r, 2, none⟩ (.slice lo' M lc') = u3 := ⟨_, rfl⟩
   have HR2' := zaa ((HR1.out.keep (Agr.below (Zk.lt HKL.out (zN HBX.out.size HB1.out.size)) HB2.out)).wide (zk_sub HB2.out.size))
   have HM3 : Hid (Mid w u3 K r k n lo' M lc' vs' ds so sn sc s.P s.ws) := zaa (by rw [← hu3]; exact HM2.out.hang HR2'.out)
   have hcf : Cf (· = r) u2 u3 := by rw [← hu3]; exact Cf.set _ _ _ _
   have hbox : C5 u3 w.heap.size (.slice ka c.key.length kc) (.int .i64 c.kd) (.slice va c.val.length vc) (.int .i64 c.pg) (.int .i64 c.ct) := C5.cf (w := u2) (zaf (zaf HC5.out HB1.out) HB2.out) hcf (by have := HM3.out.rl; omega)
   have HKY : Hid (Sl u3 ka c.key.length kc c.key) := zaa (Sl.qd HM2.out.row HM2.out.row.sls hcf ((HKX.out.on Lr HB1.out).on Lr HB2.out))
   have HBG : Hid (Calls Tryz.prog 71 #[.pointer (some ⟨r, 0, none⟩), .slice ka c.key.length kc] u3 fun e w' => e = .returned (.bool (decide (c.key.take s.P.length = s.P))) ∧ Hid (Below u3.heap.size u3 w')) := zaa (dbegins_any u3 r k n _ so sn sc _ s.P HM3.out.row (HM3.out.pre u3 (Agr.refl _ _)) ka _ kc c.key HKY.out)
   obtain ⟨b1, hb1⟩ : ∃ b1, decide (c.key.take s.P.length = s.P) = b1 := ⟨_, rfl⟩
   rw [hb1] at HBG
   have HB1 := zaa hb1
   have HAF : Hid (∀ d ∈ ds, d.fit) := zaa fun d hd => by
    have h0 := zai HPN.out
    rw [← HDS.out] at hd
    rcases zbr hd with rfl | hd
    ·exact HMY.out.1.fit (by omega)
    ·exact (HOK.out.may d hd).fit (by omega)
   have HFU : Hid (∀ u, Below u3.heap.size u3 u → Calls Tryz.prog 72 #[.pointer (some ⟨r, 0, none⟩)] u fun e w' => ∃ b, e = .returned (.bool b) ∧ Hid (¬ (k = 3 ∧ i = 0) → c.key.take s.P.length = s.P → b = decide (n < szQ k s.P.length ds + s.ws)) ∧ Hid (Below u3.heap.size u3 w')) := zaa fun u hu => by
    have hm := HM3.out.go hu
    have h0 := zai HPN.out
    obtain ⟨h1, h2, h3, h4⟩ := HMM.out
    have hsl := (hm.cells.slc (by omega))
    have hl2 := HL.out.2
    by_cases hh : ¬ (k = 3 ∧ i = 0) ∧ c.key.take s.P.length = s.P
    ·have hbg : Beg k s.P ds := by
      rw [← HDS.out]
      refine beg_spl HOK.out.beg (.inl rfl) HI.out (fun _ => hh.1) ?_
      rw [show hdQ k i s.P = s.P by unfold hdQ; rw [if_neg hh.1]]
      exact hh.2
     refine (dfull_any u r k n lo' M lc' so sn sc s.ws ds hm.row hsl (fun j d hd hj => by rw [← hl2]; exact zbv (hbg d (zaw hd hj))) HAF.out (by omega) (by omega) (by omega) (by omega)).mono ?_
     rintro e w' ⟨rfl, HB⟩
     exact ⟨_, rfl, zaa fun _ _ => by rw [hl2], zaa (zab hu Lr HB.out)⟩
    ·refine (dfullE_any u r k n lo' M lc' so sn sc s.ws ds hm.row hsl HAF.out (by omega) (by omega) (by omega) (by omega)).mono ?_
     rintro e w' ⟨b, rfl, HB⟩
     exact ⟨b, rfl, zaa fun h1 h2 => absurd ⟨h1, h2⟩ hh, zaa (zab hu Lr HB.out)⟩
   have HTD : Hid (∀ u, Mid w u K r k n lo' M lc' vs' ds so sn sc s.P s.ws → Calls Tryz.prog 35 #[.pointer (some ⟨r, 0, none⟩)] u fun e w' => e = .returned (.tuple #[]) ∧ Hid (∃ so sn sc, Mid w w' K r k n lo' M lc' vs' ds so sn sc (shP k ds) 0)) := zaa fun u hm => by
    have h0 := zai HPN.out
    have h1 := HMY.out.2.2
    have h2 := zal k (shP k ds).length ds
    obtain ⟨h3, h4, h5, h6⟩ := HMM.out
    refine dtidy_mid hm (by omega) (fun d hd => ?_) (by omega)
    rw [← HDS.out] at hd
    rcases zbr hd with rfl | hd
    ·exact HKW.out.1
    ·exact HOK.out.wf d hd
   have HQN : Hid (Qok k n ⟨shP k ds, ds, 0⟩) := zaa (by
    have h1 := HMY.out.2.2
    rw [← HDS.out] at h1 ⊢
    exact HOK.out.laid (.inl rfl) HI.out HMY.out.1 HKW.out.1 HMY.out.2.1 h1)
   have HQY : Hid (inPl k n s i i c → Qok k n ⟨s.P, ds, s.ws⟩) := zaa fun e => by
    have h1 := inPl.lay HOK.out (.inl rfl) HI.out HMY.out.1 HKW.out.1 HMY.out.2.1 e
    rwa [gone_ins, HDS.out, Nat.add_zero] at h1
   have HRN : Hid (¬ inPl k n s i i c → InsR k n s (i : Int) c 0 ⟨shP k ds, ds, 0⟩) := zaa fun e => .inr ⟨i, rfl, HI.out, .inr (.inr ⟨HMY.out.1, HMY.out.2.1, .inr ⟨e, .inl (by rw [HDS.out]; exact ⟨HMY.out.2.2, rfl, rfl⟩)⟩⟩)⟩
   have HRY : Hid (inPl k n s i i c → InsR k n s (i : Int) c 0 ⟨s.P, ds, s.ws⟩) := zaa fun e => .inr ⟨i, rfl, HI.out, .inr (.inr ⟨HMY.out.1, HMY.out.2.1, .inl ⟨e, rfl, by rw [gone_ins, HDS.out, Nat.add_zero]⟩⟩)⟩
   obtain ⟨t0, t1, t2, t3, t4⟩ := HM2.out.row.cells
   have f2 := HM2.out.row.free 2
   obtain ⟨y0, y1, y2, y3, y4⟩ := hbox.cells
   clear hcf hbox hb1 HCS HR1 HR2 HR2' HRF
   go_wp2_with (first | (go_at_call 71; refine HBG.out.mono ?_; rintro e u4 ⟨rfl, HB4⟩) | (go_at_call 72; refine (HFU.out _ HB4.out).mono ?_; rintro e u5 ⟨b2, rfl, HF4, HB5⟩; refine Hid.out ?_))
   apply zaa
   have HM5 := zaa (HM3.out.go HB5.out)
   obtain ⟨g0, g1, g2, g3, g4⟩ := HM5.out.row.cells
   clear t0 t1 t2 t3 t4 f2 y0 y1 y2 y3 y4 hu3 HBG HFU
   by_cases hk3 : k = 3
   ·have hk3B : decide (k = 3) = true := decide_eq_true hk3
    by_cases hi0 : i = 0
    ·have hi0I : (i : Int) = 0 := by omega
     have hi0B : decide (i = 0) = true := decide_eq_true hi0
     have HNI : Hid (¬ inPl k n s i i c) := zaa fun e => e.1 ⟨rfl, hk3, hi0⟩
     go_wp2_with (go_at_call 35; refine (HTD.out _ HM5.out).mono ?_; rintro e w6 ⟨rfl, HM6⟩)
     go_ret
     obtain ⟨so6, sn6, sc6, hm6⟩ := HM6.out
     exact ⟨0, ⟨shP k ds, ds, 0⟩, rfl, zaa (HRN.out HNI.out), zaa (hm6.dm HQN.out), zaa hm6.cf⟩
    ·have hi0I : ¬ (i : Int) = 0 := by omega
     have hi0B : decide (i = 0) = false := decide_eq_false hi0
     have HA : Hid (¬ (k = 3 ∧ i = 0)) := zaa fun e => hi0 e.2
     cases b1 with
     | false =>
      have HNI : Hid (¬ inPl k n s i i c) := zaa fun e => by
       have h1 := e.2.1
       rw [show hdQ k i s.P = s.P by unfold hdQ; rw [if_neg HA.out]] at h1
       exact of_decide_eq_false HB1.out h1
      go_wp2_with (go_at_call 35; refine (HTD.out _ HM5.out).mono ?_; rintro e w6 ⟨rfl, HM6⟩)
      go_ret
      obtain ⟨so6, sn6, sc6, hm6⟩ := HM6.out
      exact ⟨0, ⟨shP k ds, ds, 0⟩, rfl, zaa (HRN.out HNI.out), zaa (hm6.dm HQN.out), zaa hm6.cf⟩
     | true =>
      have HF5 := zaa (HF4.out HA.out (of_decide_eq_true HB1.out))
      cases b2 with
      | false =>
       have HNI : Hid (inPl k n s i i c) := zaa ((full_ins7 HI.out HA.out (of_decide_eq_true HB1.out)).2 (of_decide_eq_false (by rw [HDS.out]; exact HF5.out.symm)))
       go_wp2
       go_ret
       exact ⟨0, ⟨s.P, ds, s.ws⟩, rfl, zaa (HRY.out HNI.out), zaa (HM5.out.dm (HQY.out HNI.out)), zaa HM5.out.cf⟩
      | true =>
       have HNI : Hid (¬ inPl k n s i i c) := zaa fun e => (full_ins7 HI.out HA.out (of_decide_eq_true HB1.out)).1 e (of_decide_eq_true (by rw [HDS.out]; exact HF5.out.symm))
       go_wp2_with (go_at_call 35; refine (HTD.out _ HM5.out).mono ?_; rintro e w6 ⟨rfl, HM6⟩)
       go_ret
       obtain ⟨so6, sn6, sc6, hm6⟩ := HM6.out
       exact ⟨0, ⟨shP k ds, ds, 0⟩, rfl, zaa (HRN.out HNI.out), zaa (hm6.dm HQN.out), zaa hm6.cf⟩
   ·have hk3B : decide (k = 3) = false := decide_eq_false hk3
    have HA : Hid (¬ (k = 3 ∧ i = 0)) := zaa fun e => hk3 e.1
    cases b1 with
    | false =>
     have HNI : Hid (¬ inPl k n s i i c) := zaa fun e => by
      have h1 := e.2.1
      rw [show hdQ k i s.P = s.P by unfold hdQ; rw [if_neg HA.out]] at h1
      exact of_decide_eq_false HB1.out h1
     go_wp2_with (go_at_call 35; refine (HTD.out _ HM5.out).mono ?_; rintro e w6 ⟨rfl, HM6⟩)
     go_ret
     obtain ⟨so6, sn6, sc6, hm6⟩ := HM6.out
     exact ⟨0, ⟨shP k ds, ds, 0⟩, rfl, zaa (HRN.out HNI.out), zaa (hm6.dm HQN.out), zaa hm6.cf⟩
    | true =>
     have HF5 := zaa (HF4.out HA.out (of_decide_eq_true HB1.out))
     cases b2 with
     | false =>
      have HNI : Hid (inPl k n s i i c) := zaa ((full_ins7 HI.out HA.out (of_decide_eq_true HB1.out)).2 (of_decide_eq_false (by rw [HDS.out]; exact HF5.out.symm)))
      go_wp2
      go_ret
      exact ⟨0, ⟨s.P, ds, s.ws⟩, rfl, zaa (HRY.out HNI.out), zaa (HM5.out.dm (HQY.out HNI.out)), zaa HM5.out.cf⟩
     | true =>
      have HNI : Hid (¬ inPl k n s i i c) := zaa fun e => (full_ins7 HI.out HA.out (of_decide_eq_true HB1.out)).1 e (of_decide_eq_true (by rw [HDS.out]; exact HF5.out.symm))
      go_wp2_with (go_at_call 35; refine (HTD.out _ HM5.out).mono ?_; rintro e w6 ⟨rfl, HM6⟩)
      go_ret
      obtain ⟨so6, sn6, sc6, hm6⟩ := HM6.out
      exact ⟨0, ⟨shP k ds, ds, 0⟩, rfl, zaa (HRN.out HNI.out), zaa (hm6.dm HQN.out), zaa hm6.cf⟩
  ·have HPR : Hid (PutR k n s i i c code s) := zaa (by
    rcases HCS.out with h | h
    ·exact absurd h.1 hcd
    ·exact h.2)
   go_wp2
   go_ret
   exact ⟨code, s, rfl, zaa (.inr ⟨i, rfl, HI.out, HPR.out⟩), zaa (HM2.out.dm HOK.out), zaa HM2.out.cf⟩
 ·have HNI : Hid (¬ (0 ≤ I ∧ I ≤ (s.cs.length : Int))) := zaa (by rw [l1]; exact hin)
  by_cases h0 : I < 0
  ·clear hk hv hbx hc5 hA l1 l2 hin hn hn2
   go_enter Tryz.func31, Tryz.ntmps31
   go_wp2
   go_ret
   exact ⟨64, s, rfl, zaa (.inl ⟨HNI.out, rfl, rfl⟩), zaa (HMX.out.dm HOK.out), zaa HMX.out.cf⟩
  ·have h1 : (N : Int) < I := by omega
   clear hk hv hbx hc5 hA l1 l2 hin hn hn2
   go_enter Tryz.func31, Tryz.ntmps31
   go_wp2
   go_ret
   exact ⟨64, s, rfl, zaa (.inl ⟨HNI.out, rfl, rfl⟩), zaa (HMX.out.dm HOK.out), zaa HMX.out.cf⟩
end Go.Proofs.YtfgffajgfgifhaaGreatDoor
