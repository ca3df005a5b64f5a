import Derived.Test.YtoejadhlkamcjaaDoorJ34
namespace Go.Proofs.YtoejadhlkamcjaaDoor
set_option maxRecDepth 100000
open Go.RowKit Go.Maps
variable {w u y w1 : World} {B x b m b2 m2 P T : Nat} {rd rd2 rd' : Int} {M N : Int → Option Pf} {ct ct2 : Nat} {K : Nat → Prop} {rb : Nat → Value} {R : Nat → List Value}
theorem lay_r9 (h : Sq9 w B x b m b2 m2 P T rd rd2 M N ct ct2 K rb R) {n : Int} {d : List Int} (h1 : LayTo9 w b m 2 P ((T : Int) + 2) rd M ct n d u) : ∃ M1 ct1 K1, Sq9 u B x b m b2 m2 P T rd rd2 M1 N ct1 ct2 K1 rb R ∧ Cf (Mu x b m b2 m2 rb) w u := by
 rcases h1 with ⟨_, rfl⟩ | ⟨a1, f, hf, hg, hb, hcf⟩
 ·exact ⟨M, ct, K, h, Cf.refl _ _⟩
 ·exact ⟨_, _, _, h.actr hb (hcf.wide fun k e => .inr e) (h.gM.lay a1.1 a1.2) ((Zs.refl _ _).put hg), hcf.wide fun k e => Mu_r k (.inr e)⟩
theorem u8_wrap (z : Int) : 0 ≤ IntKind.u8.wrap z ∧ IntKind.u8.wrap z ≤ 255 := by
 rw [IntKind.wrap_u8]
 omega
theorem refU2 (n p : Int) (ao : Option Addr) (dn cap : Nat) (d : List Int) (w : World) (hs : Sl w ao dn cap d) :
  Calls Tryd.prog 53 #[.int .i64 n, .slice ao dn cap, .int .i64 p] w fun e w' => ∃ ro rn rc, e = .returned (.tuple #[.slice ro rn rc, .int .i64 (spE n d p)]) ∧ Hid (Sl w' ro rn rc (pgL n d p)) ∧ Hid (Below w.heap.size w w') ∧ Hid (∀ q, ro = some q → w.heap.size ≤ q.block) := by
 by_cases hk : spE n d p = 0
 ·obtain ⟨h1, h2, h3, h4⟩ := spE_zero.1 hk
  have hpl := pw_le h1
  obtain ⟨Q, rfl⟩ := Int.eq_ofNat_of_zero_le (show 0 ≤ p by omega)
  have hl := hs.hlen
  refine (refEnc_yes n Q ao dn cap d w hs h1 h2 (by omega) (by omega)).mono ?_
  rintro e w' ⟨ro, rc, rfl, ho, hb⟩
  have hpg : pgL n d Q = spB n d Q := by unfold pgL; rw [if_pos hk, Int.toNat_natCast]
  have hlen : (spB n d Q).length = Q := spB_length _ _ _ (by omega)
  refine ⟨ro, Q, rc, by rw [hk], hidden ?_, hb, hidden fun q e => ?_⟩
  ·rw [hpg]
   exact ho.out.sl2 (spB_wf Q hs.wf) (by omega)
  ·subst e
   exact (ho.out.blk (k := q.block) rfl).1
 ·refine (refEnc_any n p ao dn cap d w hs).mono ?_
  rintro e w' ⟨ro, rn, rc, k, rfl, hb, hq⟩
  obtain ⟨rfl, ⟨hk0, _⟩ | ⟨hk0, rfl, rfl, rfl⟩⟩ := hq.out
  ·exact absurd hk0 hk
  ·refine ⟨_, _, _, rfl, hidden ?_, hb, hidden fun q e => (by cases e)⟩
   unfold pgL
   rw [if_neg hk]
   exact Sl.none9 _
set_option maxHeartbeats 8000000 in
theorem turn9 (h : Sq9 w B x b m b2 m2 P T rd rd M N ct ct K rb R) (hc : con M = con N) (FL : List Int) (h0 : R 0 = IV FL) (hFL : FL.length ≤ 4000000) (hFw : ∀ a ∈ FL, 2 ≤ a ∧ a < 65536) (hT : T ≤ 65534) (k f n fr to : Int) (vo : Option Addr) (vn vc : Nat)
  (hf : -9223372036854775808 ≤ f ∧ f ≤ 9223372036854775807) (hrd : rd < 4611686018427387904) (hr0 : 0 ≤ rd) :
  Calls Tryd.prog 28 #[.pointer (some ⟨x, 0, none⟩), opV k f n fr to vo vn vc] w fun e u => e = .returned (.tuple #[]) ∧ Hid (Rs9 w B x b m b2 m2 P T rd K rb R u) := by
 have hwf := fsN_wf hFw (wf64 f hf.1 hf.2)
 obtain ⟨z, hz⟩ : ∃ z, w.alloc (.cells #[.int .i64 k, .int .i64 f, .int .i64 n, .int .i64 fr, .int .i64 to, .slice vo vn vc] 35) = z := ⟨_, rfl⟩
 have hbz : Below w.heap.size w z := by rw [← hz]; exact bl_al (Below.refl _ _) (Nat.le_refl _) _
 obtain ⟨s, hs⟩ : ∃ s, w.heap.size = s := ⟨_, rfl⟩
 have g0 : z.cell? ⟨s, 0, none⟩ = some (.int .i64 k) := by rw [← hz, ← hs]; simp
 have g1 : z.cell? ⟨s, 1, none⟩ = some (.int .i64 f) := by rw [← hz, ← hs]; simp
 have g2 : z.cell? ⟨s, 2, none⟩ = some (.int .i64 n) := by rw [← hz, ← hs]; simp
 have g3 : z.cell? ⟨s, 3, none⟩ = some (.int .i64 fr) := by rw [← hz, ← hs]; simp
 have g4 : z.cell? ⟨s, 4, none⟩ = some (.int .i64 to) := by rw [← hz, ← hs]; simp
 have g5 : z.cell? ⟨s, 5, none⟩ = some (.slice vo vn vc) := by rw [← hz, ← hs]; simp
 have hzs : s < z.heap.size := by rw [← hz, ← hs]; simp
 have HFI := hidden (first9 (h.on hbz) FL h0 hFL k f n fr to vo vn vc hf)
 obtain ⟨n0, hn0⟩ : ∃ n0, fsN FL f = n0 := ⟨_, rfl⟩
 rw [hn0] at HFI hwf
 have HN0 := hidden hwf
 have H := hidden h
 have HCO := hidden hc
 have HBZ := hidden hbz
 have HSW := hidden hs
 have HMS : Hid (∀ q, Mu x b m b2 m2 rb q → q < s) := hidden (fun q hq => by have := (h.lts hq).1; omega)
 have HG : Hid (z.cell? ⟨s, 0, none⟩ = some (.int .i64 k) ∧ z.cell? ⟨s, 3, none⟩ = some (.int .i64 fr) ∧ z.cell? ⟨s, 4, none⟩ = some (.int .i64 to)) := hidden ⟨g0, g3, g4⟩
 have HZS := hidden hzs
 clear h hc h0 hFw hwf hn0 hbz hzs
 go_enter Tryd.func28, Tryd.ntmps28
 go_wp2_with (first
  | (go_at_call 19; refine HFI.out.mono ?_; rintro e v1 ⟨rfl, HV1⟩; refine Hid.out ?_))
 apply hidden
 have HB1 : Hid (Below w.heap.size w v1) := hidden (bl_go HBZ.out (Nat.le_refl _) HV1.out)
 have H1 : Hid (Sq9 v1 B x b m b2 m2 P T rd rd M N ct ct K rb R) := hidden (H.out.on HB1.out)
 have HPG := hidden (page9 H1.out HCO.out n0 HN0.out hrd hr0)
 have HSV : Hid (s < v1.heap.size) := hidden (Nat.lt_of_lt_of_le HZS.out HV1.out.size)
 have HG1 : Hid (v1.cell? ⟨s, 0, none⟩ = some (.int .i64 k) ∧ v1.cell? ⟨s, 3, none⟩ = some (.int .i64 fr) ∧ v1.cell? ⟨s, 4, none⟩ = some (.int .i64 to)) := hidden ⟨(HV1.out.cell (p := ⟨s, 0, none⟩) HZS.out).trans HG.out.1, (HV1.out.cell (p := ⟨s, 3, none⟩) HZS.out).trans HG.out.2.1, (HV1.out.cell (p := ⟨s, 4, none⟩) HZS.out).trans HG.out.2.2⟩
 clear HFI HG HV1 g0 g1 g2 g3 g4 g5 hz hs
 go_wp2_with (first
  | (go_at_call 51; refine HPG.out.mono ?_; rintro e v2 ⟨ao, pn, pc, rfl, HP2⟩; refine Hid.out ?_))
 apply hidden
 clear HPG
 obtain ⟨l, ho, hwl, hll, hlr, rd2, hs2, hc2, hr1, hr2⟩ := HP2.out
 have HS : Hid (Sq9 v2 B x b m b2 m2 P T rd2 rd2 M N ct ct K rb R) := hidden hs2
 have HCF : Hid (Cf (Mu x b m b2 m2 rb) w v2) := hidden ((Cf.of_below HB1.out).go hc2)
 have HRD : Hid (rd ≤ rd2 ∧ rd2 ≤ rd + 1) := hidden ⟨hr1, hr2⟩
 have HSL : Hid (Sl v2 ao pn pc l) := hidden (by rw [← hll] at ho ⊢; exact ho.sl2 hwl hlr)
 have hfr : ∀ i v, v1.cell? ⟨s, i, none⟩ = some v → v2.cell? ⟨s, i, none⟩ = some v := fun i v e => (World.cell?_of_block (hc2.block s HSV.out (fun q => Nat.lt_irrefl _ (HMS.out s q)))).trans e
 have g0 := hfr 0 _ HG1.out.1
 have g3 := hfr 3 _ HG1.out.2.1
 have g4 := hfr 4 _ HG1.out.2.2
 have HLOW : Hid (∀ q, (Value.slice ao pn pc).ownBlock = some q → v1.heap.size ≤ q ∧ q < v2.heap.size) := hidden (fun q e => ho.blk e)
 have HMU : Hid (∀ p, ao = some p → ¬ Mu x b m b2 m2 rb p.block) := hidden (fun p e q => by
  have h1 := (H1.out.lts q).1
  subst e
  have h2 := (ho.blk (k := p.block) rfl).1
  omega)
 have HKK : Hid (∀ q, K q → q < v1.heap.size) := hidden (fun q hq => (H1.out.kl q hq).1)
 have HOW := hidden ho
 have HWL := hidden hwl
 have HLL := hidden hll
 have hpr := HSL.out.hroom
 have hpI : (pn : Int) ≤ 140737488355328 := by omega
 clear ho hwl hll hlr hs2 hc2 hr1 hr2 hfr HP2 HG1
 by_cases hp0 : pn = 0
 ·subst hp0
  have HF : Hid (Rs9 w B x b m b2 m2 P T rd K rb R v2) := hidden ⟨rd2, M, N, ct, K, HS.out, HCO.out, fun _ e => e, HCF.out, HRD.out.1, by have := HRD.out.2; omega⟩
  go_wp2
  (try simp only [Exit.inBlock, Exit.then])
  refine bodyPost_ret (results_none rfl _ _ _) rfl ?_
  exact ⟨rfl, HF⟩
 ·have b0 : ((pn : Int) == 0) = false := by rw [beq_eq_false_iff_ne]; omega
  obtain ⟨pb, rfl⟩ : ∃ pb, ao = some ⟨pb, 0, none⟩ := by
   obtain ⟨ao', c', e, hh⟩ := own_shape HOW.out
   injection e with e1 e2 e3
   rcases hh with h | ⟨g, hg, _⟩
   ·have := HLL.out; omega
   ·exact ⟨g, by rw [e1]; exact hg⟩
  by_cases h7 : k = 7
  ·have b7 : (k == 7) = true := by rw [beq_iff_eq]; exact h7
   have HK7 := hidden h7
   clear h7
   by_cases hin : 0 ≤ to ∧ to < (pn : Int)
   ·have d1 : decide (0 ≤ to) = true := by simpa using hin.1
    have d2 : decide (to < (pn : Int)) = true := by simpa using hin.2
    obtain ⟨t, rfl⟩ := Int.eq_ofNat_of_zero_le hin.1
    have d3 : (t : Int) < (pn : Int) := hin.2
    have d4 : t < pn := by omega
    have hpc := HSL.out.hcap
    have hcb : ∃ v, v2.cell? ⟨pb, t, none⟩ = some v := by
     rcases HSL.out.hat with h | ⟨b', off, e, _, hcc⟩
     ·omega
     ·injection e with e
      injection e with e1 e2
      subst e1 e2
      exact ⟨_, by have := hcc t d4; rwa [Nat.zero_add] at this⟩
    obtain ⟨cv, hcv⟩ := hcb
    have hfz : v2.frozen? ⟨pb, t, none⟩ = false := by
     have hb := HOW.out
     unfold OwnB at hb
     rcases hb.2 with ⟨e, _⟩ | ⟨g, cap, cur, e, _, hh, _⟩
     ·cases e
     ·injection e with e1 e2 e3
      injection e1 with e1
      injection e1 with e1
      subst e1
      simp [World.frozen?, hh]
    obtain ⟨q8, hq8⟩ : ∃ q8, IntKind.u8.wrap fr = q8 := ⟨_, rfl⟩
    have hq := u8_wrap fr
    rw [hq8] at hq
    have HOW3 : Hid (OwnB (v2.setCell ⟨pb, t, none⟩ (.int .u8 q8)) v1.heap.size (.slice (some ⟨pb, 0, none⟩) pn pc) (l.set t q8)) := hidden (own_set HOW.out HLL.out d4)
    have hc3 : Cf (· = pb) v2 (v2.setCell ⟨pb, t, none⟩ (.int .u8 q8)) := Cf.setCell (F := (· = pb)) v2 (p := ⟨pb, t, none⟩) rfl _
    have hpl := HLOW.out pb rfl
    have HS3 : Hid (Sq9 (v2.setCell ⟨pb, t, none⟩ (.int .u8 q8)) B x b m b2 m2 P T rd2 rd2 M N ct ct K rb R) := hidden (HS.out.cf hc3 (fun q hq e => by have := HMS.out q hq; have := HSV.out; omega) (fun q hq e => by have := HKK.out q hq; omega))
    have HCF3 : Hid (Cf (Mu x b m b2 m2 rb) w (v2.setCell ⟨pb, t, none⟩ (.int .u8 q8))) := hidden ⟨hc3.os.trans HCF.out.os, hc3.tape.trans HCF.out.tape, hc3.output.trans HCF.out.output, Nat.le_trans HCF.out.size hc3.size, fun q hq hm => (hc3.block q (Nat.lt_of_lt_of_le hq HCF.out.size) (fun e => by have := HB1.out.size; omega)).trans (HCF.out.block q hq hm)⟩
    have HSL3 : Hid (Sl (v2.setCell ⟨pb, t, none⟩ (.int .u8 q8)) (some ⟨pb, 0, none⟩) pn pc (l.set t q8)) := hidden (by
     have h1 : (l.set t q8).length = pn := by rw [List.length_set]; exact HLL.out
     have := HOW3.out.sl2 (l := l.set t q8) (fun v hv => by
      rcases List.mem_or_eq_of_mem_set hv with h | h
      ·exact HWL.out v h
      ·rw [h]; exact hq) (by omega)
     exact this)
    clear HS HCF HSL HOW HOW3 hc3 hpl hq hin
    have HS := HS3
    have HCF := HCF3
    have HSL := HSL3
    clear HS3 HCF3 HSL3
    have HL1 := hidden (blay_any HS.out.br n0 HN0.out (some ⟨pb, 0, none⟩) pn pc (l.set t q8) HSL.out (by have := HS.out.gM.le; omega))
    obtain ⟨c0, c1⟩ := HS.out.cells
    go_wp2_with (first
     | (go_at_call 27; refine HL1.out.mono ?_; rintro e v8 ⟨k8, rfl, HY1⟩; refine Hid.out ?_))
    apply hidden
    clear HL1 c0 c1
    obtain ⟨M1, ct1, K1, hs8, hc8⟩ := lay_r9 HS.out HY1.out
    have HSL8 : Hid (Sl v8 (some ⟨pb, 0, none⟩) pn pc (l.set t q8)) := hidden (HSL.out.cfM HMU.out hc8 (fun _ e => e))
    have HL2 := hidden (blay_any hs8.bd n0 HN0.out (some ⟨pb, 0, none⟩) pn pc (l.set t q8) HSL8.out (by have := HS.out.gN.le; omega))
    obtain ⟨c0, c1⟩ := hs8.cells
    clear hs8 hc8
    go_wp2_with (first
     | (go_at_call 27; refine HL2.out.mono ?_; rintro e v9 ⟨k9, rfl, HY2⟩; refine Hid.out ?_))
    apply hidden
    clear HL2 c0 c1
    have HF : Hid (Rs9 w B x b m b2 m2 P T rd K rb R v9) := hidden (by
     obtain ⟨M', N', ct', K', q1, q2, q3, q4⟩ := lay_both9 HS.out HCO.out n0 _ HY1.out HY2.out
     exact ⟨_, M', N', ct', K', q1, q2, q3, HCF.out.go q4, HRD.out.1, by have := HRD.out.2; omega⟩)
    clear HY1 HY2 HSL HSL8 HS HCF HMU
    go_wp2
    go_end0
    exact ⟨rfl, HF⟩
   ·have HF0 := hidden hin
    by_cases t0 : 0 ≤ to
    ·have d1 : decide (0 ≤ to) = true := by simpa using t0
     have t1 : ¬ to < (pn : Int) := fun e => hin ⟨t0, e⟩
     have d2 : decide (to < (pn : Int)) = false := by simpa using t1
     clear hin HOW
     have HL1 := hidden (blay_any HS.out.br n0 HN0.out (some ⟨pb, 0, none⟩) pn pc l HSL.out (by have := HS.out.gM.le; omega))
     obtain ⟨c0, c1⟩ := HS.out.cells
     go_wp2_with (first
      | (go_at_call 27; refine HL1.out.mono ?_; rintro e v8 ⟨k8, rfl, HY1⟩; refine Hid.out ?_))
     apply hidden
     clear HL1 c0 c1
     obtain ⟨M1, ct1, K1, hs8, hc8⟩ := lay_r9 HS.out HY1.out
     have HSL8 : Hid (Sl v8 (some ⟨pb, 0, none⟩) pn pc l) := hidden (HSL.out.cfM HMU.out hc8 (fun _ e => e))
     have HL2 := hidden (blay_any hs8.bd n0 HN0.out (some ⟨pb, 0, none⟩) pn pc l HSL8.out (by have := HS.out.gN.le; omega))
     obtain ⟨c0, c1⟩ := hs8.cells
     clear hs8 hc8
     go_wp2_with (first
      | (go_at_call 27; refine HL2.out.mono ?_; rintro e v9 ⟨k9, rfl, HY2⟩; refine Hid.out ?_))
     apply hidden
     clear HL2 c0 c1
     have HF : Hid (Rs9 w B x b m b2 m2 P T rd K rb R v9) := hidden (by
      obtain ⟨M', N', ct', K', q1, q2, q3, q4⟩ := lay_both9 HS.out HCO.out n0 _ HY1.out HY2.out
      exact ⟨_, M', N', ct', K', q1, q2, q3, HCF.out.go q4, HRD.out.1, by have := HRD.out.2; omega⟩)
     clear HY1 HY2 HSL HSL8 HS HCF HMU
     go_wp2
     go_end0
     exact ⟨rfl, HF⟩
    ·have d1 : decide (0 ≤ to) = false := by simpa using t0
     clear hin HOW
     have HL1 := hidden (blay_any HS.out.br n0 HN0.out (some ⟨pb, 0, none⟩) pn pc l HSL.out (by have := HS.out.gM.le; omega))
     obtain ⟨c0, c1⟩ := HS.out.cells
     go_wp2_with (first
      | (go_at_call 27; refine HL1.out.mono ?_; rintro e v8 ⟨k8, rfl, HY1⟩; refine Hid.out ?_))
     apply hidden
     clear HL1 c0 c1
     obtain ⟨M1, ct1, K1, hs8, hc8⟩ := lay_r9 HS.out HY1.out
     have HSL8 : Hid (Sl v8 (some ⟨pb, 0, none⟩) pn pc l) := hidden (HSL.out.cfM HMU.out hc8 (fun _ e => e))
     have HL2 := hidden (blay_any hs8.bd n0 HN0.out (some ⟨pb, 0, none⟩) pn pc l HSL8.out (by have := HS.out.gN.le; omega))
     obtain ⟨c0, c1⟩ := hs8.cells
     clear hs8 hc8
     go_wp2_with (first
      | (go_at_call 27; refine HL2.out.mono ?_; rintro e v9 ⟨k9, rfl, HY2⟩; refine Hid.out ?_))
     apply hidden
     clear HL2 c0 c1
     have HF : Hid (Rs9 w B x b m b2 m2 P T rd K rb R v9) := hidden (by
      obtain ⟨M', N', ct', K', q1, q2, q3, q4⟩ := lay_both9 HS.out HCO.out n0 _ HY1.out HY2.out
      exact ⟨_, M', N', ct', K', q1, q2, q3, HCF.out.go q4, HRD.out.1, by have := HRD.out.2; omega⟩)
     clear HY1 HY2 HSL HSL8 HS HCF HMU
     go_wp2
     go_end0
     exact ⟨rfl, HF⟩
  ·have b7 : (k == 7) = false := by rw [beq_eq_false_iff_ne]; exact h7
   have HDE := hidden (refD2 _ pn pc l v2 HSL.out)
   clear h7 HOW
   go_wp2_with (first
    | (go_at_call 52; refine HDE.out.mono ?_; rintro e v3 ⟨eo, en, ec, rfl, HO3, HB3⟩; refine Hid.out ?_))
   apply hidden
   have HSD : Hid (Sl v3 eo en ec (dBy l)) := hidden (HO3.out.sl2 (dBy_wf HWL.out) (by have := dBy_len (l := l); omega))
   have HEN := hidden (refU2 fr (pn : Int) eo en ec (dBy l) v3 HSD.out)
   have hs23 := HB3.out.size
   have g3b : v3.cell? ⟨s, 3, none⟩ = some (.int .i64 fr) := (HB3.out.cell (p := ⟨s, 3, none⟩) (show s < v2.heap.size by have := HSV.out; have := HLOW.out pb rfl; omega)).trans g3
   clear HDE HO3 g0 g3 g4
   go_wp2_with (first
    | (go_at_call 53; refine HEN.out.mono ?_; rintro e v4 ⟨ro, rn, rc, rfl, HS4, HB4, HNW⟩; refine Hid.out ?_))
   apply hidden
   clear HEN g3b hs23
   have HB24 : Hid (Below v2.heap.size v2 v4) := hidden (bl_go HB3.out (Nat.le_refl _) HB4.out)
   have HS9 : Hid (Sq9 v4 B x b m b2 m2 P T rd2 rd2 M N ct ct K rb R) := hidden (HS.out.on HB24.out)
   have HCF9 : Hid (Cf (Mu x b m b2 m2 rb) w v4) := hidden (HCF.out.go (Cf.of_below HB24.out))
   obtain ⟨ke, hke⟩ : ∃ ke, spE fr (dBy l) (pn : Int) = ke := ⟨_, rfl⟩
   obtain ⟨kd, hkd⟩ : ∃ kd, dKy l = kd := ⟨_, rfl⟩
   have HKE := hidden hke
   rw [hke, hkd]
   clear HS HCF HB24 hke hkd
   have HS := HS9
   have HCF := HCF9
   clear HS9 HCF9
   by_cases k1 : kd = 0
   ·subst k1
    by_cases k2 : ke = 0
    ·subst k2
     have HSLr : Hid (Sl v4 ro rn rc (pgL fr (dBy l) (pn : Int))) := HS4
     have HMUr : Hid (∀ p, ro = some p → ¬ Mu x b m b2 m2 rb p.block) := hidden (fun p e q => by
      have h1 := HNW.out p e
      have h2 := HMS.out _ q
      have h3 := HSV.out
      have h4 := HB3.out.size
      have h5 := (HLOW.out pb rfl)
      omega)
     clear HSL HMU HS4
     have HSL := HSLr
     have HMU := HMUr
     clear HSLr HMUr
     have HL1 := hidden (blay_any HS.out.br n0 HN0.out ro rn rc (pgL fr (dBy l) (pn : Int)) HSL.out (by have := HS.out.gM.le; omega))
     obtain ⟨c0, c1⟩ := HS.out.cells
     go_wp2_with (first
      | (go_at_call 27; refine HL1.out.mono ?_; rintro e v8 ⟨k8, rfl, HY1⟩; refine Hid.out ?_))
     apply hidden
     clear HL1 c0 c1
     obtain ⟨M1, ct1, K1, hs8, hc8⟩ := lay_r9 HS.out HY1.out
     have HSL8 : Hid (Sl v8 ro rn rc (pgL fr (dBy l) (pn : Int))) := hidden (HSL.out.cfM HMU.out hc8 (fun _ e => e))
     have HL2 := hidden (blay_any hs8.bd n0 HN0.out ro rn rc (pgL fr (dBy l) (pn : Int)) HSL8.out (by have := HS.out.gN.le; omega))
     obtain ⟨c0, c1⟩ := hs8.cells
     clear hs8 hc8
     go_wp2_with (first
      | (go_at_call 27; refine HL2.out.mono ?_; rintro e v9 ⟨k9, rfl, HY2⟩; refine Hid.out ?_))
     apply hidden
     clear HL2 c0 c1
     have HF : Hid (Rs9 w B x b m b2 m2 P T rd K rb R v9) := hidden (by
      obtain ⟨M', N', ct', K', q1, q2, q3, q4⟩ := lay_both9 HS.out HCO.out n0 _ HY1.out HY2.out
      exact ⟨_, M', N', ct', K', q1, q2, q3, HCF.out.go q4, HRD.out.1, by have := HRD.out.2; omega⟩)
     clear HY1 HY2 HSL HSL8 HS HCF HMU
     go_wp2
     go_end0
     exact ⟨rfl, HF⟩
    ·have bk2 : (ke == 0) = false := by rw [beq_eq_false_iff_ne]; exact k2
     have HF : Hid (Rs9 w B x b m b2 m2 P T rd K rb R v4) := hidden ⟨rd2, M, N, ct, K, HS.out, HCO.out, fun _ e => e, HCF.out, HRD.out.1, by have := HRD.out.2; omega⟩
     go_wp2
     (try simp only [Exit.inBlock, Exit.then])
     refine bodyPost_ret (results_none rfl _ _ _) rfl ?_
     exact ⟨rfl, HF⟩
   ·have bk1 : (kd == 0) = false := by rw [beq_eq_false_iff_ne]; exact k1
    have HF : Hid (Rs9 w B x b m b2 m2 P T rd K rb R v4) := hidden ⟨rd2, M, N, ct, K, HS.out, HCO.out, fun _ e => e, HCF.out, HRD.out.1, by have := HRD.out.2; omega⟩
    go_wp2
    (try simp only [Exit.inBlock, Exit.then])
    refine bodyPost_ret (results_none rfl _ _ _) rfl ?_
    exact ⟨rfl, HF⟩
end Go.Proofs.YtoejadhlkamcjaaDoor
