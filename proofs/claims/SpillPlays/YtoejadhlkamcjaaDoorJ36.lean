import Derived.Test.YtoejadhlkamcjaaDoorJ35
namespace Go.Proofs.YtoejadhlkamcjaaDoor
set_option maxRecDepth 100000
open Go.RowKit Go.Maps
variable {w u y w1 : World} {B x b m b2 m2 P T : Nat} {rd rd2 rd' : Int} {M N : Int → Option Pf} {ct ct2 : Nat} {K : Nat → Prop} {rb : Nat → Value} {R : Nat → List Value}
theorem Sq9.congR (h : Sq9 w B x b m b2 m2 P T rd rd2 M N ct ct2 K rb R) {R' : Nat → List Value} (e : ∀ i, R' i = R i) : Sq9 w B x b m b2 m2 P T rd rd2 M N ct ct2 K rb R' :=
 ⟨h.row, h.br, h.bd, h.gM, h.gN, h.zM, h.zN, h.kl, fun i hi => by rw [e i]; exact h.oo i hi, h.d1, h.d2, h.d3, h.hB⟩
theorem upd9_self {R : Nat → List Value} {i : Nat} {l : List Value} (h : R i = l) (j : Nat) : upd9 R i l j = R j := by
 unfold upd9
 split
 ·rename_i e
  rw [e, h]
 ·rfl
def Ws9 (w : World) (B x b m b2 m2 P T : Nat) (rd : Int) (K : Nat → Prop) (rb : Nat → Value) (R : Nat → List Value) (FL : List Int) (u : World) : Prop :=
 ∃ M' N' ct' K' rb' FL', Sq9 u B x b m b2 m2 P T rd rd M' N' ct' ct' K' rb' (upd9 R 0 (IV FL')) ∧ con M' = con N' ∧ (∀ k, K k → K' k) ∧ Cf (Mu x b m b2 m2 rb) w u ∧ (FL' = FL ∨ ∃ a, FL' = FL ++ [a] ∧ 2 ≤ a ∧ a < 65536)
set_option maxHeartbeats 8000000 in
theorem write9 (h : Sq9 w B x b m b2 m2 P T rd rd M N ct ct K rb R) (hc : con M = con N) (FL : List Int) (h0 : R 0 = IV FL) (hFL : FL.length + 1 ≤ 4000000) (hT : T ≤ 65534) (hp : pw P) (vo : Option Addr) (vn vc : Nat) (v : List Int)
  (hv : Sl w vo vn vc v) (hvb : vn = 0 ∨ ∀ p, vo = some p → p.block < B) (hvn : vn ≤ 200000) (ht : Tab w) (hB0 : 0 < B) :
  Calls Tryd.prog 20 #[.pointer (some ⟨x, 0, none⟩), .slice vo vn vc] w fun e u => e = .returned (.bool true) ∧ Hid (Ws9 w B x b m b2 m2 P T rd K rb R FL u) := by
 have hBw : B ≤ w.heap.size := Nat.le_trans h.hB.1 (Nat.le_of_lt (lt_some h.row))
 have H := hidden h
 have HC := hidden hc
 have HV := hidden hv
 have HVL := hidden hv.hlen
 have HVW := hidden hv.wf
 have hvr := hv.hroom
 have HVB := hidden hvb
 have HT := hidden ht
 have HPW := hidden hp
 have HR0 := hidden h0
 have HM0 : Hid (m ≠ 0) := hidden (by have := h.hB.2.2.1; omega)
 have HLE := hidden (Lent_any vo vn vc v w hv)
 obtain ⟨g, hg⟩ : ∃ g, w.heap.size = g := ⟨_, rfl⟩
 have HG := hidden hg
 rw [hg] at HLE
 have HMS : Hid (∀ q, Mu x b m b2 m2 rb q → q < g ∧ B ≤ q) := hidden (fun q hq => by have := h.lts hq; omega)
 have HKS : Hid (∀ q, K q → q < g) := hidden (fun q hq => by have := (h.kl q hq).1; omega)
 have HGB : Hid (B ≤ g) := hidden (by omega)
 have hct := h.gM.le
 have hvI : (vn : Int) ≤ 200000 := by omega
 clear h hc hv hvb ht hp h0
 go_enter Tryd.func20, Tryd.ntmps20
 go_wp2_with (first
  | (go_at_call 44; refine HLE.out.mono ?_; rintro e w1 ⟨rfl, hk5, hb5⟩; have HK1 := hidden hk5; have HB1 := hidden hb5; clear hk5 hb5; refine Hid.out ?_))
 apply hidden
 clear HLE
 have HBw : Hid (Below w.heap.size w w1) := hidden (by rw [hg]; exact HB1.out)
 clear HB1
 have hs1 := H.out.on HBw.out
 have HS1 := hidden hs1
 obtain ⟨c0, _⟩ := hs1.cells
 have HG1 : Hid (g < w1.heap.size) := hidden (lt_some HK1.out)
 have HSL1 : Hid (Sl w1 (some ⟨g, 0, none⟩) vn (vn + 9) v) := hidden (bk_lent HK1.out HVL.out HVW.out hvr)
 have HW1 := hidden (write_g hs1.br HPW.out T rfl hT hs1.gM _ vn (vn + 9) v HSL1.out (HT.out.on HBw.out (by omega)) (Nat.lt_of_le_of_lt (Nat.zero_le _) HG1.out) HM0.out)
 clear hs1 hg
 go_wp2_with (first
  | (go_at_call 11; refine HW1.out.mono ?_; rintro e w2 ⟨a, k, rfl, HWR⟩; refine Hid.out ?_))
 apply hidden
 clear HW1 c0 HSL1
 obtain ⟨M2, ct2, ha2, hb2, hg2, hz2, hc2, hk2⟩ := HWR.out
 have hs2 := HS1.out.actr hb2 (hc2.wide fun k e => .inr e) hg2 hz2
 have HS2 := hidden hs2
 have HC2 := hidden hc2
 have HA2 := hidden ha2
 have HKA := hidden hk2
 have HK2 : Hid (w2.heap[g]? = some (.cells (By (v ++ mks 9)).toArray 5 (0, 0))) := hidden ((hc2.block g HG1.out (fun e => by have := (HMS.out m (.inl (.inr (.inr (.inl rfl))))).1; omega)).trans HK1.out)
 have HV2 : Hid (Sl w2 vo vn vc v) := hidden ((HV.out.on (Nat.le_refl _) HBw.out).cf hc2 (HVB.out.imp id fun HVB p e q => by have h1 := HVB p e; have h2 := (HMS.out m (.inl (.inr (.inr (.inl rfl))))).2; omega))
 have HAL := hidden (AsLent_any g vn vo vc v w2 HK2.out HV2.out)
 clear ha2 hb2 hg2 hz2 hc2 hk2 HWR hs2
 go_wp2_with (first
  | (go_at_call 45; refine HAL.out.mono ?_; rintro e w3 ⟨rfl, hc3⟩; have HC3 := hidden hc3; clear hc3; refine Hid.out ?_))
 apply hidden
 clear HAL HK1 HK2
 have hs3 : Sq9 w3 B x b m b2 m2 P T rd rd M2 N ct2 ct (Kx K w1 w2) rb R := HS2.out.cf HC3.out (fun q hq e => by have := (HMS.out q hq).1; omega) (fun q hq e => by
  rcases hq with hq | hq
  ·have := HKS.out q hq; omega
  ·have := HG1.out; omega)
 have HS3 := hidden hs3
 obtain ⟨_, c1⟩ := hs3.cells
 have HV3 : Hid (Sl w3 vo vn vc v) := hidden (HV2.out.cf HC3.out (HVB.out.imp id fun HVB p e q => by have h1 := HVB p e; have h2 := HGB.out; omega))
 have HW3 := hidden (rwrite_g hs3.bd HPW.out T rfl hT hs3.gN vo vn vc v HV3.out hvn)
 clear hs3
 go_wp2_with (first
  | (go_at_call 46; refine HW3.out.mono ?_; rintro e w4 ⟨a9, k9, rfl, HWR⟩; refine Hid.out ?_))
 apply hidden
 clear HW3 c1
 obtain ⟨N4, ct4, ha4, hb4, hg4, hz4, hc4, hk4⟩ := HWR.out
 rw [← HC.out] at ha4
 obtain ⟨e1, e2, e3, e4⟩ := HA2.out.one ha4
 subst e1 e2 e4
 have hs4 := HS3.out.actd hb4 (hc4.wide fun k e => .inr e) hg4 hz4
 have HS4 := hidden hs4
 have HCON := hidden e3
 have HCW : Hid (Cf (Mu x b m b2 m2 rb) w w4) := hidden (by
  have q1 : Cf (Mu x b m b2 m2 rb) w w2 := (Cf.of_below HBw.out).go (HC2.out.wide fun k e => Mu_r k (.inr e))
  have q2 : Cf (Mu x b m b2 m2 rb) w w3 := ⟨HC3.out.os.trans q1.os, HC3.out.tape.trans q1.tape, HC3.out.output.trans q1.output, Nat.le_trans q1.size HC3.out.size, fun q hq hm => (HC3.out.block q (Nat.lt_of_lt_of_le hq q1.size) (fun e => by have := HG.out; omega)).trans (q1.block q hq hm)⟩
  exact q2.go (hc4.wide fun k e => Mu_d k (.inr e)))
 have hea : (a == a) = true := by simp
 have hek : (k == k) = true := by simp
 clear ha4 hb4 hg4 hz4 hc4 hk4 HWR e3 hs4 HA2 HS1 HS2 HS3 HC2 HC3 HV2 HV3
 by_cases hk : k = 0
 ·subst hk
  have hai := HKA.out rfl
  have HAI := hidden hai
  obtain ⟨z, hz⟩ : ∃ z, w4.alloc (.cells #[.int .i64 a] 3) = z := ⟨_, rfl⟩
  have hbz : Below w4.heap.size w4 z := by rw [← hz]; exact bl_al (Below.refl _ _) (Nat.le_refl _) _
  have hcz : z.cell? ⟨w4.heap.size, 0, none⟩ = some (.int .i64 a) := by rw [← hz]; simp
  have HBZ := hidden hbz
  have HO : Hid (OwnJ z B (rb 0) FL) := hidden (by
   have h1 := (HS4.out.on hbz).oo 0 (by omega)
   rw [HR0.out] at h1
   unfold OwnJ
   have h2 : (IV FL).length = FL.length := by simp [IV]
   rw [h2] at h1
   exact h1)
  have hzs : B ≤ z.heap.size := by have := HGB.out; have := HG.out; have := HCW.out.size; have := hbz.size; omega
  have c2 : w4.cell? ⟨x, 2, none⟩ = some (rb 0) := by simp [World.cell?, HS4.out.row, rowX]
  obtain ⟨r0, hr0⟩ : ∃ r0, rb 0 = r0 := ⟨_, rfl⟩
  have HRB := hidden hr0
  rw [hr0] at c2 HO
  obtain ⟨fo0, fc0, e0, _⟩ := row_slice (w := z) (B := B) (t := 3) (v := r0) (n := FL.length) (xs := IV FL) HO.out
  subst e0
  have hx4 := lt_some HS4.out.row
  clear hbz hr0 hai
  go_wp2_with (at_builtin; refine app_j _ rfl _ _ rfl B FL a _ w4.heap.size rfl rfl HO.out hcz hFL hzs ?_; refine Hid.out ?_)
  apply hidden
  intro v' w5 ho5 hg5
  obtain ⟨qo, qn, qc, rfl⟩ : ∃ qo qn qc, v' = .slice qo qn qc := by
   obtain ⟨qo, qc, e, _⟩ := row_slice (t := 3) (xs := IV (FL ++ [a])) ho5
   exact ⟨qo, _, qc, e⟩
  have HP := hidden (HS4.out.put HBZ.out 0 (by omega) _ (IV (FL ++ [a])) (by
   have h2 : (IV (FL ++ [a])).length = (FL ++ [a]).length := by simp [IV]
   rw [h2]
   exact ho5) (by rw [HRB.out]; exact hg5))
  obtain ⟨⟨d3, f3⟩, _, _⟩ := HP.out
  rw [HRB.out] at d3
  clear ho5 hg5 hz hcz HO HBZ c2
  have HF : Hid (Ws9 w B x b m b2 m2 P T rd K rb R FL (w5.setCell ⟨x, 2, none⟩ (.slice qo qn qc))) := hidden (by
   obtain ⟨_, p2, p3⟩ := HP.out
   refine ⟨M2, N4, ct2, _, _, FL ++ [a], p2, HCON.out, fun k e => .inl (.inl e), HCW.out.go (p3.wide fun k e => ?_), .inr ⟨a, rfl, HAI.out⟩⟩
   rcases e with e | e
   ·exact .inl (.inl e)
   ·exact Mu_row (i := 0) (by omega) e)
  clear HP
  go_wp2
  go_ret
  exact ⟨rfl, HF⟩
 ·have hk2 : (k == 0) = false := by rw [beq_eq_false_iff_ne]; exact hk
  have HF : Hid (Ws9 w B x b m b2 m2 P T rd K rb R FL w4) := hidden ⟨M2, N4, ct2, _, rb, FL, HS4.out.congR (upd9_self HR0.out), HCON.out, fun k e => .inl (.inl e), HCW.out, .inl rfl⟩
  go_wp2
  go_ret
  exact ⟨rfl, HF⟩
end Go.Proofs.YtoejadhlkamcjaaDoor
