/- The walk of the law SpillDecodes. -/
import Derived.Test.YtllcbilhpijjhaaDoorJb
namespace Go.Proofs.YtllcbilhpijjhaaDoor
open Go.RowKit

set_option maxRecDepth 100000 in
theorem OwnB.cfg {w u : World} {B : Nat} {v : Value} {l : List Int} {g : Nat} (h : OwnB w B v l) (hc : Cf (· = g) w u) (hg : g < B) : OwnB u B v l := h.cf hc (fun k hk e => by have := own_in h hk; omega)
set_option maxRecDepth 100000 in
/-- Behind the copy. -/
theorem over_splice (d cs : List Int) (h : cs.length ≤ d.length) : splice (d ++ mks 9) 0 cs = (cs ++ d.drop cs.length) ++ mks 9 := by
  simp only [splice, List.take_zero, List.nil_append, Nat.zero_add]
  rw [List.drop_append_of_le_length h, List.append_assoc]
set_option maxRecDepth 100000 in
theorem src_take {w : World} {oo : Option Addr} {on oc : Nat} {o : List Int} (h : Sl w oo on oc o) (k : Nat) (hpos : 0 < (o.take k).length) :
    ∃ ad, oo = some ad ∧ ∀ j v, (By (o.take k))[j]? = some v → w.cell? (ad.add j) = some v := by
  have hl := h.hlen
  rw [List.length_take] at hpos
  rcases h.hat with h1 | ⟨b, off, rfl, _, _⟩
  · omega
  · refine ⟨_, rfl, fun j v hv => sl_src5 h j v ?_⟩
    have e : By (o.take k) = (By o).take k := by simp [By, List.map_take]
    rw [e, List.getElem?_take] at hv
    split at hv
    · exact hv
    · cases hv
set_option maxRecDepth 100000 in
set_option maxHeartbeats 16000000 in
theorem walk_SpillDecodes (ao : Option Addr) (bn cap : Nat) (d : List Int) (oo : Option Addr) (on oc : Nat) (o : List Int) (w : World) (ht : Tab w) (h0 : 0 < w.heap.size) (hs : Sl w ao bn cap d) (hs2 : Sl w oo on oc o) :
    Calls Tryd.prog 4 #[.slice ao bn cap, .slice oo on oc] w fun e w' => e = .returned (.bool true) ∧ Below w.heap.size w w' := by
  obtain ⟨i0, hi, hz0, hz1, hz2⟩ := info_parts info5
  have hsz : (Tryd.prog.info? 5).map (·.size) = some 1 := by rw [hi]; simp [hz1]
  have HAW := hidden (awake_any w ht h0)
  have HT := hidden ht
  have HS := hidden hs
  have HO := hidden hs2
  have HL := hidden hs.hlen
  have hr := hs.hroom
  have HWD := hidden hs.wf
  obtain ⟨cs, hcs⟩ : ∃ cs, o.take bn = cs := ⟨_, rfl⟩
  have HCL : Hid (cs.length = Nat.min on bn) := hidden (by rw [← hcs, List.length_take, hs2.hlen]; exact Nat.min_comm _ _)
  have HCD : Hid (cs.length ≤ d.length) := hidden (by rw [← hcs, List.length_take, hs.hlen]; exact Nat.min_le_left _ _)
  have HCE := hidden hcs
  obtain ⟨X, hX⟩ : ∃ X, cs ++ d.drop cs.length = X := ⟨_, rfl⟩
  have HXL : Hid (X.length = bn) := hidden (by rw [← hX, List.length_append, List.length_drop, ← HL.out]; have := HCD.out; omega)
  have HXW : Hid (Wf X) := hidden (by rw [← hX]; exact Wf.append (by rw [← hcs]; exact hs2.wf.take _) (hs.wf.drop _))
  have HXE := hidden hX
  clear ht hs hs2 hi hz0 hz1 hz2 hcs hX
  go_enter Tryd.func4, Tryd.ntmps4
  go_wp2_with (first
    | (go_at_call 6; refine HAW.out.mono ?_; rintro e w1 ⟨rfl, HB1⟩; refine Hid.out ?_))
  apply hidden
  have HR1 := hidden (refD ao bn cap d w1 (HS.out.on (Nat.le_refl _) HB1.out))
  clear HAW
  go_wp2_with (first
    | (go_at_call 14; refine HR1.out.mono ?_; rintro e w2 ⟨ro, rn, rc, rfl, HW2, HBa⟩; refine Hid.out ?_))
  apply hidden
  have HB2 := hidden (bl_go HB1.out (Nat.le_refl _) HBa.out)
  have HLE := hidden (Lent_any ao bn cap d w2 (HS.out.on (Nat.le_refl _) HB2.out))
  clear HR1 HBa HB1
  obtain ⟨g, hg⟩ : ∃ g, w2.heap.size = g := ⟨_, rfl⟩
  rw [hg] at HLE
  go_wp2_with (first
    | (go_at_call 9; refine HLE.out.mono ?_; rintro e w3 ⟨rfl, hk5, hb5⟩; have HK3 := hidden hk5; have HBa := hidden hb5; clear hk5 hb5; refine Hid.out ?_))
  apply hidden
  rw [← hg] at HBa
  have HG : Hid (w.heap.size ≤ g) := hidden (by rw [← hg]; exact HB2.out.size)
  have HB3 := hidden (bl_go HB2.out (Nat.le_refl _) HBa.out)
  have HW3 : Hid (Sl w3 ro rn rc (dBy d)) := hidden (HW2.out.on (Nat.le_refl _) HBa.out)
  have HFW : Hid (rn = 0 ∨ ∀ p, ro = some p → ¬ p.block = g) := hidden (by
    rcases HW2.out.hat with h | ⟨b, o, rfl, hlt, _⟩
    · exact .inl h
    · right; intro p hp e; cases hp; simp only at e; omega)
  have HG3 : Hid (g < w3.heap.size) := hidden (lt_some HK3.out)
  have HWB : Hid (w.heap.size ≤ w3.heap.size) := hidden HB3.out.size
  have HE1 := hidden (decU _ bn (bn + 9) d w3 (bk_lent HK3.out HL.out HWD.out hr) (HT.out.on HB3.out h0) (Nat.lt_of_lt_of_le h0 HB3.out.size))
  clear HLE HBa HW2 HB2 hg
  go_wp2_with (first
    | (go_at_call 15; refine HE1.out.mono ?_; rintro e w4 ⟨eo, en, ec, rfl, HA4, HBb⟩; refine Hid.out ?_))
  apply hidden
  have HB4 := hidden (bl_go HB3.out (Nat.le_refl _) HBb.out)
  have HK4 : Hid (Bk w4 g (d ++ mks 9)) := hidden (Bk.on HK3.out HBb.out)
  have HW4 : Hid (Sl w4 ro rn rc (dBy d)) := hidden (HW3.out.on (Nat.le_refl _) HBb.out)
  have HS34 : Hid (w3.heap.size ≤ w4.heap.size) := hidden HBb.out.size
  have HE2 := hidden (decU _ bn (bn + 9) d w4 (bk_lent HK4.out HL.out HWD.out hr) (HT.out.on HB4.out h0) (Nat.lt_of_lt_of_le h0 HB4.out.size))
  clear HE1 HK3 HBb HB3 HW3
  obtain ⟨sd, hsd⟩ : ∃ sd, strOfNums d = sd := ⟨_, rfl⟩
  go_wp2_with (first
    | (go_at_call 15; refine HE2.out.mono ?_; rintro e w5 ⟨fo, fn, fc, rfl, HF5, HBc⟩; refine Hid.out ?_))
  apply hidden
  have HB5 := hidden (bl_go HB4.out (Nat.le_refl _) HBc.out)
  have HK5 : Hid (Bk w5 g (d ++ mks 9)) := hidden (HK4.out.on HBc.out)
  have HA5 : Hid (OwnB w5 w3.heap.size (.slice eo en ec) (dBy d)) := hidden (HA4.out.on (Nat.le_refl _) HBc.out)
  have HW5 : Hid (Sl w5 ro rn rc (dBy d)) := hidden (HW4.out.on (Nat.le_refl _) HBc.out)
  have HNab : Hid ((Value.slice eo en ec).ownBlock = none ∨ (Value.slice eo en ec).ownBlock ≠ (Value.slice fo fn fc).ownBlock) := hidden (own_two HA4.out HF5.out (Nat.le_refl _))
  have HS45 : Hid (w4.heap.size ≤ w5.heap.size) := hidden HBc.out.size
  have k1 := conv_sl (bk_lent HK5.out HL.out HWD.out hr)
  have k2 := conv_sl (HS.out.on (Nat.le_refl _) HB5.out)
  rw [hsd] at k1 k2
  have eS : (sd.toList == sd.toList) = true := by simp
  have HPP : Hid (0 < (By cs).length → some (⟨g, 0, none⟩ : Addr) = some ⟨g, 0, none⟩ ∧ ∃ ad, oo = some ad ∧ ∀ j v, (By cs)[j]? = some v → w5.cell? (ad.add j) = some v) := hidden (by
    intro h
    rw [By_length, ← HCE.out] at h
    rw [← HCE.out]
    exact ⟨rfl, src_take (HO.out.on (Nat.le_refl _) HB5.out) bn h⟩)
  clear HE2 HK4 HA4 HW4 HB4 HBc
  go_wp2_with (refine copy_cf rfl _ _ 22 22 rfl 5 Tryd.underlying22 hsz _ _ bn (bn + 9) on oc rfl rfl g 0 (By (d ++ mks 9)) 5 HK5.out (By cs) (by rw [By_length]; exact HCL.out) HPP.out (by rw [By_length, By_length, List.length_append]; have := HCD.out; omega) (By_one cs) ?_; refine Hid.out ?_)
  apply hidden
  intro w6 HH HC6
  have HK6 : Hid (Bk w6 g (X ++ mks 9)) := hidden (by
    have e := HH.out
    rw [By_splice5, over_splice d cs HCD.out, HXE.out] at e
    exact e)
  have HB6 : Hid (Below w.heap.size w w6) := hidden (HB5.out.trans (HC6.out.below HB5.out.size (fun k hk e => by have := HG.out; omega)))
  have HS56 : Hid (w5.heap.size ≤ w6.heap.size) := hidden HC6.out.size
  have HA6 : Hid (OwnB w6 w3.heap.size (.slice eo en ec) (dBy d)) := hidden (HA5.out.cfg HC6.out HG3.out)
  have HF6 : Hid (OwnB w6 w4.heap.size (.slice fo fn fc) (dBy d)) := hidden (HF5.out.cfg HC6.out (Nat.lt_of_lt_of_le HG3.out HS34.out))
  have HW6 : Hid (Sl w6 ro rn rc (dBy d)) := hidden (HW5.out.cf HC6.out HFW.out)
  have HSL6 : Hid (Sl w6 (some ⟨g, 0, none⟩) bn (bn + 9) X) := hidden (bk_lent HK6.out HXL.out HXW.out hr)
  have HN6 : Hid (OwnB w6 w6.heap.size (.slice none 0 0) []) := hidden (OwnB.nil _ _)
  have h66 : w6.heap.size ≤ w6.heap.size := Nat.le_refl _
  have hr6 : 0 + bn ≤ 140737488355328 := by omega
  clear HH HC6 HK5 HA5 HF5 HW5 HPP k1 k2 HB5 eS hsd
  go_wp2_with (at_builtin; refine app_sl _ rfl _ _ rfl w6.heap.size [] X _ (some ⟨g, 0, none⟩) bn (bn + 9) rfl rfl HN6.out HSL6.out hr6 h66 ?_; refine Hid.out ?_)
  apply hidden
  intro v7 w7 ho7 hg7
  have HBd : Hid (Below w6.heap.size w6 w7) := hidden (hg7.below HN6.out h66)
  obtain ⟨vo, vc, rfl, _⟩ := own_shape ho7
  have HV7 : Hid (OwnB w7 w6.heap.size (.slice vo bn vc) X) := hidden (by
    have := ho7
    simp only [HXL.out] at this
    exact this)
  have hvl : ([] ++ X : List Int).length = bn := by rw [List.nil_append, HXL.out]
  first | rw [hvl] | rw [HXL.out]
  have HFV : Hid (bn = 0 ∨ ∀ p, vo = some p → ¬ p.block = g) := hidden (by
    right
    intro p hp e
    subst hp
    have h1 := own_in HV7.out (k := p.block) rfl
    have := HG3.out
    have := HS34.out
    have := HS45.out
    have := HS56.out
    omega)
  have HB7 := hidden (bl_go HB6.out (Nat.le_refl _) HBd.out)
  have HK7 : Hid (Bk w7 g (X ++ mks 9)) := hidden (HK6.out.on HBd.out)
  have HA7 : Hid (OwnB w7 w3.heap.size (.slice eo en ec) (dBy d)) := hidden (HA6.out.on (Nat.le_refl _) HBd.out)
  have HF7 : Hid (OwnB w7 w4.heap.size (.slice fo fn fc) (dBy d)) := hidden (HF6.out.on (Nat.le_refl _) HBd.out)
  have HW7 : Hid (Sl w7 ro rn rc (dBy d)) := hidden (HW6.out.on (Nat.le_refl _) HBd.out)
  have HS67 : Hid (w6.heap.size ≤ w7.heap.size) := hidden HBd.out.size
  have HE3 := hidden (decU _ bn (bn + 9) X w7 (bk_lent HK7.out HXL.out HXW.out hr) (HT.out.on HB7.out h0) (Nat.lt_of_lt_of_le h0 HB7.out.size))
  clear ho7 hg7 hvl HBd HB6 HK6 HA6 HF6 HW6 HSL6 HN6
  go_wp2_with (first
    | (go_at_call 15; refine HE3.out.mono ?_; rintro e w8 ⟨co, cn, cc, rfl, HC8, HBe⟩; refine Hid.out ?_))
  apply hidden
  have HB8 := hidden (bl_go HB7.out (Nat.le_refl _) HBe.out)
  have HNac : Hid ((Value.slice eo en ec).ownBlock = none ∨ (Value.slice eo en ec).ownBlock ≠ (Value.slice co cn cc).ownBlock) := hidden (own_two HA7.out HC8.out (Nat.le_refl _))
  have HNbc : Hid ((Value.slice fo fn fc).ownBlock = none ∨ (Value.slice fo fn fc).ownBlock ≠ (Value.slice co cn cc).ownBlock) := hidden (own_two HF7.out HC8.out (Nat.le_refl _))
  have HV8 : Hid (Sl w8 vo bn vc X) := hidden ((HV7.out.sl2 HXW.out (by rw [HXL.out]; exact hr)).on (Nat.le_refl _) HBe.out)
  have HAS := hidden (AsLent_any g bn vo vc X w8 (HK7.out.on HBe.out) HV8.out)
  have HA8 : Hid (OwnB w8 w3.heap.size (.slice eo en ec) (dBy d)) := hidden (HA7.out.on (Nat.le_refl _) HBe.out)
  have HF8 : Hid (OwnB w8 w4.heap.size (.slice fo fn fc) (dBy d)) := hidden (HF7.out.on (Nat.le_refl _) HBe.out)
  have HW8 : Hid (Sl w8 ro rn rc (dBy d)) := hidden (HW7.out.on (Nat.le_refl _) HBe.out)
  have HS78 : Hid (w7.heap.size ≤ w8.heap.size) := hidden HBe.out.size
  clear HE3 HBe HB7 HK7 HA7 HF7 HW7 HV7
  go_wp2_with (first
    | (go_at_call 11; refine HAS.out.mono ?_; rintro e w9 ⟨rfl, hc9⟩; have HC9 := hidden hc9; clear hc9; refine Hid.out ?_))
  apply hidden
  have HB9 : Hid (Below w.heap.size w w9) := hidden (HB8.out.trans (HC9.out.below HB8.out.size (fun k hk e => by have := HG.out; omega)))
  have HSQ : Hid (w3.heap.size ≤ w7.heap.size) := hidden (Nat.le_trans HS34.out (Nat.le_trans HS45.out (Nat.le_trans HS56.out HS67.out)))
  have HA9 : Hid (OwnB w9 w3.heap.size (.slice eo en ec) (dBy d)) := hidden (HA8.out.cfg HC9.out HG3.out)
  have HF9 : Hid (OwnB w9 w3.heap.size (.slice fo fn fc) (dBy d)) := hidden ((HF8.out.cfg HC9.out (Nat.lt_of_lt_of_le HG3.out HS34.out)).low HS34.out)
  have HC9' : Hid (OwnB w9 w3.heap.size (.slice co cn cc) (dBy X)) := hidden ((HC8.out.cfg HC9.out (Nat.lt_of_lt_of_le HG3.out HSQ.out)).low HSQ.out)
  have HW9 : Hid (Sl w9 ro rn rc (dBy d)) := hidden (HW8.out.cf HC9.out HFW.out)
  have HV9 : Hid (Sl w9 vo bn vc X) := hidden (HV8.out.cf HC9.out HFV.out)
  have HS39 : Hid (w3.heap.size ≤ w9.heap.size) := hidden (Nat.le_trans HSQ.out (Nat.le_trans HS78.out HC9.out.size))
  have HR2 := hidden (refD vo bn vc X w9 HV9.out)
  clear HAS HC9 HA8 HF8 HC8 HW8 HV8 HB8 HFW HFV HSQ HS34 HS45 HS56 HS67 HS78 HG HG3
  go_wp2_with (first
    | (go_at_call 14; refine HR2.out.mono ?_; rintro e w10 ⟨qo, qn, qc, rfl, HQ, HBf⟩; refine Hid.out ?_))
  apply hidden
  have HBW := hidden (bl_go HB9.out (Nat.le_refl _) HBf.out)
  have HA : Hid (OwnB w10 w3.heap.size (.slice eo en ec) (dBy d)) := hidden (HA9.out.on (Nat.le_refl _) HBf.out)
  have HF : Hid (OwnB w10 w3.heap.size (.slice fo fn fc) (dBy d)) := hidden (HF9.out.on (Nat.le_refl _) HBf.out)
  have HC : Hid (OwnB w10 w3.heap.size (.slice co cn cc) (dBy X)) := hidden (HC9'.out.on (Nat.le_refl _) HBf.out)
  have HW : Hid (Sl w10 ro rn rc (dBy d)) := hidden (HW9.out.on (Nat.le_refl _) HBf.out)
  have HSZ : Hid (w3.heap.size ≤ w10.heap.size) := hidden (Nat.le_trans HS39.out HBf.out.size)
  clear HR2 HA9 HF9 HC9' HW9 HV9 HB9 HBf HS39
  have HLn : Hid ((dBy d).length ≤ 65536) := hidden dBy_len
  have HLt : Hid ((dBy X).length ≤ 65536) := hidden dBy_len
  have HWn : Hid (Wf (dBy d)) := hidden (dBy_wf HWD.out)
  have HWt : Hid (Wf (dBy X)) := hidden (dBy_wf HXW.out)
  have HSA : Hid (Sl w10 eo en ec (dBy d)) := hidden (HA.out.sl2 HWn.out (by have := HLn.out; omega))
  have k3 := conv_sl HSA.out
  have k4 := conv_sl (HF.out.sl2 HWn.out (by have := HLn.out; omega))
  have k5 := conv_sl (HC.out.sl2 HWt.out (by have := HLt.out; omega))
  have k6 := conv_sl HW.out
  have k7 := conv_sl HQ.out
  obtain ⟨sa, hsa⟩ : ∃ sa, strOfNums (dBy d) = sa := ⟨_, rfl⟩
  obtain ⟨sb, hsb⟩ : ∃ sb, strOfNums (dBy X) = sb := ⟨_, rfl⟩
  rw [hsa] at k3 k4 k6
  rw [hsb] at k5 k7
  clear hsa hsb
  obtain ⟨N2, hN2⟩ : ∃ N2, dNx X = N2 := ⟨_, rfl⟩
  obtain ⟨K2, hK2⟩ : ∃ K2, dKy X = K2 := ⟨_, rfl⟩
  rw [hN2, hK2]
  clear hN2 hK2
  have eA : (sa.toList == sa.toList) = true := by simp
  have eB : (sb.toList == sb.toList) = true := by simp
  have eK : (K2 == K2) = true := by simp
  have eN : (N2 == N2) = true := by simp
  obtain ⟨B, hB⟩ : ∃ B, w3.heap.size = B := ⟨_, rfl⟩
  rw [hB] at HA HF HC HSZ HWB
  clear hB
  by_cases hd : spIs d
  · obtain ⟨q1, q2, q3⟩ := d_yes hd
    have HPG : Hid (spE (rdN d 4 4) (dBy d) (bn : Int) = 0 ∧ pgL (rdN d 4 4) (dBy d) (bn : Int) = d) := hidden (by
      obtain ⟨_, _, h3, h4⟩ := hd
      rw [HL.out] at h3 h4
      rw [q2]
      refine ⟨h3, ?_⟩
      unfold pgL
      rw [if_pos h3, Int.toNat_natCast]
      exact h4)
    have HE4 := hidden (encU (rdN d 4 4) (bn : Int) eo en ec (dBy d) w10 HSA.out (HT.out.on HBW.out h0) (Nat.lt_of_lt_of_le h0 HBW.out.size))
    rw [HPG.out.1, HPG.out.2] at HE4
    rw [q1, q3]
    obtain ⟨N1, hN1⟩ : ∃ N1, rdN d 4 4 = N1 := ⟨_, rfl⟩
    rw [hN1] at HE4 ⊢
    have eM : (N1 == N1) = true := by simp
    clear q1 q2 q3 hd hN1 HPG HQ HW
    go_wp2_with (first
      | (go_at_call 10; refine HE4.out.mono ?_; rintro e w11 ⟨ho, hn, rfl, HH, HBg⟩; refine Hid.out ?_))
    apply hidden
    clear k3 k4 k5 k6 k7 HSA HE4
    have HBV := hidden (bl_go HBW.out (Nat.le_refl _) HBg.out)
    have k8 := conv_sl (HH.out.sl2 HWD.out (by rw [HL.out]; exact hr))
    have k9 := conv_sl (HS.out.on (Nat.le_refl _) HBV.out)
    obtain ⟨sd, hsd⟩ : ∃ sd, strOfNums d = sd := ⟨_, rfl⟩
    rw [hsd] at k8 k9
    have eS : (sd.toList == sd.toList) = true := by simp
    have HA1 : Hid (OwnB w11 B (.slice eo en ec) (dBy d)) := hidden (HA.out.on (Nat.le_refl _) HBg.out)
    have HF1 : Hid (OwnB w11 B (.slice fo fn fc) (dBy d)) := hidden (HF.out.on (Nat.le_refl _) HBg.out)
    have HC1 : Hid (OwnB w11 B (.slice co cn cc) (dBy X)) := hidden (HC.out.on (Nat.le_refl _) HBg.out)
    have HSZ1 : Hid (B ≤ w11.heap.size) := hidden (Nat.le_trans HSZ.out HBg.out.size)
    clear HA HF HC HSZ HBW HBg hsd HH
    have HA := HA1
    have HF := HF1
    have HC := HC1
    have HSZ := HSZ1
    have HBW := HBV
    clear HA1 HF1 HC1 HSZ1 HBV
    go_wp2_with (first
      | (go_at_call 12; refine Hid.out ?_))
    apply hidden
    clear k8 k9 eA eB eK eN eM eS
    obtain ⟨bk, hbk⟩ : ∃ bk, w11.heap.size = bk := ⟨_, rfl⟩
    obtain ⟨x, hx⟩ : ∃ x, w11.alloc (.cells #[.slice none 0 0] 32) = x := ⟨_, rfl⟩
    have hbx : Below w11.heap.size w11 x := by rw [← hx]; exact bl_al (Below.refl _ _) (Nat.le_refl _) _
    have HX0 : Hid (Bo9 x B bk (.slice none 0 0) [] (fun _ => [])) := hidden (box9 (by rw [← hx, ← hbk]; exact Array.getElem?_push_size))
    have HBX := hidden (bl_go HBW.out (Nat.le_refl _) hbx)
    have HAx : Hid (OwnB x B (.slice eo en ec) (dBy d)) := hidden (HA.out.on (Nat.le_refl _) hbx)
    have HFx : Hid (OwnB x B (.slice fo fn fc) (dBy d)) := hidden (HF.out.on (Nat.le_refl _) hbx)
    have HCx : Hid (OwnB x B (.slice co cn cc) (dBy X)) := hidden (HC.out.on (Nat.le_refl _) hbx)
    have HSx : Hid (B ≤ x.heap.size) := hidden (Nat.le_trans HSZ.out hbx.size)
    have HBk : Hid (B ≤ bk) := hidden (by rw [← hbk]; exact HSZ.out)
    rw [hx, hbk]
    clear hx hbk hbx HA HF HC HSZ HBW
    have HT1 := hidden (take9B x B bk _ _ _ eo en ec _ HX0.out (by simp) HSx.out HBk.out HAx.out HWn.out HLn.out (fun t u ht => by simp at ht))
    refine HT1.out.mono ?_
    rintro e x1 ⟨rfl, v1, D1', HX1, HY1, HO1⟩
    clear HT1 HX0
    have HB1 : Hid (Below w.heap.size w x1) := hidden (HBX.out.trans (HY1.out.below HBX.out.size (fun k hk e => by have := HWB.out; omega)))
    have HS1 : Hid (B ≤ x1.heap.size) := hidden (Nat.le_trans HSx.out HY1.out.size)
    have HT2 := hidden (take9B x1 B bk _ _ _ fo fn fc _ HX1.out (by simp) HS1.out HBk.out (HO1.out _ _ _ HFx.out) HWn.out HLn.out (fun t u ht => by
      have ht0 : t = 0 := by have := (List.getElem?_eq_some_iff.1 ht).1; simpa using this
      subst ht0
      simp at ht
      subst ht
      exact HNab.out))
    have HCx1 : Hid (OwnB x1 B (.slice co cn cc) (dBy X)) := hidden (HO1.out _ _ _ HCx.out)
    clear HY1 HO1 HX1 HBX HAx HFx HCx HSx
    go_wp2_with (first
      | (go_at_call 12; refine HT2.out.mono ?_; rintro e x2 ⟨rfl, v2, D2', HX2, HY2, HO2⟩; refine Hid.out ?_))
    apply hidden
    have HB2 : Hid (Below w.heap.size w x2) := hidden (HB1.out.trans (HY2.out.below HB1.out.size (fun k hk e => by have := HWB.out; omega)))
    have HS2 : Hid (B ≤ x2.heap.size) := hidden (Nat.le_trans HS1.out HY2.out.size)
    have HT3 := hidden (take9B x2 B bk _ _ _ co cn cc _ HX2.out (by simp) HS2.out HBk.out (HO2.out _ _ _ HCx1.out) HWt.out HLt.out (fun t u ht => by
      have ht2 : t < 2 := by have := (List.getElem?_eq_some_iff.1 ht).1; simpa using this
      have : t = 0 ∨ t = 1 := by omega
      rcases this with rfl | rfl
      · simp at ht
        subst ht
        exact HNac.out
      · simp at ht
        subst ht
        exact HNbc.out))
    clear HY2 HO2 HX2 HB1 HS1 HCx1 HT2
    go_wp2_with (first
      | (go_at_call 12; refine HT3.out.mono ?_; rintro e x3 ⟨rfl, v3, D3', HX3, HY3, HO3⟩; refine Hid.out ?_))
    apply hidden
    have HB3 : Hid (Below w.heap.size w x3) := hidden (HB2.out.trans (HY3.out.below HB2.out.size (fun k hk e => by have := HWB.out; omega)))
    have HS3 : Hid (B ≤ x3.heap.size) := hidden (Nat.le_trans HS2.out HY3.out.size)
    have HOW := hidden (owned9 x3 B bk 3 _ _ _ HX3.out (by simp) (by omega) HS3.out)
    clear HY3 HO3 HX3 HB2 HS2 HT3
    go_wp2_with (first
      | (go_at_call 13; refine HOW.out.mono ?_; rintro e x4 ⟨rfl, HY4⟩))
    go_ret
    exact ⟨rfl, HB3.out.trans (HY4.out.below HB3.out.size (fun k hk e => by have := HWB.out; omega))⟩
  · obtain ⟨q1, q2, q3⟩ := d_no hd
    rw [q1, q3]
    clear q1 q2 q3 hd HQ HW HSA
    go_wp2_with (first
      | (go_at_call 12; refine Hid.out ?_))
    apply hidden
    clear k3 k4 k5 k6 k7 eA eB eK eN
    obtain ⟨bk, hbk⟩ : ∃ bk, w10.heap.size = bk := ⟨_, rfl⟩
    obtain ⟨x, hx⟩ : ∃ x, w10.alloc (.cells #[.slice none 0 0] 32) = x := ⟨_, rfl⟩
    have hbx : Below w10.heap.size w10 x := by rw [← hx]; exact bl_al (Below.refl _ _) (Nat.le_refl _) _
    have HX0 : Hid (Bo9 x B bk (.slice none 0 0) [] (fun _ => [])) := hidden (box9 (by rw [← hx, ← hbk]; exact Array.getElem?_push_size))
    have HBX := hidden (bl_go HBW.out (Nat.le_refl _) hbx)
    have HAx : Hid (OwnB x B (.slice eo en ec) (dBy d)) := hidden (HA.out.on (Nat.le_refl _) hbx)
    have HFx : Hid (OwnB x B (.slice fo fn fc) (dBy d)) := hidden (HF.out.on (Nat.le_refl _) hbx)
    have HCx : Hid (OwnB x B (.slice co cn cc) (dBy X)) := hidden (HC.out.on (Nat.le_refl _) hbx)
    have HSx : Hid (B ≤ x.heap.size) := hidden (Nat.le_trans HSZ.out hbx.size)
    have HBk : Hid (B ≤ bk) := hidden (by rw [← hbk]; exact HSZ.out)
    rw [hx, hbk]
    clear hx hbk hbx HA HF HC HSZ HBW
    have HT1 := hidden (take9B x B bk _ _ _ eo en ec _ HX0.out (by simp) HSx.out HBk.out HAx.out HWn.out HLn.out (fun t u ht => by simp at ht))
    refine HT1.out.mono ?_
    rintro e x1 ⟨rfl, v1, D1', HX1, HY1, HO1⟩
    clear HT1 HX0
    have HB1 : Hid (Below w.heap.size w x1) := hidden (HBX.out.trans (HY1.out.below HBX.out.size (fun k hk e => by have := HWB.out; omega)))
    have HS1 : Hid (B ≤ x1.heap.size) := hidden (Nat.le_trans HSx.out HY1.out.size)
    have HT2 := hidden (take9B x1 B bk _ _ _ fo fn fc _ HX1.out (by simp) HS1.out HBk.out (HO1.out _ _ _ HFx.out) HWn.out HLn.out (fun t u ht => by
      have ht0 : t = 0 := by have := (List.getElem?_eq_some_iff.1 ht).1; simpa using this
      subst ht0
      simp at ht
      subst ht
      exact HNab.out))
    have HCx1 : Hid (OwnB x1 B (.slice co cn cc) (dBy X)) := hidden (HO1.out _ _ _ HCx.out)
    clear HY1 HO1 HX1 HBX HAx HFx HCx HSx
    go_wp2_with (first
      | (go_at_call 12; refine HT2.out.mono ?_; rintro e x2 ⟨rfl, v2, D2', HX2, HY2, HO2⟩; refine Hid.out ?_))
    apply hidden
    have HB2 : Hid (Below w.heap.size w x2) := hidden (HB1.out.trans (HY2.out.below HB1.out.size (fun k hk e => by have := HWB.out; omega)))
    have HS2 : Hid (B ≤ x2.heap.size) := hidden (Nat.le_trans HS1.out HY2.out.size)
    have HT3 := hidden (take9B x2 B bk _ _ _ co cn cc _ HX2.out (by simp) HS2.out HBk.out (HO2.out _ _ _ HCx1.out) HWt.out HLt.out (fun t u ht => by
      have ht2 : t < 2 := by have := (List.getElem?_eq_some_iff.1 ht).1; simpa using this
      have : t = 0 ∨ t = 1 := by omega
      rcases this with rfl | rfl
      · simp at ht
        subst ht
        exact HNac.out
      · simp at ht
        subst ht
        exact HNbc.out))
    clear HY2 HO2 HX2 HB1 HS1 HCx1 HT2
    go_wp2_with (first
      | (go_at_call 12; refine HT3.out.mono ?_; rintro e x3 ⟨rfl, v3, D3', HX3, HY3, HO3⟩; refine Hid.out ?_))
    apply hidden
    have HB3 : Hid (Below w.heap.size w x3) := hidden (HB2.out.trans (HY3.out.below HB2.out.size (fun k hk e => by have := HWB.out; omega)))
    have HS3 : Hid (B ≤ x3.heap.size) := hidden (Nat.le_trans HS2.out HY3.out.size)
    have HOW := hidden (owned9 x3 B bk 3 _ _ _ HX3.out (by simp) (by omega) HS3.out)
    clear HY3 HO3 HX3 HB2 HS2 HT3
    go_wp2_with (first
      | (go_at_call 13; refine HOW.out.mono ?_; rintro e x4 ⟨rfl, HY4⟩))
    go_ret
    exact ⟨rfl, HB3.out.trans (HY4.out.below HB3.out.size (fun k hk e => by have := HWB.out; omega))⟩
end Go.Proofs.YtllcbilhpijjhaaDoor
