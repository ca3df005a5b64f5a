/- The walk of the law PackedEncodes. -/
import Derived.Test.YtpjgmepafekhkaaGreatDoorKj
import Derived.Test.YtpjgmepafekhkaaGreatDoorJz
import Derived.Test.YtpjgmepafekhkaaGreatDoorJc
import Derived.Test.YtpjgmepafekhkaaGreatDoorIy
namespace Go.Proofs.YtpjgmepafekhkaaGreatDoor
open Go.RowKit

/-- The page, or none. -/
def enX (k n : Int) (cs : List Cl) : List Int := if encQ k n cs = 0 then pkB k n.toNat cs else []
set_option maxRecDepth 100000 in
theorem Fo.of {F : Nat → Prop} {w : World} {x : Value} (h : ∀ z, x.ownBlock = some z → F z) : Fo F w x := fun z hz => .inl (h z hz)
set_option maxRecDepth 100000 in
theorem enX_size {k n : Int} {cs : List Cl} (h : encQ k n cs = 0) : isKd k ∧ pw n ∧ ((szQ k (shP k cs).length cs : Nat) : Int) ≤ n ∧ chk k n none cs = 0 := by
  unfold encQ at h
  by_cases h1 : isKd k ∧ pw n
  · rw [if_pos h1] at h
    by_cases h2 : chk k n none cs = 0
    · rw [if_pos h2] at h
      by_cases h3 : n < szQ k (shP k cs).length cs
      · rw [if_pos h3] at h; cases h
      · exact ⟨h1.1, h1.2, by omega, h2⟩
    · rw [if_neg h2] at h; exact absurd h h2
  · rw [if_neg h1] at h; cases h
set_option maxRecDepth 100000 in
theorem enX_len {k n : Int} {cs : List Cl} : (enX k n cs).length ≤ 65536 := by
  unfold enX
  split
  · rename_i h
    obtain ⟨_, h2, h3, _⟩ := enX_size h
    have := pw_le h2
    unfold pkB
    rw [sealB_length]
    unfold pkH
    rw [pkL_length _ _ _ _ (by omega)]
    omega
  · simp
set_option maxRecDepth 100000 in
theorem enX_wf {k n : Int} {cs : List Cl} (hw : ∀ c ∈ cs, c.Wf) (hk : ∀ c ∈ cs, c.key.length + c.val.length ≤ 35184372088832) : Wf (enX k n cs) := by
  unfold enX
  split
  · rename_i h
    obtain ⟨h1, _⟩ := enX_size h
    unfold pkB pkH pkL
    refine sealB_wf (Wf.append ?_ ((fB_wf _ _).append ((fB_wf _ _).append ((shP_wf hw).append ((sloB_wf _).append ((qbd_wf7 _ _ _ hw hk).append (zs_wf _)))))))
    intro x hx
    simp only [List.mem_cons, List.not_mem_nil, or_false] at hx
    unfold isKd at h1
    omega
  · exact Wf.nil
set_option maxRecDepth 100000 in
theorem encU7 (k n : Int) (co : Option Addr) (cn cc : Nat) (cs : List Cl) (w : World) (hs : SlC w co cn cc cs) (hz : szQ k (shP k cs).length cs ≤ 1099511627776) (ht : Tab w) (h0 : 1 < w.heap.size) :
    Calls Tryz.prog 8 #[.int .i64 k, .slice co cn cc, .int .i64 n] w fun e w' => ∃ ao m cap, e = .returned (.tuple #[.slice ao m cap, .int .i64 (encQ k n cs)]) ∧ Hid (OwnB w' w.heap.size (.slice ao m cap) (enX k n cs)) ∧ Hid (Below w.heap.size w w') := by
  refine (encodeQ_any k n co cn cc cs w hs hz ht h0).mono ?_
  rintro e w' ⟨ao, m, cap, c, rfl, hb, hq⟩
  obtain ⟨rfl, h⟩ := hq.out
  refine ⟨ao, m, cap, rfl, hidden ?_, hb⟩
  unfold enX
  rcases h with ⟨h1, rfl, rfl, rfl⟩ | ⟨h1, h2⟩
  · rw [if_neg h1]
    exact OwnB.nil _ _
  · rw [if_pos h1]
    obtain ⟨g, rfl, rfl, rfl, hg, hbk⟩ := h2
    obtain ⟨_, h4, h5, _⟩ := enX_size h1
    have hp := pw_le h4
    have hl : (pkB k n.toNat cs).length = n.toNat := by
      unfold pkB
      rw [sealB_length]
      unfold pkH
      rw [pkL_length _ _ _ _ (by omega)]
      omega
    have := own_of_heap (l := pkB k n.toNat cs) hbk hg (by rw [hl]; unfold maxLen; omega)
    rw [hl] at this
    exact this
set_option maxRecDepth 100000 in
theorem rencU7 (k n : Int) (co : Option Addr) (cn cc : Nat) (cs : List Cl) (w : World) (hs : SlC w co cn cc cs) (hcn : cn ≤ 900000) (hkv : ∀ c ∈ cs, c.key.length + c.val.length ≤ 35184372088832) (hz : szQ k (shP k cs).length cs ≤ 1099511627776) :
    Calls Tryz.prog 9 #[.int .i64 k, .slice co cn cc, .int .i64 n] w fun e w' => ∃ ao m cap, e = .returned (.tuple #[.slice ao m cap, .int .i64 (encQ k n cs)]) ∧ Hid (OwnB w' w.heap.size (.slice ao m cap) (enX k n cs)) ∧ Hid (Below w.heap.size w w') := by
  by_cases he : encQ k n cs = 0
  · obtain ⟨h1, h2, h3, _⟩ := enX_size he
    have := pw_le h2
    obtain ⟨N, rfl⟩ := Int.eq_ofNat_of_zero_le (show 0 ≤ n by omega)
    refine (rencode_yes k N co cn cc cs w hs hcn hkv hz he).mono ?_
    rintro e w' ⟨v, rfl, ho, hb⟩
    obtain ⟨ao, c, rfl⟩ := own_slice ho.out
    refine ⟨ao, _, c, by rw [he], hidden ?_, hb⟩
    unfold enX
    rw [if_pos he, Int.toNat_natCast]
    exact ho.out
  · refine (rencode_no k n co cn cc cs w hs hcn hkv hz he).mono ?_
    rintro e w' ⟨v, c, rfl, hb, hq⟩
    obtain ⟨rfl, h⟩ := hq.out
    rcases h with ⟨_, rfl⟩ | ⟨h1, _⟩
    · refine ⟨none, 0, 0, rfl, hidden ?_, hb⟩
      unfold enX
      rw [if_neg he]
      exact OwnB.nil _ _
    · exact absurd h1 he
set_option maxRecDepth 100000 in
set_option maxHeartbeats 16000000 in
theorem walk_PackedEncodes (kd : Int) (co : Option Addr) (cn cc : Nat) (cs : List Cl) (p : Int) (w : World) (ht : Tab w) (h0 : 1 < w.heap.size) (hs : SlC w co cn cc cs) :
    Calls Tryz.prog 3 #[.int .i64 kd, .slice co cn cc, .int .i64 p] w fun e w' => e = .returned (.bool true) ∧ Below w.heap.size w w' := by
  have HS := hidden hs
  have HT := hidden ht
  have HLEN := hidden hs.hlen
  have HWF := hidden hs.wf
  have HG := hidden (greatQ_any co cn cc cs w hs)
  clear hs ht
  go_enter Tryz.func3, Tryz.ntmps3
  go_wp2_with (first | (go_at_call 5; refine HG.out.mono ?_; rintro e w1 ⟨b, rfl, HB1, HGQ⟩; refine Hid.out ?_))
  apply hidden
  clear HG
  cases b with
  | true =>
    go_wp2
    go_ret
    exact ⟨rfl, HB1.out⟩
  | false =>
    obtain ⟨hcn, hgs⟩ := HGQ.out rfl
    have HKV : Hid (∀ c ∈ cs, c.key.length + c.val.length ≤ 35184372088832) := hidden fun c hc => by have := gS_mem hc; omega
    have hzb : szQ kd (shP kd cs).length cs ≤ 1099511627776 := by have := szQ_gS kd cs; omega
    have HZB := hidden hzb
    have hcI : (cn : Int) ≤ 300000 := by omega
    have hc9 : cn ≤ 900000 := by omega
    have HXL : Hid ((enX kd p cs).length ≤ 65536) := hidden enX_len
    have HXW : Hid (Wf (enX kd p cs)) := hidden (enX_wf HWF.out HKV.out)
    have HENC : Hid (∀ (u : World) (bo : Option Addr) (d : Nat), SlC u bo cn d cs → Tab u → 1 < u.heap.size → Calls Tryz.prog 8 #[.int .i64 kd, .slice bo cn d, .int .i64 p] u fun e w' => ∃ eo en ec, e = .returned (.tuple #[.slice eo en ec, .int .i64 (encQ kd p cs)]) ∧ Hid (OwnB w' u.heap.size (.slice eo en ec) (enX kd p cs)) ∧ Hid (Below u.heap.size u w')) := hidden (fun u bo d h1 h2 h3 => encU7 kd p bo cn d cs u h1 HZB.out h2 h3)
    have HREN : Hid (∀ (u : World), SlC u co cn cc cs → Calls Tryz.prog 9 #[.int .i64 kd, .slice co cn cc, .int .i64 p] u fun e w' => ∃ eo en ec, e = .returned (.tuple #[.slice eo en ec, .int .i64 (encQ kd p cs)]) ∧ Hid (OwnB w' u.heap.size (.slice eo en ec) (enX kd p cs)) ∧ Hid (Below u.heap.size u w')) := hidden (fun u h1 => rencU7 kd p co cn cc cs u h1 hc9 HKV.out HZB.out)
    generalize enX kd p cs = X at *
    generalize encQ kd p cs = E at *
    have HAW := hidden (live_any w1 (HT.out.on HB1.out h0) (Nat.lt_of_lt_of_le h0 HB1.out.size))
    clear HGQ hgs hzb hcn
    go_wp2_with (first | (go_at_call 6; refine HAW.out.mono ?_; rintro e w2 ⟨rfl, hba⟩; have HBa := hidden hba; clear hba; refine Hid.out ?_))
    apply hidden
    have HB2 := hidden (bl_go HB1.out (Nat.le_refl _) HBa.out)
    have HLN := hidden (lentC_any co cn cc cs w2 (HS.out.on HB2.out) hc9)
    obtain ⟨R, hR⟩ : ∃ R, w2.heap.size = R := ⟨_, rfl⟩
    rw [hR] at HLN
    clear HAW HB1 HBa
    go_wp2_with (first | (go_at_call 7; refine HLN.out.mono ?_; rintro e w3 ⟨rfl, HL3, HBb⟩; refine Hid.out ?_))
    apply hidden
    rw [← hR] at HBb
    have HRW : Hid (w.heap.size ≤ R) := hidden (by rw [← hR]; exact HB2.out.size)
    have HB3 := hidden (bl_go HB2.out (Nat.le_refl _) HBb.out)
    have HLL3 : Hid (LentL w3 R cs cn w3.heap.size) := hidden HL3.out.toL
    have HSL : Hid (∀ u L, LentL u R cs cn L → SlC u (some ⟨R, 0, none⟩) cn (cn + 2) cs) := hidden (fun u L h => h.toC.slc HLEN.out hc9 HWF.out HKV.out)
    have HE1 := hidden (HENC.out w3 _ (cn + 2) (HSL.out _ _ HLL3.out) (HT.out.on HB3.out h0) (Nat.lt_of_lt_of_le h0 HB3.out.size))
    clear HLN HB2 HBb hR HL3
    go_wp2_with (first | (go_at_call 8; refine HE1.out.mono ?_; rintro e w4 ⟨eo, en, ec, rfl, HA4, HBb⟩; refine Hid.out ?_))
    apply hidden
    have HB4 := hidden (bl_go HB3.out (Nat.le_refl _) HBb.out)
    have HLL4 : Hid (LentL w4 R cs cn w3.heap.size) := hidden (HLL3.out.on HBb.out)
    have HR1 := hidden (HREN.out w4 (HS.out.on HB4.out))
    clear HE1
    go_wp2_with (first | (go_at_call 9; refine HR1.out.mono ?_; rintro e w5 ⟨ro, rn, rc, rfl, HC5, HBc⟩; refine Hid.out ?_))
    apply hidden
    have HB5 := hidden (bl_go HB4.out (Nat.le_refl _) HBc.out)
    have HLL5 : Hid (LentL w5 R cs cn w3.heap.size) := hidden (HLL4.out.on HBc.out)
    have HA5 : Hid (OwnB w5 w3.heap.size (.slice eo en ec) X) := hidden (HA4.out.on (Nat.le_refl _) HBc.out)
    have HAz : Hid (∀ z, (Value.slice eo en ec).ownBlock = some z → w3.heap.size ≤ z ∧ z < w4.heap.size) := hidden (fun z hz => own_in HA4.out hz)
    have HE2 := hidden (HENC.out w5 _ (cn + 2) (HSL.out _ _ HLL5.out) (HT.out.on HB5.out h0) (Nat.lt_of_lt_of_le h0 HB5.out.size))
    clear HR1 HLL3 HLL4 HB3 HA4
    go_wp2_with (first | (go_at_call 8; refine HE2.out.mono ?_; rintro e w6 ⟨fo, fn, fc, rfl, HF6, HBd⟩; refine Hid.out ?_))
    apply hidden
    have HB6 := hidden (bl_go HB5.out (Nat.le_refl _) HBd.out)
    have HLL6 : Hid (LentL w6 R cs cn w3.heap.size) := hidden (HLL5.out.on HBd.out)
    have HA6 : Hid (OwnB w6 w3.heap.size (.slice eo en ec) X) := hidden (HA5.out.on (Nat.le_refl _) HBd.out)
    have HC6 : Hid (OwnB w6 w4.heap.size (.slice ro rn rc) X) := hidden (HC5.out.on (Nat.le_refl _) HBd.out)
    have HCz : Hid (∀ z, (Value.slice ro rn rc).ownBlock = some z → w4.heap.size ≤ z ∧ z < w5.heap.size) := hidden (fun z hz => own_in HC5.out hz)
    have HFz : Hid (∀ z, (Value.slice fo fn fc).ownBlock = some z → w5.heap.size ≤ z) := hidden (fun z hz => (own_in HF6.out hz).1)
    have HS35 : Hid (w3.heap.size ≤ w4.heap.size ∧ w4.heap.size ≤ w5.heap.size ∧ w5.heap.size ≤ w6.heap.size) := hidden ⟨HBb.out.size, HBc.out.size, HBd.out.size⟩
    have hX6 : X.length ≤ 140737488355328 := by have := HXL.out; omega
    have HM1 := hidden (same_any _ _ _ _ _ _ _ _ w6 (HA6.out.sl2 HXW.out hX6) (HC6.out.sl2 HXW.out hX6))
    have HM2 := hidden (same_any _ _ _ _ _ _ _ _ w6 (HF6.out.sl2 HXW.out hX6) (HC6.out.sl2 HXW.out hX6))
    rw [show decide (X = X) = true from by simp] at HM1 HM2
    have HAS := hidden (asLentL_any w3.heap.size R cn co cc cs w6 HLL6.out (fun u hu => HS.out.on (HB6.out.trans (hu.mono HRW.out))) hc9 HKV.out)
    clear HE2 HLL5 HA5 HC5 HB4 HB5 HBb HBc HBd
    go_wp2_with (first | (go_at_call 10; refine same_call HM1.out ?_; refine Hid.out ?_))
    apply hidden
    go_wp2_with (first
      | (go_at_call 10; refine same_call HM2.out ?_)
      | (go_at_call 11; refine HAS.out.mono ?_; rintro e w7 ⟨rfl, HBe, HC7⟩; refine Hid.out ?_))
    apply hidden
    have HB7 : Hid (Below w.heap.size w w7) := hidden (HB6.out.trans (HBe.out.mono HRW.out))
    have HA7 : Hid (OwnB w7 w3.heap.size (.slice eo en ec) X) := hidden (HA6.out.cfX HC7.out (fun k hk e => by have := own_in HA6.out hk; have := e.2; omega))
    have HF7 : Hid (OwnB w7 w3.heap.size (.slice fo fn fc) X) := hidden ((HF6.out.cfX HC7.out (fun k hk e => by have := own_in HF6.out hk; have := HS35.out; have := e.2; omega)).low (by have := HS35.out; omega))
    have HCC7 : Hid (OwnB w7 w4.heap.size (.slice ro rn rc) X) := hidden (HC6.out.cfX HC7.out (fun k hk e => by have := own_in HC6.out hk; have := HS35.out; have := e.2; omega))
    have HS67 : Hid (w6.heap.size ≤ w7.heap.size) := hidden HC7.out.size
    have HR3 : Hid (R ≤ w3.heap.size) := hidden (by obtain ⟨g, _, _, _, _, _, h⟩ := HLL6.out; omega)
    clear HAS HM1 HM2 HLL6 HA6 HF6 HC6 HC7 HBe HB6
    obtain ⟨B, hB⟩ : ∃ B, w3.heap.size = B := ⟨_, rfl⟩
    rw [hB] at HA7 HF7 HAz HR3
    have HBS : Hid (B ≤ w4.heap.size) := hidden (by rw [← hB]; exact HS35.out.1)
    have HWB : Hid (w.heap.size ≤ B) := hidden (Nat.le_trans HRW.out HR3.out)
    clear hB
    go_wp2_with (go_at_call 12; refine Hid.out ?_)
    apply hidden
    obtain ⟨bk, hbk⟩ : ∃ bk, w7.heap.size = bk := ⟨_, rfl⟩
    obtain ⟨x, hx⟩ : ∃ x, w7.alloc (.cells #[.slice none 0 0] 35) = x := ⟨_, rfl⟩
    have hbx : Below w7.heap.size w7 x := by rw [← hx]; exact bl_al (Below.refl _ _) (Nat.le_refl _) _
    have HX0 : Hid (Bo9 x B bk (.slice none 0 0) [] (fun _ => [])) := hidden (box9 (by rw [← hx, ← hbk]; exact Array.getElem?_push_size))
    have HBX := hidden (bl_go HB7.out (Nat.le_refl _) hbx)
    have HAx : Hid (OwnB x B (.slice eo en ec) X) := hidden (HA7.out.on (Nat.le_refl _) hbx)
    have HFx : Hid (OwnB x B (.slice fo fn fc) X) := hidden (HF7.out.on (Nat.le_refl _) hbx)
    have HCx : Hid (OwnB x w4.heap.size (.slice ro rn rc) X) := hidden (HCC7.out.on (Nat.le_refl _) hbx)
    have HSx : Hid (B ≤ x.heap.size) := hidden (by have := HS35.out; have := HBS.out; have := HS67.out; have := hbx.size; omega)
    have HBk : Hid (B ≤ bk) := hidden (by rw [← hbk]; have := HS35.out; have := HBS.out; have := HS67.out; omega)
    rw [hx, hbk]
    clear hx hbk hbx HA7 HF7 HCC7 HB7
    have HNab : Hid ((Value.slice eo en ec).ownBlock = none ∨ (Value.slice eo en ec).ownBlock ≠ (Value.slice fo fn fc).ownBlock) := hidden (by
      cases hv : (Value.slice eo en ec).ownBlock with
      | none => exact .inl rfl
      | some z =>
        right
        intro e
        have h1 := (HAz.out z hv).2
        have h2 := HFz.out z e.symm
        have := HS35.out
        omega)
    have HT1 := hidden (take9B x B bk _ _ _ eo en ec _ HX0.out (by simp) HSx.out HBk.out HAx.out HXW.out HXL.out (fun t u ht => by simp at ht))
    refine HT1.out.mono ?_
    rintro e x1 ⟨rfl, v1, D1', HX1, HY1, HO1⟩
    clear HT1 HX0
    have HB1 : Hid (Below w.heap.size w x1) := hidden (HBX.out.trans (HY1.out.below HBX.out.size (fun k hk e => by have := HWB.out; omega)))
    have HS1 : Hid (B ≤ x1.heap.size) := hidden (Nat.le_trans HSx.out HY1.out.size)
    have HT2 := hidden (take9B x1 B bk _ _ _ fo fn fc _ HX1.out (by simp) HS1.out HBk.out (HO1.out _ _ _ HFx.out) HXW.out HXL.out (fun t u ht => by
      have ht0 : t = 0 := by have := (List.getElem?_eq_some_iff.1 ht).1; simpa using this
      subst ht0
      simp at ht
      subst ht
      exact HNab.out))
    have HCx1 : Hid (OwnB x1 w4.heap.size (.slice ro rn rc) X) := hidden (HO1.out _ _ _ HCx.out)
    clear HY1 HO1 HX1 HBX HAx HFx HCx HSx
    go_wp2_with (go_at_call 12; refine HT2.out.mono ?_; rintro e x2 ⟨rfl, v2, D2', HX2, HY2, HO2⟩; refine Hid.out ?_)
    apply hidden
    have HB2 : Hid (Below w.heap.size w x2) := hidden (HB1.out.trans (HY2.out.below HB1.out.size (fun k hk e => by have := HWB.out; omega)))
    have HS2 : Hid (B ≤ x2.heap.size) := hidden (Nat.le_trans HS1.out HY2.out.size)
    have HCx2 : Hid (OwnB x2 w4.heap.size (.slice ro rn rc) X) := hidden (HO2.out _ _ _ HCx1.out)
    have HOW := hidden (owned9F (fun z => (B ≤ z ∧ z < w4.heap.size) ∨ w5.heap.size ≤ z) x2 B bk 2 _ _ _ HX2.out (fun t u ht => by
      have ht2 : t < 2 := by have := (List.getElem?_eq_some_iff.1 ht).1; simpa using this
      have : t = 0 ∨ t = 1 := by omega
      rcases this with rfl | rfl
      · simp at ht
        subst ht
        exact Fo.of (fun z hz => .inl (HAz.out z hz))
      · simp at ht
        subst ht
        exact Fo.of (fun z hz => .inr (HFz.out z hz))) (by simp) (by omega) HS2.out)
    clear HY2 HO2 HX2 HB1 HS1 HCx1 HT2
    go_wp2_with (go_at_call 13; refine HOW.out.mono ?_; rintro e x3 ⟨rfl, HY3⟩; refine Hid.out ?_)
    apply hidden
    have HB3 : Hid (Below w.heap.size w x3) := hidden (HB2.out.trans (HY3.out.below HB2.out.size (fun k hk e => by
      have := HWB.out
      have := HBS.out
      have := HS35.out
      rcases e with e | e <;> omega)))
    have HCx3 : Hid (OwnB x3 w4.heap.size (.slice ro rn rc) X) := hidden (HCx2.out.cfX HY3.out (fun k hk e => by have := HCz.out k hk; rcases e with e | e <;> omega))
    have HE3 := hidden (HENC.out x3 _ cc (HS.out.on HB3.out) (HT.out.on HB3.out h0) (Nat.lt_of_lt_of_le h0 HB3.out.size))
    clear HOW HY3 HCx2 HB2 HS2
    go_wp2_with (first | (go_at_call 8; refine HE3.out.mono ?_; rintro e x4 ⟨lo, ln, lc, rfl, HL4, HBe⟩; refine Hid.out ?_))
    apply hidden
    have HB4 : Hid (Below w.heap.size w x4) := hidden (bl_go HB3.out (Nat.le_refl _) HBe.out)
    have HCx4 : Hid (OwnB x4 w4.heap.size (.slice ro rn rc) X) := hidden (HCx3.out.on (Nat.le_refl _) HBe.out)
    have HM3 := hidden (same_any _ _ _ _ _ _ _ _ x4 (HL4.out.sl2 HXW.out hX6) (HCx4.out.sl2 HXW.out hX6))
    rw [show decide (X = X) = true from by simp] at HM3
    have eE : (E == E) = true := by simp
    clear HE3 HL4 HCx3 HBe HB3
    go_wp2_with (first | (go_at_call 10; refine same_call HM3.out ?_))
    go_ret
    exact ⟨rfl, HB4.out⟩
end Go.Proofs.YtpjgmepafekhkaaGreatDoor
