/- The walk of the law FreeEncodes. -/
import Derived.Test.YtehcemefhgebpaaDoorWj
import Derived.Test.YtehcemefhgebpaaDoorJw
import Derived.Test.YtehcemefhgebpaaDoorJx
namespace Go.Proofs.YtehcemefhgebpaaDoor
open Go.RowKit

set_option maxRecDepth 100000 in
theorem Fo.of {F : Nat → Prop} {w : World} {x : Value} (h : ∀ z, x.ownBlock = some z → F z) : Fo F w x := fun z hz => .inl (h z hz)
set_option maxRecDepth 100000 in
set_option maxHeartbeats 16000000 in
theorem walk_FreeEncodes (n : Int) (ao : Option Addr) (c cap : Nat) (l : List Int) (p : Int) (w : World) (ht : Tab w) (hz : Tz w) (h0 : 0 < w.heap.size) (hs : SlZ w ao c cap l) (h8 : c ≤ 17592186044416) :
    Calls Tryd.prog 5 #[.int .i64 n, .slice ao c cap, .int .i64 p] w fun e u => e = .returned (.bool true) ∧ Below w.heap.size w u := by
  have HLV := hidden (live_any w ht hz h0)
  have HS := hidden hs
  have HLE := hidden hs.hlen
  have hbig := hs.hbig
  have HWF := hidden hs.wf
  have HT := hidden ht
  clear hs ht hz
  obtain ⟨X, hX⟩ : ∃ X, frL n l p = X := ⟨_, rfl⟩
  obtain ⟨E, hE⟩ : ∃ E, frE n l p = E := ⟨_, rfl⟩
  have HXE := hidden hX
  have HEE := hidden hE
  have HXW : Hid (Wf X) := hidden (by rw [← hX]; exact frL_wf n l p)
  have HXL : Hid (X.length ≤ 65536) := hidden (by rw [← hX]; exact frL_len n l p)
  have HENC : Hid (∀ (u : World) (bo : Option Addr) (d : Nat), SlZ u bo c d l → Tab u → 0 < u.heap.size → Calls Tryd.prog 19 #[.int .i64 n, .slice bo c d, .int .i64 p] u fun e w' => ∃ eo en, e = .returned (.tuple #[.slice eo en en, .int .i64 E]) ∧ Hid (OwnB w' u.heap.size (.slice eo en en) X) ∧ Hid (Below u.heap.size u w')) := hidden (fun u bo d h1 h2 h3 => by
    rw [← hX, ← hE]
    exact encF_any n p bo c d l u h1 h2 h3)
  have HREN : Hid (∀ (u : World), SlZ u ao c cap l → Calls Tryd.prog 20 #[.int .i64 n, .slice ao c cap, .int .i64 p] u fun e w' => ∃ ro rn rc, e = .returned (.tuple #[.slice ro rn rc, .int .i64 E]) ∧ Hid (OwnB w' u.heap.size (.slice ro rn rc) X) ∧ Hid (Below u.heap.size u w')) := hidden (fun u h1 => by
    rw [← hX, ← hE]
    exact renc_any n p ao c cap l u h1)
  clear hX hE
  go_enter Tryd.func5, Tryd.ntmps5
  go_wp2_with (go_at_call 7; refine HLV.out.mono ?_; rintro e w1 ⟨rfl, HB1⟩; refine Hid.out ?_)
  apply hidden
  have HLN := hidden (lentZ_any ao c cap l w1 (HS.out.on (Nat.le_refl _) HB1.out) h8)
  obtain ⟨g, hg⟩ : ∃ g, w1.heap.size = g := ⟨_, rfl⟩
  rw [hg] at HLN
  clear HLV
  go_wp2_with (go_at_call 18; refine HLN.out.mono ?_; rintro e w2 ⟨rfl, HK2, HBa⟩; refine Hid.out ?_)
  apply hidden
  rw [← hg] at HBa
  have HG : Hid (w.heap.size ≤ g) := hidden (by rw [← hg]; exact HB1.out.size)
  have HB2 := hidden (bl_go HB1.out (Nat.le_refl _) HBa.out)
  have HG2 : Hid (g < w2.heap.size) := hidden (lt_some HK2.out)
  have HE1 := hidden (HENC.out w2 _ (c + 2) (HK2.out.slz2 HLE.out hbig HWF.out (c + 2) (by omega)) (HT.out.on HB2.out h0) (Nat.lt_of_lt_of_le h0 HB2.out.size))
  clear HLN HBa HB1 hg
  go_wp2_with (go_at_call 19; refine HE1.out.mono ?_; rintro e w3 ⟨eo, en, rfl, HA3, HBb⟩; refine Hid.out ?_)
  apply hidden
  have HB3 := hidden (bl_go HB2.out (Nat.le_refl _) HBb.out)
  have HK3 : Hid (Bj w3 g (l ++ [-71, -72])) := hidden (HK2.out.on HBb.out)
  have HE2 := hidden (HENC.out w3 _ (c + 2) (HK3.out.slz2 HLE.out hbig HWF.out (c + 2) (by omega)) (HT.out.on HB3.out h0) (Nat.lt_of_lt_of_le h0 HB3.out.size))
  clear HE1 HK2
  go_wp2_with (go_at_call 19; refine HE2.out.mono ?_; rintro e w4 ⟨fo, fn, rfl, HF4, HBc⟩; refine Hid.out ?_)
  apply hidden
  have HB4 := hidden (bl_go HB3.out (Nat.le_refl _) HBc.out)
  have HK4 : Hid (Bj w4 g (l ++ [-71, -72])) := hidden (HK3.out.on HBc.out)
  have HA4 : Hid (OwnB w4 w2.heap.size (.slice eo en en) X) := hidden (HA3.out.on (Nat.le_refl _) HBc.out)
  have HNab : Hid ((Value.slice eo en en).ownBlock = none ∨ (Value.slice eo en en).ownBlock ≠ (Value.slice fo fn fn).ownBlock) := hidden (own_two HA3.out HF4.out (Nat.le_refl _))
  have HS34 : Hid (w2.heap.size ≤ w3.heap.size ∧ w3.heap.size ≤ w4.heap.size) := hidden ⟨HBb.out.size, HBc.out.size⟩
  have HR1 := hidden (HREN.out w4 (HS.out.on (Nat.le_refl _) HB4.out))
  clear HE2 HK3 HA3 HBb HBc HB2 HB3
  go_wp2_with (go_at_call 20; refine HR1.out.mono ?_; rintro e w5 ⟨ro, rn, rc, rfl, HC5, HBd⟩; refine Hid.out ?_)
  apply hidden
  have HB5 := hidden (bl_go HB4.out (Nat.le_refl _) HBd.out)
  have HK5 : Hid (Bj w5 g (l ++ [-71, -72])) := hidden (HK4.out.on HBd.out)
  have HA5 : Hid (OwnB w5 w2.heap.size (.slice eo en en) X) := hidden (HA4.out.on (Nat.le_refl _) HBd.out)
  have HF5 : Hid (OwnB w5 w3.heap.size (.slice fo fn fn) X) := hidden (HF4.out.on (Nat.le_refl _) HBd.out)
  have HNac : Hid (∀ z, (Value.slice ro rn rc).ownBlock = some z → w4.heap.size ≤ z) := hidden (fun z hz => (own_in HC5.out hz).1)
  have HAz : Hid (∀ z, (Value.slice eo en en).ownBlock = some z → w2.heap.size ≤ z ∧ z < w4.heap.size) := hidden (fun z hz => own_in HA4.out hz)
  have HFz : Hid (∀ z, (Value.slice fo fn fn).ownBlock = some z → w3.heap.size ≤ z ∧ z < w4.heap.size) := hidden (fun z hz => own_in HF4.out hz)
  have HS45 : Hid (w4.heap.size ≤ w5.heap.size) := hidden HBd.out.size
  have hX6 : X.length ≤ 140737488355328 := by have := HXL.out; omega
  have HM1 := hidden (same_any _ _ _ _ _ _ _ _ w5 (HA5.out.sl2 HXW.out hX6) (HC5.out.sl2 HXW.out hX6))
  have HM2 := hidden (same_any _ _ _ _ _ _ _ _ w5 (HF5.out.sl2 HXW.out hX6) (HC5.out.sl2 HXW.out hX6))
  rw [show decide (X = X) = true from by simp] at HM1 HM2
  have HAS := hidden (asLentZ_any g c ao cap l w5 HK5.out (HS.out.on (Nat.le_refl _) HB5.out))
  clear HR1 HK4 HA4 HF4 HBd HB4
  go_wp2_with (first
    | (go_at_call 21; refine same_call (by first | exact HM1.out | exact HM2.out) ?_)
    | (go_at_call 22; refine HAS.out.mono ?_; rintro e w6 ⟨rfl, HC6⟩; refine Hid.out ?_))
  apply hidden
  have HB6 : Hid (Below w.heap.size w w6) := hidden (HB5.out.trans (HC6.out.below HB5.out.size (fun k hk e => by have := HG.out; omega)))
  have HA6 : Hid (OwnB w6 w2.heap.size (.slice eo en en) X) := hidden (HA5.out.cf HC6.out (fun k hk e => by have := own_in HA5.out hk; have := HG2.out; omega))
  have HF6 : Hid (OwnB w6 w2.heap.size (.slice fo fn fn) X) := hidden ((HF5.out.cf HC6.out (fun k hk e => by have := own_in HF5.out hk; have := HG2.out; have := HS34.out; omega)).low HS34.out.1)
  have HC6c : Hid (OwnB w6 w4.heap.size (.slice ro rn rc) X) := hidden (HC5.out.cf HC6.out (fun k hk e => by have := own_in HC5.out hk; have := HG2.out; have := HS34.out; omega))
  have HSZ : Hid (w4.heap.size ≤ w6.heap.size) := hidden (Nat.le_trans HS45.out HC6.out.size)
  have HSW : Hid (SlZ w6 ao c cap l) := hidden (HS.out.on (Nat.le_refl _) HB6.out)
  clear HAS HM1 HM2 HK5 HA5 HF5 HC5 HC6 HB5
  obtain ⟨B, hB⟩ : ∃ B, w2.heap.size = B := ⟨_, rfl⟩
  rw [hB] at HA6 HF6 HAz
  have HWB : Hid (w.heap.size ≤ B) := hidden (by rw [← hB]; have := HG.out; have := HG2.out; omega)
  have HBS : Hid (B ≤ w3.heap.size) := hidden (by rw [← hB]; exact HS34.out.1)
  have HBW : Hid (B ≤ w4.heap.size) := hidden (by rw [← hB]; have := HS34.out; omega)
  clear hB
  go_wp2_with (go_at_call 23; refine Hid.out ?_)
  apply hidden
  obtain ⟨bk, hbk⟩ : ∃ bk, w6.heap.size = bk := ⟨_, rfl⟩
  obtain ⟨x, hx⟩ : ∃ x, w6.alloc (.cells #[.slice none 0 0] 54) = x := ⟨_, rfl⟩
  have hbx : Below w6.heap.size w6 x := by rw [← hx]; exact bl_al (Below.refl _ _) (Nat.le_refl _) _
  have HX0 : Hid (Bo9 x B bk (.slice none 0 0) [] (fun _ => [])) := hidden (box9 (by rw [← hx, ← hbk]; exact Array.getElem?_push_size))
  have HBX := hidden (bl_go HB6.out (Nat.le_refl _) hbx)
  have HAx : Hid (OwnB x B (.slice eo en en) X) := hidden (HA6.out.on (Nat.le_refl _) hbx)
  have HFx : Hid (OwnB x B (.slice fo fn fn) X) := hidden (HF6.out.on (Nat.le_refl _) hbx)
  have HCx : Hid (OwnB x w4.heap.size (.slice ro rn rc) X) := hidden (HC6c.out.on (Nat.le_refl _) hbx)
  have HSx : Hid (B ≤ x.heap.size) := hidden (Nat.le_trans HBW.out (Nat.le_trans HSZ.out hbx.size))
  have HBk : Hid (B ≤ bk) := hidden (by rw [← hbk]; exact Nat.le_trans HBW.out HSZ.out)
  have HCb : Hid (∀ z, (Value.slice ro rn rc).ownBlock = some z → z < bk) := hidden (fun z hz => by rw [← hbk]; exact (own_in HC6c.out hz).2)
  rw [hx, hbk]
  clear hx hbk hbx HA6 HF6 HC6c HB6
  have HT1 := hidden (take9B x B bk _ _ _ eo en en _ HX0.out (by simp) HSx.out HBk.out HAx.out HXW.out HXL.out (fun t u ht => by simp at ht))
  refine HT1.out.mono ?_
  rintro e x1 ⟨rfl, v1, D1', HX1, HY1, HO1⟩
  clear HT1 HX0
  have HB1 : Hid (Below w.heap.size w x1) := hidden (HBX.out.trans (HY1.out.below HBX.out.size (fun k hk e => by have := HWB.out; omega)))
  have HS1 : Hid (B ≤ x1.heap.size) := hidden (Nat.le_trans HSx.out HY1.out.size)
  have HT2 := hidden (take9B x1 B bk _ _ _ fo fn fn _ HX1.out (by simp) HS1.out HBk.out (HO1.out _ _ _ HFx.out) HXW.out HXL.out (fun t u ht => by
    have ht0 : t = 0 := by have := (List.getElem?_eq_some_iff.1 ht).1; simpa using this
    subst ht0
    simp at ht
    subst ht
    exact HNab.out))
  have HCx1 : Hid (OwnB x1 w4.heap.size (.slice ro rn rc) X) := hidden (HO1.out _ _ _ HCx.out)
  clear HY1 HO1 HX1 HBX HAx HFx HCx HSx
  go_wp2_with (go_at_call 23; refine HT2.out.mono ?_; rintro e x2 ⟨rfl, v2, D2', HX2, HY2, HO2⟩; refine Hid.out ?_)
  apply hidden
  have HB2 : Hid (Below w.heap.size w x2) := hidden (HB1.out.trans (HY2.out.below HB1.out.size (fun k hk e => by have := HWB.out; omega)))
  have HS2 : Hid (B ≤ x2.heap.size) := hidden (Nat.le_trans HS1.out HY2.out.size)
  have HCx2 : Hid (OwnB x2 w4.heap.size (.slice ro rn rc) X) := hidden (HO2.out _ _ _ HCx1.out)
  have HOW := hidden (owned9F (fun z => B ≤ z ∧ z < w4.heap.size) x2 B bk 2 _ _ _ HX2.out (fun t u ht => by
    have ht2 : t < 2 := by have := (List.getElem?_eq_some_iff.1 ht).1; simpa using this
    have : t = 0 ∨ t = 1 := by omega
    rcases this with rfl | rfl
    · simp at ht
      subst ht
      exact Fo.of HAz.out
    · simp at ht
      subst ht
      exact Fo.of (fun z hz => ⟨Nat.le_trans HBS.out (HFz.out z hz).1, (HFz.out z hz).2⟩)) (by simp) (by omega) HS2.out)
  clear HY2 HO2 HX2 HB1 HS1 HCx1 HT2
  go_wp2_with (go_at_call 24; refine HOW.out.mono ?_; rintro e x3 ⟨rfl, HY3⟩; refine Hid.out ?_)
  apply hidden
  have HB3 : Hid (Below w.heap.size w x3) := hidden (HB2.out.trans (HY3.out.below HB2.out.size (fun k hk e => by have := HWB.out; omega)))
  have HCx3 : Hid (OwnB x3 w4.heap.size (.slice ro rn rc) X) := hidden (HCx2.out.cf HY3.out (fun k hk e => by have := HNac.out k hk; omega))
  have HE3 := hidden (HENC.out x3 _ cap (HS.out.on (Nat.le_refl _) HB3.out) (HT.out.on HB3.out h0) (Nat.lt_of_lt_of_le h0 HB3.out.size))
  clear HOW HY3 HCx2 HB2 HS2
  go_wp2_with (go_at_call 19; refine HE3.out.mono ?_; rintro e x4 ⟨lo, ln, rfl, HL4, HBe⟩; refine Hid.out ?_)
  apply hidden
  have HB4 : Hid (Below w.heap.size w x4) := hidden (bl_go HB3.out (Nat.le_refl _) HBe.out)
  have HCx4 : Hid (OwnB x4 w4.heap.size (.slice ro rn rc) X) := hidden (HCx3.out.on (Nat.le_refl _) HBe.out)
  have HM3 := hidden (same_any _ _ _ _ _ _ _ _ x4 (HL4.out.sl2 HXW.out hX6) (HCx4.out.sl2 HXW.out hX6))
  rw [show decide (X = X) = true from by simp] at HM3
  have HRM := hidden (fun u => room_any p u)
  have HRR := hidden (fun u => rroom_any p u)
  generalize roomN p = R at *
  have eR : (R == R) = true := by simp
  have eE : (E == E) = true := by simp
  clear HE3 HL4 HCx3 HBe HB3
  go_wp2_with (first
    | (go_at_call 21; refine same_call HM3.out ?_)
    | (go_at_call 25; refine same_call (HRM.out _) ?_)
    | (go_at_call 26; refine same_call (HRR.out _) ?_))
  go_ret
  exact ⟨rfl, HB4.out⟩
end Go.Proofs.YtehcemefhgebpaaDoor
