import Derived.Test.YtlhkinlgolcpaaaGreatDoorJ08
namespace Go.Proofs.YtlhkinlgolcpaaaGreatDoor
set_option maxRecDepth 100000
open Go.RowKit
theorem Sl.far {w u : World} {ao : Option Addr} {n cap : Nat} {l l' : List Int} {v : Value} (h : Sl w ao n cap l) (ho : OwnB u w.heap.size v l') : Far ao n v := by
 rcases h.hat with h0 | ⟨b, off, rfl, hb, _⟩
 ·exact .inl h0
 ·refine ho.far fun p hp => ?_
  injection hp with hp
  subst hp
  exact hb
theorem Sl.apartPR {w : World} {ao : Option Addr} {n cap : Nat} {l : List Int} (h : Sl w ao n cap l) {a : Nat} {k : Int} {m : Nat} {x y : Option Addr} {b c d e : Nat} (hr : PR w a k m (.slice x b c) (.slice y d e)) : n = 0 ∨ ∀ p, ao = some p → ¬ p.block = a := by
 rcases h.hat with h0 | ⟨q, off, rfl, hg, hc⟩
 ·exact .inl h0
 ·rcases Nat.eq_zero_or_pos n with h0 | h0
  ·exact .inl h0
  ·right
   rintro p hp rfl
   injection hp with hp
   subst hp
   have h1 := hc 0 h0
   unfold PR at hr
   rw [cell_of_row _ _ _ _ _ _ hr] at h1
   rcases Nat.lt_or_ge (off + 0) 4 with h3 | h3
   ·have h4 : off + 0 = 0 ∨ off + 0 = 1 ∨ off + 0 = 2 ∨ off + 0 = 3 := by omega
    rcases h4 with h4 | h4 | h4 | h4 <;> (rw [h4] at h1; simp at h1)
   ·rw [Array.getElem?_eq_none (by simpa using h3)] at h1
    cases h1
theorem own_bn {w : World} {B C : Nat} {v u : Value} {l : List Int} {m : List Nat} (h : OwnB w B v l) (g : OwnN w C u m) : v.ownBlock = none ∨ v.ownBlock ≠ u.ownBlock := by
 unfold OwnB at h
 rcases h.2 with ⟨rfl, _⟩ | ⟨q, cap, cur, rfl, _, hh, _⟩
 ·exact .inl rfl
 ·right
  intro e
  exact g.apart hh (by decide) e.symm
theorem OwnN.be {w w' : World} {B : Nat} {v v' : Value} {l : List Nat} (h : OwnN w B v l) (hg : Gr w v w' v') (hB : B ≤ w.heap.size) : Below B w w' := own_below h hB hg.grow
theorem OwnB.slice {w : World} {B : Nat} {v : Value} {l : List Int} (h : OwnB w B v l) : ∃ ao cap, v = .slice ao l.length cap := by
 unfold OwnB at h
 rcases h.2 with ⟨rfl, h0⟩ | ⟨g, cap, cur, rfl, _⟩
 ·exact ⟨none, 0, by rw [h0]⟩
 ·exact ⟨_, cap, rfl⟩
theorem sln_one (w : World) (x : Nat) : ∀ i, i < 1 → (w.alloc (.cells #[.int .i64 (x : Int)] 3)).cell? ⟨w.heap.size, 0 + i, none⟩ = some (.int .i64 (([x].getD i 0 : Nat) : Int)) := by
 intro i hi
 obtain rfl : i = 0 := by omega
 simp
set_option maxHeartbeats 2000000 in
theorem replace_nil (w : World) (a : Nat) (k : Int) (n : Nat) (co : Option Addr) (cn cc : Nat) (cs : List Cl) (hr : PR w a k n (.slice none 0 0) (.slice none 0 0)) (hs : SlC w co cn cc cs) (hf : ∀ c ∈ cs, c.fit) (hz : szN cs ≤ 65536) :
  Calls Tryz.prog 83 #[.pointer (some ⟨a, 0, none⟩), .int .i64 0, .int .i64 0, .slice co cn cc] w fun e w' => e = .returned (.tuple #[]) ∧ Hid (Cf (· = a) w w') ∧ Hid (∃ bo bn bc so sn sc, PgAt w' a k n bo bn bc so sn sc cs) := by
 have HR := hidden hr
 have HS := hidden hs
 have HFIT := hidden hf
 have hz2 := szN_eq cs
 have hlen := hs.hlen
 have hcn : cn ≤ 65536 := by omega
 have HBL : Hid ((bdy cs).length ≤ 65536) := hidden (by omega)
 have HST := hidden (start_nil w a k n hr)
 have HLEN := hidden hlen
 obtain ⟨B, hB⟩ : ∃ B, w.heap.size = B := ⟨_, rfl⟩
 have HB := hidden hB
 clear hr hs hf hz hz2 hlen
 go_enter Tryz.func83, Tryz.ntmps83
 go_wp2_with (first | (go_at_call 114; refine same_call HST.out ?_))
 clear HST
 go_loopw [10, 11, 24] (fun vb vs i wr => ∃ (j : Nat) (bo : Option Addr) (bn bc : Nat) (so : Option Addr) (sn sc : Nat), j ≤ cn ∧ i = .int .i64 j ∧ vb = .slice bo bn bc ∧ vs = .slice so sn sc ∧ Hid (OwnB wr B (.slice bo bn bc) (bdy (cs.take j))) ∧ Hid (OwnN wr B (.slice so sn sc) (sts 0 (cs.take j))) ∧ Hid (Below B w wr)) (fun _ _ i _ => cn - (intOf i).toNat)
 case atStart => exact ⟨0, none, 0, 0, none, 0, 0, by omega, rfl, rfl, rfl, hidden (by simpa [bdy] using OwnB.nil w B), hidden (by simpa [sts] using OwnN.nil w B), hidden (Below.refl _ _)⟩
 case round =>
  obtain ⟨j, bo, bn, bc, so, sn, sc, hj, rfl, rfl, rfl, HOB, HON, HBE⟩ := hrel
  have bj : (j : Int) ≤ 65536 := by omega
  by_cases hlt : j < cn
  ·have hltI : (j : Int) < (cn : Int) := by omega
   obtain ⟨b, off, c, ka, kc, va, vc, rfl, hb, hci, c0, c1, c2, c3, c4, hk, hv⟩ := HS.out.item j hlt
   have hbw := HBE.out
   rw [← HB.out] at hbw
   have d0 := (hbw.cell (p := ⟨b, off + j * 5, none⟩) hb).trans c0
   have d1 := (hbw.cell (p := ⟨b, off + j * 5 + 1, none⟩) hb).trans c1
   have d2 := (hbw.cell (p := ⟨b, off + j * 5 + 2, none⟩) hb).trans c2
   have d3 := (hbw.cell (p := ⟨b, off + j * 5 + 3, none⟩) hb).trans c3
   have d4 := (hbw.cell (p := ⟨b, off + j * 5 + 4, none⟩) hb).trans c4
   have HK := hidden hk
   have HV := hidden hv
   have hcf := HFIT.out c (List.mem_of_getElem? hci)
   have HCF := hidden hcf
   have HTK : Hid (bdy (cs.take (j + 1)) = bdy (cs.take j) ++ cB c ∧ sts 0 (cs.take (j + 1)) = sts 0 (cs.take j) ++ [bn]) := by
    have e : cs.take (j + 1) = cs.take j ++ [c] := by rw [List.take_add_one, hci]; rfl
    have hbn : bn = (bdy (cs.take j)).length := by
     obtain ⟨x, y, hxy⟩ := HOB.out.slice
     injection hxy
    refine hidden ⟨by rw [e, bdy_append]; simp [bdy], ?_⟩
    rw [e, sts_append, Nat.zero_add, hbn]
    rfl
   have hbl2 := bdy_take_le cs j
   have hbn2 : bn ≤ 65536 := by
    obtain ⟨x, y, hxy⟩ := HOB.out.slice
    injection hxy with _ h2
    have := HBL.out
    omega
   have bbn : (bn : Int) ≤ 65536 := by omega
   have HBNL : Hid ((bdy (cs.take j)).length ≤ 65536) := hidden (Nat.le_trans hbl2 HBL.out)
   have HSTL : Hid ((sts 0 (cs.take j)).length + 1 ≤ 1000000) := hidden (by rw [sts_length, List.length_take]; omega)
   obtain ⟨x, hx⟩ : ∃ x, (wr.alloc (.cells #[.slice ka c.key.length kc, .int .i64 c.kd, .slice va c.val.length vc, .int .i64 c.pg, .int .i64 c.ct] 41)).alloc (.cells #[.int .i64 (bn : Int)] 3) = x := ⟨_, rfl⟩
   have hbx : Below wr.heap.size wr x := by rw [← hx]; exact bl_al (bl_al (Below.refl _ _) (Nat.le_refl _) _) (Nat.le_refl _) _
   obtain ⟨s, hss⟩ : ∃ s, wr.heap.size = s := ⟨_, rfl⟩
   have HBOX : Hid (C5 x s (.slice ka c.key.length kc) (.int .i64 c.kd) (.slice va c.val.length vc) (.int .i64 c.pg) (.int .i64 c.ct)) := by
    rw [← hx, ← hss]
    exact hidden ((Below.heap_alloc _ _ _ (by simp)).trans (heap_alloc_last wr _))
   have H1 : Hid (∀ i, i < 1 → x.cell? ⟨s + 1, 0 + i, none⟩ = some (.int .i64 (([bn].getD i 0 : Nat) : Int))) := by
    have := sln_one (wr.alloc (.cells #[.slice ka c.key.length kc, .int .i64 c.kd, .slice va c.val.length vc, .int .i64 c.pg, .int .i64 c.ct] 41)) bn
    rw [hx] at this
    rw [← hss]
    exact hidden (by simpa using this)
   have HON1 := hidden (HON.out.below hbx)
   have HOB1 : Hid (OwnB x B (.slice bo bn bc) (bdy (cs.take j))) := hidden (HOB.out.on (Nat.le_refl _) hbx)
   have hBx : B ≤ x.heap.size := Nat.le_trans (by rw [← HB.out]; exact hbw.size) hbx.size
   have HBX : Hid (Below B w x) := hidden (HBE.out.trans (hbx.mono (by rw [← HB.out]; exact hbw.size)))
   clear hb hci c0 c1 c2 c3 c4 hk hv hcf hbl2 hbx hbw HOB HON HBE
   go_wp2_with (at_builtin; refine app_slN _ rfl _ _ rfl B (sts 0 (cs.take j)) [bn] (.slice so sn sc) (s + 1) 0 1 1 rfl rfl HON1.out rfl H1.out HSTL.out hBx ?_; refine Hid.out ?_)
   apply hidden
   intro v2 w2 ho2 g2
   obtain ⟨so2, sc2, rfl, _⟩ := ho2.sln (by rw [List.length_append]; have := HSTL.out; simp; omega)
   obtain ⟨sn2, hsn2⟩ : ∃ sn2, (sts 0 (cs.take j) ++ [bn]).length = sn2 := ⟨_, rfl⟩
   rw [hsn2] at ho2 g2 ⊢
   have HON2 := hidden ho2
   have HB2 : Hid (Below B w w2) := hidden (HBX.out.trans (HON1.out.be g2 hBx))
   have HOB2 : Hid (OwnB w2 B (.slice bo bn bc) (bdy (cs.take j))) := hidden (World.ownsRow.kept HOB1.out g2.grow (own_bn HOB1.out HON1.out))
   have HBOX2 : Hid (C5 w2 s (.slice ka c.key.length kc) (.int .i64 c.kd) (.slice va c.val.length vc) (.int .i64 c.pg) (.int .i64 c.ct)) := hidden (HBOX.out.gr g2 (HON1.out.apart HBOX.out (by decide)))
   have hB2 : B ≤ w2.heap.size := by have := HB2.out.size; have := HB.out; omega
   have hbw2 : Below w.heap.size w w2 := by rw [HB.out]; exact HB2.out
   have HK2 : Hid (Sl w2 ka c.key.length kc c.key) := hidden (HK.out.on (Nat.le_refl _) hbw2)
   have HV2 : Hid (Sl w2 va c.val.length vc c.val) := hidden (HV.out.on (Nat.le_refl _) hbw2)
   have hob : OwnB w2 w.heap.size (.slice bo bn bc) (bdy (cs.take j)) := by rw [HB.out]; exact HOB2.out
   have HT := hidden (appended_any (.slice bo bn bc) B (bdy (cs.take j)) ka c.key.length kc c.kd va c.val.length vc c.pg c.ct c.key c.val w2 HOB2.out hB2 HK2.out HV2.out (HK.out.far hob) (HV.out.far hob) HCF.out.pg HCF.out.ct (by have := HBNL.out; have := HCF.out.key; have := HCF.out.val; omega))
   obtain ⟨c0, c1, c2, c3, c4⟩ := HBOX2.out.cells
   clear ho2 g2 hsn2 hbw2 hob hx hss H1 HON1 HOB1 HBOX d0 d1 d2 d3 d4 hBx HBX
   go_wp2_with (first | (go_at_call 115; refine HT.out.mono ?_; rintro e w3 ⟨v3, rfl, HO3, HG3⟩; refine Hid.out ?_))
   apply hidden
   obtain ⟨bo3, bc3, rfl⟩ := HO3.out.slice
   obtain ⟨bn3, hbn3⟩ : ∃ bn3, (bdy (cs.take j) ++ cB ⟨c.key, c.kd, c.val, c.pg, c.ct⟩).length = bn3 := ⟨_, rfl⟩
   rw [hbn3] at HO3 HG3 ⊢
   have HON3 : Hid (OwnN w3 B (.slice so2 sn2 sc2) (sts 0 (cs.take j) ++ [bn])) := hidden (World.ownsRow.kept HON2.out HG3.out.grow (by
    rcases own_bn HOB2.out HON2.out with h | h
    ·cases hv : (Value.slice so2 sn2 sc2).ownBlock with
     | none => exact .inl rfl
     | some q => right; rw [h]; simp
    ·exact .inr (fun e => h e.symm)))
   have HB3 : Hid (Below B w w3) := hidden (HB2.out.trans (HG3.out.below HOB2.out hB2))
   have HOB3 : Hid (OwnB w3 B (.slice bo3 bn3 bc3) (bdy (cs.take (j + 1)))) := hidden (by rw [HTK.out.1]; exact HO3.out)
   have HON4 : Hid (OwnN w3 B (.slice so2 sn2 sc2) (sts 0 (cs.take (j + 1)))) := hidden (by rw [HTK.out.2]; exact HON3.out)
   clear HT HO3 HG3 hbn3 c0 c1 c2 c3 c4 HBOX2 HK2 HV2 HOB2 HON2 HON3
   go_wp2
   go_roundw
   case rel => exact ⟨j + 1, bo3, bn3, bc3, so2, sn2, sc2, by omega, by go_num, rfl, rfl, HOB3, HON4, HB3⟩
   case measure => simp [intOf]; omega
  ·obtain rfl : j = cn := by omega
   have hlI : ¬ (j : Int) < (j : Int) := by omega
   have htk : cs.take j = cs := List.take_of_length_le (by rw [HLEN.out]; exact Nat.le_refl _)
   rw [htk] at HOB HON
   have hbw : Below w.heap.size w wr := by rw [HB.out]; exact HBE.out
   have HWF : Hid (Wf (bdy cs)) := hidden (bdy_wf HS.out.wf)
   have HSB : Hid (Sl wr bo bn bc (bdy cs)) := by
    obtain ⟨x, y, hxy, hsl, _⟩ := HOB.out.sl HWF.out (by have := HBL.out; omega)
    injection hxy with e1 e2 e3
    subst e1 e2 e3
    exact hidden hsl
   have HSNN : Hid (SlN wr so sn sc (sts 0 cs)) := by
    obtain ⟨x, y, hxy, hsl⟩ := HON.out.sln (by rw [sts_length, HLEN.out]; omega)
    injection hxy with e1 e2 e3
    subst e1 e2 e3
    exact hidden hsl
   have hsn : sn ≤ 1000000 := by have := HSNN.out.hlen; rw [sts_length, HLEN.out] at this; omega
   have HRW : Hid (PR wr a k n (.slice none 0 0) (.slice none 0 0)) := hidden (box_on HR.out hbw)
   obtain ⟨c0, c1, c2, c3⟩ := HRW.out.cells
   have HRB := hidden (repB_nil bo bn bc (bdy cs) wr HSB.out)
   clear htk
   go_wp2_with (first | (go_at_call 116; refine HRB.out.mono ?_; rintro e w2 ⟨v2, rfl, HO2, HB2⟩; refine Hid.out ?_))
   apply hidden
   obtain ⟨bo2, bc2, rfl⟩ := HO2.out.slice
   obtain ⟨bn2, hbn2⟩ : ∃ bn2, (bdy cs).length = bn2 := ⟨_, rfl⟩
   rw [hbn2] at HO2 ⊢
   have HRW2 : Hid (PR w2 a k n (.slice none 0 0) (.slice none 0 0)) := hidden (box_on HRW.out HB2.out)
   clear c0 c1 c2 c3 HRB
   obtain ⟨c0, c1, c2, c3⟩ := HRW2.out.cells
   have f2 := HRW2.out.free 2
   have HRW3 : Hid (PR (w2.setCell ⟨a, 2, none⟩ (.slice bo2 bn2 bc2)) a k n (.slice bo2 bn2 bc2) (.slice none 0 0)) := hidden (HRW2.out.set2 _)
   have HO3 : Hid (OwnB (w2.setCell ⟨a, 2, none⟩ (.slice bo2 bn2 bc2)) wr.heap.size (.slice bo2 bn2 bc2) (bdy cs)) := by
    refine hidden (World.ownsRow.kept (row := some a) HO2.out ⟨rfl, rfl, rfl, by simp [World.setCell], fun i _ hi => Below.heap_setCell _ _ _ _ (fun e => hi (by rw [e]))⟩ (.inr ?_))
    intro e
    have h1 := (HO2.out.lt a e).1
    have h2 := lt_some HRW.out
    omega
   have HSN3 : Hid (SlN (w2.setCell ⟨a, 2, none⟩ (.slice bo2 bn2 bc2)) so sn sc (sts 0 cs)) := by
    have o1 := HON.out.below HB2.out
    have hrow := HRW2.out
    unfold PR at hrow
    have o2 := o1.cf (Cf.set w2 a 2 (.slice bo2 bn2 bc2)) (o1.apart hrow (by decide))
    obtain ⟨x, y, hxy, hsl⟩ := o2.sln (by rw [sts_length, HLEN.out]; omega)
    injection hxy with e1 e2 e3
    subst e1 e2 e3
    exact hidden hsl
   have HCF3 : Hid (Cf (· = a) w (w2.setCell ⟨a, 2, none⟩ (.slice bo2 bn2 bc2))) := hidden (((Cf.of_below hbw).go (Cf.of_below HB2.out)).go (Cf.set _ _ _ _))
   obtain ⟨u3, hu3⟩ : ∃ u3, w2.setCell ⟨a, 2, none⟩ (.slice bo2 bn2 bc2) = u3 := ⟨_, rfl⟩
   rw [hu3] at HRW3 HO3 HSN3 HCF3
   obtain ⟨d0, d1, d2, d3⟩ := HRW3.out.cells
   have HRN := hidden (repN_nil so sn sc (sts 0 cs) u3 HSN3.out hsn)
   clear hbw
   go_wp2_with (first | (go_at_call 117; refine HRN.out.mono ?_; rintro e w4 ⟨v4, rfl, HO4, HB4⟩; refine Hid.out ?_))
   apply hidden
   clear c0 c1 c2 c3 f2 d0 d1 d2 d3 HRN hu3
   obtain ⟨so4, sc4, rfl, _⟩ := HO4.out.sln (by rw [sts_length, HLEN.out]; omega)
   obtain ⟨sn4, hsn4⟩ : ∃ sn4, (sts 0 cs).length = sn4 := ⟨_, rfl⟩
   rw [hsn4] at HO4 ⊢
   have hsn5 : sn4 = j := by rw [← hsn4, sts_length, HLEN.out]
   have HRW4 : Hid (PR w4 a k n (.slice bo2 bn2 bc2) (.slice none 0 0)) := hidden (box_on HRW3.out HB4.out)
   obtain ⟨c0, c1, c2, c3⟩ := HRW4.out.cells
   have f3 := HRW4.out.free 3
   have HRW5 : Hid (PR (w4.setCell ⟨a, 3, none⟩ (.slice so4 sn4 sc4)) a k n (.slice bo2 bn2 bc2) (.slice so4 sn4 sc4)) := hidden (HRW4.out.set3 _)
   have HFIN : Hid (Cf (· = a) w (w4.setCell ⟨a, 3, none⟩ (.slice so4 sn4 sc4)) ∧ ∃ bo bn bc so sn sc, PgAt (w4.setCell ⟨a, 3, none⟩ (.slice so4 sn4 sc4)) a k n bo bn bc so sn sc cs) := by
    have hrow := HRW4.out
    unfold PR at hrow
    have hc := Cf.set w4 a 3 (.slice so4 sn4 sc4)
    have o1 := HO4.out.cf hc (HO4.out.apart hrow (by decide))
    obtain ⟨x, y, hxy, hsl⟩ := o1.sln (by rw [sts_length, HLEN.out]; omega)
    injection hxy with e1 e2 e3
    subst e1 e2 e3
    have hb4 : OwnB w4 wr.heap.size (.slice bo2 bn2 bc2) (bdy cs) := HO3.out.on (Nat.le_refl _) HB4.out
    obtain ⟨x', y', hxy', hsl', _⟩ := hb4.sl HWF.out (by have := HBL.out; omega)
    injection hxy' with e1 e2 e3
    subst e1 e2 e3
    exact hidden ⟨(HCF3.out.go (Cf.of_below HB4.out)).go hc, _, _, _, _, _, _, HRW5.out, hsl'.cf hc (hsl'.apartPR HRW4.out), hsl⟩
   obtain ⟨c5, c6, c7, c8⟩ := HRW5.out.cells
   have bs4 : (sn4 : Int) ≤ 65536 := by omega
   have bb2 : (bn : Int) ≤ 140737488355328 := by have := HSB.out.hroom; omega
   obtain ⟨u5, hu5⟩ : ∃ u5, w4.setCell ⟨a, 3, none⟩ (.slice so4 sn4 sc4) = u5 := ⟨_, rfl⟩
   rw [hu5] at HRW5 HFIN c5 c6 c7 c8
   subst hsn5
   clear hsn4
   go_wp2_with fail
   go_loopw [15] (fun v wx => v = .int .i64 (sn4 : Int) ∧ wx = u5) (fun _ _ => 0)
   case atStart => exact ⟨rfl, by first | rfl | exact hu5⟩
   case round =>
    obtain ⟨rfl, rfl⟩ := hrel
    go_wp2
    go_returns
    exact ⟨rfl, hidden HFIN.out.1, hidden HFIN.out.2⟩
end Go.Proofs.YtlhkinlgolcpaaaGreatDoor

namespace Go.Proofs.YtlhkinlgolcpaaaGreatDoor
set_option maxRecDepth 100000
open Go.RowKit
def encE (k n : Int) (cs : List Cl) : Int := if isKd k ∧ pw n then (if chk k n none cs = 0 then (if n < szN cs then 61 else 0) else chk k n none cs) else 1
def EncTo (k n : Int) (cs : List Cl) (w : World) (e : Ending) (w' : World) : Prop :=
 ∃ ao m cap c, e = .returned (.tuple #[.slice ao m cap, .int .i64 c]) ∧ Hid (Below w.heap.size w w') ∧ Hid (c = encE k n cs ∧ ((c ≠ 0 ∧ ao = none ∧ m = 0 ∧ cap = 0) ∨ (c = 0 ∧ ∃ g, ao = some ⟨g, 0, none⟩ ∧ m = n.toNat ∧ cap = n.toNat ∧ w.heap.size ≤ g ∧ Bk w' g (pgB k n.toNat cs))))
theorem EncTo.no {k n : Int} {cs : List Cl} {w w' : World} {c : Int} (hb : Below w.heap.size w w') (hc : c = encE k n cs) (h0 : c ≠ 0) : EncTo k n cs w (.returned (.tuple #[.slice none 0 0, .int .i64 c])) w' := ⟨none, 0, 0, c, rfl, hidden hb, hidden ⟨hc, .inl ⟨h0, rfl, rfl, rfl⟩⟩⟩
theorem chk_step (k n : Int) (cs : List Cl) (j : Nat) (c : Cl) (h : cs[j]? = some c) : chk k n (prv (cs.take j)) (cs.drop j) = if mayP k n c then (if ahead (prv (cs.take j)) c.key then chk k n (prv (cs.take (j + 1))) (cs.drop (j + 1)) else 63) else 62 := by
 obtain ⟨hj, e⟩ := List.getElem?_eq_some_iff.1 h
 rw [List.drop_eq_getElem_cons hj, e, chk]
 have : prv (cs.take (j + 1)) = some c.key := by
  rw [List.take_add_one, h]
  simp [prv]
 rw [this]
set_option maxHeartbeats 2000000 in
theorem encode_plain (k n : Int) (co : Option Addr) (cn cc : Nat) (cs : List Cl) (w : World) (hs : SlC w co cn cc cs) (hz : szN cs ≤ 1099511627776) (ht : Tab w) (h0 : 1 < w.heap.size) :
  Calls Tryz.prog 46 #[.int .i64 k, .slice co cn cc, .int .i64 n] w fun e w' => EncTo k n cs w e w' := by
 have HS := hidden hs
 have HZ := hidden hz
 have HT := hidden ht
 have HLEN := hidden hs.hlen
 have hcn : cn ≤ 1099511627776 := by have := hs.hlen; have := szN_eq cs; omega
 have HN := hidden (new_any k n w)
 clear hs hz ht
 go_enter Tryz.func46, Tryz.ntmps46
 go_wp2_with (first | (go_at_call 50; refine HN.out.mono ?_; rintro e w1 ⟨po, ec, rfl, HB1, HQ⟩; refine Hid.out ?_))
 apply hidden
 clear HN
 rcases HQ.out with ⟨rfl, rfl, hno⟩ | ⟨rfl, rfl, hk, hn, hrow⟩
 ·have HE : Hid ((1 : Int) = encE k n cs) := hidden (by unfold encE; rw [if_neg hno])
  clear HQ hno
  go_wp2
  go_ret2
  exact EncTo.no HB1.out HE.out (by omega)
 ·have hpn := pw_le hn
  obtain ⟨N, rfl⟩ := Int.eq_ofNat_of_zero_le (show 0 ≤ n by omega)
  obtain ⟨a, ha⟩ : ∃ a, w.heap.size = a := ⟨_, rfl⟩
  rw [ha] at hrow ⊢
  have HA := hidden ha
  have HROW : Hid (PR w1 a k N (.slice none 0 0) (.slice none 0 0)) := hidden hrow
  have HK := hidden hk
  have HPN := hidden hn
  have HE0 : Hid (encE k N cs = if chk k N none cs = 0 then (if (N : Int) < szN cs then 61 else 0) else chk k N none cs) := hidden (by unfold encE; rw [if_pos ⟨hk, hn⟩])
  have hN1 : (N : Int) ≤ 65536 := hpn.2
  have hN2 : 512 ≤ N := by omega
  clear HQ hk hn hrow ha hpn
  go_wp2_with fail
  go_loopw [23] (fun i wr => ∃ j : Nat, j ≤ cn ∧ i = .int .i64 j ∧ Hid (chk k N none cs = chk k N (prv (cs.take j)) (cs.drop j)) ∧ Hid (Below w1.heap.size w1 wr)) (fun i _ => cn - (intOf i).toNat)
  case atStart => exact ⟨0, by omega, rfl, hidden (by simp [prv]), hidden (Below.refl _ _)⟩
  case round =>
   obtain ⟨j, hj, rfl, HC, HB⟩ := hrel
   have bj : (j : Int) ≤ 1099511627776 := by omega
   have HBW : Hid (Below w.heap.size w wr) := hidden (bl_go HB1.out (Nat.le_refl _) HB.out)
   by_cases hlt : j < cn
   ·have hltI : (j : Int) < (cn : Int) := by omega
    obtain ⟨b, off, c, ka, kc, va, vc, rfl, hb, hci, c0, c1, c2, c3, c4, hkS, hvS⟩ := (HS.out.on HBW.out).item j hlt
    have HCS := hidden (chk_step k N cs j c hci)
    have HCI := hidden hci
    have hkr := hkS.hroom
    have hvr := hvS.hroom
    have HKS := hidden hkS
    have HMB := hidden (fun u => mayBe_any k (N : Int) ka c.key.length kc c.kd va c.val.length vc c.pg c.ct u (by omega) hN1 hkr hvr)
    have HMI := hidden (mayP_iff k N c)
    clear hci hkS hvS
    cases hm : decide (mayN k N c.key.length c.kd c.val.length c.pg c.ct) with
    | false =>
     have HE : Hid ((62 : Int) = encE k N cs) := by
      have : ¬ mayP k N c := fun h => by have := HMI.out.2 h; simp at hm; exact hm this
      have e : chk k N none cs = 62 := by rw [HC.out, HCS.out, if_neg this]
      exact hidden (by rw [HE0.out, e]; simp)
     go_wp2_with (first | (go_at_call 81; refine (HMB.out _).mono ?_; rintro e w2 ⟨rfl, hb2⟩; have HB2 := hidden (bl_go (bl_al HBW.out (Nat.le_refl _) _) (Nat.le_refl _) hb2); clear hb2; rw [hm]))
     go_ret2
     exact EncTo.no HB2.out HE.out (by omega)
    | true =>
     have hmp : mayP k N c := HMI.out.1 (by simpa using hm)
     have HMP := hidden hmp
     clear hmp
     go_wp2_with (first | (go_at_call 81; refine (HMB.out _).mono ?_; rintro e w2 ⟨rfl, hb2⟩; have HBOX := hidden (box5 hb2); have HBR := hidden (al5 hb2); have HB2 := hidden (bl_go (bl_al HB.out (Nat.le_refl _) _) (Nat.le_refl _) hb2); clear hb2; rw [hm]; refine Hid.out ?_))
     apply hidden
     obtain ⟨g8, hg8⟩ : ∃ g8, wr.heap.size = g8 := ⟨_, rfl⟩
     rw [hg8] at HBOX ⊢
     obtain ⟨z0, z1, z2, z3, z4⟩ := HBOX.out
     have HBW2 : Hid (Below w.heap.size w w2) := hidden (bl_go HB1.out (Nat.le_refl _) HB2.out)
     clear hg8 HBOX c0 c1 c2 c3 c4 HMB HMI
     by_cases hj0 : j = 0
     ·subst hj0
      have HNX : Hid (chk k N none cs = chk k N (prv (cs.take (0 + 1))) (cs.drop (0 + 1))) := hidden (by rw [HC.out, HCS.out, if_pos HMP.out, if_pos (by simp [prv, ahead])])
      go_wp2_with fail
      go_quiet (fail)
      go_wp2
      go_roundw
      case rel => exact ⟨1, by omega, by go_num, HNX, hidden (bl_dr HB2.out _)⟩
      case measure => simp [intOf]; omega
     ·obtain ⟨i, rfl⟩ : ∃ i, j = i + 1 := ⟨j - 1, by omega⟩
      obtain ⟨b', off', c', ka', kc', va', vc', hbo, hb', hci', e0, e1, e2, e3, e4, hk', hv'⟩ := (HS.out.on HBW2.out).item i (by omega)
      injection hbo with hbo
      injection hbo with hb1 hb2
      subst hb1 hb2
      have hprv : prv (cs.take (i + 1)) = some c'.key := by rw [List.take_add_one, hci']; simp [prv]
      have HRI : Hid (∀ q, Calls Tryz.prog 82 #[.slice ka' c'.key.length kc', .slice ka c.key.length kc] (w2.drewN q) fun e w' => e = .returned (.bool (decide (kl c'.key c.key))) ∧ w' = w2.drewN q) :=
       hidden fun q => rise_any _ _ _ _ _ _ _ _ _ (hk'.drewN q) ((HKS.out.on (Nat.le_refl _) HBR.out).drewN q)
      have HPR := hidden hprv
      have i1 : (i : Int) < (cn : Int) := by omega
      have i2 : i < cn := by omega
      have i3 : (i : Int) ≤ 1099511627776 := by omega
      clear hk' hv' hprv hci' e1 e2 e3 e4 z1 z2 z3 z4 hj0
      cases hkl : decide (kl c'.key c.key) with
      | true =>
       have HNX : Hid (chk k N none cs = chk k N (prv (cs.take (i + 1 + 1))) (cs.drop (i + 1 + 1))) := hidden (by
        rw [HC.out, HCS.out, if_pos HMP.out, if_pos (by rw [HPR.out]; simpa [ahead] using hkl)])
       rw [hkl] at HRI
       go_wp2_with fail
       go_quiet (first | (go_at_call 82; exact Calls.quiet_of_same (HRI.out _)))
       go_wp2
       go_roundw
       case rel => exact ⟨i + 1 + 1, by omega, by go_num, HNX, hidden (bl_dr HB2.out _)⟩
       case measure => simp [intOf]; omega
      | false =>
       have HE : Hid ((63 : Int) = encE k N cs) := by
        have e : chk k N none cs = 63 := by rw [HC.out, HCS.out, if_pos HMP.out, if_neg (by rw [HPR.out]; simpa [ahead] using hkl)]
        exact hidden (by rw [HE0.out, e]; simp)
       rw [hkl] at HRI
       go_wp2_with fail
       go_quiet (first | (go_at_call 82; exact Calls.quiet_of_same (HRI.out _)))
       go_wp2
       go_ret2
       exact EncTo.no (bl_dr HBW2.out _) HE.out (by omega)
   ·obtain rfl : j = cn := by omega
    have hlI : ¬ (j : Int) < (j : Int) := by omega
    have HOK : Hid (chk k N none cs = 0) := hidden (by rw [HC.out, List.drop_eq_nil_of_le (by rw [HLEN.out]; exact Nat.le_refl _)]; rfl)
    have HSC := hidden (HS.out.on HBW.out)
    have HSZ := hidden (size_any k co j cc cs wr HSC.out HZ.out)
    have hszb := HZ.out
    obtain ⟨Z, hZ⟩ : ∃ Z, szN cs = Z := ⟨_, rfl⟩
    have HZE := hidden hZ
    rw [hZ] at HSZ hszb
    have bZ : (Z : Int) ≤ 1099511627776 := by omega
    clear hZ
    go_wp2_with (first | (go_at_call 45; refine HSZ.out.mono ?_; rintro e w2 ⟨rfl, hb2⟩; have HB2 := hidden hb2; clear hb2; refine Hid.out ?_))
    apply hidden
    have HBW2 : Hid (Below w.heap.size w w2) := hidden (bl_go HBW.out (Nat.le_refl _) HB2.out)
    by_cases hfit : (N : Int) < (Z : Int)
    ·have HE : Hid ((61 : Int) = encE k N cs) := hidden (by rw [HE0.out, if_pos HOK.out, HZE.out, if_pos hfit])
     go_wp2
     go_ret2
     exact EncTo.no HBW2.out HE.out (by omega)
    ·have HE : Hid ((0 : Int) = encE k N cs) := hidden (by rw [HE0.out, if_pos HOK.out, HZE.out, if_neg hfit])
     have HR2 : Hid (PR w2 a k N (.slice none 0 0) (.slice none 0 0)) := hidden (box_on HROW.out (bl_go HB.out (Nat.le_refl _) HB2.out))
     have HRP := hidden (replace_nil w2 a k N co j cc cs HR2.out (HSC.out.on HB2.out) (fun c hc => (chk_may HOK.out c hc).fit hN1) (by rw [HZE.out]; omega))
     go_wp2_with (first | (go_at_call 83; refine HRP.out.mono ?_; rintro e w3 ⟨rfl, HC3, HP3⟩; refine Hid.out ?_))
     apply hidden
     have HBW3 : Hid (Below w.heap.size w w3) := hidden (HBW2.out.trans (HC3.out.below HBW2.out.size (by have := HA.out; intro i hi e; omega)))
     obtain ⟨bo, bn, bc, so, sn, sc, hpg⟩ := HP3.out
     have HBY := hidden (bytes_any w3 a k N bo bn bc so sn sc cs hpg HK.out HPN.out (by rw [HZE.out]; omega) (HT.out.on HBW3.out h0) (Nat.lt_of_lt_of_le h0 HBW3.out.size) HS.out.wf)
     clear hpg HP3
     go_wp2_with (first | (go_at_call 84; refine HBY.out.mono ?_; rintro e w4 ⟨g, rfl, hg, HBK, HB4⟩))
     go_ret2
     refine ⟨some ⟨g, 0, none⟩, N, N, 0, rfl, hidden (bl_go HBW3.out (Nat.le_refl _) HB4.out), hidden ⟨HE.out, .inr ⟨rfl, g, rfl, by simp, by simp, Nat.le_trans HBW3.out.size hg, ?_⟩⟩⟩
     rw [Int.toNat_natCast]
     exact HBK.out
end Go.Proofs.YtlhkinlgolcpaaaGreatDoor

namespace Go.Proofs.YtlhkinlgolcpaaaGreatDoor
set_option maxRecDepth 100000
open Go.RowKit
theorem kl_trans : ∀ (a b c : List Int), kl a b → kl b c → kl a c
 | [], [], _, h, _ => by simp [kl, ordL] at h
 | [], _ :: _, [], _, h => by simp [kl, ordL] at h
 | [], _ :: _, _ :: _, _, _ => by simp [kl, ordL]
 | _ :: _, [], _, h, _ => by simp [kl, ordL] at h
 | _ :: _, _ :: _, [], _, h => by simp [kl, ordL] at h
 | x :: a, y :: b, z :: c, h, g => by
  have ih := kl_trans a b c
  unfold kl at *
  simp only [ordL] at h g ⊢
  by_cases h1 : x < y
  ·by_cases g1 : y < z
   ·rw [if_pos (by omega)]
   ·rw [if_neg g1] at g
    by_cases g2 : z < y
    ·rw [if_pos g2] at g; simp at g
    ·rw [if_pos (by omega)]
  ·rw [if_neg h1] at h
   by_cases h2 : y < x
   ·rw [if_pos h2] at h; simp at h
   ·rw [if_neg h2] at h
    by_cases g1 : y < z
    ·rw [if_pos (by omega)]
    ·rw [if_neg g1] at g
     by_cases g2 : z < y
     ·rw [if_pos g2] at g; simp at g
     ·rw [if_neg g2] at g
      rw [if_neg (by omega), if_neg (by omega)]
      exact ih h g
theorem chk_first {k p : Int} : ∀ {q : List Int} {cs : List Cl}, chk k p (some q) cs = 0 → ∀ c ∈ cs, kl q c.key
 | _, [], _, c, hc => by cases hc
 | q, d :: r, h, c, hc => by
  unfold chk at h
  split at h
  ·split at h
   ·next h2 =>
    rcases List.mem_cons.1 hc with e | e
    ·rw [e]; exact h2
    ·exact kl_trans _ _ _ h2 (chk_first h c e)
   ·simp at h
  ·simp at h
theorem chk_rise {k p : Int} : ∀ {pr : Option (List Int)} {cs : List Cl}, chk k p pr cs = 0 → ∀ (i j : Nat) (c d : Cl), i < j → cs[i]? = some c → cs[j]? = some d → kl c.key d.key
 | _, [], _, i, j, c, d, _, hc, _ => by simp at hc
 | pr, e :: r, h, 0, j + 1, c, d, _, hc, hd => by
  unfold chk at h
  split at h
  ·split at h
   ·simp at hc
    subst hc
    exact chk_first h d (List.mem_of_getElem? (by simpa using hd))
   ·simp at h
  ·simp at h
 | pr, e :: r, h, i + 1, j + 1, c, d, hij, hc, hd => by
  unfold chk at h
  split at h
  ·split at h
   ·exact chk_rise h i j c d (by omega) (by simpa using hc) (by simpa using hd)
   ·simp at h
  ·simp at h
 | _, _ :: _, _, i, 0, _, _, hij, _, _ => by omega
theorem key_at (cs : List Cl) (i : Nat) (c : Cl) (h : cs[i]? = some c) (hf : c.fit) : ∃ r, pText ((bdy cs).drop ((bdy (cs.take i)).length + 1)) = some (c.key, r) := by
 obtain ⟨hi, e⟩ := List.getElem?_eq_some_iff.1 h
 have hd : (bdy cs).drop (bdy (cs.take i)).length = cB c ++ bdy (cs.drop (i + 1)) := by
  rw [bdy_drop, List.drop_eq_getElem_cons hi, e, bdy_cons]
 rw [← List.drop_drop, hd, cB]
 simp only [List.cons_append, List.nil_append, List.drop_succ_cons, List.drop_zero, List.append_assoc]
 exact ⟨_, pText_mid _ _ hf.key⟩
set_option maxHeartbeats 1000000 in
theorem keyAt_any (w : World) (a : Nat) (k : Int) (n : Nat) (bo : Option Addr) (bn bc : Nat) (so : Option Addr) (sn sc : Nat) (cs : List Cl) (h : PgAt w a k n bo bn bc so sn sc cs) (hfit : ∀ c ∈ cs, c.fit) (i : Nat) (c : Cl) (hci : cs[i]? = some c) (hsz : bn ≤ 65536) :
  Calls Tryz.prog 194 #[.pointer (some ⟨a, 0, none⟩), .int .i64 (((sts 0 cs).getD i 0 : Nat) : Int)] w fun e w' => ∃ ko kn kc, e = .returned (.slice ko kn kc) ∧ Hid (Sl w' ko kn kc c.key) ∧ Hid (Below w.heap.size w w') := by
 obtain ⟨hi, hce⟩ := List.getElem?_eq_some_iff.1 hci
 obtain ⟨hsn, hbn⟩ := h.sn_eq
 obtain ⟨c0, c1, c2, c3⟩ := h.cells
 rw [sts_get 0 i cs hi, Nat.zero_add]
 obtain ⟨r, hpt⟩ := key_at cs i c hci (hfit c (List.mem_of_getElem? hci))
 have hle : (bdy (cs.take i)).length + 1 ≤ bn := by
  have h1 := congrArg List.length (bdy_drop cs i)
  rw [List.drop_eq_getElem_cons hi, bdy_cons, List.length_drop, List.length_append] at h1
  have h2 := cB_length cs[i]
  have h3 : 2 < ctk cs[i] := by unfold ctk; split <;> omega
  omega
 obtain ⟨st, hst⟩ : ∃ st, (bdy (cs.take i)).length = st := ⟨_, rfl⟩
 rw [hst] at hpt hle ⊢
 obtain ⟨gb, off, rfl⟩ : ∃ gb off, bo = some ⟨gb, off, none⟩ := by
  rcases h.body.hat with h0 | ⟨b, off, e, _⟩
  ·omega
  ·exact ⟨b, off, e⟩
 have HSL := hidden h.body
 have HPT := hidden hpt
 have b1 : (st : Int) ≤ 65536 := by omega
 obtain ⟨st1, hst1⟩ : ∃ st1, st + 1 = st1 := ⟨_, rfl⟩
 have hstI : (st : Int) + 1 = (st1 : Int) := by omega
 rw [hst1] at HPT hle
 have HBN := hidden hbn
 clear h hci hi hce hfit hpt hst hsn hbn hst1
 go_enter Tryz.func194, Tryz.ntmps194
 have HTX : Hid (∀ x, x = w.alloc (.cells #[.slice (some ⟨gb, off, none⟩) bn bc, .int .i64 (st1 : Int), .bool false] 123) → Calls Tryz.prog 152 #[.pointer (some ⟨w.heap.size, 0, none⟩)] x fun e w' => ∃ ko kn kc, e = .returned (.slice ko kn kc) ∧ Hid (Sl w' ko kn kc c.key) ∧ Hid (Below w.heap.size w w')) := by
  refine hidden fun x hx => ?_
  have hbx : Below w.heap.size w x := by rw [hx]; exact bl_al (Below.refl _ _) (Nat.le_refl _) _
  have hrd : Rd x w.heap.size (some ⟨gb, off, none⟩) bn bc st1 false := by rw [hx]; exact heap_alloc_last w _
  refine (text_any (bdy cs) x w.heap.size gb off bn bc st1 false hrd (HSL.out.on (Nat.le_refl _) hbx) hle).mono ?_
  rintro e w' ⟨ko, kn, kc, p, en', t, rfl, _, HC, HQ⟩
  obtain ⟨hs, _, _, hcase⟩ := HQ.out
  rw [HPT.out] at hcase
  rcases hcase with ⟨h1, _⟩ | ⟨h1, _⟩
  ·injection h1 with h1
   injection h1 with h2 _
   subst h2
   exact ⟨ko, kn, kc, rfl, hidden hs, hidden (hbx.trans (HC.out.below hbx.size (by intro i hi e; omega)))⟩
  ·cases h1
 go_wp2_with (first | (go_at_call 152; refine (HTX.out _ rfl).mono ?_; rintro e w2 ⟨ko, kn, kc, rfl, HS2, HB2⟩))
 go_ret
 exact ⟨ko, kn, kc, rfl, HS2, HB2⟩
theorem find1_any (w : World) (a bx : Nat) (k : Int) (n : Nat) (bo : Option Addr) (bn bc : Nat) (so : Option Addr) (sn sc : Nat) (cs : List Cl) (h : PgAt w a k n bo bn bc so sn sc cs) (hfit : ∀ c ∈ cs, c.fit) (i : Nat) (c : Cl) (hci : cs[i]? = some c) (hsz : bn ≤ 65536) (qo : Option Addr) (qn qc : Nat) (q : List Int) (hq : Sl w qo qn qc q) (hbx : w.cell? ⟨bx, 0, none⟩ = some (.pointer (some ⟨a, 0, none⟩))) :
  Calls Tryz.prog 193 #[.int .i64 (((sts 0 cs).getD i 0 : Nat) : Int), .slice qo qn qc, .pointer (some ⟨bx, 0, none⟩)] w fun e w' => e = .returned (.int .i64 (ordL c.key q)) ∧ Hid (Below w.heap.size w w') := by
 have HK := hidden (keyAt_any w a k n bo bn bc so sn sc cs h hfit i c hci hsz)
 have HQ := hidden hq
 generalize (((sts 0 cs).getD i 0 : Nat) : Int) = st at *
 clear h hq
 go_enter Tryz.func193, Tryz.ntmps193
 go_wp2_with (first | (go_at_call 194; refine HK.out.mono ?_; rintro e w2 ⟨ko, kn, kc, rfl, HS2, HB2⟩) | (go_at_call 113; refine same_call (compare_any _ _ _ _ _ _ c.key q _ HS2.out (HQ.out.on (Nat.le_refl _) HB2.out)) ?_))
 go_ret
 exact ⟨rfl, HB2⟩
end Go.Proofs.YtlhkinlgolcpaaaGreatDoor
