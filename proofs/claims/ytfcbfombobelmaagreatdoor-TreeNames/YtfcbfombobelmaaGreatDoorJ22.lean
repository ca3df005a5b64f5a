/- plain.Page.replace upon an empty page. -/
import Derived.Test.YtfcbfombobelmaaGreatDoorJ21
namespace Go.Proofs.YtfcbfombobelmaaGreatDoor
open Go.RowKit

set_option maxRecDepth 100000 in
theorem Sl.far {w u : World} {ao : Option Addr} {n cap : Nat} {l l' : List Int} {v : Value} (h : Sl w ao n cap l) (ho : OwnB u w.heap.size v l') : Far ao n v := by
  rcases h.hat with h0 | ⟨b, off, rfl, hb, _⟩
  · exact .inl h0
  · refine ho.far fun p hp => ?_
    injection hp with hp
    subst hp
    exact hb
set_option maxRecDepth 100000 in
theorem Sl.apartPR {w : World} {ao : Option Addr} {n cap : Nat} {l : List Int} (h : Sl w ao n cap l) {a : Nat} {k : Int} {m : Nat} {x y : Option Addr} {b c d e : Nat} (hr : PR w a k m (.slice x b c) (.slice y d e)) : n = 0 ∨ ∀ p, ao = some p → ¬ p.block = a := by
  rcases h.hat with h0 | ⟨q, off, rfl, hg, hc⟩
  · exact .inl h0
  · rcases Nat.eq_zero_or_pos n with h0 | h0
    · exact .inl h0
    · right
      rintro p hp rfl
      injection hp with hp
      subst hp
      have h1 := hc 0 h0
      unfold PR at hr
      rw [cell_of_row _ _ _ _ _ _ hr] at h1
      rcases Nat.lt_or_ge (off + 0) 4 with h3 | h3
      · have h4 : off + 0 = 0 ∨ off + 0 = 1 ∨ off + 0 = 2 ∨ off + 0 = 3 := by omega
        rcases h4 with h4 | h4 | h4 | h4 <;> (rw [h4] at h1; simp at h1)
      · rw [Array.getElem?_eq_none (by simpa using h3)] at h1
        cases h1
set_option maxRecDepth 100000 in
theorem own_bn {w : World} {B C : Nat} {v u : Value} {l : List Int} {m : List Nat} (h : OwnB w B v l) (g : OwnN w C u m) : v.ownBlock = none ∨ v.ownBlock ≠ u.ownBlock := by
  unfold OwnB at h
  rcases h.2 with ⟨rfl, _⟩ | ⟨q, cap, cur, rfl, _, hh, _⟩
  · exact .inl rfl
  · right
    intro e
    exact g.apart hh (by decide) e.symm
set_option maxRecDepth 100000 in
theorem OwnN.be {w w' : World} {B : Nat} {v v' : Value} {l : List Nat} (h : OwnN w B v l) (hg : Gr w v w' v') (hB : B ≤ w.heap.size) : Below B w w' := own_below h hB hg.grow
set_option maxRecDepth 100000 in
theorem OwnB.slice {w : World} {B : Nat} {v : Value} {l : List Int} (h : OwnB w B v l) : ∃ ao cap, v = .slice ao l.length cap := by
  unfold OwnB at h
  rcases h.2 with ⟨rfl, h0⟩ | ⟨g, cap, cur, rfl, _⟩
  · exact ⟨none, 0, by rw [h0]⟩
  · exact ⟨_, cap, rfl⟩
set_option maxRecDepth 100000 in
theorem sln_one (w : World) (x : Nat) : ∀ i, i < 1 → (w.alloc (.cells #[.int .i64 (x : Int)] 3)).cell? ⟨w.heap.size, 0 + i, none⟩ = some (.int .i64 (([x].getD i 0 : Nat) : Int)) := by
  intro i hi
  obtain rfl : i = 0 := by omega
  simp
set_option maxRecDepth 100000 in
set_option maxHeartbeats 2000000 in
theorem replace_nil (w : World) (a : Nat) (k : Int) (n : Nat) (co : Option Addr) (cn cc : Nat) (cs : List Cl) (hr : PR w a k n (.slice none 0 0) (.slice none 0 0)) (hs : SlC w co cn cc cs) (hf : ∀ c ∈ cs, c.fit) (hz : szN cs ≤ 65536) :
    Calls Tryz.prog 101 #[.pointer (some ⟨a, 0, none⟩), .int .i64 0, .int .i64 0, .slice co cn cc] w fun e w' => e = .returned (.tuple #[]) ∧ Hid (Cf (· = a) w w') ∧ Hid (∃ bo bn bc so sn sc, PgAt w' a k n bo bn bc so sn sc cs) := by
  have HR := hidden hr
  have HS := hidden hs
  have HFIT := hidden hf
  have hz2 := szN_eq cs
  have hlen := hs.hlen
  have hcn : cn ≤ 65536 := by omega
  have HBL : Hid ((bdy cs).length ≤ 65536) := hidden (by omega)
  have HST := hidden (start_nil w a k n hr)
  have HLEN := hidden hlen
  obtain ⟨B, hB⟩ : ∃ B, w.heap.size = B := ⟨_, rfl⟩
  have HB := hidden hB
  clear hr hs hf hz hz2 hlen
  go_enter Tryz.func101, Tryz.ntmps101
  go_wp2_with (first | (go_at_call 132; refine same_call HST.out ?_))
  clear HST
  go_loopw [10, 11, 24] (fun vb vs i wr => ∃ (j : Nat) (bo : Option Addr) (bn bc : Nat) (so : Option Addr) (sn sc : Nat), j ≤ cn ∧ i = .int .i64 j ∧ vb = .slice bo bn bc ∧ vs = .slice so sn sc ∧ Hid (OwnB wr B (.slice bo bn bc) (bdy (cs.take j))) ∧ Hid (OwnN wr B (.slice so sn sc) (sts 0 (cs.take j))) ∧ Hid (Below B w wr)) (fun _ _ i _ => cn - (intOf i).toNat)
  case atStart => exact ⟨0, none, 0, 0, none, 0, 0, by omega, rfl, rfl, rfl, hidden (by simpa [bdy] using OwnB.nil w B), hidden (by simpa [sts] using OwnN.nil w B), hidden (Below.refl _ _)⟩
  case round =>
    obtain ⟨j, bo, bn, bc, so, sn, sc, hj, rfl, rfl, rfl, HOB, HON, HBE⟩ := hrel
    have bj : (j : Int) ≤ 65536 := by omega
    by_cases hlt : j < cn
    · have hltI : (j : Int) < (cn : Int) := by omega
      obtain ⟨b, off, c, ka, kc, va, vc, rfl, hb, hci, c0, c1, c2, c3, c4, hk, hv⟩ := HS.out.item j hlt
      have hbw := HBE.out
      rw [← HB.out] at hbw
      have d0 := (hbw.cell (p := ⟨b, off + j * 5, none⟩) hb).trans c0
      have d1 := (hbw.cell (p := ⟨b, off + j * 5 + 1, none⟩) hb).trans c1
      have d2 := (hbw.cell (p := ⟨b, off + j * 5 + 2, none⟩) hb).trans c2
      have d3 := (hbw.cell (p := ⟨b, off + j * 5 + 3, none⟩) hb).trans c3
      have d4 := (hbw.cell (p := ⟨b, off + j * 5 + 4, none⟩) hb).trans c4
      have HK := hidden hk
      have HV := hidden hv
      have hcf := HFIT.out c (List.mem_of_getElem? hci)
      have HCF := hidden hcf
      have HTK : Hid (bdy (cs.take (j + 1)) = bdy (cs.take j) ++ cB c ∧ sts 0 (cs.take (j + 1)) = sts 0 (cs.take j) ++ [bn]) := by
        have e : cs.take (j + 1) = cs.take j ++ [c] := by rw [List.take_add_one, hci]; rfl
        have hbn : bn = (bdy (cs.take j)).length := by
          obtain ⟨x, y, hxy⟩ := HOB.out.slice
          injection hxy
        refine hidden ⟨by rw [e, bdy_append]; simp [bdy], ?_⟩
        rw [e, sts_append, Nat.zero_add, hbn]
        rfl
      have hbl2 := bdy_take_le cs j
      have hbn2 : bn ≤ 65536 := by
        obtain ⟨x, y, hxy⟩ := HOB.out.slice
        injection hxy with _ h2
        have := HBL.out
        omega
      have bbn : (bn : Int) ≤ 65536 := by omega
      have HBNL : Hid ((bdy (cs.take j)).length ≤ 65536) := hidden (Nat.le_trans hbl2 HBL.out)
      have HSTL : Hid ((sts 0 (cs.take j)).length + 1 ≤ 1000000) := hidden (by rw [sts_length, List.length_take]; omega)
      obtain ⟨x, hx⟩ : ∃ x, (wr.alloc (.cells #[.slice ka c.key.length kc, .int .i64 c.kd, .slice va c.val.length vc, .int .i64 c.pg, .int .i64 c.ct] 29)).alloc (.cells #[.int .i64 (bn : Int)] 3) = x := ⟨_, rfl⟩
      have hbx : Below wr.heap.size wr x := by rw [← hx]; exact bl_al (bl_al (Below.refl _ _) (Nat.le_refl _) _) (Nat.le_refl _) _
      obtain ⟨s, hss⟩ : ∃ s, wr.heap.size = s := ⟨_, rfl⟩
      have HBOX : Hid (C5 x s (.slice ka c.key.length kc) (.int .i64 c.kd) (.slice va c.val.length vc) (.int .i64 c.pg) (.int .i64 c.ct)) := by
        rw [← hx, ← hss]
        exact hidden ((Below.heap_alloc _ _ _ (by simp)).trans (heap_alloc_last wr _))
      have H1 : Hid (∀ i, i < 1 → x.cell? ⟨s + 1, 0 + i, none⟩ = some (.int .i64 (([bn].getD i 0 : Nat) : Int))) := by
        have := sln_one (wr.alloc (.cells #[.slice ka c.key.length kc, .int .i64 c.kd, .slice va c.val.length vc, .int .i64 c.pg, .int .i64 c.ct] 29)) bn
        rw [hx] at this
        rw [← hss]
        exact hidden (by simpa using this)
      have HON1 := hidden (HON.out.below hbx)
      have HOB1 : Hid (OwnB x B (.slice bo bn bc) (bdy (cs.take j))) := hidden (HOB.out.on (Nat.le_refl _) hbx)
      have hBx : B ≤ x.heap.size := Nat.le_trans (by rw [← HB.out]; exact hbw.size) hbx.size
      have HBX : Hid (Below B w x) := hidden (HBE.out.trans (hbx.mono (by rw [← HB.out]; exact hbw.size)))
      clear hb hci c0 c1 c2 c3 c4 hk hv hcf hbl2 hbx hbw HOB HON HBE
      go_wp2_with (at_builtin; refine app_slN _ rfl _ _ rfl B (sts 0 (cs.take j)) [bn] (.slice so sn sc) (s + 1) 0 1 1 rfl rfl HON1.out rfl H1.out HSTL.out hBx ?_; refine Hid.out ?_)
      apply hidden
      intro v2 w2 ho2 g2
      obtain ⟨so2, sc2, rfl, _⟩ := ho2.sln (by rw [List.length_append]; have := HSTL.out; simp; omega)
      obtain ⟨sn2, hsn2⟩ : ∃ sn2, (sts 0 (cs.take j) ++ [bn]).length = sn2 := ⟨_, rfl⟩
      rw [hsn2] at ho2 g2 ⊢
      have HON2 := hidden ho2
      have HB2 : Hid (Below B w w2) := hidden (HBX.out.trans (HON1.out.be g2 hBx))
      have HOB2 : Hid (OwnB w2 B (.slice bo bn bc) (bdy (cs.take j))) := hidden (World.ownsRow.kept HOB1.out g2.grow (own_bn HOB1.out HON1.out))
      have HBOX2 : Hid (C5 w2 s (.slice ka c.key.length kc) (.int .i64 c.kd) (.slice va c.val.length vc) (.int .i64 c.pg) (.int .i64 c.ct)) := hidden (HBOX.out.gr g2 (HON1.out.apart HBOX.out (by decide)))
      have hB2 : B ≤ w2.heap.size := by have := HB2.out.size; have := HB.out; omega
      have hbw2 : Below w.heap.size w w2 := by rw [HB.out]; exact HB2.out
      have HK2 : Hid (Sl w2 ka c.key.length kc c.key) := hidden (HK.out.on (Nat.le_refl _) hbw2)
      have HV2 : Hid (Sl w2 va c.val.length vc c.val) := hidden (HV.out.on (Nat.le_refl _) hbw2)
      have hob : OwnB w2 w.heap.size (.slice bo bn bc) (bdy (cs.take j)) := by rw [HB.out]; exact HOB2.out
      have HT := hidden (appended_any (.slice bo bn bc) B (bdy (cs.take j)) ka c.key.length kc c.kd va c.val.length vc c.pg c.ct c.key c.val w2 HOB2.out hB2 HK2.out HV2.out (HK.out.far hob) (HV.out.far hob) HCF.out.pg HCF.out.ct (by have := HBNL.out; have := HCF.out.key; have := HCF.out.val; omega))
      obtain ⟨c0, c1, c2, c3, c4⟩ := HBOX2.out.cells
      clear ho2 g2 hsn2 hbw2 hob hx hss H1 HON1 HOB1 HBOX d0 d1 d2 d3 d4 hBx HBX
      go_wp2_with (first | (go_at_call 133; refine HT.out.mono ?_; rintro e w3 ⟨v3, rfl, HO3, HG3⟩; refine Hid.out ?_))
      apply hidden
      obtain ⟨bo3, bc3, rfl⟩ := HO3.out.slice
      obtain ⟨bn3, hbn3⟩ : ∃ bn3, (bdy (cs.take j) ++ cB ⟨c.key, c.kd, c.val, c.pg, c.ct⟩).length = bn3 := ⟨_, rfl⟩
      rw [hbn3] at HO3 HG3 ⊢
      have HON3 : Hid (OwnN w3 B (.slice so2 sn2 sc2) (sts 0 (cs.take j) ++ [bn])) := hidden (World.ownsRow.kept HON2.out HG3.out.grow (by
        rcases own_bn HOB2.out HON2.out with h | h
        · cases hv : (Value.slice so2 sn2 sc2).ownBlock with
          | none => exact .inl rfl
          | some q => right; rw [h]; simp
        · exact .inr (fun e => h e.symm)))
      have HB3 : Hid (Below B w w3) := hidden (HB2.out.trans (HG3.out.below HOB2.out hB2))
      have HOB3 : Hid (OwnB w3 B (.slice bo3 bn3 bc3) (bdy (cs.take (j + 1)))) := hidden (by rw [HTK.out.1]; exact HO3.out)
      have HON4 : Hid (OwnN w3 B (.slice so2 sn2 sc2) (sts 0 (cs.take (j + 1)))) := hidden (by rw [HTK.out.2]; exact HON3.out)
      clear HT HO3 HG3 hbn3 c0 c1 c2 c3 c4 HBOX2 HK2 HV2 HOB2 HON2 HON3
      go_wp2
      go_roundw
      case rel => exact ⟨j + 1, bo3, bn3, bc3, so2, sn2, sc2, by omega, by go_num, rfl, rfl, HOB3, HON4, HB3⟩
      case measure => simp [intOf]; omega
    · obtain rfl : j = cn := by omega
      have hlI : ¬ (j : Int) < (j : Int) := by omega
      have htk : cs.take j = cs := List.take_of_length_le (by rw [HLEN.out]; exact Nat.le_refl _)
      rw [htk] at HOB HON
      have hbw : Below w.heap.size w wr := by rw [HB.out]; exact HBE.out
      have HWF : Hid (Wf (bdy cs)) := hidden (bdy_wf HS.out.wf)
      have HSB : Hid (Sl wr bo bn bc (bdy cs)) := by
        obtain ⟨x, y, hxy, hsl, _⟩ := HOB.out.sl HWF.out (by have := HBL.out; omega)
        injection hxy with e1 e2 e3
        subst e1 e2 e3
        exact hidden hsl
      have HSNN : Hid (SlN wr so sn sc (sts 0 cs)) := by
        obtain ⟨x, y, hxy, hsl⟩ := HON.out.sln (by rw [sts_length, HLEN.out]; omega)
        injection hxy with e1 e2 e3
        subst e1 e2 e3
        exact hidden hsl
      have hsn : sn ≤ 1000000 := by have := HSNN.out.hlen; rw [sts_length, HLEN.out] at this; omega
      have HRW : Hid (PR wr a k n (.slice none 0 0) (.slice none 0 0)) := hidden (box_on HR.out hbw)
      obtain ⟨c0, c1, c2, c3⟩ := HRW.out.cells
      have HRB := hidden (repB_nil bo bn bc (bdy cs) wr HSB.out)
      clear htk
      go_wp2_with (first | (go_at_call 134; refine HRB.out.mono ?_; rintro e w2 ⟨v2, rfl, HO2, HB2⟩; refine Hid.out ?_))
      apply hidden
      obtain ⟨bo2, bc2, rfl⟩ := HO2.out.slice
      obtain ⟨bn2, hbn2⟩ : ∃ bn2, (bdy cs).length = bn2 := ⟨_, rfl⟩
      rw [hbn2] at HO2 ⊢
      have HRW2 : Hid (PR w2 a k n (.slice none 0 0) (.slice none 0 0)) := hidden (box_on HRW.out HB2.out)
      clear c0 c1 c2 c3 HRB
      obtain ⟨c0, c1, c2, c3⟩ := HRW2.out.cells
      have f2 := HRW2.out.free 2
      have HRW3 : Hid (PR (w2.setCell ⟨a, 2, none⟩ (.slice bo2 bn2 bc2)) a k n (.slice bo2 bn2 bc2) (.slice none 0 0)) := hidden (HRW2.out.set2 _)
      have HO3 : Hid (OwnB (w2.setCell ⟨a, 2, none⟩ (.slice bo2 bn2 bc2)) wr.heap.size (.slice bo2 bn2 bc2) (bdy cs)) := by
        refine hidden (World.ownsRow.kept (row := some a) HO2.out ⟨rfl, rfl, rfl, by simp [World.setCell], fun i _ hi => Below.heap_setCell _ _ _ _ (fun e => hi (by rw [e]))⟩ (.inr ?_))
        intro e
        have h1 := (HO2.out.lt a e).1
        have h2 := lt_some HRW.out
        omega
      have HSN3 : Hid (SlN (w2.setCell ⟨a, 2, none⟩ (.slice bo2 bn2 bc2)) so sn sc (sts 0 cs)) := by
        have o1 := HON.out.below HB2.out
        have hrow := HRW2.out
        unfold PR at hrow
        have o2 := o1.cf (Cf.set w2 a 2 (.slice bo2 bn2 bc2)) (o1.apart hrow (by decide))
        obtain ⟨x, y, hxy, hsl⟩ := o2.sln (by rw [sts_length, HLEN.out]; omega)
        injection hxy with e1 e2 e3
        subst e1 e2 e3
        exact hidden hsl
      have HCF3 : Hid (Cf (· = a) w (w2.setCell ⟨a, 2, none⟩ (.slice bo2 bn2 bc2))) := hidden (((Cf.of_below hbw).go (Cf.of_below HB2.out)).go (Cf.set _ _ _ _))
      obtain ⟨u3, hu3⟩ : ∃ u3, w2.setCell ⟨a, 2, none⟩ (.slice bo2 bn2 bc2) = u3 := ⟨_, rfl⟩
      rw [hu3] at HRW3 HO3 HSN3 HCF3
      obtain ⟨d0, d1, d2, d3⟩ := HRW3.out.cells
      have HRN := hidden (repN_nil so sn sc (sts 0 cs) u3 HSN3.out hsn)
      clear hbw
      go_wp2_with (first | (go_at_call 135; refine HRN.out.mono ?_; rintro e w4 ⟨v4, rfl, HO4, HB4⟩; refine Hid.out ?_))
      apply hidden
      clear c0 c1 c2 c3 f2 d0 d1 d2 d3 HRN hu3
      obtain ⟨so4, sc4, rfl, _⟩ := HO4.out.sln (by rw [sts_length, HLEN.out]; omega)
      obtain ⟨sn4, hsn4⟩ : ∃ sn4, (sts 0 cs).length = sn4 := ⟨_, rfl⟩
      rw [hsn4] at HO4 ⊢
      have hsn5 : sn4 = j := by rw [← hsn4, sts_length, HLEN.out]
      have HRW4 : Hid (PR w4 a k n (.slice bo2 bn2 bc2) (.slice none 0 0)) := hidden (box_on HRW3.out HB4.out)
      obtain ⟨c0, c1, c2, c3⟩ := HRW4.out.cells
      have f3 := HRW4.out.free 3
      have HRW5 : Hid (PR (w4.setCell ⟨a, 3, none⟩ (.slice so4 sn4 sc4)) a k n (.slice bo2 bn2 bc2) (.slice so4 sn4 sc4)) := hidden (HRW4.out.set3 _)
      have HFIN : Hid (Cf (· = a) w (w4.setCell ⟨a, 3, none⟩ (.slice so4 sn4 sc4)) ∧ ∃ bo bn bc so sn sc, PgAt (w4.setCell ⟨a, 3, none⟩ (.slice so4 sn4 sc4)) a k n bo bn bc so sn sc cs) := by
        have hrow := HRW4.out
        unfold PR at hrow
        have hc := Cf.set w4 a 3 (.slice so4 sn4 sc4)
        have o1 := HO4.out.cf hc (HO4.out.apart hrow (by decide))
        obtain ⟨x, y, hxy, hsl⟩ := o1.sln (by rw [sts_length, HLEN.out]; omega)
        injection hxy with e1 e2 e3
        subst e1 e2 e3
        have hb4 : OwnB w4 wr.heap.size (.slice bo2 bn2 bc2) (bdy cs) := HO3.out.on (Nat.le_refl _) HB4.out
        obtain ⟨x', y', hxy', hsl', _⟩ := hb4.sl HWF.out (by have := HBL.out; omega)
        injection hxy' with e1 e2 e3
        subst e1 e2 e3
        exact hidden ⟨(HCF3.out.go (Cf.of_below HB4.out)).go hc, _, _, _, _, _, _, HRW5.out, hsl'.cf hc (hsl'.apartPR HRW4.out), hsl⟩
      obtain ⟨c5, c6, c7, c8⟩ := HRW5.out.cells
      have bs4 : (sn4 : Int) ≤ 65536 := by omega
      have bb2 : (bn : Int) ≤ 140737488355328 := by have := HSB.out.hroom; omega
      obtain ⟨u5, hu5⟩ : ∃ u5, w4.setCell ⟨a, 3, none⟩ (.slice so4 sn4 sc4) = u5 := ⟨_, rfl⟩
      rw [hu5] at HRW5 HFIN c5 c6 c7 c8
      subst hsn5
      clear hsn4
      go_wp2_with fail
      go_loopw [15] (fun v wx => v = .int .i64 (sn4 : Int) ∧ wx = u5) (fun _ _ => 0)
      case atStart => exact ⟨rfl, by first | rfl | exact hu5⟩
      case round =>
        obtain ⟨rfl, rfl⟩ := hrel
        go_wp2
        go_returns
        exact ⟨rfl, hidden HFIN.out.1, hidden HFIN.out.2⟩
end Go.Proofs.YtfcbfombobelmaaGreatDoor
