/- Layer 12: climb; a change of a tree of one leaf of one cell. -/
import Derived.Test.YtfcbfombobelmaaGreatDoorJ40
import Derived.Test.YtfcbfombobelmaaGreatDoorJ27
namespace Go.Proofs.YtfcbfombobelmaaGreatDoor
open Go.RowKit

set_option maxRecDepth 100000 in
set_option maxHeartbeats 2000000 in
theorem climb_1 (w : World) (p b m : Nat) (rd root : Int) (M : Int → Option Pf) (ct : Nat) (hc : Chg w p b (.slice none 0 0)) (hb : Bq w b m rd M ct) (ht : TB w b m) (hpb : p ≠ b ∧ p ≠ m) (gw cw Bw a r : Nat) (hw : Wy w Bw gw cw root a r)
    (B : Nat) (vb vs : Value) (ds : List Cl) (hp : Po w B a 2 512 vb vs ds) (ao : Option Addr) (cap : Nat) (cs : List Cl) (hcs : SlC w ao 1 cap cs) (gd : Gd1 cs) (hM : (M root).isSome = true) (hlen : ∀ k f, M k = some f → 0 < f.l.length) (hr : (Lit.int .i64 root).wf = true) (hct : ct < 999999) :
    Calls Tryz.prog 49 #[.pointer (some ⟨p, 0, none⟩), .slice (some ⟨gw, 0, none⟩) 1 cw, .slice ao 1 cap] w fun e w' => e = .returned (.int .i64 root) ∧ Hid (Cf (Bo b m) w w' ∧ ∃ f : Pf, f.l = pgB 2 512 cs ∧ w.heap.size ≤ f.g ∧ Bq w' b m rd (putM M root f) ct) := by
  have HAB := hidden (above_0 w Bw gw cw root a r hw)
  have HLT : Hid (b < w.heap.size ∧ m < w.heap.size) := hidden ⟨hb.lt, hb.mlt⟩
  have HRN : Hid (∀ u s, Below w.heap.size w u → C5 u s (.slice none 0 0) (.int .i64 3) (.slice none 0 0) (.int .i64 root) (.int .i64 0) → w.heap.size ≤ s → Calls Tryz.prog 60 #[.pointer (some ⟨p, 0, none⟩), .slice (some ⟨s, 0, none⟩) 1 1, .int .i64 0, iP a, .slice ao 1 cap] u fun e w' => ∃ g c, e = .returned (.slice (some ⟨g, 0, none⟩) 1 c) ∧ Hid (RnTo b m rd root M ct cs u g c w')) := hidden fun u s hu hs hle => by
    obtain ⟨l1, l2⟩ := HLT.out
    exact renewed_1 u p b m rd root M ct (box_on hc hu) (hb.on hu) (ht.go (Cf.of_below hu)) hpb s hs ⟨by omega, by omega⟩ a B vb vs ds (hp.on hu) ao cap cs (hcs.on hu) gd hM hlen hr hct
  obtain ⟨d0, d1, d2, hc1⟩ := hw.cells
  have HD1 : Hid (∀ u, Below w.heap.size w u → u.cell? ⟨gw, 1, none⟩ = some (iP a)) := hidden fun u hu => (hw.on hu).cells.2.1
  clear hc hb ht hpb hp hcs gd hM hlen hr hw d0 d1 d2
  go_enter Tryz.func49, Tryz.ntmps49
  go_wp2_with fail
  go_loopw [2, 7, 8, 9, 10] (fun s2 s7 s8 s9 s10 wr => (s2 = .slice ao 1 cap ∧ s7 = .int .i64 0 ∧ wr = w) ∨ (∃ g c, s2 = .slice (some ⟨g, 0, none⟩) 1 c ∧ s7 = .int .i64 (-1) ∧ Hid (RnTo b m rd root M ct cs w g c wr))) (fun _ s7 _ _ _ _ => (intOf s7 + 1).toNat)
  case atStart => exact .inl ⟨rfl, rfl, by first | rfl | trivial⟩
  case round =>
    rcases hrel with ⟨rfl, rfl, rfl⟩ | ⟨g, c, rfl, rfl, HF⟩
    · go_wp2_with (first | (go_at_call 59; refine HAB.out.mono ?_; rintro e w1 ⟨s, rfl, HQ1, HB1⟩; refine Hid.out ?_))
      apply hidden
      have z1 := HD1.out w1 HB1.out
      have HR1 := hidden (HRN.out w1 s HB1.out HQ1.out.1 HQ1.out.2)
      clear HAB HRN HD1
      go_wp2_with (first | (go_at_call 60; refine HR1.out.mono ?_; rintro e w2 ⟨g, c, rfl, HQ2⟩; refine Hid.out ?_))
      apply hidden
      have HEQ : Hid (Calls Tryz.prog 61 #[.slice (some ⟨g, 0, none⟩) 1 c, .slice (some ⟨s, 0, none⟩) 1 1, .func (.func 62) #[] #[]] w2 fun e w' => e = .returned (.bool false) ∧ Hid (RnTo b m rd root M ct cs wr g c w')) := hidden (by
        obtain ⟨q1, q2, f, q3, q4, q5⟩ := HQ2.out
        obtain ⟨l1, l2⟩ := HLT.out
        have hw1 := HB1.out.size
        have hss := HQ1.out.2
        have hs2 : C5 w2 s _ _ _ _ _ := (q2.block s (lt_some HQ1.out.1) (by rintro (e | e) <;> omega)).trans HQ1.out.1
        refine (equalF_1 w2 g c s 1 none 0 0 3 none 0 0 root none 0 0 3 none 0 0 1 (by omega) (fun j u hj => ?_) hs2).mono ?_
        · have h := q1.cells (g := g) rfl j u hj
          rwa [Addr.add_lit, Nat.zero_add] at h
        · rintro e w' ⟨rfl, HB⟩
          refine ⟨rfl, hidden ⟨own_low (World.ownsRow.kept (row := none) q1 ⟨HB.out.os, HB.out.tape, HB.out.output, HB.out.size, fun k hk _ => HB.out.block k hk⟩ (.inr (by simp [Value.ownBlock]))) hw1, ((Cf.of_below HB1.out).go q2).go (Cf.of_below HB.out), f, q3, Nat.le_trans hw1 q4, q5.on HB.out⟩⟩)
      clear HR1 z1 HQ2
      go_wp2_with (first | (go_at_call 61; refine HEQ.out.mono ?_; rintro e w3 ⟨rfl, HQ3⟩))
      go_roundw
      case rel => exact .inr ⟨g, c, rfl, rfl, HQ3⟩
      case measure => simp [intOf]
    · have c3 := HF.out.1.cellAt 3 (by omega)
      simp at c3
      go_wp2
      go_ret
      exact ⟨rfl, hidden HF.out.2⟩
set_option maxRecDepth 100000 in
set_option maxHeartbeats 2000000 in
theorem climb_0 (w : World) (p b : Nat) (root : Int) (hc : Chg w p b (.slice none 0 0)) (gw cw Bw a r : Nat) (hw : Wy w Bw gw cw root a r)
    (B : Nat) (vb vs : Value) (ds : List Cl) (hp : Po w B a 2 512 vb vs ds) (ao : Option Addr) (cap : Nat) :
    Calls Tryz.prog 49 #[.pointer (some ⟨p, 0, none⟩), .slice (some ⟨gw, 0, none⟩) 1 cw, .slice ao 0 cap] w fun e w' => e = .returned (.int .i64 0) ∧ Hid (∃ g c, Pg1 w' w.heap.size g c root ∧ Chg w' p b (.slice (some ⟨g, 0, none⟩) 1 c) ∧ Cf (· = p) w w') := by
  have HAB := hidden (above_0 w Bw gw cw root a r hw)
  have hpl := lt_some hc
  have HRN : Hid (∀ u s, Below w.heap.size w u → C5 u s (.slice none 0 0) (.int .i64 3) (.slice none 0 0) (.int .i64 root) (.int .i64 0) → w.heap.size ≤ s → Calls Tryz.prog 60 #[.pointer (some ⟨p, 0, none⟩), .slice (some ⟨s, 0, none⟩) 1 1, .int .i64 0, iP a, .slice ao 0 cap] u fun e w' => e = .returned (.slice none 0 0) ∧ Hid (∃ g c, Pg1 w' w.heap.size g c root ∧ Chg w' p b (.slice (some ⟨g, 0, none⟩) 1 c) ∧ Cf (· = p) w w')) := hidden fun u s hu hs hle => by
    refine (renewed_0 u p b root (box_on hc hu) s hs (by omega) a B vb vs ds (hp.on hu) ao cap).mono ?_
    rintro e w' ⟨rfl, HQ⟩
    obtain ⟨g, c, h1, h2, h3⟩ := HQ.out
    exact ⟨rfl, hidden ⟨g, c, own_low h1 hu.size, h2, (Cf.of_below hu).go h3⟩⟩
  obtain ⟨d0, d1, d2, hc1⟩ := hw.cells
  have HD1 : Hid (∀ u, Below w.heap.size w u → u.cell? ⟨gw, 1, none⟩ = some (iP a)) := hidden fun u hu => (hw.on hu).cells.2.1
  clear hc hp hw d0 d1 d2 hpl
  go_enter Tryz.func49, Tryz.ntmps49
  go_wp2_with fail
  go_loopw [2, 7, 8, 9, 10] (fun s2 s7 s8 s9 s10 wr => (s2 = .slice ao 0 cap ∧ s7 = .int .i64 0 ∧ wr = w) ∨ (s2 = .slice none 0 0 ∧ s7 = .int .i64 (-1) ∧ Hid (∃ g c, Pg1 wr w.heap.size g c root ∧ Chg wr p b (.slice (some ⟨g, 0, none⟩) 1 c) ∧ Cf (· = p) w wr))) (fun _ s7 _ _ _ _ => (intOf s7 + 1).toNat)
  case atStart => exact .inl ⟨rfl, rfl, by first | rfl | trivial⟩
  case round =>
    rcases hrel with ⟨rfl, rfl, rfl⟩ | ⟨rfl, rfl, HF⟩
    · go_wp2_with (first | (go_at_call 59; refine HAB.out.mono ?_; rintro e w1 ⟨s, rfl, HQ1, HB1⟩; refine Hid.out ?_))
      apply hidden
      have z1 := HD1.out w1 HB1.out
      have HR1 := hidden (HRN.out w1 s HB1.out HQ1.out.1 HQ1.out.2)
      clear HAB HRN HD1
      go_wp2_with (first | (go_at_call 60; refine HR1.out.mono ?_; rintro e w2 ⟨rfl, HQ2⟩) | (go_at_call 61; refine same_call (equalF_len _ none 0 0 _ 1 _ _ (by omega)) ?_))
      go_roundw
      case rel => exact .inr ⟨rfl, rfl, HQ2⟩
      case measure => simp [intOf]
    · go_wp2
      go_ret
      exact ⟨rfl, HF⟩
set_option maxRecDepth 100000 in
/-- A row of one cell as a slice of cells. -/
theorem slc_c5 {u : World} {g : Nat} {ka va : Option Addr} {kn kc vn vc : Nat} {kd pg ct : Int} {key val : List Int} (hk : Sl u ka kn kc key) (hv : Sl u va vn vc val) (hb5 : C5 u g (.slice ka kn kc) (.int .i64 kd) (.slice va vn vc) (.int .i64 pg) (.int .i64 ct)) :
    SlC u (some ⟨g, 0, none⟩) 1 1 [⟨key, kd, val, pg, ct⟩] := by
  obtain ⟨e0, e1, e2, e3, e4⟩ := hb5.cells
  refine ⟨rfl, Nat.le_refl _, by omega, (by intro h; cases h), .inr ⟨g, 0, rfl, lt_some hb5, fun i c hc => ?_⟩⟩
  have hi : i = 0 := by have := (List.getElem?_eq_some_iff.1 hc).1; simpa using this
  subst hi
  simp only [List.getElem?_cons_zero, Option.some.injEq] at hc
  subst hc
  refine ⟨ka, kc, va, vc, ?_, e1, ?_, e3, e4, ?_, ?_⟩
  · rw [hk.hlen]; exact e0
  · rw [hv.hlen]; exact e2
  · rw [hk.hlen]; exact hk
  · rw [hv.hlen]; exact hv
set_option maxRecDepth 100000 in
set_option maxHeartbeats 4000000 in
theorem changeLeaf_1 (w : World) (b m : Nat) (rd root : Int) (M : Int → Option Pf) (ct : Nat) (hb : Bq w b m rd M ct) (ht : TB w b m) (gw cw Bw a : Nat) (hw : Wy w Bw gw cw root a 0)
    (B : Nat) (vb vs : Value) (d : Cl) (hp : Po w B a 2 512 vb vs [d]) (gd1 : Gd1 [d]) (ko : Option Addr) (kn kc : Nat) (kd : Int) (vo : Option Addr) (vn vc : Nat) (pg cn : Int) (h hc : Nat) (key val : List Int) (ka va : Option Addr) (kc' vc' : Nat)
    (hx : C5 w h (.slice ka key.length kc') (.int .i64 1) (.slice va val.length vc') (.int .i64 0) (.int .i64 0)) (hk : KS w b m ka key.length kc' key) (hv : KS w b m va val.length vc' val) (gd : Gd1 [⟨key, 1, val, 0, 0⟩]) (hM : (M root).isSome = true) (hlen : ∀ k f, M k = some f → 0 < f.l.length) (hr : (Lit.int .i64 root).wf = true) (hct : ct < 999999) :
    Calls Tryz.prog 32 #[iB b, .slice (some ⟨gw, 0, none⟩) 1 cw, .agg #[.slice ko kn kc, .int .i64 kd, .slice vo vn vc, .int .i64 pg, .int .i64 cn, .bool true], .slice (some ⟨h, 0, none⟩) 1 hc] w fun e w' => e = .returned (.int .i64 root) ∧ Hid (Cf (Bo b m) w w' ∧ ∃ f : Pf, f.l = pgB 2 512 [⟨key, 1, val, 0, 0⟩] ∧ w.heap.size ≤ f.g ∧ Bq w' b m rd (putM M root f) ct) := by
  obtain ⟨s, hs⟩ : ∃ s, w.heap.size = s := ⟨_, rfl⟩
  obtain ⟨x, hx1⟩ : ∃ x, (w.alloc (.cells #[.slice ko kn kc, .int .i64 kd, .slice vo vn vc, .int .i64 pg, .int .i64 cn, .bool true] 46)).alloc (.cells #[iB b, .slice none 0 0] 86) = x := ⟨_, rfl⟩
  have hbx : Below w.heap.size w x := by rw [← hx1]; exact bl_al (bl_al (Below.refl _ _) (Nat.le_refl _) _) (Nat.le_refl _) _
  have hch : Chg x (s + 1) b (.slice none 0 0) := by
    unfold Chg
    rw [← hx1, ← hs]
    have := heap_alloc_last (w.alloc (.cells #[.slice ko kn kc, .int .i64 kd, .slice vo vn vc, .int .i64 pg, .int .i64 cn, .bool true] 46)) (.cells #[iB b, .slice none 0 0] 86)
    simp only [World.size_alloc] at this
    exact this
  have hfo : QV6F x s (.slice ko kn kc) (.int .i64 kd) (.slice vo vn vc) (.int .i64 pg) (.int .i64 cn) (.bool true) := by
    unfold QV6F
    rw [← hx1, ← hs]
    refine (Below.heap_alloc _ _ _ (by simp)).trans (heap_alloc_last w _)
  have hxs : x.heap.size = s + 2 := by rw [← hx1, ← hs]; simp
  obtain ⟨c0, c1, c2, hc1⟩ := (hw.on hbx).cells
  have HBX := hidden hbx
  have HCH := hidden hch
  have HFO := hidden hfo
  have HB := hidden hb
  have HT := hidden ht
  have HW := hidden hw
  have HP := hidden hp
  have HG1 := hidden gd1
  have HX := hidden hx
  have HKV := hidden (And.intro hk hv)
  have HGD := hidden gd
  have HM := hidden (And.intro hM hlen)
  have HR := hidden hr
  have HNUM : Hid (b < s ∧ m < s ∧ x.heap.size = s + 2 ∧ w.heap.size = s) := hidden ⟨by have := hb.lt; omega, by have := hb.mlt; omega, hxs, hs⟩
  clear hbx hch hfo hb ht hw hp gd1 hx hk hv gd hM hlen hr hxs
  go_enter Tryz.func32, Tryz.ntmps32
  go_upto_region 5 with fail
  obtain ⟨y, hy⟩ : ∃ y, x.alloc (.cells #[.int .i64 root, iP a, .int .i64 0] 89) = y := ⟨_, rfl⟩
  obtain ⟨t, ht⟩ : ∃ t, x.heap.size = t := ⟨_, rfl⟩
  have hby : Below x.heap.size x y := by rw [← hy]; exact bl_al (Below.refl _ _) (Nat.le_refl _) _
  have hry : y.heap[t]? = some (.cells #[.int .i64 root, iP a, .int .i64 0] 89 (0, 0)) := by rw [← hy, ← ht]; exact heap_alloc_last x _
  have HRY := hidden hry
  have e2 : ∀ z, (y.drewN z).cell? ⟨t, 2, none⟩ = some (.int .i64 0) := fun z => by
    have h := cell_of_row (y.drewN z) t 2 _ _ _ hry
    simpa using h
  have e20 := e2 0
  have HBY := hidden hby
  rw [hy, ht]
  clear hx1 hy hby hry c0 c1 c2
  go_quiet (fail)
  obtain ⟨v, hv⟩ : ∃ v, y.drewN nq = v := ⟨_, rfl⟩
  have hbv : Below x.heap.size x v := by rw [← hv]; exact bl_dr HBY.out _
  have e1 : v.cell? ⟨t, 1, none⟩ = some (iP a) := by
    rw [← hv]
    have h := cell_of_row (y.drewN nq) t 1 _ _ _ HRY.out
    simpa using h
  have e5 : v.cell? ⟨s, 5, none⟩ = some (.bool true) := by
    have h := (show QV6F v s _ _ _ _ _ _ from box_on HFO.out hbv)
    unfold QV6F at h
    rw [cell_of_row _ _ 5 _ _ _ h]
    rfl
  have HBV := hidden hbv
  have HWV : Hid (Below w.heap.size w v) := hidden (bl_go HBX.out (Nat.le_refl _) hbv)
  have HNC : Hid (Calls Tryz.prog 51 #[iP a] v fun e w' => ∃ g, e = .returned (.slice (some ⟨g, 0, none⟩) 1 1) ∧ Hid (v.heap.size ≤ g ∧ RowC w' g 1) ∧ Hid (Below v.heap.size v w')) := hidden (by
    refine (ncells_P v B a 2 512 vb vs [d] (HP.out.on HWV.out) HG1.out.wf HG1.out.fit HG1.out.sz (by omega)).mono ?_
    rintro e w' ⟨g, rfl, h1, h2⟩
    exact ⟨g, rfl, hidden ⟨h1.out.1, h1.out.2.1⟩, h2⟩)
  rw [hv]
  clear e2 e20 hv hbv HRY HBY
  go_wp2_with (first | (go_at_call 51; refine HNC.out.mono ?_; rintro e w2 ⟨g, rfl, HQ2, HB2⟩; refine Hid.out ?_))
  apply hidden
  clear HNC e1 e5
  have HRP : Hid (Calls Tryz.prog 50 #[.slice (some ⟨g, 0, none⟩) 1 1, .int .i64 0, .int .i64 1, .slice (some ⟨h, 0, none⟩) 1 hc] w2 fun e w' => e = .returned (.slice (some ⟨g, 0, none⟩) 1 1) ∧ Hid (C5 w' g (.slice ka key.length kc') (.int .i64 1) (.slice va val.length vc') (.int .i64 0) (.int .i64 0) ∧ Cf (· = g) w2 w')) := hidden (by
    obtain ⟨y0, y1, y2, y3, y4, hg⟩ := rowC_c5 HQ2.out.2
    exact replace_1 w2 g h hc y0 y1 y2 y3 y4 hg ka key.length kc' 1 va val.length vc' 0 0 (box_on HX.out (bl_go HWV.out (Nat.le_refl _) HB2.out)))
  go_wp2_with (first | (go_at_call 50; refine HRP.out.mono ?_; rintro e w3 ⟨rfl, HQ3⟩; refine Hid.out ?_))
  apply hidden
  have HX3 : Hid (Below x.heap.size x w3) := hidden (by
    have h1 := bl_go HBV.out (Nat.le_refl _) HB2.out
    have h2 := HQ2.out.1
    have h3 := HBV.out.size
    exact h1.trans (HQ3.out.2.below h1.size (fun k hk e => by omega)))
  have HW3 : Hid (Below w.heap.size w w3) := hidden (bl_go HBX.out (Nat.le_refl _) HX3.out)
  have HCB : Hid (Calls Tryz.prog 49 #[.pointer (some ⟨s + 1, 0, none⟩), .slice (some ⟨gw, 0, none⟩) 1 cw, .slice (some ⟨g, 0, none⟩) 1 1] w3 fun e w' => e = .returned (.int .i64 root) ∧ w'.cell? ⟨s + 1, 1, none⟩ = some (.slice none 0 0) ∧ Hid (Cf (Bo b m) w w' ∧ ∃ f : Pf, f.l = pgB 2 512 [⟨key, 1, val, 0, 0⟩] ∧ w.heap.size ≤ f.g ∧ Bq w' b m rd (putM M root f) ct)) := hidden (by
    have hn := HNUM.out
    have hcw : Cf (Bo b m) w w3 := Cf.of_below HW3.out
    have hch3 : Chg w3 (s + 1) b (.slice none 0 0) := box_on HCH.out HX3.out
    refine (climb_1 w3 (s + 1) b m rd root M ct hch3 (HB.out.on HW3.out) (HT.out.go hcw) ⟨by omega, by omega⟩ gw cw Bw a 0 (HW.out.on HW3.out) B vb vs [d] (HP.out.on HW3.out) (some ⟨g, 0, none⟩) 1 [⟨key, 1, val, 0, 0⟩] (slc_c5 (HKV.out.1 w3 hcw) (HKV.out.2 w3 hcw) HQ3.out.1) HGD.out HM.out.1 HM.out.2 HR.out hct).mono ?_
    rintro e w' ⟨rfl, HQ⟩
    obtain ⟨q1, f, q2, q3, q4⟩ := HQ.out
    have h4 : Chg w' (s + 1) b (.slice none 0 0) := (q1.block (s + 1) (lt_some hch3) (by rintro (e | e) <;> omega)).trans hch3
    exact ⟨rfl, h4.cells.2, hidden ⟨hcw.go q1, f, q2, Nat.le_trans HW3.out.size q3, q4⟩⟩)
  clear HRP HQ3 HQ2 HB2 HX3 HW3 HBV HWV
  go_wp2_with (first | (go_at_call 49; refine HCB.out.mono ?_; rintro e w4 ⟨rfl, z1, HQ4⟩; refine Hid.out ?_))
  apply hidden
  clear HCB
  go_wp2_with fail
  go_loopw [15, 54] (fun s15 s54 wr => s54 = .int .i64 0 ∧ wr = w4) (fun _ _ _ => 0)
  case atStart => exact ⟨rfl, by first | rfl | trivial⟩
  case round =>
    obtain ⟨rfl, rfl⟩ := hrel
    go_wp2
    go_ret
    exact ⟨rfl, HQ4⟩
set_option maxRecDepth 100000 in
set_option maxHeartbeats 4000000 in
theorem changeLeaf_d (w : World) (b m : Nat) (rd root : Int) (M : Int → Option Pf) (ct : Nat) (hb : Bq w b m rd M ct) (gw cw Bw a : Nat) (hw : Wy w Bw gw cw root a 0)
    (B : Nat) (vb vs : Value) (d : Cl) (hp : Po w B a 2 512 vb vs [d]) (gd1 : Gd1 [d]) (ko : Option Addr) (kn kc : Nat) (kd : Int) (vo : Option Addr) (vn vc : Nat) (pg cn : Int) (hM : (M root).isSome = true) (hlen : ∀ k f, M k = some f → 0 < f.l.length) (hr : (Lit.int .i64 root).wf = true) :
    Calls Tryz.prog 32 #[iB b, .slice (some ⟨gw, 0, none⟩) 1 cw, .agg #[.slice ko kn kc, .int .i64 kd, .slice vo vn vc, .int .i64 pg, .int .i64 cn, .bool true], .slice none 0 0] w fun e w' => e = .returned (.int .i64 0) ∧ Hid (Cf (Bo b m) w w' ∧ Bq w' b m rd (delM M root) (ct - 1)) := by
  obtain ⟨s, hs⟩ : ∃ s, w.heap.size = s := ⟨_, rfl⟩
  obtain ⟨x, hx1⟩ : ∃ x, (w.alloc (.cells #[.slice ko kn kc, .int .i64 kd, .slice vo vn vc, .int .i64 pg, .int .i64 cn, .bool true] 46)).alloc (.cells #[iB b, .slice none 0 0] 86) = x := ⟨_, rfl⟩
  have hbx : Below w.heap.size w x := by rw [← hx1]; exact bl_al (bl_al (Below.refl _ _) (Nat.le_refl _) _) (Nat.le_refl _) _
  have hch : Chg x (s + 1) b (.slice none 0 0) := by
    unfold Chg
    rw [← hx1, ← hs]
    have := heap_alloc_last (w.alloc (.cells #[.slice ko kn kc, .int .i64 kd, .slice vo vn vc, .int .i64 pg, .int .i64 cn, .bool true] 46)) (.cells #[iB b, .slice none 0 0] 86)
    simp only [World.size_alloc] at this
    exact this
  have hfo : QV6F x s (.slice ko kn kc) (.int .i64 kd) (.slice vo vn vc) (.int .i64 pg) (.int .i64 cn) (.bool true) := by
    unfold QV6F
    rw [← hx1, ← hs]
    refine (Below.heap_alloc _ _ _ (by simp)).trans (heap_alloc_last w _)
  have hxs : x.heap.size = s + 2 := by rw [← hx1, ← hs]; simp
  obtain ⟨c0, c1, c2, hc1⟩ := (hw.on hbx).cells
  have HBX := hidden hbx
  have HCH := hidden hch
  have HFO := hidden hfo
  have HB := hidden hb
  have HW := hidden hw
  have HP := hidden hp
  have HG1 := hidden gd1
  have HM := hidden (And.intro hM hlen)
  have HR := hidden hr
  have HNUM : Hid (b < s ∧ m < s ∧ x.heap.size = s + 2 ∧ w.heap.size = s) := hidden ⟨by have := hb.lt; omega, by have := hb.mlt; omega, hxs, hs⟩
  clear hbx hch hfo hb hw hp gd1 hM hlen hr hxs
  go_enter Tryz.func32, Tryz.ntmps32
  go_upto_region 5 with fail
  obtain ⟨y, hy⟩ : ∃ y, x.alloc (.cells #[.int .i64 root, iP a, .int .i64 0] 89) = y := ⟨_, rfl⟩
  obtain ⟨t, ht⟩ : ∃ t, x.heap.size = t := ⟨_, rfl⟩
  have hby : Below x.heap.size x y := by rw [← hy]; exact bl_al (Below.refl _ _) (Nat.le_refl _) _
  have hry : y.heap[t]? = some (.cells #[.int .i64 root, iP a, .int .i64 0] 89 (0, 0)) := by rw [← hy, ← ht]; exact heap_alloc_last x _
  have HRY := hidden hry
  have e2 : ∀ z, (y.drewN z).cell? ⟨t, 2, none⟩ = some (.int .i64 0) := fun z => by
    have h := cell_of_row (y.drewN z) t 2 _ _ _ hry
    simpa using h
  have e20 := e2 0
  have HBY := hidden hby
  rw [hy, ht]
  clear hx1 hy hby hry c0 c1 c2
  go_quiet (fail)
  obtain ⟨v, hv⟩ : ∃ v, y.drewN nq = v := ⟨_, rfl⟩
  have hbv : Below x.heap.size x v := by rw [← hv]; exact bl_dr HBY.out _
  have e1 : v.cell? ⟨t, 1, none⟩ = some (iP a) := by
    rw [← hv]
    have h := cell_of_row (y.drewN nq) t 1 _ _ _ HRY.out
    simpa using h
  have e5 : v.cell? ⟨s, 5, none⟩ = some (.bool true) := by
    have h := (show QV6F v s _ _ _ _ _ _ from box_on HFO.out hbv)
    unfold QV6F at h
    rw [cell_of_row _ _ 5 _ _ _ h]
    rfl
  have HBV := hidden hbv
  have HWV : Hid (Below w.heap.size w v) := hidden (bl_go HBX.out (Nat.le_refl _) hbv)
  have HNC : Hid (Calls Tryz.prog 51 #[iP a] v fun e w' => ∃ g, e = .returned (.slice (some ⟨g, 0, none⟩) 1 1) ∧ Hid (v.heap.size ≤ g ∧ RowC w' g 1) ∧ Hid (Below v.heap.size v w')) := hidden (by
    refine (ncells_P v B a 2 512 vb vs [d] (HP.out.on HWV.out) HG1.out.wf HG1.out.fit HG1.out.sz (by omega)).mono ?_
    rintro e w' ⟨g, rfl, h1, h2⟩
    exact ⟨g, rfl, hidden ⟨h1.out.1, h1.out.2.1⟩, h2⟩)
  rw [hv]
  clear e2 e20 hv hbv HRY HBY
  go_wp2_with (first | (go_at_call 51; refine HNC.out.mono ?_; rintro e w2 ⟨g, rfl, HQ2, HB2⟩; refine Hid.out ?_))
  apply hidden
  clear HNC e1 e5
  have HRP : Hid (Calls Tryz.prog 50 #[.slice (some ⟨g, 0, none⟩) 1 1, .int .i64 0, .int .i64 1, .slice none 0 0] w2 fun e w' => e = .returned (.slice (some ⟨g, 0, none⟩) 0 1) ∧ Hid (Cf (· = g) w2 w')) := hidden (by
    obtain ⟨y0, y1, y2, y3, y4, hg⟩ := rowC_c5 HQ2.out.2
    exact replace_0 w2 g y0 y1 y2 y3 y4 hg)
  go_wp2_with (first | (go_at_call 50; refine HRP.out.mono ?_; rintro e w3 ⟨rfl, HQ3⟩; refine Hid.out ?_))
  apply hidden
  have HX3 : Hid (Below x.heap.size x w3) := hidden (by
    have h1 := bl_go HBV.out (Nat.le_refl _) HB2.out
    have h2 := HQ2.out.1
    have h3 := HBV.out.size
    exact h1.trans (HQ3.out.below h1.size (fun k hk e => by omega)))
  have HW3 : Hid (Below w.heap.size w w3) := hidden (bl_go HBX.out (Nat.le_refl _) HX3.out)
  have HMS : Hid (∀ k f', M k = some f' → f'.g < s) := hidden fun k f' hk => by
    have h1 := (HB.out.pgs k f' hk).1
    have h2 := HM.out.2 k f' hk
    have hn := HNUM.out
    rcases h1.hat with h0 | ⟨q, off, e', hlt, _⟩
    · omega
    · injection e' with e'
      injection e' with e1 e2
      omega
  have HCB : Hid (Calls Tryz.prog 49 #[.pointer (some ⟨s + 1, 0, none⟩), .slice (some ⟨gw, 0, none⟩) 1 cw, .slice (some ⟨g, 0, none⟩) 0 1] w3 fun e w' => ∃ gg cc, e = .returned (.int .i64 0) ∧ w'.cell? ⟨s + 1, 1, none⟩ = some (.slice (some ⟨gg, 0, none⟩) 1 cc) ∧ w'.cell? ⟨gg, 0, none⟩ = some (.int .i64 root) ∧ 1 ≤ cc ∧ Hid (Cf (Bo b m) w w' ∧ Bq w' b m rd M ct)) := hidden (by
    have hn := HNUM.out
    have hch3 : Chg w3 (s + 1) b (.slice none 0 0) := box_on HCH.out HX3.out
    refine (climb_0 w3 (s + 1) b root hch3 gw cw Bw a 0 (HW.out.on HW3.out) B vb vs [d] (HP.out.on HW3.out) (some ⟨g, 0, none⟩) 1).mono ?_
    rintro e w' ⟨rfl, HQ⟩
    obtain ⟨gg, cc, q1, q2, q3⟩ := HQ.out
    refine ⟨gg, cc, rfl, q2.cells.2, OwnJ.cell0 q1, ?_, hidden ⟨(Cf.of_below HW3.out).trans q3 (fun i hi e => by omega), (HB.out.on HW3.out).cf q3 (by omega) (by omega) (fun k f' hk e => by have := HMS.out k f' hk; omega)⟩⟩
    have h := q1
    unfold Pg1 OwnJ at h
    rcases h.2 with ⟨h, _⟩ | ⟨q, c', cur, e, _, _, hn, _⟩
    · cases h
    · injection e with e1 e2 e3
      simp at hn
      omega)
  clear HRP HQ3 HQ2 HB2 HX3 HW3 HBV HWV
  go_wp2_with (first | (go_at_call 49; refine HCB.out.mono ?_; rintro e w4 ⟨gg, cc, rfl, z1, z2, hcc, HQ4⟩; refine Hid.out ?_))
  apply hidden
  clear HCB
  have HFR : Hid (Calls Tryz.prog 208 #[pB b, .int .i64 root] w4 fun e u => e = .returned (.int .i64 0) ∧ Hid (Cf (Bo b m) w u ∧ Bq u b m rd (delM M root) (ct - 1))) := hidden (by
    refine (bfree_any HQ4.out.2 root HR.out).mono ?_
    rintro e u ⟨k, rfl, HQ⟩
    rcases HQ.out with ⟨h1, _⟩ | ⟨_, rfl, h3, h4⟩
    · have := HM.out.1
      rw [h1] at this
      cases this
    · exact ⟨rfl, hidden ⟨HQ4.out.1.go (h4.wideB (fun x e => .inr e)), h3⟩⟩)
  go_wp2_with fail
  go_loopw [15, 54] (fun s15 s54 wr => (s54 = .int .i64 0 ∧ wr = w4) ∨ (s54 = .int .i64 1 ∧ Hid (Cf (Bo b m) w wr ∧ Bq wr b m rd (delM M root) (ct - 1)))) (fun _ s54 _ => 1 - (intOf s54).toNat)
  case atStart => exact .inl ⟨rfl, by first | rfl | trivial⟩
  case round =>
    rcases hrel with ⟨rfl, rfl⟩ | ⟨rfl, HF⟩
    · go_wp2_with (first | (go_at_call 208; refine HFR.out.mono ?_; rintro e w5 ⟨rfl, HQ5⟩) | (go_at_call 29; refine same_call (must_ok _) ?_))
      go_roundw
      case rel => exact .inr ⟨rfl, HQ5⟩
      case measure => simp [intOf]
    · go_wp2
      go_ret
      exact ⟨rfl, HF⟩
end Go.Proofs.YtfcbfombobelmaaGreatDoor
