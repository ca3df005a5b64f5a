/- Layer 12: a cell put in the place of a leaf's one cell. -/
import Derived.Test.YtfcbfombobelmaaGreatDoorJ41
namespace Go.Proofs.YtfcbfombobelmaaGreatDoor
open Go.RowKit

set_option maxRecDepth 100000 in
set_option maxHeartbeats 4000000 in
theorem put_1 (w : World) (b m : Nat) (rd root : Int) (M : Int → Option Pf) (ct : Nat) (hb : Bq w b m rd M ct) (ht : TB w b m) (fp : Pf) (d : Cl) (hMr : M root = some fp) (hfp : fp.l = pgB 2 512 [d]) (gd1 : Gd1 [d]) (hr : (Lit.int .i64 root).wf = true) (hr1 : ¬ root = 0) (hrd : rd < 4611686018427387000) (hr0 : 0 ≤ rd)
    (key val : List Int) (ka va : Option Addr) (kc vc : Nat) (hk : KS w b m ka key.length kc key) (hv : KS w b m va val.length vc val) (h0 : 0 < key.length) (h1 : key.length ≤ 64) (h2 : val.length ≤ 96) (hdk : d.key = key) (hdv : d.val.length ≤ 96)
    (gd : Gd1 [⟨key, 1, val, 0, 0⟩]) (hm : mayP 2 512 ⟨key, 1, val, 0, 0⟩) (hlen : ∀ k f, M k = some f → 0 < f.l.length) (hct : ct ≤ 30) :
    Calls Tryz.prog 16 #[iB b, .int .i64 root, .agg #[.slice ka key.length kc, .int .i64 1, .slice va val.length vc, .int .i64 0, .int .i64 0]] w fun e w' => ∃ ko kc' vo vc', e = .returned (.agg #[.int .i64 root, .slice ko d.key.length kc', .int .i64 d.kd, .slice vo d.val.length vc', .int .i64 d.pg, .int .i64 d.ct, .bool true]) ∧ Hid (Cf (Bo b m) w w' ∧ KS w' b m vo d.val.length vc' d.val ∧ (∀ q, vo = some q → w.heap.size ≤ q.block) ∧ ∃ f : Pf, f.l = pgB 2 512 [⟨key, 1, val, 0, 0⟩] ∧ w.heap.size ≤ f.g ∧ Bq w' b m (rd + 1 + 1) (putM M root f) ct) := by
  obtain ⟨s, hs⟩ : ∃ s, w.heap.size = s := ⟨_, rfl⟩
  obtain ⟨x, hx⟩ : ∃ x, (w.alloc (.cells #[.slice ka key.length kc, .int .i64 1, .slice va val.length vc, .int .i64 0, .int .i64 0] 29)).alloc (.cells #[.int .i64 0, .slice none 0 0, .int .i64 0, .slice none 0 0, .int .i64 0, .int .i64 0, .bool false] 48) = x := ⟨_, rfl⟩
  have hbx : Below w.heap.size w x := by rw [← hx]; exact bl_al (bl_al (Below.refl _ _) (Nat.le_refl _) _) (Nat.le_refl _) _
  have hc5 : C5 x s (.slice ka key.length kc) (.int .i64 1) (.slice va val.length vc) (.int .i64 0) (.int .i64 0) := by
    rw [← hx, ← hs]
    exact box_on (C5.box w _ _ _ _ _) (bl_al (Below.refl _ _) (Nat.le_refl _) _)
  have hq7 : QV7 x (s + 1) (.int .i64 0) (.slice none 0 0) (.int .i64 0) (.slice none 0 0) (.int .i64 0) (.int .i64 0) (.bool false) := by
    unfold QV7
    rw [← hx, ← hs]
    have := heap_alloc_last (w.alloc (.cells #[.slice ka key.length kc, .int .i64 1, .slice va val.length vc, .int .i64 0, .int .i64 0] 29)) (.cells #[.int .i64 0, .slice none 0 0, .int .i64 0, .slice none 0 0, .int .i64 0, .int .i64 0, .bool false] 48)
    simp only [World.size_alloc] at this
    exact this
  have hbl := hb.lt
  have hml := hb.mlt
  have HNUM : Hid (b < s ∧ m < s ∧ x.heap.size = s + 2 ∧ w.heap.size = s) := hidden ⟨by omega, by omega, by rw [← hx, ← hs]; simp, hs⟩
  have HSZ : Hid (∀ u, Below x.heap.size x u → Calls Tryz.prog 211 #[pB b] u fun e w' => e = .returned (.int .i64 512) ∧ w' = u) := hidden fun u hu => bsize_any (hb.on (bl_go hbx (Nat.le_refl _) hu))
  have HIS := hidden (fun u => isSized_yes ka key.length kc va val.length vc 0 0 u h0 h1 h2)
  have HMB := hidden (fun u => mayBe_any 2 (512 : Int) ka key.length kc 1 va val.length vc 0 0 u (by omega) (by omega) (by omega) (by omega))
  rw [decide_eq_true ((mayP_iff 2 512 ⟨key, 1, val, 0, 0⟩).2 hm)] at HMB
  have HBX := hidden hbx
  have HC5 := hidden hc5
  have HQ7 := hidden hq7
  have HB := hidden hb
  have HT := hidden ht
  have HK := hidden (And.intro hk hv)
  have HGD := hidden gd
  have HM := hidden hlen
  have HO := hidden (And.intro hMr (And.intro hfp gd1))
  have HRT := hidden (And.intro hr hr1)
  have HDK := hidden hdk
  obtain ⟨a0, a1, a2, a3, a4⟩ := hc5.cells
  clear hbx hc5 hq7 hb ht hk hv gd hm hlen hbl hml hMr hfp gd1 hr hr1 hdk
  go_enter Tryz.func16, Tryz.ntmps16
  go_upto_region 1 with fail
  clear hx
  go_cut [13] from 9 to 13 (fun v u => v = .bool false ∧ Hid (Below x.heap.size x u))
  case first =>
    go_wp2_with fail
    go_region_with (first | (go_at_call 28; refine (HIS.out _).mono ?_; rintro e w1 ⟨rfl, HB1⟩; have HX1 : Hid (Below x.heap.size x w1) := hidden (by first | exact HB1.out | exact bl_go (Below.refl _ _).drew (Nat.le_refl _) HB1.out | exact bl_go (bl_dr (Below.refl _ _) _) (Nat.le_refl _) HB1.out)) | (go_at_call 211; refine same_call (HSZ.out _ (by first | exact Below.refl _ _ | exact (Below.refl _ _).drew | exact bl_dr (Below.refl _ _) _)) ?_))
    all_goals (try go_wp2_with fail)
    all_goals go_meet
    all_goals exact ⟨by simp, by first | exact HX1 | exact hidden HX1.out.drew | exact hidden (bl_dr HX1.out _)⟩
  obtain ⟨rfl, HX1⟩ := hcut
  obtain ⟨w1, hw1⟩ : ∃ w1, w1 = wc := ⟨_, rfl⟩
  subst hw1
  clear a0 a1 a2 a3 a4 HIS
  obtain ⟨a0, a1, a2, a3, a4⟩ := (show C5 w1 s _ _ _ _ _ from box_on HC5.out HX1.out).cells
  go_upto_region 3 with fail
  go_cut [19] from 15 to 19 (fun v u => v = .bool false ∧ Hid (Below x.heap.size x u))
  case first =>
    go_wp2_with fail
    go_region_with (first | (go_at_call 30; refine (HMB.out _).mono ?_; rintro e w2 ⟨rfl, hb2⟩; have HX2 : Hid (Below x.heap.size x w2) := hidden (by first | exact bl_go HX1.out (Nat.le_refl _) hb2 | exact bl_go HX1.out.drew (Nat.le_refl _) hb2 | exact bl_go (bl_dr HX1.out _) (Nat.le_refl _) hb2)) | (go_at_call 211; refine same_call (HSZ.out _ (by first | exact HX1.out | exact HX1.out.drew | exact bl_dr HX1.out _)) ?_))
    all_goals (try go_wp2_with fail)
    all_goals go_meet
    all_goals exact ⟨by simp, by first | exact HX2 | exact hidden HX2.out.drew | exact hidden (bl_dr HX2.out _)⟩
  obtain ⟨rfl, HX2⟩ := hcut
  obtain ⟨w2, hw2⟩ : ∃ w2, w2 = wc := ⟨_, rfl⟩
  subst hw2
  clear a0 a1 a2 a3 a4 HMB HX1 HSZ
  have HAF := hidden (afford_any w2 b m (rd + 1) root 1 M ct (by omega) (by unfold needH; simp; omega) (fun u hu => by
    have hwu := bl_go (bl_go HBX.out (Nat.le_refl _) HX2.out) (Nat.le_refl _) hu
    exact height_leaf u b m rd root M ct fp [d] (HB.out.on hwu) HRT.out.1 HRT.out.2 HO.out.1 HO.out.2.1 HO.out.2.2 (by omega) hr0 (HT.out.go (Cf.of_below hwu))))
  go_wp2_with (first | (go_at_call 31; refine HAF.out.mono ?_; rintro e w3 ⟨rfl, HQ3⟩; refine Hid.out ?_))
  apply hidden
  have hc3 : C5 w3 s (.slice ka key.length kc) (.int .i64 1) (.slice va val.length vc) (.int .i64 0) (.int .i64 0) := by
    have hn := HNUM.out
    have h2 := HX2.out.size
    exact (HQ3.out.1.block s (by omega) (by rintro (e | e) <;> omega)).trans (box_on HC5.out HX2.out)
  have hq3 : QV7 w3 (s + 1) (.int .i64 0) (.slice none 0 0) (.int .i64 0) (.slice none 0 0) (.int .i64 0) (.int .i64 0) (.bool false) := by
    have hn := HNUM.out
    have h2 := HX2.out.size
    exact (HQ3.out.1.block (s + 1) (by omega) (by rintro (e | e) <;> omega)).trans (box_on HQ7.out HX2.out)
  obtain ⟨a0, a1, a2, a3, a4⟩ := hc3.cells
  have HC3 := hidden hc3
  have HQ73 := hidden hq3
  have HCW3 : Hid (Cf (Bo b m) w w3) := hidden ((Cf.of_below (bl_go HBX.out (Nat.le_refl _) HX2.out)).go HQ3.out.1)
  have HWF := hidden (wayFor_leaf w3 b m (rd + 1) root M ct fp [d] HQ3.out.2 HRT.out.1 HRT.out.2 HO.out.1 HO.out.2.1 HO.out.2.2 (by omega) (by omega) (HT.out.go HCW3.out) ka key.length kc key (HK.out.1.go HCW3.out))
  clear hc3 hq3 HAF HC5 HQ7 HX2
  go_wp2_with (first | (go_at_call 19; refine HWF.out.mono ?_; rintro e w4 ⟨gw, cw, rfl, HQ4⟩; refine Hid.out ?_))
  apply hidden
  clear a0 a1 a2 a3 a4 HWF
  have HCW4 : Hid (Cf (Bo b m) w3 w4) := hidden (by obtain ⟨_, _, _, _, h, _⟩ := HQ4.out; exact h)
  have HN3 : Hid (b < s ∧ m < s ∧ s + 1 < w3.heap.size) := hidden (by
    have hn := HNUM.out
    have h7 := lt_some HQ73.out
    exact ⟨hn.1, hn.2.1, h7⟩)
  have hc4 : C5 w4 s (.slice ka key.length kc) (.int .i64 1) (.slice va val.length vc) (.int .i64 0) (.int .i64 0) := (HCW4.out.block s (lt_some HC3.out) (by have := HN3.out; rintro (e | e) <;> omega)).trans HC3.out
  obtain ⟨a0, a1, a2, a3, a4⟩ := hc4.cells
  have HFD : Hid (Calls Tryz.prog 20 #[.slice (some ⟨gw, 0, none⟩) 1 cw, .slice ka key.length kc] w4 (FoTo d true w4)) := hidden (by
    obtain ⟨a, r, q1, q2, q3, q4, vb, vs, q5⟩ := HQ4.out
    have hr0' : r = 0 := q2.one (by
      have := fnd_self (cs := [d]) (HO.out.2.2.is.rise) 0 d rfl
      rwa [HDK.out] at this)
    subst hr0'
    refine find_yes w4 _ d ka key.length kc key (HK.out.1 w4 (HCW3.out.go HCW4.out)) HDK.out (HO.out.2.2.wf d (by simp)) (by rw [HDK.out]; omega) (fun u hu => ?_)
    have h := end_leaf u w3.heap.size w3.heap.size gw cw root a 0 (q1.on hu) vb vs [d] (q5.on hu) HO.out.2.2
    have e1 : cellE [d] ((0 : Nat) : Int) = d := by simp [cellE]
    have e2 : decide (remE [d] ((0 : Nat) : Int) = 0) = true := by simp [remE]
    rw [e1, e2] at h
    exact h)
  clear hc4
  go_wp2_with (first | (go_at_call 20; refine HFD.out.mono ?_; rintro e w5 ⟨ko, kc', vo, vc', rfl, HO5, HB5⟩; refine Hid.out ?_))
  apply hidden
  clear a0 a1 a2 a3 a4 HFD
  go_upto_region 8 with fail
  obtain ⟨z, hz⟩ : ∃ z, w5.alloc (.cells #[.slice ko d.key.length kc', .int .i64 d.kd, .slice vo d.val.length vc', .int .i64 d.pg, .int .i64 d.ct, .bool true] 46) = z := ⟨_, rfl⟩
  obtain ⟨fb, hfb⟩ : ∃ fb, w5.heap.size = fb := ⟨_, rfl⟩
  have hbz : Below w5.heap.size w5 z := by rw [← hz]; exact bl_al (Below.refl _ _) (Nat.le_refl _) _
  have hb4z : Below w4.heap.size w4 z := bl_go HB5.out (Nat.le_refl _) hbz
  have hc3z : Cf (Bo b m) w3 z := HCW4.out.go (Cf.of_below hb4z)
  have hqf : QV6F z fb (.slice ko d.key.length kc') (.int .i64 d.kd) (.slice vo d.val.length vc') (.int .i64 d.pg) (.int .i64 d.ct) (.bool true) := by unfold QV6F; rw [← hz, ← hfb]; exact heap_alloc_last w5 _
  have HFA : Hid (∀ u, Cf (Bo b m) z u → QV6F u fb (.slice ko d.key.length kc') (.int .i64 d.kd) (.slice vo d.val.length vc') (.int .i64 d.pg) (.int .i64 d.ct) (.bool true) ∧ QV7 u (s + 1) (.int .i64 0) (.slice none 0 0) (.int .i64 0) (.slice none 0 0) (.int .i64 0) (.int .i64 0) (.bool false) ∧ C5 u s (.slice ka key.length kc) (.int .i64 1) (.slice va val.length vc) (.int .i64 0) (.int .i64 0)) := hidden fun u hu => by
    have hn := HN3.out
    have h6 := lt_some hqf
    have h3u := hc3z.go hu
    have h4 := HCW4.out.size
    have h5 := HB5.out.size
    exact ⟨(hu.block fb h6 (by rintro (e | e) <;> omega)).trans hqf, (h3u.block (s + 1) (by omega) (by rintro (e | e) <;> omega)).trans HQ73.out, (h3u.block s (by omega) (by rintro (e | e) <;> omega)).trans HC3.out⟩
  have HCL : Hid (∀ u gs, Below z.heap.size z u → C5 u gs (.slice ka key.length kc) (.int .i64 1) (.slice va val.length vc) (.int .i64 0) (.int .i64 0) → Calls Tryz.prog 32 #[iB b, .slice (some ⟨gw, 0, none⟩) 1 cw, .agg #[.slice ko d.key.length kc', .int .i64 d.kd, .slice vo d.val.length vc', .int .i64 d.pg, .int .i64 d.ct, .bool true], .slice (some ⟨gs, 0, none⟩) 1 1] u fun e w' => e = .returned (.int .i64 root) ∧ (w'.cell? ⟨s + 1, 0, none⟩ = some (.int .i64 0) ∧ w'.cell? ⟨s + 1, 1, none⟩ = some (.slice none 0 0) ∧ w'.cell? ⟨s + 1, 2, none⟩ = some (.int .i64 0) ∧ w'.cell? ⟨s + 1, 3, none⟩ = some (.slice none 0 0) ∧ w'.cell? ⟨s + 1, 4, none⟩ = some (.int .i64 0) ∧ w'.cell? ⟨s + 1, 5, none⟩ = some (.int .i64 0) ∧ w'.cell? ⟨s + 1, 6, none⟩ = some (.bool false) ∧ ∀ i, w'.frozen? ⟨s + 1, i, none⟩ = false) ∧ Hid (Cf (Bo b m) z w' ∧ ∃ f : Pf, f.l = pgB 2 512 [⟨key, 1, val, 0, 0⟩] ∧ z.heap.size ≤ f.g ∧ Bq w' b m (rd + 1 + 1) (putM M root f) ct)) := hidden fun u gs hu hx5 => by
    have hcu : Cf (Bo b m) w u := (HCW3.out.go hc3z).go (Cf.of_below hu)
    have h4u : Below w4.heap.size w4 u := bl_go hb4z (Nat.le_refl _) hu
    obtain ⟨a, r, q1, q2, q3, q4, vb, vs, q5⟩ := HQ4.out
    have hr0' : r = 0 := q2.one (by
      have := fnd_self (cs := [d]) (HO.out.2.2.is.rise) 0 d rfl
      rwa [HDK.out] at this)
    subst hr0'
    refine (changeLeaf_1 u b m (rd + 1 + 1) root M ct (q4.on h4u) (HT.out.go hcu) gw cw w3.heap.size a (q1.on h4u) w3.heap.size vb vs d (q5.on h4u) HO.out.2.2 ko d.key.length kc' d.kd vo d.val.length vc' d.pg d.ct gs 1 key val ka va kc vc hx5 (HK.out.1.go hcu) (HK.out.2.go hcu) HGD.out (by rw [HO.out.1]; rfl) HM.out HRT.out.1 (by omega)).mono ?_
    rintro e w' ⟨rfl, HQ⟩
    obtain ⟨p1, f, p2, p3, p4⟩ := HQ.out
    have hzw : Cf (Bo b m) z w' := (Cf.of_below hu).go p1
    have hr := (HFA.out w' hzw).2.1
    unfold QV7 at hr
    exact ⟨rfl, ⟨by rw [cell_of_row _ _ 0 _ _ _ hr]; rfl, by rw [cell_of_row _ _ 1 _ _ _ hr]; rfl, by rw [cell_of_row _ _ 2 _ _ _ hr]; rfl, by rw [cell_of_row _ _ 3 _ _ _ hr]; rfl, by rw [cell_of_row _ _ 4 _ _ _ hr]; rfl, by rw [cell_of_row _ _ 5 _ _ _ hr]; rfl, by rw [cell_of_row _ _ 6 _ _ _ hr]; rfl, fun i => by simp [World.frozen?, hr]⟩, hidden ⟨hzw, f, p2, Nat.le_trans hu.size p3, p4⟩⟩
  have HMS : Hid (∀ k f', M k = some f' → f'.g < s) := hidden fun k f' hk => by
    have h1 := (HB.out.pgs k f' hk).1
    have h2 := HM.out k f' hk
    have hn := HNUM.out
    rcases h1.hat with h0 | ⟨q, off, e', hlt, _⟩
    · omega
    · injection e' with e'
      injection e' with e1 e2
      omega
  have HSF : Hid (∀ u, Cf (Bo b m) z u → S11 fb s (.slice ko d.key.length kc') (.int .i64 d.kd) (.slice vo d.val.length vc') (.int .i64 d.pg) (.int .i64 d.ct) (.bool true) (.slice ka key.length kc) (.int .i64 1) (.slice va val.length vc) (.int .i64 0) (.int .i64 0) u) := hidden fun u hu => S11.of (HFA.out u hu).1 (HFA.out u hu).2.2
  have HFS : Hid (s + 1 < fb ∧ fb < z.heap.size ∧ s + 1 < w4.heap.size ∧ w.heap.size ≤ w4.heap.size) := hidden (by
    have hn := HN3.out
    have h4 := HCW4.out.size
    have h5 := HB5.out.size
    have h3 := HCW3.out.size
    exact ⟨by omega, lt_some hqf, by omega, by omega⟩)
  have HZW : Hid (Cf (Bo b m) w z) := hidden (HCW3.out.go hc3z)
  have HVL : Hid (Sl z vo d.val.length vc' d.val ∧ ∀ q, vo = some q → w4.heap.size ≤ q.block) := hidden (by
    obtain ⟨ao', c', e1, h1, h2⟩ := HO5.out.2.sl (HO.out.2.2.wf d (by simp)).2 (by omega)
    injection e1 with i1 i2 i3
    subst i1 i3
    exact ⟨h1.on (Nat.le_refl _) hbz, h2⟩)
  rw [hz, hfb]
  clear hqf hbz hb4z hc3z hz hfb HC3 HQ73 HQ3 HQ4 HK HB HT HM HBX HCW3 HCW4 HGD HB5 HO5 HO HRT HDK
  go_wp2_with fail
  refine wp_region_held_drew (S := S11 fb s (.slice ko d.key.length kc') (.int .i64 d.kd) (.slice vo d.val.length vc') (.int .i64 d.pg) (.int .i64 d.ct) (.bool true) (.slice ka key.length kc) (.int .i64 1) (.slice va val.length vc) (.int .i64 0) (.int .i64 0)) (by kernel_rfl) (HSF.out _ (Cf.of_below (Below.refl _ _).drew)) (fun hHeld => ?_)
  refine wpAnyH_take (i := 0) (v := ?_) rfl (by kernel_rfl) (by kernel_rfl) (by kernel_rfl) (fun _ _ _ h => h) (Or.inl ⟨by rfl, ?_⟩) (by assumption) ?_
  rotate_left
  · (intro w hSw; obtain ⟨s0, s1, s2, s3, s4, s5, s6, s7, s8, s9, s10⟩ := hSw; go_simp; try (with_reducible rfl))
  try simp only [Act.put, List.getElem_toArray, List.getElem_cons_zero, List.setIfInBounds_toArray, List.set_cons_zero, List.set_cons_succ]
  refine wpAnyH_take (i := 1) (v := ?_) rfl (by kernel_rfl) (by kernel_rfl) (by kernel_rfl) (fun _ _ _ h => h) (Or.inl ⟨by rfl, ?_⟩) (by assumption) ?_
  rotate_left
  · (intro w hSw; obtain ⟨s0, s1, s2, s3, s4, s5, s6, s7, s8, s9, s10⟩ := hSw; go_simp; try (with_reducible rfl))
  try simp only [Act.put, List.getElem_toArray, List.getElem_cons_succ, List.getElem_cons_zero, List.setIfInBounds_toArray, List.set_cons_zero, List.set_cons_succ]
  refine wpAnyH_take (i := 2) (v := ?_) rfl (by kernel_rfl) (by kernel_rfl) (by kernel_rfl) (fun _ _ _ h => h) (Or.inl ⟨by rfl, ?_⟩) (by assumption) ?_
  rotate_left
  · (intro w hSw; obtain ⟨s0, s1, s2, s3, s4, s5, s6, s7, s8, s9, s10⟩ := hSw; go_simp; try (with_reducible rfl))
  try simp only [Act.put, List.getElem_toArray, List.getElem_cons_succ, List.getElem_cons_zero, List.setIfInBounds_toArray, List.set_cons_zero, List.set_cons_succ]
  refine wpAnyH_take (i := 3) (v := ?_) rfl (by kernel_rfl) (by kernel_rfl) (by kernel_rfl) (fun _ _ _ h => h) (Or.inl ⟨by rfl, ?_⟩) (by assumption) ?_
  rotate_left
  · (intro w hSw; obtain ⟨s0, s1, s2, s3, s4, s5, s6, s7, s8, s9, s10⟩ := hSw; go_simp; try (with_reducible rfl))
  try simp only [Act.put, List.getElem_toArray, List.getElem_cons_succ, List.getElem_cons_zero, List.setIfInBounds_toArray, List.set_cons_zero, List.set_cons_succ]
  refine wpAnyH_take (i := 6) (v := ?_) rfl (by kernel_rfl) (by kernel_rfl) (by kernel_rfl) (fun _ _ _ h => h) (Or.inl ⟨by rfl, ?_⟩) (by assumption) ?_
  rotate_left
  · (intro w hSw; obtain ⟨s0, s1, s2, s3, s4, s5, s6, s7, s8, s9, s10⟩ := hSw; go_simp; try (with_reducible rfl))
  try simp only [Act.put, List.getElem_toArray, List.getElem_cons_succ, List.getElem_cons_zero, List.setIfInBounds_toArray, List.set_cons_zero, List.set_cons_succ]
  refine wpAnyH_ready (rs := [4]) (by kernel_rfl) (by simp) ?_
  refine AllReadyH.cons rfl (fun K hK => ?_) AllReadyH.nil
  go_simp
  refine hK.out _ _ (HSF.out _ (Cf.of_below (bl_al (Below.refl _ _).drew (Nat.le_refl _) _))) (fun hHeld => ?_)
  clear hK K
  try simp only [Act.put, List.getElem_toArray, List.getElem_cons_succ, List.getElem_cons_zero, List.setIfInBounds_toArray, List.set_cons_zero, List.set_cons_succ]
  refine wpAnyH_ready (rs := [5]) (by kernel_rfl) (by simp) ?_
  refine AllReadyH.cons rfl (fun K hK => ?_) AllReadyH.nil
  go_simp
  go_at_call 32
  refine (HCL.out _ _ (bl_al (Below.refl _ _).drew (Nat.le_refl _) _) (C5.box z.drew _ _ _ _ _)).mono ?_
  rintro e w6 ⟨rfl, ⟨x0, x1, x2, x3, x4, x5, x6, fz⟩, HQ6⟩
  dsimp only
  refine hK.out _ _ (HSF.out _ HQ6.out.1) (fun hHeld => ?_)
  clear hK K
  try simp only [Act.put, List.getElem_toArray, List.getElem_cons_succ, List.getElem_cons_zero, List.setIfInBounds_toArray, List.set_cons_zero, List.set_cons_succ]
  refine wpAnyH_take (i := 7) (v := ?_) rfl (by kernel_rfl) (by kernel_rfl) (by kernel_rfl) (fun _ _ _ h => h) (Or.inl ⟨by rfl, ?_⟩) (by assumption) ?_
  rotate_left
  · (intro w hSw; obtain ⟨s0, s1, s2, s3, s4, s5, s6, s7, s8, s9, s10⟩ := hSw; go_simp; try (with_reducible rfl))
  try simp only [Act.put, List.getElem_toArray, List.getElem_cons_succ, List.getElem_cons_zero, List.setIfInBounds_toArray, List.set_cons_zero, List.set_cons_succ]
  refine wpAnyH_ready (rs := [8]) (by kernel_rfl) (by simp) ?_
  refine AllReadyH.cons rfl (fun K hK => ?_) AllReadyH.nil
  go_simp
  have hn := HNUM.out
  have hf := HFS.out
  have hcp := put7_cf w6 (s + 1) (.int .i64 root) (.slice ko d.key.length kc') (.int .i64 d.kd) (.slice vo d.val.length vc') (.int .i64 d.pg) (.int .i64 d.ct) (.bool true)
  have hrp := put7_row (HFA.out w6 HQ6.out.1).2.1 (.int .i64 root) (.slice ko d.key.length kc') (.int .i64 d.kd) (.slice vo d.val.length vc') (.int .i64 d.pg) (.int .i64 d.ct) (.bool true)
  have hS8 : S11 fb s (.slice ko d.key.length kc') (.int .i64 d.kd) (.slice vo d.val.length vc') (.int .i64 d.pg) (.int .i64 d.ct) (.bool true) (.slice ka key.length kc) (.int .i64 1) (.slice va val.length vc) (.int .i64 0) (.int .i64 0) (put7 w6 (s + 1) (.int .i64 root) (.slice ko d.key.length kc') (.int .i64 d.kd) (.slice vo d.val.length vc') (.int .i64 d.pg) (.int .i64 d.ct) (.bool true)) := S11.keep hHeld hcp (by omega) (by omega)
  change K _ (put7 w6 (s + 1) (.int .i64 root) (.slice ko d.key.length kc') (.int .i64 d.kd) (.slice vo d.val.length vc') (.int .i64 d.pg) (.int .i64 d.ct) (.bool true))
  obtain ⟨y, hy⟩ : ∃ y, put7 w6 (s + 1) (.int .i64 root) (.slice ko d.key.length kc') (.int .i64 d.kd) (.slice vo d.val.length vc') (.int .i64 d.pg) (.int .i64 d.ct) (.bool true) = y := ⟨_, rfl⟩
  rw [hy] at hcp hrp hS8 ⊢
  have HCP := hidden hcp
  have HRP := hidden hrp
  refine hK.out _ _ hS8 (fun hHeld => ?_)
  clear hK K hS8 hHeld hy hcp hrp hn hf x0 x1 x2 x3 x4 x5 x6 fz
  refine wpAnyH_done (by kernel_rfl) ?_ _
  go_wp2
  have hcp := HCP.out
  have hrp := HRP.out
  have hn := HNUM.out
  have hf := HFS.out
  refine bodyPost_ret (results_cell_row rfl _ _ (s + 1) 48 #[.int .i64 root, .slice ko d.key.length kc', .int .i64 d.kd, .slice vo d.val.length vc', .int .i64 d.pg, .int .i64 d.ct, .bool true] (0, 0) _ (by rfl) hrp Tryz.underlying48 rfl sizeCh) rfl ?_
  obtain ⟨q1, f, q2, q3, q4⟩ := HQ6.out
  obtain ⟨v1, v2⟩ := HVL.out
  refine ⟨ko, kc', vo, vc', rfl, hidden ⟨(HZW.out.go q1).trans hcp (fun i hi e => by omega), fun u hu => ?_, fun q hq => by have := v2 q hq; omega, f, q2, by have := HZW.out.size; omega, q4.cf hcp (by omega) (by omega) (fun k f' hk e => ?_)⟩⟩
  · have v3 := v1.cf q1 (.inr fun q hq => by have := v2 q hq; rintro (e | e) <;> omega)
    have v4 := v3.cf hcp (.inr fun q hq e => by have := v2 q hq; omega)
    exact v4.cf hu (.inr fun q hq => by have := v2 q hq; rintro (e | e) <;> omega)
  · unfold putM at hk
    split at hk
    · injection hk with hk
      subst hk
      omega
    · have := HMS.out k f' hk
      omega
end Go.Proofs.YtfcbfombobelmaaGreatDoor
