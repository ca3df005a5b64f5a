/- Layer 12: put into the empty tree. -/
import Derived.Test.YtfcbfombobelmaaGreatDoorJ37
namespace Go.Proofs.YtfcbfombobelmaaGreatDoor
open Go.RowKit

/-- What the loads of a region read: a found cell's block and a cell's. -/
def S11 (fb s : Nat) (f0 f1 f2 f3 f4 f5 c0 c1 c2 c3 c4 : Value) (u : World) : Prop :=
  u.cell? ⟨fb, 0, none⟩ = some f0 ∧ u.cell? ⟨fb, 1, none⟩ = some f1 ∧ u.cell? ⟨fb, 2, none⟩ = some f2 ∧ u.cell? ⟨fb, 3, none⟩ = some f3 ∧ u.cell? ⟨fb, 4, none⟩ = some f4 ∧ u.cell? ⟨fb, 5, none⟩ = some f5 ∧
  u.cell? ⟨s, 0, none⟩ = some c0 ∧ u.cell? ⟨s, 1, none⟩ = some c1 ∧ u.cell? ⟨s, 2, none⟩ = some c2 ∧ u.cell? ⟨s, 3, none⟩ = some c3 ∧ u.cell? ⟨s, 4, none⟩ = some c4
set_option maxRecDepth 100000 in
theorem S11.of {fb s : Nat} {f0 f1 f2 f3 f4 f5 c0 c1 c2 c3 c4 : Value} {u : World} (hq : QV6F u fb f0 f1 f2 f3 f4 f5) (hc : C5 u s c0 c1 c2 c3 c4) : S11 fb s f0 f1 f2 f3 f4 f5 c0 c1 c2 c3 c4 u := by
  unfold QV6F at hq
  unfold C5 at hc
  exact ⟨by rw [cell_of_row _ _ 0 _ _ _ hq]; rfl, by rw [cell_of_row _ _ 1 _ _ _ hq]; rfl, by rw [cell_of_row _ _ 2 _ _ _ hq]; rfl, by rw [cell_of_row _ _ 3 _ _ _ hq]; rfl, by rw [cell_of_row _ _ 4 _ _ _ hq]; rfl, by rw [cell_of_row _ _ 5 _ _ _ hq]; rfl, by rw [cell_of_row _ _ 0 _ _ _ hc]; rfl, by rw [cell_of_row _ _ 1 _ _ _ hc]; rfl, by rw [cell_of_row _ _ 2 _ _ _ hc]; rfl, by rw [cell_of_row _ _ 3 _ _ _ hc]; rfl, by rw [cell_of_row _ _ 4 _ _ _ hc]; rfl⟩
set_option maxRecDepth 100000 in
theorem S11.keep {fb s x : Nat} {f0 f1 f2 f3 f4 f5 c0 c1 c2 c3 c4 : Value} {u v : World} (h : S11 fb s f0 f1 f2 f3 f4 f5 c0 c1 c2 c3 c4 u) (hc : Cf (· = x) u v) (h1 : ¬ fb = x) (h2 : ¬ s = x) : S11 fb s f0 f1 f2 f3 f4 f5 c0 c1 c2 c3 c4 v := by
  have k : ∀ g i q, ¬ g = x → u.cell? ⟨g, i, none⟩ = some q → v.cell? ⟨g, i, none⟩ = some q := fun g i q hg hq => (World.cell?_of_block (a := ⟨g, i, none⟩) (hc.block g (World.block_lt_of_cell? u ⟨g, i, none⟩ (by rw [hq])) hg)).trans hq
  obtain ⟨a0, a1, a2, a3, a4, a5, a6, a7, a8, a9, a10⟩ := h
  exact ⟨k _ _ _ h1 a0, k _ _ _ h1 a1, k _ _ _ h1 a2, k _ _ _ h1 a3, k _ _ _ h1 a4, k _ _ _ h1 a5, k _ _ _ h2 a6, k _ _ _ h2 a7, k _ _ _ h2 a8, k _ _ _ h2 a9, k _ _ _ h2 a10⟩
set_option maxRecDepth 100000 in
theorem find_0z (w : World) (qo : Option Addr) (qn qc : Nat) : Calls Tryz.prog 20 #[.slice none 0 0, .slice qo qn qc] w fun e w' => ∃ ko kc vo vc, e = .returned (.agg #[.slice ko 0 kc, .int .i64 0, .slice vo 0 vc, .int .i64 0, .int .i64 0, .bool false]) ∧ Hid (Below w.heap.size w w') :=
  (find_0 w qo qn qc).mono (by
    rintro e w' ⟨ko, kc, vo, vc, rfl, _, HB⟩
    exact ⟨ko, kc, vo, vc, rfl, HB⟩)
set_option maxRecDepth 100000 in
set_option maxHeartbeats 4000000 in
theorem put_0 (w : World) (b m : Nat) (rd : Int) (M : Int → Option Pf) (ct : Nat) (hb : Bq w b m rd M ct) (ht : TB w b m) (key val : List Int) (ka va : Option Addr) (kc vc : Nat) (hk : KS w b m ka key.length kc key) (hv : KS w b m va val.length vc val) (h0 : 0 < key.length) (h1 : key.length ≤ 64) (h2 : val.length ≤ 96)
    (gd : Gd1 [⟨key, 1, val, 0, 0⟩]) (hm : mayP 2 512 ⟨key, 1, val, 0, 0⟩) (hM : M 2 = none) (hlen : ∀ k f, M k = some f → 0 < f.l.length) (hct : ct ≤ 30) :
    Calls Tryz.prog 16 #[iB b, .int .i64 0, .agg #[.slice ka key.length kc, .int .i64 1, .slice va val.length vc, .int .i64 0, .int .i64 0]] w fun e w' => ∃ ko kc' vo vc', e = .returned (.agg #[.int .i64 2, .slice ko 0 kc', .int .i64 0, .slice vo 0 vc', .int .i64 0, .int .i64 0, .bool false]) ∧ Hid (Cf (Bo b m) w w' ∧ ∃ f0 f : Pf, f.l = pgB 2 512 [⟨key, 1, val, 0, 0⟩] ∧ w.heap.size ≤ f.g ∧ Bq w' b m rd (putM (putM M 2 f0) 2 f) (ct + 1)) := by
  obtain ⟨s, hs⟩ : ∃ s, w.heap.size = s := ⟨_, rfl⟩
  obtain ⟨x, hx⟩ : ∃ x, (w.alloc (.cells #[.slice ka key.length kc, .int .i64 1, .slice va val.length vc, .int .i64 0, .int .i64 0] 29)).alloc (.cells #[.int .i64 0, .slice none 0 0, .int .i64 0, .slice none 0 0, .int .i64 0, .int .i64 0, .bool false] 48) = x := ⟨_, rfl⟩
  have hbx : Below w.heap.size w x := by rw [← hx]; exact bl_al (bl_al (Below.refl _ _) (Nat.le_refl _) _) (Nat.le_refl _) _
  have hc5 : C5 x s (.slice ka key.length kc) (.int .i64 1) (.slice va val.length vc) (.int .i64 0) (.int .i64 0) := by
    rw [← hx, ← hs]
    exact box_on (C5.box w _ _ _ _ _) (bl_al (Below.refl _ _) (Nat.le_refl _) _)
  have hq7 : QV7 x (s + 1) (.int .i64 0) (.slice none 0 0) (.int .i64 0) (.slice none 0 0) (.int .i64 0) (.int .i64 0) (.bool false) := by
    unfold QV7
    rw [← hx, ← hs]
    have := heap_alloc_last (w.alloc (.cells #[.slice ka key.length kc, .int .i64 1, .slice va val.length vc, .int .i64 0, .int .i64 0] 29)) (.cells #[.int .i64 0, .slice none 0 0, .int .i64 0, .slice none 0 0, .int .i64 0, .int .i64 0, .bool false] 48)
    simp only [World.size_alloc] at this
    exact this
  have hbl := hb.lt
  have hml := hb.mlt
  have HNUM : Hid (b < s ∧ m < s ∧ x.heap.size = s + 2 ∧ w.heap.size = s) := hidden ⟨by omega, by omega, by rw [← hx, ← hs]; simp, hs⟩
  have HSZ : Hid (∀ u, Below x.heap.size x u → Calls Tryz.prog 211 #[pB b] u fun e w' => e = .returned (.int .i64 512) ∧ w' = u) := hidden fun u hu => bsize_any (hb.on (bl_go hbx (Nat.le_refl _) hu))
  have HIS := hidden (fun u => isSized_yes ka key.length kc va val.length vc 0 0 u h0 h1 h2)
  have HMB := hidden (fun u => mayBe_any 2 (512 : Int) ka key.length kc 1 va val.length vc 0 0 u (by omega) (by omega) (by omega) (by omega))
  rw [decide_eq_true ((mayP_iff 2 512 ⟨key, 1, val, 0, 0⟩).2 hm)] at HMB
  have HBX := hidden hbx
  have HC5 := hidden hc5
  have HQ7 := hidden hq7
  have HB := hidden hb
  have HT := hidden ht
  have HK := hidden (And.intro hk hv)
  have HGD := hidden gd
  have HM := hidden (And.intro hM hlen)
  obtain ⟨a0, a1, a2, a3, a4⟩ := hc5.cells
  clear hbx hc5 hq7 hb ht hk hv gd hm hM hlen hbl hml
  go_enter Tryz.func16, Tryz.ntmps16
  go_upto_region 1 with fail
  clear hx
  go_cut [13] from 9 to 13 (fun v u => v = .bool false ∧ Hid (Below x.heap.size x u))
  case first =>
    go_wp2_with fail
    go_region_with (first | (go_at_call 28; refine (HIS.out _).mono ?_; rintro e w1 ⟨rfl, HB1⟩; have HX1 : Hid (Below x.heap.size x w1) := hidden (by first | exact HB1.out | exact bl_go (Below.refl _ _).drew (Nat.le_refl _) HB1.out | exact bl_go (bl_dr (Below.refl _ _) _) (Nat.le_refl _) HB1.out)) | (go_at_call 211; refine same_call (HSZ.out _ (by first | exact Below.refl _ _ | exact (Below.refl _ _).drew | exact bl_dr (Below.refl _ _) _)) ?_))
    all_goals (try go_wp2_with fail)
    all_goals go_meet
    all_goals exact ⟨by simp, by first | exact HX1 | exact hidden HX1.out.drew | exact hidden (bl_dr HX1.out _)⟩
  obtain ⟨rfl, HX1⟩ := hcut
  obtain ⟨w1, hw1⟩ : ∃ w1, w1 = wc := ⟨_, rfl⟩
  subst hw1
  clear a0 a1 a2 a3 a4 HIS
  obtain ⟨a0, a1, a2, a3, a4⟩ := (show C5 w1 s _ _ _ _ _ from box_on HC5.out HX1.out).cells
  go_upto_region 3 with fail
  go_cut [19] from 15 to 19 (fun v u => v = .bool false ∧ Hid (Below x.heap.size x u))
  case first =>
    go_wp2_with fail
    go_region_with (first | (go_at_call 30; refine (HMB.out _).mono ?_; rintro e w2 ⟨rfl, hb2⟩; have HX2 : Hid (Below x.heap.size x w2) := hidden (by first | exact bl_go HX1.out (Nat.le_refl _) hb2 | exact bl_go HX1.out.drew (Nat.le_refl _) hb2 | exact bl_go (bl_dr HX1.out _) (Nat.le_refl _) hb2)) | (go_at_call 211; refine same_call (HSZ.out _ (by first | exact HX1.out | exact HX1.out.drew | exact bl_dr HX1.out _)) ?_))
    all_goals (try go_wp2_with fail)
    all_goals go_meet
    all_goals exact ⟨by simp, by first | exact HX2 | exact hidden HX2.out.drew | exact hidden (bl_dr HX2.out _)⟩
  obtain ⟨rfl, HX2⟩ := hcut
  obtain ⟨w2, hw2⟩ : ∃ w2, w2 = wc := ⟨_, rfl⟩
  subst hw2
  clear a0 a1 a2 a3 a4 HMB HX1 HSZ
  have HAF := hidden (afford_any w2 b m rd 0 0 M ct (by omega) (by unfold needH; simp; omega) (fun u hu => (height_0 u b).mono (by
    rintro e w' ⟨rfl, HBH⟩
    exact ⟨rfl, hidden ⟨Cf.of_below HBH.out, HB.out.on (bl_go (bl_go (bl_go HBX.out (Nat.le_refl _) HX2.out) (Nat.le_refl _) hu) (Nat.le_refl _) HBH.out)⟩⟩)))
  go_wp2_with (first | (go_at_call 31; refine HAF.out.mono ?_; rintro e w3 ⟨rfl, HQ3⟩; refine Hid.out ?_))
  apply hidden
  have hc3 : C5 w3 s (.slice ka key.length kc) (.int .i64 1) (.slice va val.length vc) (.int .i64 0) (.int .i64 0) := by
    have hn := HNUM.out
    have h2 := HX2.out.size
    exact (HQ3.out.1.block s (by omega) (by rintro (e | e) <;> omega)).trans (box_on HC5.out HX2.out)
  have hq3 : QV7 w3 (s + 1) (.int .i64 0) (.slice none 0 0) (.int .i64 0) (.slice none 0 0) (.int .i64 0) (.int .i64 0) (.bool false) := by
    have hn := HNUM.out
    have h2 := HX2.out.size
    exact (HQ3.out.1.block (s + 1) (by omega) (by rintro (e | e) <;> omega)).trans (box_on HQ7.out HX2.out)
  obtain ⟨a0, a1, a2, a3, a4⟩ := hc3.cells
  have HC3 := hidden hc3
  have HQ73 := hidden hq3
  have HCW3 : Hid (Cf (Bo b m) w w3) := hidden ((Cf.of_below (bl_go HBX.out (Nat.le_refl _) HX2.out)).go HQ3.out.1)
  have HWF := hidden (wayFor_0 w3 b ka key.length kc)
  clear hc3 hq3 HAF HC5 HQ7 HX2
  go_wp2_with (first | (go_at_call 19; refine HWF.out.mono ?_; rintro e w4 ⟨rfl, HB4⟩; refine Hid.out ?_))
  apply hidden
  clear a0 a1 a2 a3 a4 HWF
  obtain ⟨a0, a1, a2, a3, a4⟩ := (show C5 w4 s _ _ _ _ _ from box_on HC3.out HB4.out).cells
  have HFD := hidden (find_0z w4 ka key.length kc)
  go_wp2_with (first | (go_at_call 20; refine HFD.out.mono ?_; rintro e w5 ⟨ko, kc', vo, vc', rfl, HB5⟩; refine Hid.out ?_))
  apply hidden
  clear a0 a1 a2 a3 a4 HFD
  have HB35 : Hid (Below w3.heap.size w3 w5) := hidden (bl_go HB4.out (Nat.le_refl _) HB5.out)
  go_upto_region 8 with fail
  obtain ⟨z, hz⟩ : ∃ z, w5.alloc (.cells #[.slice ko 0 kc', .int .i64 0, .slice vo 0 vc', .int .i64 0, .int .i64 0, .bool false] 46) = z := ⟨_, rfl⟩
  obtain ⟨fb, hfb⟩ : ∃ fb, w5.heap.size = fb := ⟨_, rfl⟩
  have hbz : Below w5.heap.size w5 z := by rw [← hz]; exact bl_al (Below.refl _ _) (Nat.le_refl _) _
  have hb3z : Below w3.heap.size w3 z := bl_go HB35.out (Nat.le_refl _) hbz
  have hqf : QV6F z fb (.slice ko 0 kc') (.int .i64 0) (.slice vo 0 vc') (.int .i64 0) (.int .i64 0) (.bool false) := by unfold QV6F; rw [← hz, ← hfb]; exact heap_alloc_last w5 _
  have HFA : Hid (∀ u, Cf (Bo b m) z u → QV6F u fb (.slice ko 0 kc') (.int .i64 0) (.slice vo 0 vc') (.int .i64 0) (.int .i64 0) (.bool false) ∧ QV7 u (s + 1) (.int .i64 0) (.slice none 0 0) (.int .i64 0) (.slice none 0 0) (.int .i64 0) (.int .i64 0) (.bool false) ∧ C5 u s (.slice ka key.length kc) (.int .i64 1) (.slice va val.length vc) (.int .i64 0) (.int .i64 0)) := hidden fun u hu => by
    have hn := HNUM.out
    have h3 := HQ3.out.1.size
    have h4 := HB35.out.size
    have h5 := hbz.size
    have h6 := lt_some hqf
    have h7 := lt_some HQ73.out
    have h8 := lt_some HC3.out
    have e1 : QV7 z (s + 1) (.int .i64 0) (.slice none 0 0) (.int .i64 0) (.slice none 0 0) (.int .i64 0) (.int .i64 0) (.bool false) := box_on HQ73.out hb3z
    have e2 : C5 z s (.slice ka key.length kc) (.int .i64 1) (.slice va val.length vc) (.int .i64 0) (.int .i64 0) := box_on HC3.out hb3z
    exact ⟨(hu.block fb h6 (by rintro (e | e) <;> omega)).trans hqf, (hu.block (s + 1) (by omega) (by rintro (e | e) <;> omega)).trans e1, (hu.block s (by omega) (by rintro (e | e) <;> omega)).trans e2⟩
  have HSL : Hid (∀ u, Below z.heap.size z u → Sl u ka key.length kc key ∧ Sl u va val.length vc val) := hidden fun u hu => by
    have hc : Cf (Bo b m) w u := HCW3.out.go (Cf.of_below (bl_go hb3z (Nat.le_refl _) hu))
    exact ⟨HK.out.1 u hc, HK.out.2 u hc⟩
  have HCL : Hid (∀ u gs, Below z.heap.size z u → SlC u (some ⟨gs, 0, none⟩) 1 1 [⟨key, 1, val, 0, 0⟩] → Calls Tryz.prog 32 #[iB b, .slice none 0 0, .agg #[.slice ko 0 kc', .int .i64 0, .slice vo 0 vc', .int .i64 0, .int .i64 0, .bool false], .slice (some ⟨gs, 0, none⟩) 1 1] u fun e w' => e = .returned (.int .i64 2) ∧ (w'.cell? ⟨fb, 0, none⟩ = some (.slice ko 0 kc') ∧ w'.cell? ⟨fb, 1, none⟩ = some (.int .i64 0) ∧ w'.cell? ⟨fb, 2, none⟩ = some (.slice vo 0 vc') ∧ w'.cell? ⟨fb, 3, none⟩ = some (.int .i64 0) ∧ w'.cell? ⟨fb, 4, none⟩ = some (.int .i64 0) ∧ w'.cell? ⟨fb, 5, none⟩ = some (.bool false)) ∧ (w'.cell? ⟨s + 1, 0, none⟩ = some (.int .i64 0) ∧ w'.cell? ⟨s + 1, 1, none⟩ = some (.slice none 0 0) ∧ w'.cell? ⟨s + 1, 2, none⟩ = some (.int .i64 0) ∧ w'.cell? ⟨s + 1, 3, none⟩ = some (.slice none 0 0) ∧ w'.cell? ⟨s + 1, 4, none⟩ = some (.int .i64 0) ∧ w'.cell? ⟨s + 1, 5, none⟩ = some (.int .i64 0) ∧ w'.cell? ⟨s + 1, 6, none⟩ = some (.bool false) ∧ ∀ i, w'.frozen? ⟨s + 1, i, none⟩ = false) ∧ Hid (Cf (Bo b m) z w' ∧ ∃ f0 f : Pf, f.l = pgB 2 512 [⟨key, 1, val, 0, 0⟩] ∧ z.heap.size ≤ f.g ∧ Bq w' b m rd (putM (putM M 2 f0) 2 f) (ct + 1))) := hidden fun u gs hu hsl => by
    have hcu : Cf (Bo b m) w u := HCW3.out.go (Cf.of_below (bl_go hb3z (Nat.le_refl _) hu))
    refine (changeLeaf_0 u b m rd M ct (HQ3.out.2.on (bl_go hb3z (Nat.le_refl _) hu)) (HT.out.go hcu) ko 0 kc' 0 vo 0 vc' 0 0 false (some ⟨gs, 0, none⟩) 1 1 _ hsl HGD.out (by omega) HM.out.1 HM.out.2 (by omega)).mono ?_
    rintro e w' ⟨rfl, HQ⟩
    obtain ⟨q1, f0, f, q2, q3, q4⟩ := HQ.out
    have hzw : Cf (Bo b m) z w' := (Cf.of_below hu).go q1
    have hq := (HFA.out w' hzw).1
    unfold QV6F at hq
    have hr := (HFA.out w' hzw).2.1
    unfold QV7 at hr
    refine ⟨rfl, ⟨?_, ?_, ?_, ?_, ?_, ?_⟩, ⟨by rw [cell_of_row _ _ 0 _ _ _ hr]; rfl, by rw [cell_of_row _ _ 1 _ _ _ hr]; rfl, by rw [cell_of_row _ _ 2 _ _ _ hr]; rfl, by rw [cell_of_row _ _ 3 _ _ _ hr]; rfl, by rw [cell_of_row _ _ 4 _ _ _ hr]; rfl, by rw [cell_of_row _ _ 5 _ _ _ hr]; rfl, by rw [cell_of_row _ _ 6 _ _ _ hr]; rfl, fun i => by simp [World.frozen?, hr]⟩, hidden ⟨hzw, f0, f, q2, Nat.le_trans hu.size q3, q4⟩⟩
    · rw [cell_of_row _ _ 0 _ _ _ hq]; rfl
    · rw [cell_of_row _ _ 1 _ _ _ hq]; rfl
    · rw [cell_of_row _ _ 2 _ _ _ hq]; rfl
    · rw [cell_of_row _ _ 3 _ _ _ hq]; rfl
    · rw [cell_of_row _ _ 4 _ _ _ hq]; rfl
    · rw [cell_of_row _ _ 5 _ _ _ hq]; rfl
  have HMS : Hid (∀ k f', M k = some f' → f'.g < s) := hidden fun k f' hk => by
    have h1 := (HB.out.pgs k f' hk).1
    have h2 := HM.out.2 k f' hk
    have hn := HNUM.out
    rcases h1.hat with h0 | ⟨q, off, e', hlt, _⟩
    · omega
    · injection e' with e'
      injection e' with e1 e2
      omega
  have HSF : Hid (∀ u, Cf (Bo b m) z u → S11 fb s (.slice ko 0 kc') (.int .i64 0) (.slice vo 0 vc') (.int .i64 0) (.int .i64 0) (.bool false) (.slice ka key.length kc) (.int .i64 1) (.slice va val.length vc) (.int .i64 0) (.int .i64 0) u) := hidden fun u hu => S11.of (HFA.out u hu).1 (HFA.out u hu).2.2
  have HFS : Hid (s + 1 < fb ∧ fb < z.heap.size) := hidden (by
    have hn := HNUM.out
    have h3 := HQ3.out.1.size
    have h4 := HB35.out.size
    have h7 := lt_some HQ73.out
    exact ⟨by omega, lt_some hqf⟩)
  have HZW : Hid (Cf (Bo b m) w z) := hidden (HCW3.out.go (Cf.of_below hb3z))
  rw [hz, hfb]
  clear hqf hbz hb3z hz hfb HB35 HC3 HQ73 HQ3 HK HB HT HM HBX HCW3 HGD HB4 HB5
  go_wp2_with fail
  refine wp_region_held_drew (S := S11 fb s (.slice ko 0 kc') (.int .i64 0) (.slice vo 0 vc') (.int .i64 0) (.int .i64 0) (.bool false) (.slice ka key.length kc) (.int .i64 1) (.slice va val.length vc) (.int .i64 0) (.int .i64 0)) (by kernel_rfl) (HSF.out _ (Cf.of_below (Below.refl _ _).drew)) (fun hHeld => ?_)
  refine wpAnyH_take (i := 0) (v := ?_) rfl (by kernel_rfl) (by kernel_rfl) (by kernel_rfl) (fun _ _ _ h => h) (Or.inl ⟨by rfl, ?_⟩) (by assumption) ?_
  rotate_left
  · (intro w hSw; obtain ⟨s0, s1, s2, s3, s4, s5, s6, s7, s8, s9, s10⟩ := hSw; go_simp; try (with_reducible rfl))
  try simp only [Act.put, List.getElem_toArray, List.getElem_cons_zero, List.setIfInBounds_toArray, List.set_cons_zero, List.set_cons_succ]
  refine wpAnyH_take (i := 1) (v := ?_) rfl (by kernel_rfl) (by kernel_rfl) (by kernel_rfl) (fun _ _ _ h => h) (Or.inl ⟨by rfl, ?_⟩) (by assumption) ?_
  rotate_left
  · (intro w hSw; obtain ⟨s0, s1, s2, s3, s4, s5, s6, s7, s8, s9, s10⟩ := hSw; go_simp; try (with_reducible rfl))
  try simp only [Act.put, List.getElem_toArray, List.getElem_cons_succ, List.getElem_cons_zero, List.setIfInBounds_toArray, List.set_cons_zero, List.set_cons_succ]
  refine wpAnyH_take (i := 2) (v := ?_) rfl (by kernel_rfl) (by kernel_rfl) (by kernel_rfl) (fun _ _ _ h => h) (Or.inl ⟨by rfl, ?_⟩) (by assumption) ?_
  rotate_left
  · (intro w hSw; obtain ⟨s0, s1, s2, s3, s4, s5, s6, s7, s8, s9, s10⟩ := hSw; go_simp; try (with_reducible rfl))
  try simp only [Act.put, List.getElem_toArray, List.getElem_cons_succ, List.getElem_cons_zero, List.setIfInBounds_toArray, List.set_cons_zero, List.set_cons_succ]
  refine wpAnyH_take (i := 3) (v := ?_) rfl (by kernel_rfl) (by kernel_rfl) (by kernel_rfl) (fun _ _ _ h => h) (Or.inl ⟨by rfl, ?_⟩) (by assumption) ?_
  rotate_left
  · (intro w hSw; obtain ⟨s0, s1, s2, s3, s4, s5, s6, s7, s8, s9, s10⟩ := hSw; go_simp; try (with_reducible rfl))
  try simp only [Act.put, List.getElem_toArray, List.getElem_cons_succ, List.getElem_cons_zero, List.setIfInBounds_toArray, List.set_cons_zero, List.set_cons_succ]
  refine wpAnyH_take (i := 6) (v := ?_) rfl (by kernel_rfl) (by kernel_rfl) (by kernel_rfl) (fun _ _ _ h => h) (Or.inl ⟨by rfl, ?_⟩) (by assumption) ?_
  rotate_left
  · (intro w hSw; obtain ⟨s0, s1, s2, s3, s4, s5, s6, s7, s8, s9, s10⟩ := hSw; go_simp; try (with_reducible rfl))
  try simp only [Act.put, List.getElem_toArray, List.getElem_cons_succ, List.getElem_cons_zero, List.setIfInBounds_toArray, List.set_cons_zero, List.set_cons_succ]
  refine wpAnyH_ready (rs := [4]) (by kernel_rfl) (by simp) ?_
  refine AllReadyH.cons rfl (fun K hK => ?_) AllReadyH.nil
  go_simp
  refine hK.out _ _ (HSF.out _ (Cf.of_below (bl_al (Below.refl _ _).drew (Nat.le_refl _) _))) (fun hHeld => ?_)
  clear hK K
  try simp only [Act.put, List.getElem_toArray, List.getElem_cons_succ, List.getElem_cons_zero, List.setIfInBounds_toArray, List.set_cons_zero, List.set_cons_succ]
  refine wpAnyH_ready (rs := [5]) (by kernel_rfl) (by simp) ?_
  refine AllReadyH.cons rfl (fun K hK => ?_) AllReadyH.nil
  go_simp
  go_at_call 32
  refine (HCL.out _ _ (bl_al (Below.refl _ _).drew (Nat.le_refl _) _) (slc_one (HSL.out _ (Below.refl _ _).drew).1 (HSL.out _ (Below.refl _ _).drew).2)).mono ?_
  rintro e w6 ⟨rfl, ⟨y0, y1, y2, y3, y4, y5⟩, ⟨x0, x1, x2, x3, x4, x5, x6, fz⟩, HQ6⟩
  dsimp only
  refine hK.out _ _ (HSF.out _ HQ6.out.1) (fun hHeld => ?_)
  clear hK K
  try simp only [Act.put, List.getElem_toArray, List.getElem_cons_succ, List.getElem_cons_zero, List.setIfInBounds_toArray, List.set_cons_zero, List.set_cons_succ]
  refine wpAnyH_take (i := 7) (v := ?_) rfl (by kernel_rfl) (by kernel_rfl) (by kernel_rfl) (fun _ _ _ h => h) (Or.inl ⟨by rfl, ?_⟩) (by assumption) ?_
  rotate_left
  · (intro w hSw; obtain ⟨s0, s1, s2, s3, s4, s5, s6, s7, s8, s9, s10⟩ := hSw; go_simp; try (with_reducible rfl))
  try simp only [Act.put, List.getElem_toArray, List.getElem_cons_succ, List.getElem_cons_zero, List.setIfInBounds_toArray, List.set_cons_zero, List.set_cons_succ]
  refine wpAnyH_ready (rs := [8]) (by kernel_rfl) (by simp) ?_
  refine AllReadyH.cons rfl (fun K hK => ?_) AllReadyH.nil
  go_simp
  have hn := HNUM.out
  have hf := HFS.out
  have hcp := put7_cf w6 (s + 1) (.int .i64 2) (.slice ko 0 kc') (.int .i64 0) (.slice vo 0 vc') (.int .i64 0) (.int .i64 0) (.bool false)
  have hrp := put7_row (HFA.out w6 HQ6.out.1).2.1 (.int .i64 2) (.slice ko 0 kc') (.int .i64 0) (.slice vo 0 vc') (.int .i64 0) (.int .i64 0) (.bool false)
  have hS8 : S11 fb s (.slice ko 0 kc') (.int .i64 0) (.slice vo 0 vc') (.int .i64 0) (.int .i64 0) (.bool false) (.slice ka key.length kc) (.int .i64 1) (.slice va val.length vc) (.int .i64 0) (.int .i64 0) (put7 w6 (s + 1) (.int .i64 2) (.slice ko 0 kc') (.int .i64 0) (.slice vo 0 vc') (.int .i64 0) (.int .i64 0) (.bool false)) := S11.keep hHeld hcp (by omega) (by omega)
  change K _ (put7 w6 (s + 1) (.int .i64 2) (.slice ko 0 kc') (.int .i64 0) (.slice vo 0 vc') (.int .i64 0) (.int .i64 0) (.bool false))
  obtain ⟨y, hy⟩ : ∃ y, put7 w6 (s + 1) (.int .i64 2) (.slice ko 0 kc') (.int .i64 0) (.slice vo 0 vc') (.int .i64 0) (.int .i64 0) (.bool false) = y := ⟨_, rfl⟩
  rw [hy] at hcp hrp hS8 ⊢
  have HCP := hidden hcp
  have HRP := hidden hrp
  have HN := hidden (And.intro hn hf)
  refine hK.out _ _ hS8 (fun hHeld => ?_)
  clear hK K hS8 hHeld hy hcp hrp hn hf x0 x1 x2 x3 x4 x5 x6 fz y0 y1 y2 y3 y4 y5
  refine wpAnyH_done (by kernel_rfl) ?_ _
  go_wp2
  have hcp := HCP.out
  have hrp := HRP.out
  have hnf := HN.out
  refine bodyPost_ret (results_cell_row rfl _ _ (s + 1) 48 #[.int .i64 2, .slice ko 0 kc', .int .i64 0, .slice vo 0 vc', .int .i64 0, .int .i64 0, .bool false] (0, 0) _ (by rfl) hrp Tryz.underlying48 rfl sizeCh) rfl ?_
  obtain ⟨q1, f0, f, q2, q3, q4⟩ := HQ6.out
  refine ⟨ko, kc', vo, vc', rfl, hidden ⟨(HZW.out.go q1).trans hcp (fun i hi e => by omega), f0, f, q2, by have := HZW.out.size; omega, q4.cf hcp (by omega) (by omega) (fun k f' hk e => ?_)⟩⟩
  unfold putM at hk
  split at hk
  · injection hk with hk
    subst hk
    omega
  · have := HMS.out k f' hk
    omega
end Go.Proofs.YtfcbfombobelmaaGreatDoor
