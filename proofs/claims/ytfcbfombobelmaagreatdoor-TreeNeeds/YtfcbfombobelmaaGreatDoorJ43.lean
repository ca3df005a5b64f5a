/- Layer 12: a leaf's one cell taken away. -/
import Derived.Test.YtfcbfombobelmaaGreatDoorJ41
namespace Go.Proofs.YtfcbfombobelmaaGreatDoor
open Go.RowKit

set_option maxRecDepth 100000 in
theorem Wy.cfB {w w' : World} {B g c : Nat} {root : Int} {a r : Nat} {F : Nat → Prop} (h : Wy w B g c root a r) (hc : Cf F w w') (hF : ∀ k, B ≤ k → ¬ F k) : Wy w' B g c root a r := by
  refine ⟨h.own.1, ?_⟩
  rcases h.own.2 with ⟨h0, _⟩ | ⟨q, c', cur, e, hq, hh, r'⟩
  · cases h0
  · exact .inr ⟨q, c', cur, e, hq, (hc.block q (lt_some hh) (hF q hq)).trans hh, r'⟩
set_option maxRecDepth 100000 in
theorem own_cfB {w w' : World} {B : Nat} {e : TypeId} {sz n : Nat} {v : Value} {xs : List Value} {F : Nat → Prop} (h : w.ownsRow B e sz v n xs) (hc : Cf F w w') (hF : ∀ k, B ≤ k → ¬ F k) : w'.ownsRow B e sz v n xs := by
  refine ⟨h.1, ?_⟩
  rcases h.2 with h6 | ⟨g', c', cur, e, hg, hh, r'⟩
  · exact .inl h6
  · exact .inr ⟨g', c', cur, e, hg, (hc.block g' (lt_some hh) (hF g' hg)).trans hh, r'⟩
set_option maxRecDepth 100000 in
theorem Po.cfB {w w' : World} {B a : Nat} {k : Int} {n : Nat} {vb vs : Value} {cs : List Cl} {F : Nat → Prop} (h : Po w B a k n vb vs cs) (hc : Cf F w w') (hF : ∀ k, B ≤ k → ¬ F k) (ha : ¬ F a) : Po w' B a k n vb vs cs :=
  ⟨(hc.block a (lt_some h.row) ha).trans h.row, own_cfB h.body hc hF, own_cfB h.starts hc hF⟩
set_option maxRecDepth 100000 in
theorem Bn.noPage {w : World} {b m : Nat} {en pg ps rd : Int} {M : Int → Option Pf} {ct : Nat} (h : Bn w b m en pg ps rd M ct) {a : Nat} {k : Int} {n : Nat} {vb vs : Value} (hp : PR w a k n vb vs) : ¬ Bo b m a := by
  rintro (e | e)
  · subst e
    have h1 := h.box
    unfold PR at hp
    rw [hp] at h1
    injection h1 with h1
    injection h1 with _ h3
    exact absurd h3 (by decide)
  · subst e
    obtain ⟨D, ⟨es, clock, hb, _⟩, _⟩ := h.mp
    unfold PR at hp
    rw [hp] at hb
    cases hb
/-- What the loads of a region read: a found cell's block. -/
def S6 (fb : Nat) (f0 f1 f2 f3 f4 f5 : Value) (u : World) : Prop :=
  u.cell? ⟨fb, 0, none⟩ = some f0 ∧ u.cell? ⟨fb, 1, none⟩ = some f1 ∧ u.cell? ⟨fb, 2, none⟩ = some f2 ∧ u.cell? ⟨fb, 3, none⟩ = some f3 ∧ u.cell? ⟨fb, 4, none⟩ = some f4 ∧ u.cell? ⟨fb, 5, none⟩ = some f5
set_option maxRecDepth 100000 in
theorem S6.of {fb : Nat} {f0 f1 f2 f3 f4 f5 : Value} {u : World} (hq : QV6F u fb f0 f1 f2 f3 f4 f5) : S6 fb f0 f1 f2 f3 f4 f5 u := by
  unfold QV6F at hq
  exact ⟨by rw [cell_of_row _ _ 0 _ _ _ hq]; rfl, by rw [cell_of_row _ _ 1 _ _ _ hq]; rfl, by rw [cell_of_row _ _ 2 _ _ _ hq]; rfl, by rw [cell_of_row _ _ 3 _ _ _ hq]; rfl, by rw [cell_of_row _ _ 4 _ _ _ hq]; rfl, by rw [cell_of_row _ _ 5 _ _ _ hq]; rfl⟩
set_option maxRecDepth 100000 in
set_option maxHeartbeats 4000000 in
theorem remove_1 (w : World) (b m : Nat) (rd root : Int) (M : Int → Option Pf) (ct : Nat) (hb : Bq w b m rd M ct) (ht : TB w b m) (fp : Pf) (d : Cl) (hMr : M root = some fp) (hfp : fp.l = pgB 2 512 [d]) (gd1 : Gd1 [d]) (hr : (Lit.int .i64 root).wf = true) (hr1 : ¬ root = 0) (hrd : rd < 4611686018427387000) (hr0 : 0 ≤ rd)
    (key : List Int) (ka : Option Addr) (kc : Nat) (hk : KS w b m ka key.length kc key) (h1 : key.length ≤ 64) (hdk : d.key = key) (hdv : d.val.length ≤ 96) (hlen : ∀ k f, M k = some f → 0 < f.l.length) (hct : ct ≤ 30) :
    Calls Tryz.prog 26 #[iB b, .int .i64 root, .slice ka key.length kc] w fun e w' => ∃ ko kc' vo vc', e = .returned (.agg #[.int .i64 0, .slice ko d.key.length kc', .int .i64 d.kd, .slice vo d.val.length vc', .int .i64 d.pg, .int .i64 d.ct, .bool true]) ∧ Hid (Cf (Bo b m) w w' ∧ KS w' b m vo d.val.length vc' d.val ∧ (∀ q, vo = some q → w.heap.size ≤ q.block) ∧ Bq w' b m (rd + 1 + 1) (delM M root) (ct - 1)) := by
  obtain ⟨s, hs⟩ : ∃ s, w.heap.size = s := ⟨_, rfl⟩
  obtain ⟨x, hx⟩ : ∃ x, w.alloc (.cells #[.int .i64 0, .slice none 0 0, .int .i64 0, .slice none 0 0, .int .i64 0, .int .i64 0, .bool false] 48) = x := ⟨_, rfl⟩
  have hbx : Below w.heap.size w x := by rw [← hx]; exact bl_al (Below.refl _ _) (Nat.le_refl _) _
  have hq7 : QV7 x s (.int .i64 0) (.slice none 0 0) (.int .i64 0) (.slice none 0 0) (.int .i64 0) (.int .i64 0) (.bool false) := by
    unfold QV7
    rw [← hx, ← hs]
    exact heap_alloc_last w _
  have hcx : Cf (Bo b m) w x := Cf.of_below hbx
  have HWF := hidden (wayFor_leaf x b m rd root M ct fp [d] (hb.on hbx) hr hr1 hMr hfp gd1 (by omega) hr0 (ht.go hcx) ka key.length kc key (hk.go hcx))
  have HNUM : Hid (b < s ∧ m < s ∧ x.heap.size = s + 1 ∧ w.heap.size = s) := hidden ⟨by have := hb.lt; omega, by have := hb.mlt; omega, by rw [← hx, ← hs]; simp, hs⟩
  have HCX := hidden hcx
  have HQ7 := hidden hq7
  have HB := hidden hb
  have HT := hidden ht
  have HK := hidden hk
  have HM := hidden hlen
  have HO := hidden (And.intro hMr (And.intro hfp gd1))
  have HRT := hidden (And.intro hr hr1)
  have HDK := hidden hdk
  clear hbx hq7 hcx hb ht hk hlen hMr hfp gd1 hr hr1 hdk
  go_enter Tryz.func26, Tryz.ntmps26
  go_wp2_with (first | (go_at_call 19; refine HWF.out.mono ?_; rintro e w4 ⟨gw, cw, rfl, HQ4⟩; refine Hid.out ?_))
  apply hidden
  clear HWF hx
  have HCW4 : Hid (Cf (Bo b m) x w4) := hidden (by obtain ⟨_, _, _, _, h, _⟩ := HQ4.out; exact h)
  have HFD : Hid (Calls Tryz.prog 20 #[.slice (some ⟨gw, 0, none⟩) 1 cw, .slice ka key.length kc] w4 (FoTo d true w4)) := hidden (by
    obtain ⟨a, r, q1, q2, q3, q4, vb, vs, q5⟩ := HQ4.out
    have hr0' : r = 0 := q2.one (by
      have := fnd_self (cs := [d]) (HO.out.2.2.is.rise) 0 d rfl
      rwa [HDK.out] at this)
    subst hr0'
    refine find_yes w4 _ d ka key.length kc key (HK.out w4 (HCX.out.go HCW4.out)) HDK.out (HO.out.2.2.wf d (by simp)) (by rw [HDK.out]; omega) (fun u hu => ?_)
    have h := end_leaf u x.heap.size x.heap.size gw cw root a 0 (q1.on hu) vb vs [d] (q5.on hu) HO.out.2.2
    have e1 : cellE [d] ((0 : Nat) : Int) = d := by simp [cellE]
    have e2 : decide (remE [d] ((0 : Nat) : Int) = 0) = true := by simp [remE]
    rw [e1, e2] at h
    exact h)
  go_wp2_with (first | (go_at_call 20; refine HFD.out.mono ?_; rintro e w5 ⟨ko, kc', vo, vc', rfl, HO5, HB5⟩; refine Hid.out ?_))
  apply hidden
  clear HFD
  go_upto_region 3 with fail
  obtain ⟨z, hz⟩ : ∃ z, w5.alloc (.cells #[.slice ko d.key.length kc', .int .i64 d.kd, .slice vo d.val.length vc', .int .i64 d.pg, .int .i64 d.ct, .bool true] 46) = z := ⟨_, rfl⟩
  obtain ⟨fb, hfb⟩ : ∃ fb, w5.heap.size = fb := ⟨_, rfl⟩
  have hbz : Below w5.heap.size w5 z := by rw [← hz]; exact bl_al (Below.refl _ _) (Nat.le_refl _) _
  have hb4z : Below w4.heap.size w4 z := bl_go HB5.out (Nat.le_refl _) hbz
  have hcxz : Cf (Bo b m) x z := HCW4.out.go (Cf.of_below hb4z)
  have hqf : QV6F z fb (.slice ko d.key.length kc') (.int .i64 d.kd) (.slice vo d.val.length vc') (.int .i64 d.pg) (.int .i64 d.ct) (.bool true) := by unfold QV6F; rw [← hz, ← hfb]; exact heap_alloc_last w5 _
  have HFS : Hid (s < fb ∧ fb < z.heap.size ∧ s < w4.heap.size ∧ w.heap.size ≤ w4.heap.size) := hidden (by
    have hn := HNUM.out
    have h4 := HCW4.out.size
    have h5 := HB5.out.size
    exact ⟨by omega, lt_some hqf, by omega, by omega⟩)
  have HFA : Hid (∀ u, Cf (Bo b m) z u → QV6F u fb (.slice ko d.key.length kc') (.int .i64 d.kd) (.slice vo d.val.length vc') (.int .i64 d.pg) (.int .i64 d.ct) (.bool true) ∧ QV7 u s (.int .i64 0) (.slice none 0 0) (.int .i64 0) (.slice none 0 0) (.int .i64 0) (.int .i64 0) (.bool false)) := hidden fun u hu => by
    have hn := HNUM.out
    have hf := HFS.out
    have hxu := hcxz.go hu
    exact ⟨(hu.block fb (by omega) (by rintro (e | e) <;> omega)).trans hqf, (hxu.block s (by omega) (by rintro (e | e) <;> omega)).trans HQ7.out⟩
  have HZB : Hid (Below w4.heap.size w4 z) := hidden hb4z
  have HXZ := hidden hcxz
  have HVL : Hid (Sl z vo d.val.length vc' d.val ∧ ∀ q, vo = some q → w4.heap.size ≤ q.block) := hidden (by
    obtain ⟨ao', c', e1, h1, h2⟩ := HO5.out.2.sl (HO.out.2.2.wf d (by simp)).2 (by omega)
    injection e1 with i1 i2 i3
    subst i1 i3
    exact ⟨h1.on (Nat.le_refl _) hbz, h2⟩)
  have t5 : z.cell? ⟨fb, 5, none⟩ = some (.bool true) := by unfold QV6F at hqf; rw [cell_of_row _ _ 5 _ _ _ hqf]; rfl
  have HAF := hidden (afford_any z b m (rd + 1 + 1) root 1 M ct (by omega) (by unfold needH; simp; omega) (fun u hu => by
    have h4u := bl_go hb4z (Nat.le_refl _) hu
    obtain ⟨a, r, q1, q2, q3, q4, vb, vs, q5⟩ := HQ4.out
    exact height_leaf u b m (rd + 1) root M ct fp [d] (q4.on h4u) HRT.out.1 HRT.out.2 HO.out.1 HO.out.2.1 HO.out.2.2 (by omega) (by omega) (HT.out.go ((HCX.out.go hcxz).go (Cf.of_below hu)))))
  rw [hz, hfb]
  clear hqf hbz hb4z hcxz hz hfb HB5 HO5
  go_wp2_with (first | (go_at_call 31; refine HAF.out.mono ?_; rintro e w3 ⟨rfl, HQ3⟩; refine Hid.out ?_))
  apply hidden
  clear t5 HAF
  have HMS : Hid (∀ k f', M k = some f' → f'.g < s) := hidden fun k f' hk => by
    have h1 := (HB.out.pgs k f' hk).1
    have h2 := HM.out k f' hk
    have hn := HNUM.out
    rcases h1.hat with h0 | ⟨q, off, e', hlt, _⟩
    · omega
    · injection e' with e'
      injection e' with e1 e2
      omega
  have HCL : Hid (Calls Tryz.prog 32 #[iB b, .slice (some ⟨gw, 0, none⟩) 1 cw, .agg #[.slice ko d.key.length kc', .int .i64 d.kd, .slice vo d.val.length vc', .int .i64 d.pg, .int .i64 d.ct, .bool true], .slice none 0 0] w3.drew fun e w' => e = .returned (.int .i64 0) ∧ (w'.cell? ⟨s, 0, none⟩ = some (.int .i64 0) ∧ w'.cell? ⟨s, 1, none⟩ = some (.slice none 0 0) ∧ w'.cell? ⟨s, 2, none⟩ = some (.int .i64 0) ∧ w'.cell? ⟨s, 3, none⟩ = some (.slice none 0 0) ∧ w'.cell? ⟨s, 4, none⟩ = some (.int .i64 0) ∧ w'.cell? ⟨s, 5, none⟩ = some (.int .i64 0) ∧ w'.cell? ⟨s, 6, none⟩ = some (.bool false) ∧ ∀ i, w'.frozen? ⟨s, i, none⟩ = false) ∧ Hid (Cf (Bo b m) z w' ∧ Bq w' b m (rd + 1 + 1) (delM M root) (ct - 1))) := hidden (by
    have hn := HNUM.out
    have hf := HFS.out
    have hcz : Cf (Bo b m) z w3.drew := HQ3.out.1.go (Cf.of_below (Below.refl _ _).drew)
    obtain ⟨a, r, q1, q2, q3, q4, vb, vs, q5⟩ := HQ4.out
    have hr0' : r = 0 := q2.one (by
      have := fnd_self (cs := [d]) (HO.out.2.2.is.rise) 0 d rfl
      rwa [HDK.out] at this)
    subst hr0'
    have hw4 : x.heap.size ≤ w4.heap.size := HCW4.out.size
    have hz4 := HZB.out.size
    have hwy : Wy w3.drew x.heap.size gw cw root a 0 := (q1.on HZB.out).cfB hcz (fun k hk => by rintro (e | e) <;> omega)
    have hpo : Po w3.drew x.heap.size a 2 512 vb vs [d] := (q5.on HZB.out).cfB hcz (fun k hk => by rintro (e | e) <;> omega) ((q4.on HZB.out).noPage (q5.on HZB.out).row)
    refine (changeLeaf_d w3.drew b m (rd + 1 + 1) root M ct (HQ3.out.2.on (Below.refl _ _).drew) gw cw x.heap.size a hwy x.heap.size vb vs d hpo HO.out.2.2 ko d.key.length kc' d.kd vo d.val.length vc' d.pg d.ct (by rw [HO.out.1]; rfl) HM.out HRT.out.1).mono ?_
    rintro e w' ⟨rfl, HQ⟩
    have hzw : Cf (Bo b m) z w' := hcz.go HQ.out.1
    have hr := (HFA.out w' hzw).2
    unfold QV7 at hr
    exact ⟨rfl, ⟨by rw [cell_of_row _ _ 0 _ _ _ hr]; rfl, by rw [cell_of_row _ _ 1 _ _ _ hr]; rfl, by rw [cell_of_row _ _ 2 _ _ _ hr]; rfl, by rw [cell_of_row _ _ 3 _ _ _ hr]; rfl, by rw [cell_of_row _ _ 4 _ _ _ hr]; rfl, by rw [cell_of_row _ _ 5 _ _ _ hr]; rfl, by rw [cell_of_row _ _ 6 _ _ _ hr]; rfl, fun i => by simp [World.frozen?, hr]⟩, hidden ⟨hzw, HQ.out.2⟩⟩)
  have HSF : Hid (∀ u, Cf (Bo b m) z u → S6 fb (.slice ko d.key.length kc') (.int .i64 d.kd) (.slice vo d.val.length vc') (.int .i64 d.pg) (.int .i64 d.ct) (.bool true) u) := hidden fun u hu => S6.of (HFA.out u hu).1
  have HZW : Hid (Cf (Bo b m) w z) := hidden (HCX.out.go HXZ.out)
  have HC3 := hidden HQ3.out.1
  clear HQ4 HK HB HT HM HCX HCW4 HO HRT HDK HQ3 HXZ HZB
  go_wp2_with fail
  refine wp_region_held_drew (S := S6 fb (.slice ko d.key.length kc') (.int .i64 d.kd) (.slice vo d.val.length vc') (.int .i64 d.pg) (.int .i64 d.ct) (.bool true)) (by kernel_rfl) (HSF.out _ (HC3.out.go (Cf.of_below (Below.refl _ _).drew))) (fun hHeld => ?_)
  refine wpAnyH_take (i := 0) (v := ?_) rfl (by kernel_rfl) (by kernel_rfl) (by kernel_rfl) (fun _ _ _ h => h) (Or.inl ⟨by rfl, ?_⟩) (by assumption) ?_
  rotate_left
  · (intro w hSw; obtain ⟨s0, s1, s2, s3, s4, s5⟩ := hSw; go_simp; try (with_reducible rfl))
  try simp only [Act.put, List.getElem_toArray, List.getElem_cons_zero, List.setIfInBounds_toArray, List.set_cons_zero, List.set_cons_succ]
  refine wpAnyH_take (i := 1) (v := ?_) rfl (by kernel_rfl) (by kernel_rfl) (by kernel_rfl) (fun _ _ _ h => h) (Or.inl ⟨by rfl, ?_⟩) (by assumption) ?_
  rotate_left
  · (intro w hSw; obtain ⟨s0, s1, s2, s3, s4, s5⟩ := hSw; go_simp; try (with_reducible rfl))
  try simp only [Act.put, List.getElem_toArray, List.getElem_cons_succ, List.getElem_cons_zero, List.setIfInBounds_toArray, List.set_cons_zero, List.set_cons_succ]
  refine wpAnyH_take (i := 2) (v := ?_) rfl (by kernel_rfl) (by kernel_rfl) (by kernel_rfl) (fun _ _ _ h => h) (Or.inl ⟨by rfl, ?_⟩) (by assumption) ?_
  rotate_left
  · (intro w hSw; obtain ⟨s0, s1, s2, s3, s4, s5⟩ := hSw; go_simp; try (with_reducible rfl))
  try simp only [Act.put, List.getElem_toArray, List.getElem_cons_succ, List.getElem_cons_zero, List.setIfInBounds_toArray, List.set_cons_zero, List.set_cons_succ]
  refine wpAnyH_take (i := 4) (v := ?_) rfl (by kernel_rfl) (by kernel_rfl) (by kernel_rfl) (fun _ _ _ h => h) (Or.inl ⟨by rfl, ?_⟩) (by assumption) ?_
  rotate_left
  · (intro w hSw; obtain ⟨s0, s1, s2, s3, s4, s5⟩ := hSw; go_simp; try (with_reducible rfl))
  try simp only [Act.put, List.getElem_toArray, List.getElem_cons_succ, List.getElem_cons_zero, List.setIfInBounds_toArray, List.set_cons_zero, List.set_cons_succ]
  refine wpAnyH_ready (rs := [3]) (by kernel_rfl) (by simp) ?_
  refine AllReadyH.cons rfl (fun K hK => ?_) AllReadyH.nil
  go_simp
  go_at_call 32
  refine HCL.out.mono ?_
  rintro e w6 ⟨rfl, ⟨x0, x1, x2, x3, x4, x5, x6, fz⟩, HQ6⟩
  dsimp only
  refine hK.out _ _ (HSF.out _ HQ6.out.1) (fun hHeld => ?_)
  clear hK K
  try simp only [Act.put, List.getElem_toArray, List.getElem_cons_succ, List.getElem_cons_zero, List.setIfInBounds_toArray, List.set_cons_zero, List.set_cons_succ]
  refine wpAnyH_take (i := 5) (v := ?_) rfl (by kernel_rfl) (by kernel_rfl) (by kernel_rfl) (fun _ _ _ h => h) (Or.inl ⟨by rfl, ?_⟩) (by assumption) ?_
  rotate_left
  · (intro w hSw; obtain ⟨s0, s1, s2, s3, s4, s5⟩ := hSw; go_simp; try (with_reducible rfl))
  try simp only [Act.put, List.getElem_toArray, List.getElem_cons_succ, List.getElem_cons_zero, List.setIfInBounds_toArray, List.set_cons_zero, List.set_cons_succ]
  refine wpAnyH_ready (rs := [6]) (by kernel_rfl) (by simp) ?_
  refine AllReadyH.cons rfl (fun K hK => ?_) AllReadyH.nil
  go_simp
  have hn := HNUM.out
  have hf := HFS.out
  have hcp := put7_cf w6 s (.int .i64 0) (.slice ko d.key.length kc') (.int .i64 d.kd) (.slice vo d.val.length vc') (.int .i64 d.pg) (.int .i64 d.ct) (.bool true)
  have hrp := put7_row (HFA.out w6 HQ6.out.1).2 (.int .i64 0) (.slice ko d.key.length kc') (.int .i64 d.kd) (.slice vo d.val.length vc') (.int .i64 d.pg) (.int .i64 d.ct) (.bool true)
  have hS8 : S6 fb (.slice ko d.key.length kc') (.int .i64 d.kd) (.slice vo d.val.length vc') (.int .i64 d.pg) (.int .i64 d.ct) (.bool true) (put7 w6 s (.int .i64 0) (.slice ko d.key.length kc') (.int .i64 d.kd) (.slice vo d.val.length vc') (.int .i64 d.pg) (.int .i64 d.ct) (.bool true)) := S6.of ((hcp.block fb (lt_some (HFA.out w6 HQ6.out.1).1) (by omega)).trans (HFA.out w6 HQ6.out.1).1)
  change K _ (put7 w6 s (.int .i64 0) (.slice ko d.key.length kc') (.int .i64 d.kd) (.slice vo d.val.length vc') (.int .i64 d.pg) (.int .i64 d.ct) (.bool true))
  obtain ⟨y, hy⟩ : ∃ y, put7 w6 s (.int .i64 0) (.slice ko d.key.length kc') (.int .i64 d.kd) (.slice vo d.val.length vc') (.int .i64 d.pg) (.int .i64 d.ct) (.bool true) = y := ⟨_, rfl⟩
  rw [hy] at hcp hrp hS8 ⊢
  have HCP := hidden hcp
  have HRP := hidden hrp
  refine hK.out _ _ hS8 (fun hHeld => ?_)
  clear hK K hS8 hHeld hy hcp hrp hn hf x0 x1 x2 x3 x4 x5 x6 fz
  refine wpAnyH_done (by kernel_rfl) ?_ _
  go_wp2
  have hcp := HCP.out
  have hrp := HRP.out
  have hn := HNUM.out
  have hf := HFS.out
  refine bodyPost_ret (results_cell_row rfl _ _ s 48 #[.int .i64 0, .slice ko d.key.length kc', .int .i64 d.kd, .slice vo d.val.length vc', .int .i64 d.pg, .int .i64 d.ct, .bool true] (0, 0) _ (by rfl) hrp Tryz.underlying48 rfl sizeCh) rfl ?_
  obtain ⟨q1, q4⟩ := HQ6.out
  obtain ⟨v1, v2⟩ := HVL.out
  refine ⟨ko, kc', vo, vc', rfl, hidden ⟨(HZW.out.go q1).trans hcp (fun i hi e => by omega), fun u hu => ?_, fun q hq => by have := v2 q hq; omega, q4.cf hcp (by omega) (by omega) (fun k f' hk e => ?_)⟩⟩
  · have v3 := v1.cf q1 (.inr fun q hq => by have := v2 q hq; rintro (e | e) <;> omega)
    have v4 := v3.cf hcp (.inr fun q hq e => by have := v2 q hq; omega)
    exact v4.cf hu (.inr fun q hq => by have := v2 q hq; rintro (e | e) <;> omega)
  · unfold delM at hk
    split at hk
    · cases hk
    · have := HMS.out k f' hk
      omega
end Go.Proofs.YtfcbfombobelmaaGreatDoor
