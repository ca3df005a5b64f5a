/- The chapter's first examples: awake answers true. -/
import Derived.Test.YtphjnahmbdinmaaGreatDoorJ15
import Derived.Test.YtphjnahmbdinmaaGreatDoorCards
import Derived.Test.YtphjnahmbdinmaaGreatDoorTie
import Derived.WalkKit
import Derived.ProofKit
import Derived.OpenShut
import Derived.Deep.DeepHandedRow
import Derived.Lib.LaidTab
import Derived.ChangeArms
import Derived.DataElems
import Derived.SizedLaws
import Derived.KernelRfl
import Derived.WideShapes
namespace Go.Proofs.YtphjnahmbdinmaaGreatDoor
open Go.RowKit

set_option maxRecDepth 100000 in
theorem sl_lit (u : World) (C : List Int) (n : Nat) (fr : Nat × Nat) (g : Nat) (h : u.heap[g]? = some (.cells (By C).toArray 5 fr)) (hn : C.length = n) (hw : Wf C) (hb : n ≤ 65536) : Sl u (some ⟨g, 0, none⟩) n n C := by
  refine ⟨hn, Nat.le_refl _, by omega, hw, (by intro h; cases h), .inr ⟨g, 0, rfl, lt_some h, fun i hi => ?_⟩⟩
  rw [Nat.zero_add, cell_of_row _ _ i _ _ _ h]
  simp [By, List.getD, List.getElem?_eq_getElem (show i < C.length by omega)]
/-- What awake holds through its calls. -/
structure Aw (w u : World) (s : Nat) : Prop where
  be : Below w.heap.size w u
  k : Sl u (some ⟨s, 0, none⟩) 1 1 [97]
  v : Sl u (some ⟨s + 1, 0, none⟩) 2 2 [120, 121]
  c : C5 u (s + 2) (.slice (some ⟨s, 0, none⟩) 1 1) (.int .i64 1) (.slice (some ⟨s + 1, 0, none⟩) 2 2) (.int .i64 0) (.int .i64 0)
  hs : s = w.heap.size
set_option maxRecDepth 100000 in
theorem Aw.on {w u u' : World} {s : Nat} (h : Aw w u s) (hb : Below u.heap.size u u') : Aw w u' s := ⟨bl_go h.be (Nat.le_refl _) hb, h.k.on (Nat.le_refl _) hb, h.v.on (Nat.le_refl _) hb, box_on h.c hb, h.hs⟩

set_option maxRecDepth 100000 in
theorem Aw.cf {w u u' : World} {s a : Nat} (h : Aw w u s) (hc : Cf (· = a) u u') (ha : s + 2 < a) : Aw w u' s := by
  have hsw := h.hs
  refine ⟨h.be.trans (hc.below h.be.size (by intro i hi e; omega)), h.k.cf hc (.inr fun p hp => ?_), h.v.cf hc (.inr fun p hp => ?_), h.c.cf hc (by omega), h.hs⟩
  · injection hp with hp; subst hp; simp only; omega
  · injection hp with hp; subst hp; simp only; omega
set_option maxRecDepth 100000 in
theorem fnd_A (r : Nat) (h : Fnd [cA] [97] r) : r = 0 := by
  rcases Nat.eq_zero_or_pos r with h0 | h0
  · exact h0
  · exact absurd (h.lo 0 cA h0 rfl) (by decide)
set_option maxRecDepth 100000 in
set_option maxHeartbeats 4000000 in
theorem awake_any (w : World) (ht : Tab w) (h0 : 1 < w.heap.size) : Calls Tryz.prog 4 #[] w fun e w' => e = .returned (.bool true) ∧ Below w.heap.size w w' := by
  have HT := hidden ht
  obtain ⟨s, hs⟩ : ∃ s, w.heap.size = s := ⟨_, rfl⟩
  have k1 := conv6H w #[.int .u8 97] 1 1 s hs
  have k2 := fun X => conv6H (w.alloc X) #[.int .u8 120, .int .u8 121] 2 2 (s + 1) (by rw [← hs]; simp)
  clear ht
  go_enter Tryz.func4, Tryz.ntmps4
  go_upto_region 2 with fail
  obtain ⟨x, hx⟩ : ∃ x, (((w.alloc (.cells #[.int .u8 97] 5 (1, 2))).alloc (.cells #[.int .u8 120, .int .u8 121] 5 (2, 3))).alloc (.cells #[.slice (some ⟨s, 0, none⟩) 1 1, .int .i64 1, .slice (some ⟨s + 1, 0, none⟩) 2 2, .int .i64 0, .int .i64 0] 40)) = x := ⟨_, rfl⟩
  have HA0 : Hid (Aw w x s) := by
    have z1 : (w.alloc (.cells #[.int .u8 97] 5 (1, 2))).heap.size = s + 1 := by rw [← hs]; simp
    have z2 : ((w.alloc (.cells #[.int .u8 97] 5 (1, 2))).alloc (.cells #[.int .u8 120, .int .u8 121] 5 (2, 3))).heap.size = s + 2 := by rw [← hs]; simp
    have e0 : x.heap[s]? = some (.cells (By [97]).toArray 5 (1, 2)) := by
      rw [← hx]
      refine (Below.heap_alloc _ _ _ (by rw [z2]; omega)).trans ((Below.heap_alloc _ _ _ (by rw [z1]; omega)).trans ?_)
      rw [← hs]
      exact heap_alloc_last w _
    have e1 : x.heap[s + 1]? = some (.cells (By [120, 121]).toArray 5 (2, 3)) := by
      rw [← hx]
      refine (Below.heap_alloc _ _ _ (by rw [z2]; omega)).trans ?_
      have := heap_alloc_last (w.alloc (.cells #[.int .u8 97] 5 (1, 2))) (.cells #[.int .u8 120, .int .u8 121] 5 (2, 3))
      rw [z1] at this
      exact this
    have e2 : C5 x (s + 2) (.slice (some ⟨s, 0, none⟩) 1 1) (.int .i64 1) (.slice (some ⟨s + 1, 0, none⟩) 2 2) (.int .i64 0) (.int .i64 0) := by
      rw [← hx]
      have := heap_alloc_last ((w.alloc (.cells #[.int .u8 97] 5 (1, 2))).alloc (.cells #[.int .u8 120, .int .u8 121] 5 (2, 3))) (.cells #[.slice (some ⟨s, 0, none⟩) 1 1, .int .i64 1, .slice (some ⟨s + 1, 0, none⟩) 2 2, .int .i64 0, .int .i64 0] 40)
      rw [z2] at this
      exact this
    refine hidden ⟨?_, sl_lit x [97] 1 (1, 2) s e0 rfl (Wf.cons (by omega) Wf.nil) (by omega), sl_lit x [120, 121] 2 (2, 3) (s + 1) e1 rfl (Wf.cons (by omega) (Wf.cons (by omega) Wf.nil)) (by omega), e2, hs.symm⟩
    rw [← hx]
    exact bl_al (bl_al (bl_al (Below.refl _ _) (Nat.le_refl _) _) (Nat.le_refl _) _) (Nat.le_refl _) _
  rw [hx]
  have HAL : Hid (∀ u, Aw w u s → ∀ o, Aw w (u.alloc o) s) := hidden fun u hu o => hu.on (bl_al (Below.refl _ _) (Nat.le_refl _) _)
  have HTW : Hid (∀ u, Aw w u s → Tab u ∧ 1 < u.heap.size) := hidden fun u hu => ⟨HT.out.on hu.be h0, Nat.lt_of_lt_of_le h0 hu.be.size⟩
  have HSC : Hid (∀ u, Aw w u s → SlC (u.alloc (.cells #[.slice (some ⟨s, 0, none⟩) 1 1, .int .i64 1, .slice (some ⟨s + 1, 0, none⟩) 2 2, .int .i64 0, .int .i64 0] 40)) (some ⟨u.heap.size, 0, none⟩) 1 1 [cA]) := hidden fun u hu => slc_one hu.k hu.v
  have HE := hidden (encode_plain 2 512 (some ⟨x.heap.size, 0, none⟩) 1 1 [cA] _ (HSC.out x HA0.out) (by rw [cA_sz]; decide) (HTW.out _ (HAL.out x HA0.out _)).1 (HTW.out _ (HAL.out x HA0.out _)).2)
  obtain ⟨c0, c1, c2, c3, c4⟩ := HA0.out.c.cells
  clear k1 k2 hx
  go_wp2_with (first | (go_at_call 15; refine HE.out.mono ?_; rintro e w1 ⟨ao, m, cap, c, rfl, HB1, HQ1⟩; refine Hid.out ?_))
  apply hidden
  obtain ⟨hc, hq⟩ := HQ1.out
  rw [cA_enc] at hc
  subst hc
  obtain ⟨gB, rfl, rfl, rfl, hgB, hbk⟩ : ∃ g, ao = some ⟨g, 0, none⟩ ∧ m = 512 ∧ cap = 512 ∧ (x.alloc (.cells #[.slice (some ⟨s, 0, none⟩) 1 1, .int .i64 1, .slice (some ⟨s + 1, 0, none⟩) 2 2, .int .i64 0, .int .i64 0] 40)).heap.size ≤ g ∧ Bk w1 g pA := by
    rcases hq with ⟨h, _⟩ | ⟨_, g, h1, h2, h3, h4, h5⟩
    · exact absurd rfl h
    · exact ⟨g, h1, h2, h3, h4, h5⟩
  have HBK1 := hidden hbk
  have HA1 : Hid (Aw w w1 s) := hidden ((HAL.out x HA0.out _).on HB1.out)
  clear c0 c1 c2 c3 c4 HE HQ1 hq hbk hgB HB1
  obtain ⟨c0, c1, c2, c3, c4⟩ := HA1.out.c.cells
  have HZ := hidden (size_any 2 (some ⟨w1.heap.size, 0, none⟩) 1 1 [cA] _ (HSC.out w1 HA1.out) (by rw [cA_sz]; decide))
  rw [cA_sz] at HZ
  go_wp2_with (first | (go_at_call 16; refine HZ.out.mono ?_; rintro e w2 ⟨rfl, hb2⟩; have HB2 := hidden (al5 hb2); clear hb2; refine Hid.out ?_))
  apply hidden
  have HA2 : Hid (Aw w w2 s) := hidden (HA1.out.on HB2.out)
  have HBK2 : Hid (Bk w2 gB pA) := hidden (HBK1.out.on HB2.out)
  clear c0 c1 c2 c3 c4 HZ HA0 HA1 HBK1 HB2
  have HD := hidden (decode_any (some ⟨gB, 0, none⟩) 512 512 pA w2 (HBK2.out.sl pA_len pA_wf (by omega)) (HTW.out _ HA2.out).1 (HTW.out _ HA2.out).2)
  go_wp2_with (first | (go_at_call 17; refine HD.out.mono ?_; rintro e w3 ⟨dk, dao, dn, dcap, dc, rfl, HB3, HQ3⟩; refine Hid.out ?_))
  apply hidden
  obtain ⟨rfl, rfl, rfl⟩ : dk = 2 ∧ dn = 1 ∧ dc = 0 := by
    rcases HQ3.out with ⟨_, _, _, _, _, h⟩ | ⟨cs, g, h1, h2, h3, h4, h5, h6, _⟩
    · exact absurd ⟨[cA], pA_is.at⟩ h
    · have := pA_one cs h6
      subst this
      exact ⟨by rw [h2, pA_kd], h4, h1⟩
  have HA3 : Hid (Aw w w3 s) := hidden (HA2.out.on HB3.out)
  have HBK3 : Hid (Bk w3 gB pA) := hidden (HBK2.out.on HB3.out)
  clear HD HQ3 HA2 HBK2 HB3
  have HN := hidden (new_any 2 512 w3)
  go_wp2_with (first | (go_at_call 5; refine HN.out.mono ?_; rintro e w4 ⟨po, ec, rfl, HB4, HQ4⟩; refine Hid.out ?_))
  apply hidden
  obtain ⟨rfl, rfl, hrow⟩ : po = some ⟨w3.heap.size, 0, none⟩ ∧ ec = 0 ∧ PR w4 w3.heap.size 2 512 (.slice none 0 0) (.slice none 0 0) := by
    rcases HQ4.out with ⟨_, _, h⟩ | ⟨h1, h2, _, _, h5⟩
    · exact absurd ⟨isKd2, pw512⟩ h
    · exact ⟨h1, h2, h5⟩
  obtain ⟨a, ha⟩ : ∃ a, w3.heap.size = a := ⟨_, rfl⟩
  rw [ha] at hrow ⊢
  have HROW4 := hidden hrow
  have HAS : Hid (s + 2 < a ∧ gB < a) := hidden (by have h1 := lt_some HA3.out.c; have h2 := lt_some HBK3.out; omega)
  have HA4 : Hid (Aw w w4 s) := hidden (HA3.out.on HB4.out)
  have HBK4 : Hid (Bk w4 gB pA) := hidden (HBK3.out.on HB4.out)
  clear HN HQ4 HA3 HBK3 HB4 hrow ha
  have HM := hidden (new_any 1 512 w4)
  go_wp2_with (first | (go_at_call 5; refine HM.out.mono ?_; rintro e w5 ⟨po, ec, rfl, HB5, HQ5⟩; refine Hid.out ?_))
  apply hidden
  obtain ⟨rfl, rfl⟩ : po = none ∧ ec = 1 := by
    rcases HQ5.out with ⟨h1, h2, _⟩ | ⟨_, _, h, _⟩
    · exact ⟨h1, h2⟩
    · exact absurd h isKd1
  have HROW5 : Hid (PR w5 a 2 512 (.slice none 0 0) (.slice none 0 0)) := hidden (box_on HROW4.out HB5.out)
  have HA5 : Hid (Aw w w5 s) := hidden (HA4.out.on HB5.out)
  have HBK5 : Hid (Bk w5 gB pA) := hidden (HBK4.out.on HB5.out)
  clear HM HQ5 HA4 HBK4 HROW4 HB5
  obtain ⟨c0, c1, c2, c3, c4⟩ := HA5.out.c.cells
  have HI := hidden (insert_nil w5 a 2 512 HROW5.out (by omega) _ 1 1 1 _ 2 2 0 0 [97] [120, 121] HA5.out.k HA5.out.v cA_may (by decide))
  go_wp2_with (first | (go_at_call 18; refine HI.out.mono ?_; rintro e w6 ⟨rfl, HC6, HP6⟩; refine Hid.out ?_))
  apply hidden
  obtain ⟨bo, bn, bc, so, sn, sc, hpg⟩ := HP6.out
  obtain ⟨hsn, hbn⟩ := hpg.sn_eq
  have hsn1 : sn = 1 := hsn
  have hbn1 : bn = 8 := by rw [hbn]; decide
  subst hsn1 hbn1
  have HPG6 : Hid (PgAt w6 a 2 512 bo 8 bc so 1 sc [cA]) := hidden hpg
  have HA6 : Hid (Aw w w6 s) := hidden (HA5.out.cf HC6.out HAS.out.1)
  have HBK6 : Hid (Bk w6 gB pA) := hidden (HBK5.out.cf HC6.out (by have := HAS.out.2; omega))
  clear c0 c1 c2 c3 c4 HI HP6 HC6 hpg hsn hbn HA5 HBK5 HROW5
  have k6 := conv6H w6 #[.int .u8 97] 1 1 w6.heap.size rfl
  obtain ⟨y, hy⟩ : ∃ y, w6.alloc (.cells #[.int .u8 97] 5 (1, 2)) = y := ⟨_, rfl⟩
  have hby : Below w6.heap.size w6 y := by rw [← hy]; exact bl_al (Below.refl _ _) (Nat.le_refl _) _
  have HYS : Hid (Sl y (some ⟨w6.heap.size, 0, none⟩) 1 1 [97]) := hidden (sl_lit y [97] 1 (1, 2) _ (by rw [← hy]; exact heap_alloc_last w6 _) rfl (Wf.cons (by omega) Wf.nil) (by omega))
  have HF := hidden (find_any y a 2 512 bo 8 bc so 1 sc [cA] (HPG6.out.on hby) cA_chk (by omega) (by rw [cA_sz]; decide) (some ⟨w6.heap.size, 0, none⟩) 1 1 [97] HYS.out)
  have HBY := hidden hby
  clear hby
  go_wp2_with (first | (go_at_call 19; refine HF.out.mono ?_; rintro e w7 ⟨r, is, rfl, HB7, HQ7⟩; refine Hid.out ?_))
  apply hidden
  obtain ⟨hf, hi⟩ := HQ7.out
  obtain rfl : r = 0 := fnd_A r hf
  obtain rfl : is = true := hi.2 ⟨cA, rfl, rfl⟩
  have HB67 : Hid (Below w6.heap.size w6 w7) := hidden (bl_go HBY.out (Nat.le_refl _) HB7.out)
  have HA7 : Hid (Aw w w7 s) := hidden (HA6.out.on HB67.out)
  have HBK7 : Hid (Bk w7 gB pA) := hidden (HBK6.out.on HB67.out)
  have HPG7 := hidden (HPG6.out.on HB67.out)
  clear HF HQ7 hf hi HA6 HBK6 HPG6 HB7 HB67 HBY HYS k6 hy
  obtain ⟨c0, c1, c2, c3, c4⟩ := HA7.out.c.cells
  have HO := hidden (insert_over w7 a 2 512 (.slice bo 8 bc) so 1 sc HPG7.out.row 2 (by omega) (by omega) (some ⟨s, 0, none⟩) 1 1 1 (some ⟨s + 1, 0, none⟩) 2 2 0 0)
  go_wp2_with (first | (go_at_call 18; refine HO.out.mono ?_; rintro e w8 ⟨rfl, HB8⟩; refine Hid.out ?_))
  apply hidden
  have HA8 : Hid (Aw w w8 s) := hidden (HA7.out.on HB8.out)
  have HBK8 : Hid (Bk w8 gB pA) := hidden (HBK7.out.on HB8.out)
  have HPG8 := hidden (HPG7.out.on HB8.out)
  clear HO HA7 HBK7 HPG7 HB8 c0 c1 c2 c3 c4
  have hsl := HBK8.out.sl pA_len pA_wf (by omega)
  have q1 := conv_sl (hsl.piece 0 6 512 (by omega) (by omega))
  have q2 := conv_sl (hsl.piece 500 8 12 (by omega) (by omega))
  rw [pA_six] at q1
  rw [pA_cell] at q2
  simp only [Nat.zero_add] at q1 q2
  rw [show strOfNums [2, 1, 0, 1, 1, 244] = ⟨#[2, 1, 0, 1, 1, 244]⟩ from by decide] at q1
  rw [show strOfNums [1, 0, 1, 97, 0, 2, 120, 121] = ⟨#[1, 0, 1, 97, 0, 2, 120, 121]⟩ from by decide] at q2
  have HLN := hidden (len_any w8 a 2 512 bo 8 bc so 1 sc [cA] HPG8.out)
  have HUS := hidden (used_row w8 a 2 512 bo 8 bc so 1 sc HPG8.out.row (by omega) (by omega))
  clear hsl
  go_wp2_with (first | (go_at_call 8; refine same_call HLN.out ?_) | (go_at_call 10; refine HUS.out.mono ?_; rintro e w9 ⟨rfl, q, rfl⟩))
  go_ret
  exact ⟨rfl, bl_dr HA8.out.be _⟩
end Go.Proofs.YtphjnahmbdinmaaGreatDoor

/- What a row's list of variables gives: the table of package ink lies in the world's first block. -/

namespace Go.Proofs.YtphjnahmbdinmaaGreatDoor
open Go.ChangeShapes Go.WideShapes Go.ChangeAt Go.RowKit

set_option maxRecDepth 100000 in
theorem own : ownKnob Tryz.prog.godebug = none := by kernel_rfl
set_option maxRecDepth 100000 in
theorem gTab : Tryz.prog.globalNamed "espalier/ink.steps" = some 1 := by kernel_rfl
set_option maxRecDepth 100000 in
theorem gTabType : (Tryz.prog.globals[1]?).map (·.type) = some 120 := by kernel_rfl
set_option maxRecDepth 100000 in
theorem cellsA : Tryz.prog.cellsOf 120 = 128 := by kernel_rfl
set_option maxRecDepth 100000 in
theorem cellsR : Tryz.prog.cellsOf 119 = 16 := by kernel_rfl
set_option maxRecDepth 100000 in
theorem cellsU : Tryz.prog.cellsOf 89 = 1 := by kernel_rfl

def rowZ (i : Nat) : List Int := ((tabN.drop (16 * i)).take 16).map fun (x : Nat) => (x : Int)
set_option maxRecDepth 100000 in
theorem laid_eq {H : Type} : (Rows.laid_espalier_ink_steps : DataW H) = .agg ((List.range 8).map fun i => Lib.tabData .u32 (rowZ i)) := by kernel_rfl
set_option maxRecDepth 100000 in
theorem rowZ_at (i r : Nat) (hi : i < 8) (hr : r < 16) : (rowZ i)[r]? = some ((tN (16 * i + r) : Nat) : Int) := by
  have h : ∀ (a : Fin 8) (b : Fin 16), (rowZ a.val)[b.val]? = some ((tN (16 * a.val + b.val) : Nat) : Int) := by decide +kernel
  exact h ⟨i, hi⟩ ⟨r, hr⟩

set_option maxRecDepth 100000 in
theorem tab_of_laid {W : World} (h : laidMetH Tryz.prog [("espalier/ink.steps", Rows.laid_espalier_ink_steps)] W) : Tab W := by
  have h' : laidMet Tryz.prog [("espalier/ink.steps", Rows.laid_espalier_ink_steps)] W := h
  obtain ⟨ps, ⟨g', t', cs, fuel, p, q, hg', ht', hvar, hd, _, _⟩, _⟩ := h'
  obtain rfl := Option.some.inj (gTab.symm.trans hg')
  obtain rfl := Option.some.inj (gTabType.symm.trans ht')
  obtain ⟨xs, m, _, hx, _, hxl, hat⟩ := DataW.trod_array Tryz.underlying120 hd
  rw [laid_eq] at hx
  have hxs : (List.range 8).map (fun i => Lib.tabData .u32 (rowZ i)) = xs.map (·.1) := by
    have := congrArg Prod.fst hx
    simpa using this
  rw [cellsR] at hat
  intro j hj
  have e : j = 16 * (j / 16) + j % 16 := by omega
  have hi : j / 16 < 8 := by omega
  have hr : j % 16 < 16 := by omega
  generalize j / 16 = i at *
  generalize j % 16 = r at *
  subst e
  have hxi : xs[i]? = some xs[i] := List.getElem?_eq_getElem (by omega)
  have hfst : xs[i].1 = Lib.tabData .u32 (rowZ i) := by
    have := congrArg (·[i]?) hxs
    simpa [hi, hxl] using this.symm
  have hrow := hat i hi
  rw [hxi] at hrow
  have hc := Lib.cells_of_tab (zs := rowZ i) (p := xs[i].2) (k := .u32) Tryz.underlying119 Tryz.underlying89 cellsU cellsR (hrow.trans (by rw [← hfst]))
  have hcj : cs[16 * i + r]? = some (.int .u32 (tN (16 * i + r))) := by
    have h1 := congrArg (·[r]?) hc
    simp only [List.getElem?_map, rowZ_at i r hi hr, Option.map_some] at h1
    rw [List.getElem?_take_of_lt hr, List.getElem?_drop] at h1
    rw [Nat.mul_comm i 16] at h1
    simpa using h1
  have := World.var?_cell gTab hvar (16 * i + r)
  rw [this]
  simpa using hcj
set_option maxRecDepth 100000 in
theorem laidOut : laidOutB Tryz.prog = true := by kernel_rfl

end Go.Proofs.YtphjnahmbdinmaaGreatDoor

/- From a row's readings to what the walks ask: slices of bytes and of cells that came in. -/

namespace Go.Proofs.YtphjnahmbdinmaaGreatDoor
open Go.ChangeShapes Go.WideShapes Go.ChangeAt Go.RowKit

set_option maxRecDepth 100000 in
theorem bytesU8 : Tryz.prog.bytesOf 5 = 1 := by kernel_rfl
set_option maxRecDepth 100000 in
theorem cells5 : Tryz.prog.cellsOf 5 = 1 := by kernel_rfl

set_option maxRecDepth 100000 in
theorem bulk_lits {H : Type} (k : IntKind) (zs : List Int) : Rows.uptoBulkAll (lits (H := H) k zs) = zs.length := by
  induction zs with
  | nil => rfl
  | cons z zs ih =>
    show Rows.uptoBulkAll (DataW.lit (.int k z) :: lits k zs) = _
    simp only [Rows.uptoBulkAll, Rows.uptoBulk, ih, List.length_cons]
    omega

set_option maxRecDepth 100000 in
theorem open_bytes {H : Type} {enc : TypeId × Value → H} {W : World} {base : Nat} {sp : Nat → Bool} {held : Bool} {v : Value} {d : DataW H} {p : List MemPlace} (hok : Value.okWide Tryz.prog W .any base 38 v)
    (h : DataW.Trod enc Tryz.prog W 0 sp held 38 v d p) (hsz : ∀ elems spare, d = .slice elems spare → (elems.length + spare.length) * Tryz.prog.bytesOf 5 ≤ reachBytes) :
    ∃ a n c l, v = .slice a n c ∧ Sl W a n c l ∧ n ≤ 140737488351232 ∧ n + 1 ≤ Rows.uptoBulk d := by
  obtain ⟨a, len, cap, rfl⟩ := okWide_slice Tryz.underlying38 hok
  obtain ⟨fuel, hf⟩ := h
  rcases open_ints Tryz.underlying38 Tryz.underlying5 cells5 hf with ⟨hcs, hx⟩ | ⟨x, l, c, zs, hcs, _, hl, hm, hz, hx, hcell, hwz⟩
  · simp [Value.cells] at hcs
    obtain ⟨rfl, rfl, rfl⟩ := hcs
    obtain rfl : d = .nil := congrArg Prod.fst hx
    exact ⟨none, 0, 0, [], rfl, ⟨rfl, Nat.le_refl _, by omega, Wf.nil, fun _ => rfl, .inl rfl⟩, by omega, by simp [Rows.uptoBulk]⟩
  · simp [Value.cells] at hcs
    obtain ⟨rfl, rfl, rfl⟩ := hcs
    obtain rfl : d = .slice (lits .u8 (zs.take len)) (lits .u8 (zs.drop len)) := congrArg Prod.fst hx
    have hzl : len ≤ zs.length := by rw [hz]; split <;> omega
    have h1 := hsz _ _ rfl
    rw [bytesU8] at h1
    simp only [lits, List.length_map, List.length_take, List.length_drop, reachBytes] at h1
    have hb : len ≤ 140737488351232 := by omega
    refine ⟨some x, len, cap, zs.take len, rfl, ⟨by simp; omega, hl, by omega, fun y hy => bounds_u8 (hwz y (List.mem_of_mem_take hy)), (by intro h; cases h), ?_⟩, hb, ?_⟩
    · by_cases h0 : len = 0
      · exact .inl h0
      · obtain ⟨b, off, spot⟩ := x
        have hc := hcell 0 (by omega)
        have hspot : spot = none := by simpa [Addr.add] using World.cell?_spot hc
        subst hspot
        refine .inr ⟨b, off, rfl, World.block_lt_of_cell? W _ (by simpa [Addr.add] using hc), fun i hi => ?_⟩
        have h2 := hcell i (by omega)
        rw [Addr.add_lit] at h2
        rw [h2]
        simp [List.getD, hi]
    · simp only [Rows.uptoBulk, bulk_lits, List.length_take]
      omega
set_option maxRecDepth 100000 in
theorem cellsSl : Tryz.prog.cellsOf 38 = 1 := by kernel_rfl
set_option maxRecDepth 100000 in
theorem bytesSl : Tryz.prog.bytesOf 38 = 24 := by kernel_rfl

set_option maxRecDepth 100000 in
/-- One slice of bytes, off its cells. -/
theorem open_cells {H : Type} {enc : TypeId × Value → H} {W : World} {sp : Nat → Bool} {held : Bool} {fuel : Nat} {cs : List Value} {d : DataW H} {p : List MemPlace}
    (hf : DataW.trod enc Tryz.prog W 0 sp held fuel 38 cs = some (d, p)) (hsz : ∀ elems spare, d = .slice elems spare → (elems.length + spare.length) * Tryz.prog.bytesOf 5 ≤ reachBytes) :
    ∃ a n c l, cs = [.slice a n c] ∧ Sl W a n c l ∧ n ≤ 140737488351232 := by
  rcases open_ints Tryz.underlying38 Tryz.underlying5 cells5 hf with ⟨hcs, hx⟩ | ⟨x, len, cap, zs, hcs, _, hl, hm, hz, hx, hcell, hwz⟩
  · exact ⟨none, 0, 0, [], hcs, ⟨rfl, Nat.le_refl _, by omega, Wf.nil, fun _ => rfl, .inl rfl⟩, by omega⟩
  · obtain rfl : d = .slice (lits .u8 (zs.take len)) (lits .u8 (zs.drop len)) := congrArg Prod.fst hx
    have hzl : len ≤ zs.length := by rw [hz]; split <;> omega
    have h1 := hsz _ _ rfl
    rw [bytesU8] at h1
    simp only [lits, List.length_map, List.length_take, List.length_drop, reachBytes] at h1
    have hb : len ≤ 140737488351232 := by omega
    refine ⟨some x, len, cap, zs.take len, hcs, ⟨by simp; omega, hl, by omega, fun y hy => bounds_u8 (hwz y (List.mem_of_mem_take hy)), (by intro h; cases h), ?_⟩, hb⟩
    by_cases h0 : len = 0
    · exact .inl h0
    · obtain ⟨b, off, spot⟩ := x
      have hc := hcell 0 (by omega)
      have hspot : spot = none := by simpa [Addr.add] using World.cell?_spot hc
      subst hspot
      refine .inr ⟨b, off, rfl, World.block_lt_of_cell? W _ (by simpa [Addr.add] using hc), fun i hi => ?_⟩
      have h2 := hcell i (by omega)
      rw [Addr.add_lit] at h2
      rw [h2]
      simp [List.getD, hi]

set_option maxRecDepth 100000 in
theorem weights_part {H : Type} {t : TypeId} {d : DataW H} {n : Nat} : ∀ {ds : List (DataW H)}, d ∈ ds → n ∈ d.weights Tryz.prog t → n ∈ DataW.weightsAll Tryz.prog t ds
  | [], h, _ => by cases h
  | x :: ds, h, hn => by
    simp only [DataW.weightsAll, List.mem_append]
    rcases List.mem_cons.1 h with rfl | h
    · exact .inl hn
    · exact .inr (weights_part h hn)

set_option maxRecDepth 100000 in
theorem cellsCell : Tryz.prog.cellsOf 40 = 5 := by kernel_rfl
set_option maxRecDepth 100000 in
theorem cellsInt : Tryz.prog.cellsOf 3 = 1 := by kernel_rfl
set_option maxRecDepth 100000 in
theorem bytesCell : Tryz.prog.bytesOf 40 = 72 := by kernel_rfl
set_option maxRecDepth 100000 in
theorem lit_i64 {n : Int} (h : (Lit.int .i64 n).wf = true) : -9223372036854775808 ≤ n ∧ n ≤ 9223372036854775807 := by
  simp only [Lit.wf, Bool.and_eq_true, decide_eq_true_eq] at h
  have h1 : IntKind.i64.min = -9223372036854775808 := rfl
  have h2 : IntKind.i64.max = 9223372036854775807 := rfl
  omega

set_option maxRecDepth 100000 in
theorem open_cellsC {H : Type} {enc : TypeId × Value → H} {W : World} {base : Nat} {sp : Nat → Bool} {held : Bool} {v : Value} {d : DataW H} {p : List MemPlace} {ts : List TypeId} {ds : List (DataW H)} (hok : Value.okWide Tryz.prog W .any base 32 v)
    (h : DataW.Trod enc Tryz.prog W 0 sp held 32 v d p) (hsz : (DataW.weightsEach Tryz.prog ts ds).all (· ≤ reachBytes) = true) (j : Nat) (ht : ts[j]? = some 32) (hd : ds[j]? = some d) :
    ∃ a n c cs, v = .slice a n c ∧ SlC W a n c cs ∧ ∀ x ∈ cs, (-9223372036854775808 ≤ x.kd ∧ x.kd ≤ 9223372036854775807) ∧ (-9223372036854775808 ≤ x.pg ∧ x.pg ≤ 9223372036854775807) ∧ (-9223372036854775808 ≤ x.ct ∧ x.ct ≤ 9223372036854775807) := by
  obtain ⟨a, len, cap, rfl⟩ := okWide_slice Tryz.underlying32 hok
  obtain ⟨fuel, hf⟩ := h
  rcases DataW.trod_slice Tryz.underlying32 hf with ⟨hcs, hx⟩ | ⟨x, len', cap', elems, rest, m, _, hcs, hx, _, hl, hm, hlen, hel, hsp, hns⟩
  · simp [Value.cells] at hcs
    obtain ⟨rfl, rfl, rfl⟩ := hcs
    exact ⟨none, 0, 0, [], rfl, ⟨rfl, Nat.le_refl _, by omega, fun _ => rfl, .inl rfl⟩, fun x hx => by cases hx⟩
  · simp [Value.cells] at hcs
    obtain ⟨rfl, rfl, rfl⟩ := hcs
    obtain rfl : d = .slice (elems.map (·.1)) (rest.map (·.1)) := congrArg Prod.fst hx
    have hall : ∀ n, n ∈ DataW.weights Tryz.prog 32 (.slice (elems.map (·.1)) (rest.map (·.1))) → n ≤ reachBytes := by
      intro n hn
      have := List.all_eq_true.1 hsz n (DataW.weights_mem_each ht hd n hn)
      simpa using this
    have hw0 := hall ((elems.length + rest.length) * 72) (by simp [DataW.weights, Tryz.underlying32, bytesCell])
    have hb : len ≤ 140737488355328 := by unfold reachBytes at hw0; omega
    have each : ∀ i, i < len → ∃ (c : Cl) (ka : Option Addr) (kc : Nat) (va : Option Addr) (vc : Nat), W.cell? (x.add (i * 5)) = some (.slice ka c.key.length kc) ∧ W.cell? (x.add (i * 5 + 1)) = some (.int .i64 c.kd) ∧ W.cell? (x.add (i * 5 + 2)) = some (.slice va c.val.length vc) ∧ W.cell? (x.add (i * 5 + 3)) = some (.int .i64 c.pg) ∧ W.cell? (x.add (i * 5 + 4)) = some (.int .i64 c.ct) ∧
        Sl W ka c.key.length kc c.key ∧ Sl W va c.val.length vc c.val ∧ (-9223372036854775808 ≤ c.kd ∧ c.kd ≤ 9223372036854775807) ∧ (-9223372036854775808 ≤ c.pg ∧ c.pg ≤ 9223372036854775807) ∧ (-9223372036854775808 ≤ c.ct ∧ c.ct ≤ 9223372036854775807) := by
      intro i hi
      have h1 := hel i hi
      have hy : elems[i]? = some elems[i] := List.getElem?_eq_getElem (by omega)
      rw [hy, cellsCell, Option.bind_eq_some_iff] at h1
      obtain ⟨cs', hc1, hc2⟩ := h1
      have hmem : elems[i].1 ∈ elems.map (·.1) := List.mem_map.2 ⟨elems[i], List.getElem_mem _, rfl⟩
      have hwe : ∀ n ∈ elems[i].1.weights Tryz.prog 40, n ≤ reachBytes := fun n hn => hall n (by
        simp only [DataW.weights, Tryz.underlying32, List.mem_cons, List.mem_append]
        exact .inr (.inl (weights_part hmem hn)))
      obtain ⟨xs, m', hm', hxe, hl', hxl, hfs⟩ := DataW.trod_struct Tryz.underlying40 hc2
      obtain ⟨_, hcl, hcc⟩ := World.cells?_some hc1
      match cs', hcl with
      | [v0, v1, v2, v3, v4], _ =>
        match xs, hxl with
        | [y0, y1, y2, y3, y4], _ =>
          have h0 : DataW.trod enc Tryz.prog W 0 sp held m' 38 (([v0, v1, v2, v3, v4].drop 0).take (Tryz.prog.cellsOf 38)) = some y0 := hfs 0 _ rfl
          have h1 : DataW.trod enc Tryz.prog W 0 sp held m' 3 (([v0, v1, v2, v3, v4].drop 1).take (Tryz.prog.cellsOf 3)) = some y1 := hfs 1 _ rfl
          have h2 : DataW.trod enc Tryz.prog W 0 sp held m' 38 (([v0, v1, v2, v3, v4].drop 2).take (Tryz.prog.cellsOf 38)) = some y2 := hfs 2 _ rfl
          have h3 : DataW.trod enc Tryz.prog W 0 sp held m' 3 (([v0, v1, v2, v3, v4].drop 3).take (Tryz.prog.cellsOf 3)) = some y3 := hfs 3 _ rfl
          have h4 : DataW.trod enc Tryz.prog W 0 sp held m' 3 (([v0, v1, v2, v3, v4].drop 4).take (Tryz.prog.cellsOf 3)) = some y4 := hfs 4 _ rfl
          rw [cellsSl] at h0 h2
          rw [cellsInt] at h1 h3 h4
          have f0 : DataW.trod enc Tryz.prog W 0 sp held m' 38 [v0] = some (y0.1, y0.2) := h0
          have f1 : DataW.trod enc Tryz.prog W 0 sp held m' 3 [v1] = some y1 := h1
          have f2 : DataW.trod enc Tryz.prog W 0 sp held m' 38 [v2] = some (y2.1, y2.2) := h2
          have f3 : DataW.trod enc Tryz.prog W 0 sp held m' 3 [v3] = some y3 := h3
          have f4 : DataW.trod enc Tryz.prog W 0 sp held m' 3 [v4] = some y4 := h4
          clear h0 h1 h2 h3 h4
          have hde : elems[i].1 = .agg [y0.1, y1.1, y2.1, y3.1, y4.1] := by rw [hxe]; rfl
          rw [hde] at hwe
          have hwe2 : ∀ n ∈ DataW.weightsEach Tryz.prog [38, 3, 38, 3, 3] [y0.1, y1.1, y2.1, y3.1, y4.1], n ≤ reachBytes := by
            intro n hn
            apply hwe n
            simp only [DataW.weights, Tryz.underlying40]
            exact hn
          obtain ⟨ka, kn, kc, kl', g0, hk, _⟩ := open_cells f0 (fun el spr e => hwe2 _ (DataW.weights_mem_each (j := 0) rfl rfl _ (by rw [e]; simp [DataW.weights, Tryz.underlying38])))
          obtain ⟨va, vn, vc, vl', g2, hv, _⟩ := open_cells f2 (fun el spr e => hwe2 _ (DataW.weights_mem_each (j := 2) rfl rfl _ (by rw [e]; simp [DataW.weights, Tryz.underlying38])))
          obtain ⟨n1, g1, _, w1⟩ := DataW.trod_int Tryz.underlying3 f1
          obtain ⟨n3, g3, _, w3⟩ := DataW.trod_int Tryz.underlying3 f3
          obtain ⟨n4, g4, _, w4⟩ := DataW.trod_int Tryz.underlying3 f4
          cases g0
          cases g1
          cases g2
          cases g3
          cases g4
          have hkl := hk.hlen
          have hvl := hv.hlen
          subst hkl hvl
          refine ⟨⟨kl', n1, vl', n3, n4⟩, ka, kc, va, vc, ?_, ?_, ?_, ?_, ?_, hk, hv, lit_i64 w1, lit_i64 w3, lit_i64 w4⟩
          · simpa [Addr.add_add] using hcc 0 (by omega)
          · simpa [Addr.add_add] using hcc 1 (by omega)
          · simpa [Addr.add_add] using hcc 2 (by omega)
          · simpa [Addr.add_add] using hcc 3 (by omega)
          · simpa [Addr.add_add] using hcc 4 (by omega)
    have hls : ∀ n, n ≤ len → ∃ cs : List Cl, cs.length = n ∧ ∀ i c, cs[i]? = some c → ∃ (ka : Option Addr) (kc : Nat) (va : Option Addr) (vc : Nat), W.cell? (x.add (i * 5)) = some (.slice ka c.key.length kc) ∧ W.cell? (x.add (i * 5 + 1)) = some (.int .i64 c.kd) ∧ W.cell? (x.add (i * 5 + 2)) = some (.slice va c.val.length vc) ∧ W.cell? (x.add (i * 5 + 3)) = some (.int .i64 c.pg) ∧ W.cell? (x.add (i * 5 + 4)) = some (.int .i64 c.ct) ∧
        Sl W ka c.key.length kc c.key ∧ Sl W va c.val.length vc c.val ∧ (-9223372036854775808 ≤ c.kd ∧ c.kd ≤ 9223372036854775807) ∧ (-9223372036854775808 ≤ c.pg ∧ c.pg ≤ 9223372036854775807) ∧ (-9223372036854775808 ≤ c.ct ∧ c.ct ≤ 9223372036854775807) := by
      intro n
      induction n with
      | zero => intro _; exact ⟨[], rfl, fun i c hc => by simp at hc⟩
      | succ n ih =>
        intro hn
        obtain ⟨cs, h1, h2⟩ := ih (by omega)
        obtain ⟨c, hc⟩ := each n (by omega)
        refine ⟨cs ++ [c], by simp [h1], fun i d hd => ?_⟩
        by_cases hin : i < n
        · rw [List.getElem?_append_left (by omega)] at hd
          exact h2 i d hd
        · have hi : i < (cs ++ [c]).length := (List.getElem?_eq_some_iff.1 hd).1
          simp only [List.length_append, List.length_cons, List.length_nil] at hi
          obtain rfl : i = n := by omega
          rw [List.getElem?_append_right (by omega), h1] at hd
          simp at hd
          subst hd
          exact hc
    obtain ⟨cs, hl1, hl2⟩ := hls len (Nat.le_refl _)
    refine ⟨some x, len, cap, cs, rfl, ⟨hl1, hl, hb, (by intro h; cases h), ?_⟩, fun c hc => ?_⟩
    · by_cases h0 : len = 0
      · exact .inl h0
      · obtain ⟨b, off, spot⟩ := x
        obtain ⟨c, hc⟩ : ∃ c, cs[0]? = some c := ⟨_, List.getElem?_eq_getElem (by omega)⟩
        obtain ⟨ka, kc, va, vc, h3, _⟩ := hl2 0 c hc
        have hspot : spot = none := by simpa [Addr.add] using World.cell?_spot h3
        subst hspot
        have hbl := World.block_lt_of_cell? W _ h3
        refine .inr ⟨b, off, rfl, by simpa [Addr.add] using hbl, fun i c hc => ?_⟩
        obtain ⟨ka, kc, va, vc, e0, e1, e2, e3, e4, e5, e6, _⟩ := hl2 i c hc
        simp only [Addr.add_lit] at e0 e1 e2 e3 e4
        exact ⟨ka, kc, va, vc, e0, by rw [← e1]; simp [Nat.add_assoc], by rw [← e2]; simp [Nat.add_assoc], by rw [← e3]; simp [Nat.add_assoc], by rw [← e4]; simp [Nat.add_assoc], e5, e6⟩
    · obtain ⟨i, hi, e⟩ := List.getElem_of_mem hc
      obtain ⟨_, _, _, _, _, _, _, _, _, _, _, b1, b2, b3⟩ := hl2 i c (by rw [List.getElem?_eq_getElem hi, e])
      exact ⟨b1, b2, b3⟩
end Go.Proofs.YtphjnahmbdinmaaGreatDoor
