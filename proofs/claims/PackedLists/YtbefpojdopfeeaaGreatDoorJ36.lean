/- packed: Insert behind all, of a key that does not begin with the prefix. -/
import Derived.Test.YtbefpojdopfeeaaGreatDoorJ32
namespace Go.Proofs.YtbefpojdopfeeaaGreatDoor
open Go.RowKit

set_option maxRecDepth 100000 in
theorem PO.pgq {w : World} {B a : Nat} {k : Int} {n : Nat} {po : Option Addr} {pn pc : Nat} {bo : Option Addr} {bn bc : Nat} {so : Option Addr} {sn sc : Nat} {ws : Int} {P body : List Int} {st : List Nat} (h : PO w B a k n po pn pc (.slice bo bn bc) (.slice so sn sc) ws P body st) (hw : Wf body) (hb : body.length ≤ 140737488355328) (hs : st.length ≤ 140737488355328) : PgQ w a k n po pn pc bo bn bc so sn sc ws P body st := by
  obtain ⟨bo', bc', so', sc', e1, e2, hp⟩ := h.pg hw hb hs
  injection e1 with i1 i2 i3
  injection e2 with i4 i5 i6
  subst i1 i3 i4 i6
  rw [← i2, ← i5] at hp
  exact hp
set_option maxRecDepth 100000 in
set_option maxHeartbeats 4000000 in
theorem put_end (w : World) (B a : Nat) (k : Int) (n : Nat) (po : Option Addr) (pn pc : Nat) (bo : Option Addr) (bn bc : Nat) (so : Option Addr) (sn sc : Nat) (P body : List Int) (st : List Nat) (cs : List Cl) (hPO : PO w B a k n po pn pc (.slice bo bn bc) (.slice so sn sc) 0 P body st) (hl : LayQ k P cs body st) (hwf : Wf body) (hbb : body.length ≤ 65536) (hB : B ≤ w.heap.size)
    (c : Cl) (ka va : Option Addr) (kc vc : Nat) (hk : Sl w ka c.key.length kc c.key) (hv : Sl w va c.val.length vc c.val) (hm : mayP k n c) (hn : pw n) (hr : Rs (cs ++ [c])) (hno : c.key.take P.length ≠ P) (hfit : szQ k (shP k (cs ++ [c])).length (cs ++ [c]) ≤ n) (t : Nat) (hsn : sn = t + 1) :
    Calls Tryz.prog 43 #[.pointer (some ⟨a, 0, none⟩), .int .i64 (sn : Int), .int .i64 (sn : Int), .agg #[.slice ka c.key.length kc, .int .i64 c.kd, .slice va c.val.length vc, .int .i64 c.pg, .int .i64 c.ct]] w fun e w' => LayTo B a k n (cs ++ [c]) w e w' := by
  have hn2 := pw_nat hn
  have hzz := szQ_eq k (shP k (cs ++ [c])).length (cs ++ [c])
  rw [List.length_append] at hzz
  have hstl := hl.len
  have hsl : st.length = sn := (hPO.on.len).symm
  have hcl : cs.length = sn := by omega
  have hsb : sn ≤ 65535 := by simp at hzz; omega
  have hpg0 := hPO.pgq hwf (by omega) (by omega)
  have hrs : Rs cs := (List.pairwise_append.1 hr).1
  have hcf : c.fit := hm.fit (by omega)
  have hck := hcf.key
  have hcv := hcf.val
  have hbn : bn = body.length := hPO.ob.len
  obtain ⟨d, hd⟩ : ∃ d, cs[t]? = some d := ⟨_, List.getElem?_eq_getElem (by omega)⟩
  have hkl : kl d.key c.key := (List.pairwise_append.1 hr).2.2 d (List.mem_of_getElem? hd) c (by simp)
  have hff : ∀ x ∈ cs ++ [c], x.fit := by
    intro x hx
    rcases List.mem_append.1 hx with e | e
    · exact hl.fit x e
    · simp at e; subst e; exact hcf
  obtain ⟨x, hx⟩ : ∃ x, w.alloc (.cells #[.slice ka c.key.length kc, .int .i64 c.kd, .slice va c.val.length vc, .int .i64 c.pg, .int .i64 c.ct] 39) = x := ⟨_, rfl⟩
  have hbx : Below w.heap.size w x := by rw [← hx]; exact bl_al (Below.refl _ _) (Nat.le_refl _) _
  obtain ⟨s, hs⟩ : ∃ s, w.heap.size = s := ⟨_, rfl⟩
  have hc5 : C5 x s (.slice ka c.key.length kc) (.int .i64 c.kd) (.slice va c.val.length vc) (.int .i64 c.pg) (.int .i64 c.ct) := by rw [← hx, ← hs]; exact C5.box _ _ _ _ _ _
  have HMB := hidden (fun u => mayBe_any k (n : Int) ka c.key.length kc c.kd va c.val.length vc c.pg c.ct u (by omega) (by omega) (by omega) (by omega))
  rw [decide_eq_true ((mayP_iff k n c).2 hm)] at HMB
  have HU : Hid (∀ u, Below x.heap.size x u → PgQ u a k n po pn pc bo bn bc so sn sc 0 P body st ∧ C5 u s (.slice ka c.key.length kc) (.int .i64 c.kd) (.slice va c.val.length vc) (.int .i64 c.pg) (.int .i64 c.ct) ∧ Sl u ka c.key.length kc c.key ∧ Sl u va c.val.length vc c.val ∧ Below w.heap.size w u) := hidden fun u hu => by
    have hb := bl_go hbx (Nat.le_refl _) hu
    exact ⟨hpg0.on hb, box_on hc5 hu, hk.on (Nat.le_refl _) hb, hv.on (Nat.le_refl _) hb, hb⟩
  have HLAY := hidden hl
  have HRS := hidden hrs
  have HD := hidden hd
  have HKL := hidden hkl
  have HNO := hidden hno
  obtain ⟨p0, p1, p2, p3, p4, p5⟩ := (hpg0.on hbx).cells
  obtain ⟨z0, z1, z2, z3, z4⟩ := hc5.cells
  have HBA : Hid (B ≤ a) := hidden hPO.ha
  have HLK : Hid (Lo w.heap.size ka c.key.length ∧ Lo w.heap.size va c.val.length) := hidden ⟨hk.lo, hv.lo⟩
  have HFF := hidden hff
  have HR := hidden hr
  have HFIT := hidden hfit
  have hsI : (sn : Int) - 1 = (t : Int) := by omega
  have hs0 : 0 < sn := by omega
  have hs0I : 0 < (sn : Int) := by omega
  have bsI : (sn : Int) ≤ 65535 := by omega
  have HSN : Hid (sn = t + 1) := hidden hsn
  have hbnb : bn ≤ 65536 := by omega
  have hnb : n ≤ 65536 := hn2.2
  have HSW := hidden hs
  clear hPO hl hwf hk hv hm hn hr hno hfit hpg0 hrs hcf hd hkl hff hbx hc5 hzz hstl hsl hcl hsn hbn hck hcv hn2
  go_enter Tryz.func43, Tryz.ntmps43
  go_upto_region 1 with fail
  go_cut [20] from 10 to 20 (fun v u => v = .bool false ∧ Hid (Below x.heap.size x u))
  case first =>
    go_wp2_with fail
    go_region_with (first | (go_at_call 63; refine (HMB.out _).mono ?_; rintro e w2 ⟨rfl, hb2⟩; have HB2 : Hid (Below x.heap.size x w2) := hidden (by first | exact hb2 | exact bl_go (Below.refl _ _).drew (Nat.le_refl _) hb2 | exact bl_go (bl_dr (Below.refl _ _) _) (Nat.le_refl _) hb2)))
    all_goals (try go_wp2_with fail)
    all_goals go_meet
    all_goals exact ⟨by simp, by first | exact HB2 | exact hidden HB2.out.drew | exact hidden (bl_dr HB2.out _)⟩
  obtain ⟨rfl, HB2⟩ := hcut
  obtain ⟨w2, hw2⟩ : ∃ w2, w2 = wc := ⟨_, rfl⟩
  subst hw2
  clear p0 p1 p2 p3 p4 p5 z0 z1 z2 z3 z4 HMB hx
  obtain ⟨hpg2, hc52, hk2, hv2, hb2⟩ := HU.out w2 HB2.out
  obtain ⟨z0, z1, z2, z3, z4⟩ := hc52.cells
  have HAG := hidden (against_any w2 a k n po pn pc _ _ 0 P hpg2.row hpg2.pre ka c.key.length kc c.key hk2)
  clear hpg2 hc52 hk2 hv2 hb2
  go_wp2_with (first | (go_at_call 66; refine HAG.out.mono ?_; rintro e w3 ⟨b1, b2, b3, b4, ro, rn, rc, b, rfl, HA3, HB3⟩; refine Hid.out ?_))
  apply hidden
  have HX3 : Hid (Below x.heap.size x w3) := hidden (bl_go HB2.out (Nat.le_refl _) HB3.out)
  clear z0 z1 z2 z3 z4 HAG
  have HF3 : Hid (Calls Tryz.prog 110 #[.int .i64 (t : Int), .pointer (some ⟨b1, 0, none⟩), .pointer (some ⟨b2, 0, none⟩), .pointer (some ⟨b3, 0, none⟩), .pointer (some ⟨b4, 0, none⟩)] w3 fun e w' => e = .returned (.int .i64 (ordL d.key c.key)) ∧ Hid (Below w3.heap.size w3 w')) := hidden (against1_any w3 a k n po pn pc bo bn bc so sn sc 0 P body st cs (HU.out w3 HX3.out).1 HLAY.out t d HD.out (by omega) b1 b2 b3 b4 ka c.key.length kc ro rn rc b c.key HA3.out)
  have ho : ordL d.key c.key < 0 := by
    have := HKL.out
    have h3 := ordL_three d.key c.key
    unfold kl at this
    omega
  generalize ordL d.key c.key = o at *
  have hoI : ¬ (0 ≤ o) := by omega
  have HLN : Hid (∀ u, Below x.heap.size x u → Calls Tryz.prog 26 #[.pointer (some ⟨a, 0, none⟩)] u fun e w' => e = .returned (.int .i64 (sn : Int)) ∧ w' = u) := hidden fun u hu => qlen_any u a k n po pn pc bo bn bc so sn sc 0 P body st (HU.out u hu).1
  have hssI : ¬ (sn : Int) < (sn : Int) := by omega
  go_wp2_with (first
    | (go_at_call 110; refine HF3.out.mono ?_; rintro e w4 ⟨rfl, HB4⟩; have HX4 : Hid (Below x.heap.size x w4) := hidden (bl_go HX3.out (Nat.le_refl _) HB4.out); obtain ⟨z0, z1, z2, z3, z4⟩ := (HU.out w4 HX4.out).2.1.cells)
    | (go_at_call 26; refine same_call (HLN.out _ HX4.out) ?_)
    | (go_at_call 88; refine Hid.out ?_))
  apply hidden
  obtain ⟨hpg4, hc54, hk4, hv4, hb4⟩ := HU.out w4 HX4.out
  have HIP := hidden (inPlace_no w4 a k n po pn pc _ _ 0 P hpg4.row hpg4.pre sn (by omega) ka c.key.length kc c.kd va c.val.length vc c.pg c.ct c.key hk4 HNO.out)
  clear hpg4 hc54 hk4 hv4 hb4 HF3
  refine HIP.out.mono ?_
  rintro e w5 ⟨rfl, HB5⟩
  have HX5 : Hid (Below x.heap.size x w5) := hidden (bl_go HX4.out (Nat.le_refl _) HB5.out)
  clear z0 z1 z2 z3 z4 HIP
  obtain ⟨z0, z1, z2, z3, z4⟩ := (HU.out w5 HX5.out).2.1.cells
  have z0a := fun o => (HU.out (w5.alloc o) (bl_al HX5.out (Nat.le_refl _) _)).2.1.cells
  have EN : Hid (∀ u, Below w5.heap.size w5 u → Calls Tryz.prog 47 #[.pointer (some ⟨a, 0, none⟩)] u fun e w' => ∃ g, e = .returned (.slice (some ⟨g, 0, none⟩) sn sn) ∧ (w'.cell? ⟨s, 0, none⟩ = some (.slice ka c.key.length kc) ∧ w'.cell? ⟨s, 1, none⟩ = some (.int .i64 c.kd) ∧ w'.cell? ⟨s, 2, none⟩ = some (.slice va c.val.length vc) ∧ w'.cell? ⟨s, 3, none⟩ = some (.int .i64 c.pg) ∧ w'.cell? ⟨s, 4, none⟩ = some (.int .i64 c.ct)) ∧ Hid (SlE w' g (some ⟨g, 0, none⟩) sn sn cs ∧ RowEq w' g sn ∧ w5.heap.size ≤ g ∧ g < w'.heap.size) ∧ Hid (Below u.heap.size u w') ∧ Hid (Below w5.heap.size w5 w')) := by
    refine hidden fun u hu => (entriesR_any u a k n po pn pc bo bn bc so sn sc 0 P body st cs (HU.out u (bl_go HX5.out (Nat.le_refl _) hu)).1 HLAY.out (by omega)).mono ?_
    rintro e w' ⟨g, rfl, HS, HB⟩
    have hb := bl_go hu (Nat.le_refl _) HB.out.1
    exact ⟨g, rfl, (HU.out w' (bl_go HX5.out (Nat.le_refl _) hb)).2.1.cells, hidden ⟨HS.out.1, HS.out.2, Nat.le_trans hu.size HB.out.2.1, HB.out.2.2⟩, hidden HB.out.1, hidden hb⟩
  have RP : Hid (∀ u w6 g b, Hid (SlE w6 g (some ⟨g, 0, none⟩) sn sn cs ∧ RowEq w6 g sn ∧ w5.heap.size ≤ g ∧ g < w6.heap.size) → Hid (Below w5.heap.size w5 w6) → Below w6.heap.size w6 u → E6 u b (.slice none 0 0) (.slice ka c.key.length kc) (.int .i64 c.kd) (.slice va c.val.length vc) (.int .i64 c.pg) (.int .i64 c.ct) → Calls Tryz.prog 89 #[.slice (some ⟨g, 0, none⟩) sn sn, .int .i64 (sn : Int), .int .i64 (sn : Int), .slice (some ⟨b, 0, none⟩) 1 1] u fun e w' => ∃ ao c', e = .returned (.slice ao (sn + 1) c') ∧ Hid (SlE w' g ao (sn + 1) c' (cs ++ [c]) ∧ Below w5.heap.size w5 w' ∧ g ≤ w'.heap.size)) := by
    refine hidden fun u w6 g b hq h56 hu hb => ?_
    obtain ⟨q1, q2, q3, q4⟩ := hq.out
    have h5u := bl_go h56.out (Nat.le_refl _) hu
    obtain ⟨_, _, hku, hvu, hbu⟩ := HU.out u (bl_go HX5.out (Nat.le_refl _) h5u)
    have hwg : w.heap.size ≤ g := Nat.le_trans (HU.out w5 HX5.out).2.2.2.2.size q3
    refine (repE_any u g sn cs c (q1.on hu) (q2.on hu) hsb b ka va kc vc hb hku hvu (HLK.out.1.mono hwg) (HLK.out.2.mono hwg)).mono ?_
    rintro e w' ⟨ao, c', rfl, HS, HB⟩
    exact ⟨ao, c', rfl, hidden ⟨HS.out, h5u.trans (HB.out.mono q3), Nat.le_trans (Nat.le_of_lt q4) (Nat.le_trans hu.size HB.out.size)⟩⟩
  have LY : Hid (∀ u w7 g ao c', Hid (SlE w7 g ao (sn + 1) c' (cs ++ [c]) ∧ Below w5.heap.size w5 w7 ∧ g ≤ w7.heap.size) → Below w7.heap.size w7 u → Calls Tryz.prog 45 #[.pointer (some ⟨a, 0, none⟩), .slice ao (sn + 1) c'] u fun e w' => LayTo B a k n (cs ++ [c]) w e w') := by
    refine hidden fun u w7 g ao c' hq hu => ?_
    obtain ⟨q1, q2, q3⟩ := hq.out
    have h5u := bl_go q2 (Nat.le_refl _) hu
    obtain ⟨hpu, _, _, _, hbu⟩ := HU.out u (bl_go HX5.out (Nat.le_refl _) h5u)
    refine (lay_fit u B a k n po pn pc bo bn bc so sn sc 0 hpu.row HBA.out (Nat.le_trans hB hbu.size) g ao (sn + 1) c' (cs ++ [c]) (q1.on hu) (Nat.le_trans q3 hu.size) HR.out HFF.out hnb HFIT.out).mono ?_
    rintro e w' ⟨rfl, HC, HP⟩
    exact ⟨rfl, hidden ((Cf.of_below hbu).go HC.out), HP⟩
  clear HU
  go_wp2_with fail
  go_region_with (first
    | (go_at_call 45; refine (LY.out _ w7 g7 ao7 c7 HQ7 (by first | exact Below.refl _ _ | exact (Below.refl _ _).drew | exact bl_dr (Below.refl _ _) _)).mono ?_; rintro e w8 ⟨rfl, HC8, HP8⟩)
    | (go_at_call 89; refine (RP.out _ w6 g7 _ HQ6 HB65 (by repeat (first | exact Below.refl _ _ | apply Below.drew | apply below_drewN | refine bl_al ?_ (Nat.le_refl _) _)) (by first | exact E6.box _ _ _ _ _ _ _ | exact (show E6 _ _ _ _ _ _ _ _ from box_on (by exact E6.box w5 _ _ _ _ _ _) HB6.out))).mono ?_; rintro e w7 ⟨ao7, c7, rfl, HQ7⟩)
    | (go_at_call 47; refine (EN.out _ (by repeat (first | exact Below.refl _ _ | apply Below.drew | apply below_drewN | refine bl_al ?_ (Nat.le_refl _) _))).mono ?_; rintro e w6 ⟨g7, rfl, ⟨y0, y1, y2, y3, y4⟩, HQ6, HB6, HB65⟩))
  all_goals
    go_wp2
    go_ret
    exact ⟨rfl, HC8, HP8⟩
end Go.Proofs.YtbefpojdopfeeaaGreatDoor
