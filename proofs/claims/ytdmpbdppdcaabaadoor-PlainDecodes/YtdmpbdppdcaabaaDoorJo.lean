/- plain.Page: Used; Insert out of range, and into an empty page. -/
import Derived.Test.YtdmpbdppdcaabaaDoorJn
import Derived.Lib.SlBytesConst
namespace Go.Proofs.YtdmpbdppdcaabaaDoor
open Go.RowKit

set_option maxRecDepth 100000 in
theorem used_row (w : World) (a : Nat) (k : Int) (n : Nat) (bo : Option Addr) (bn bc : Nat) (so : Option Addr) (sn sc : Nat) (h : PR w a k n (.slice bo bn bc) (.slice so sn sc)) (h1 : bn ≤ 65536) (h2 : sn ≤ 65536) :
    Calls Tryd.prog 19 #[.pointer (some ⟨a, 0, none⟩)] w fun e w' => e = .returned (.int .i64 ((8 + 2 * sn + bn : Nat) : Int)) ∧ ∃ q, w' = w.drewN q := by
  obtain ⟨c0, c1, c2, c3⟩ := h.cells
  have b1 : (bn : Int) ≤ 65536 := by omega
  have b2 : (sn : Int) ≤ 65536 := by omega
  have w1 : IntKind.i64.wrap (2 * (sn : Int)) = 2 * (sn : Int) := by rw [IntKind.wrap_i64]; omega
  have w2 : IntKind.i64.wrap (4 + 2 * (sn : Int)) = 4 + 2 * (sn : Int) := by rw [IntKind.wrap_i64]; omega
  have w3 : IntKind.i64.wrap (4 + 2 * (sn : Int) + (bn : Int)) = 4 + 2 * (sn : Int) + (bn : Int) := by rw [IntKind.wrap_i64]; omega
  have w4 : IntKind.i64.wrap (4 + 2 * (sn : Int) + (bn : Int) + 4) = 4 + 2 * (sn : Int) + (bn : Int) + 4 := by rw [IntKind.wrap_i64]; omega
  clear h
  go_enter Tryd.func19, Tryd.ntmps19
  go_wp2_with fail
  go_quiet (fail)
  go_wp2
  go_ret
  exact ⟨ret_int (by omega), _, rfl⟩
set_option maxRecDepth 100000 in
theorem lenR_any (w : World) (a : Nat) (k : Int) (n : Nat) (vb : Value) (so : Option Addr) (sn sc : Nat) (h : PR w a k n vb (.slice so sn sc)) :
    Calls Tryd.prog 18 #[.pointer (some ⟨a, 0, none⟩)] w fun e w' => e = .returned (.int .i64 (sn : Int)) ∧ w' = w := by
  obtain ⟨c0, c1, c2, c3⟩ := h.cells
  clear h
  go_enter Tryd.func18, Tryd.ntmps18
  go_wp2
  go_ret
  exact ⟨rfl, rfl⟩
set_option maxRecDepth 100000 in
theorem insert_over (w : World) (a : Nat) (k : Int) (n : Nat) (vb : Value) (so : Option Addr) (sn sc : Nat) (h : PR w a k n vb (.slice so sn sc)) (i : Nat) (hi : sn < i) (hb : i ≤ 65536) (ka : Option Addr) (kn kc : Nat) (kd : Int) (va : Option Addr) (vn vc : Nat) (pg ct : Int) :
    Calls Tryd.prog 16 #[.pointer (some ⟨a, 0, none⟩), .int .i64 (i : Int), .agg #[.slice ka kn kc, .int .i64 kd, .slice va vn vc, .int .i64 pg, .int .i64 ct]] w fun e w' => e = .returned (.int .i64 64) ∧ Hid (Below w.heap.size w w') := by
  have hbx : ∀ o, Below w.heap.size w (w.alloc o) := fun o => bl_al (Below.refl _ _) (Nat.le_refl _) _
  have HL : Hid (∀ o, Calls Tryd.prog 18 #[.pointer (some ⟨a, 0, none⟩)] (w.alloc o) fun e w' => e = .returned (.int .i64 (sn : Int)) ∧ w' = w.alloc o) := hidden fun o => lenR_any _ a k n vb so sn sc (box_on h (hbx o))
  have HH : Hid (∀ o, Calls Tryd.prog 37 #[.pointer (some ⟨a, 0, none⟩), .int .i64 (i : Int)] (w.alloc o) fun e w' => e = .returned (.bool false) ∧ w' = w.alloc o) := by
    refine hidden fun o => ?_
    have HLo := hidden (HL.out o)
    have i0 : 0 ≤ (i : Int) := by omega
    have i1 : ¬ (i : Int) < (sn : Int) := by omega
    generalize w.alloc o = x at *
    clear h HL hbx
    go_enter Tryd.func37, Tryd.ntmps37
    go_wp2_with (first | (go_at_call 18; refine same_call HLo.out ?_))
    go_ret
    exact ⟨ret_bool (by simp; omega), rfl⟩
  have HBX := hidden hbx
  have i2 : ¬ (i : Int) = (sn : Int) := by omega
  clear h hbx
  go_enter Tryd.func16, Tryd.ntmps16
  go_wp2_with (first | (go_at_call 18; refine same_call (HL.out _) ?_) | (go_at_call 37; refine same_call (HH.out _) ?_))
  go_ret
  exact ⟨rfl, hidden (HBX.out _)⟩

set_option maxRecDepth 100000 in
set_option maxHeartbeats 2000000 in
theorem put_nil (w : World) (a : Nat) (k : Int) (n : Nat) (h : PR w a k n (.slice none 0 0) (.slice none 0 0)) (hn : (n : Int) ≤ 65536) (ka : Option Addr) (kn kc : Nat) (kd : Int) (va : Option Addr) (vn vc : Nat) (pg ct : Int) (key val : List Int) (hk : Sl w ka kn kc key) (hv : Sl w va vn vc val) (hm : mayP k n ⟨key, kd, val, pg, ct⟩) (hz : 8 + ctk ⟨key, kd, val, pg, ct⟩ ≤ n) :
    Calls Tryd.prog 38 #[.pointer (some ⟨a, 0, none⟩), .int .i64 0, .int .i64 0, .agg #[.slice ka kn kc, .int .i64 kd, .slice va vn vc, .int .i64 pg, .int .i64 ct]] w fun e w' => e = .returned (.int .i64 0) ∧ Hid (Cf (· = a) w w') ∧ Hid (∃ bo bn bc so sn sc, PgAt w' a k n bo bn bc so sn sc [⟨key, kd, val, pg, ct⟩]) := by
  have hkr := hk.hroom
  have hvr := hv.hroom
  have hkl := hk.hlen
  have hvl := hv.hlen
  have hmn : mayN k n kn kd vn pg ct := by
    have := (mayP_iff k n ⟨key, kd, val, pg, ct⟩).2 hm
    simpa only [hkl, hvl] using this
  have d1 : decide (mayN k n kn kd vn pg ct) = true := decide_eq_true hmn
  obtain ⟨s, hs⟩ : ∃ s, w.heap.size = s := ⟨_, rfl⟩
  obtain ⟨x, hx⟩ : ∃ x, w.alloc (.cells #[.slice ka kn kc, .int .i64 kd, .slice va vn vc, .int .i64 pg, .int .i64 ct] 44) = x := ⟨_, rfl⟩
  have hbx : Below w.heap.size w x := by rw [← hx]; exact bl_al (Below.refl _ _) (Nat.le_refl _) _
  have HBOX : Hid (C5 x s (.slice ka kn kc) (.int .i64 kd) (.slice va vn vc) (.int .i64 pg) (.int .i64 ct)) := by rw [← hx, ← hs]; exact hidden (C5.box _ _ _ _ _ _)
  have HROW : Hid (PR x a k n (.slice none 0 0) (.slice none 0 0)) := hidden (box_on h hbx)
  have HK := hidden (hk.on (Nat.le_refl _) hbx)
  have HV := hidden (hv.on (Nat.le_refl _) hbx)
  have HBX := hidden hbx
  have HM := hidden hm
  have HZ := hidden hz
  have HMB := hidden (fun u => mayBe_any k (n : Int) ka kn kc kd va vn vc pg ct u (by omega) hn hkr hvr)
  obtain ⟨c0, c1, c2, c3⟩ := HROW.out.cells
  obtain ⟨z0, z1, z2, z3, z4⟩ := HBOX.out.cells
  have HKL := hidden hkl
  have HVL := hidden hvl
  clear h hk hv hm hz hbx hkl hvl hmn
  go_enter Tryd.func38, Tryd.ntmps38
  go_upto_region 1 with fail
  go_cut [20] (fun v u => v = .bool false ∧ Hid (Below x.heap.size x u))
  case first =>
    go_wp2_with fail
    go_region_law (first | (go_simp; go_at_call 31; refine (HMB.out _).mono ?_; rintro e y ⟨rfl, hby⟩; have HBY := hidden hby; clear hby; rw [d1]))
    all_goals (try go_wp2_with fail)
    all_goals go_meet
    all_goals exact ⟨rfl, hidden (by first | exact HBY.out | exact bl_go (Below.refl _ _).drew (Nat.le_refl _) HBY.out | exact bl_go (bl_dr (Below.refl _ _) _) (Nat.le_refl _) HBY.out)⟩
  obtain ⟨rfl, HB1⟩ := hcut
  obtain ⟨u1, hu1⟩ : ∃ u1, u1 = wc := ⟨_, rfl⟩
  subst hu1
  have HROW1 : Hid (PR u1 a k n (.slice none 0 0) (.slice none 0 0)) := hidden (box_on HROW.out HB1.out)
  have HBOX1 : Hid (C5 u1 s (.slice ka kn kc) (.int .i64 kd) (.slice va vn vc) (.int .i64 pg) (.int .i64 ct)) := hidden (box_on HBOX.out HB1.out)
  have HL : Hid (∀ q, Calls Tryd.prog 18 #[.pointer (some ⟨a, 0, none⟩)] (u1.drewN q) fun e w' => e = .returned (.int .i64 0) ∧ w' = u1.drewN q) := hidden fun q => by
    simpa using lenR_any (u1.drewN q) a k n (.slice none 0 0) none 0 0 HROW1.out
  have HSTA : Hid (∀ q, Calls Tryd.prog 59 #[.pointer (some ⟨a, 0, none⟩), .int .i64 0] (u1.drewN q) fun e w' => e = .returned (.int .i64 0) ∧ w' = u1.drewN q) := hidden fun q => start_nil (u1.drewN q) a k n HROW1.out
  clear c0 c1 c2 c3 z0 z1 z2 z3 z4 hx HMB d1
  go_wp2_with fail
  go_quiet (first | (go_at_call 18; exact Calls.quiet_of_same (HL.out _)))
  go_wp2_with (first | (go_at_call 59; refine same_call (HSTA.out _) ?_))
  obtain ⟨u2, hu2⟩ : ∃ u2, u1.drewN nq = u2 := ⟨_, rfl⟩
  rw [hu2]
  have HB2 : Hid (Below x.heap.size x u2) := by rw [← hu2]; exact hidden (bl_dr HB1.out _)
  have HROW2 : Hid (PR u2 a k n (.slice none 0 0) (.slice none 0 0)) := by rw [← hu2]; exact HROW1
  have HBOX2 : Hid (C5 u2 s (.slice ka kn kc) (.int .i64 kd) (.slice va vn vc) (.int .i64 pg) (.int .i64 ct)) := by rw [← hu2]; exact HBOX1
  clear hu2 HROW1 HBOX1 HL HSTA HB1
  obtain ⟨T, hT⟩ : ∃ T : Nat, ctk ⟨key, kd, val, pg, ct⟩ = T := ⟨_, rfl⟩
  have hT1 : 8 + T ≤ n := by rw [← hT]; exact HZ.out
  have HTI : Hid ((if kd = 1 then 7 + (kn : Int) + (vn : Int) else 13 + (kn : Int)) = (T : Int)) := by
    have := ctk_int ⟨key, kd, val, pg, ct⟩
    rw [hT] at this
    simp only [HKL.out, HVL.out] at this
    exact hidden this
  have HFY : Hid (∀ y, Below u2.heap.size u2 y → y.cell? ⟨a, 1, none⟩ = some (.int .i64 (n : Int)) ∧ y.cell? ⟨s, 0, none⟩ = some (.slice ka kn kc) ∧ y.cell? ⟨s, 1, none⟩ = some (.int .i64 kd) ∧ y.cell? ⟨s, 2, none⟩ = some (.slice va vn vc) ∧ y.cell? ⟨s, 3, none⟩ = some (.int .i64 pg) ∧ y.cell? ⟨s, 4, none⟩ = some (.int .i64 ct)) := hidden fun y hy => by
    have h5 : C5 y s (.slice ka kn kc) (.int .i64 kd) (.slice va vn vc) (.int .i64 pg) (.int .i64 ct) := box_on HBOX2.out hy
    exact ⟨(show PR y a k n (.slice none 0 0) (.slice none 0 0) from box_on HROW2.out hy).cells.2.1, h5.cells⟩
  have CU : Hid (∀ y, Below u2.heap.size u2 y → Calls Tryd.prog 19 #[.pointer (some ⟨a, 0, none⟩)] y fun e y' => e = .returned (.int .i64 8) ∧ Hid (Below u2.heap.size u2 y') ∧ (y'.cell? ⟨a, 1, none⟩ = some (.int .i64 (n : Int)) ∧ y'.cell? ⟨s, 0, none⟩ = some (.slice ka kn kc) ∧ y'.cell? ⟨s, 1, none⟩ = some (.int .i64 kd) ∧ y'.cell? ⟨s, 2, none⟩ = some (.slice va vn vc) ∧ y'.cell? ⟨s, 3, none⟩ = some (.int .i64 pg) ∧ y'.cell? ⟨s, 4, none⟩ = some (.int .i64 ct))) := by
    refine hidden fun y hy => (used_row y a k n none 0 0 none 0 0 (box_on HROW2.out hy) (by omega) (by omega)).mono ?_
    rintro e y' ⟨rfl, q, rfl⟩
    exact ⟨by simp, hidden (bl_dr hy _), HFY.out _ (bl_dr hy _)⟩
  have CT : Hid (∀ y, Hid (Below u2.heap.size u2 y) → Calls Tryd.prog 34 #[.agg #[.slice ka kn kc, .int .i64 kd, .slice va vn vc, .int .i64 pg, .int .i64 ct]] y fun e y' => e = .returned (.int .i64 (T : Int)) ∧ Hid (Below u2.heap.size u2 y') ∧ (y'.cell? ⟨a, 1, none⟩ = some (.int .i64 (n : Int)) ∧ y'.cell? ⟨s, 0, none⟩ = some (.slice ka kn kc) ∧ y'.cell? ⟨s, 1, none⟩ = some (.int .i64 kd) ∧ y'.cell? ⟨s, 2, none⟩ = some (.slice va vn vc) ∧ y'.cell? ⟨s, 3, none⟩ = some (.int .i64 pg) ∧ y'.cell? ⟨s, 4, none⟩ = some (.int .i64 ct))) := by
    refine hidden fun y hy => (ptaken_any ka kn kc kd va vn vc pg ct y hkr hvr).mono ?_
    rintro e y' ⟨rfl, hb⟩
    rw [HTI.out]
    exact ⟨rfl, hidden (bl_go hy.out (Nat.le_refl _) hb), HFY.out _ (bl_go hy.out (Nat.le_refl _) hb)⟩
  obtain ⟨c1, z0, z1, z2, z3, z4⟩ := HFY.out u2 (Below.refl _ _)
  have bT : (T : Int) ≤ 65536 := by omega
  have w1 : IntKind.i64.wrap (8 + (T : Int)) = 8 + (T : Int) := by rw [IntKind.wrap_i64]; omega
  have w8 : IntKind.i64.wrap 8 = 8 := by decide
  have hnT : ¬ (n : Int) < 8 + (T : Int) := by omega
  clear hT
  go_cut [71] (fun v u => v = .bool false ∧ Hid (Below u2.heap.size u2 u))
  case first =>
    go_wp2_with fail
    go_region_law (first
      | (go_simp; go_at_call 34; refine (CT.out _ HBU).mono ?_; rintro e y2 ⟨rfl, HBT, t1, t2, t3, t4, t5, t6⟩)
      | (go_simp; go_at_call 19; refine (CU.out _ (by first | exact Below.refl _ _ | exact (Below.refl _ _).drew | exact bl_dr (Below.refl _ _) _)).mono ?_; rintro e y1 ⟨rfl, HBU, s1, s2, s3, s4, s5, s6⟩))
    all_goals (try go_wp2_with fail)
    all_goals go_meet
    all_goals exact ⟨by congr 1; exact decide_eq_false (by omega), HBT⟩
  obtain ⟨rfl, HB3⟩ := hcut
  obtain ⟨u3, hu3⟩ : ∃ u3, u3 = wc := ⟨_, rfl⟩
  subst hu3
  have HBX3 : Hid (Below x.heap.size x u3) := hidden (bl_go HB2.out (Nat.le_refl _) HB3.out)
  clear c1 z0 z1 z2 z3 z4 CU CT HFY
  have HBOX3 : Hid (C5 u3 s (.slice ka kn kc) (.int .i64 kd) (.slice va vn vc) (.int .i64 pg) (.int .i64 ct)) := hidden (box_on HBOX2.out HB3.out)
  obtain ⟨z0, z1, z2, z3, z4⟩ := HBOX3.out.cells
  obtain ⟨v, hv⟩ : ∃ v, u3.alloc (.cells #[.slice ka kn kc, .int .i64 kd, .slice va vn vc, .int .i64 pg, .int .i64 ct] 44) = v := ⟨_, rfl⟩
  have hbv : Below u3.heap.size u3 v := by rw [← hv]; exact bl_al (Below.refl _ _) (Nat.le_refl _) _
  obtain ⟨g, hg⟩ : ∃ g, u3.heap.size = g := ⟨_, rfl⟩
  have HROWV : Hid (PR v a k n (.slice none 0 0) (.slice none 0 0)) := hidden (box_on (box_on HROW.out HBX3.out) hbv)
  have hxv : Below x.heap.size x v := bl_go HBX3.out (Nat.le_refl _) hbv
  have HSC : Hid (SlC v (some ⟨g, 0, none⟩) 1 1 [⟨key, kd, val, pg, ct⟩]) := by
    have hb5 : C5 v g (.slice ka kn kc) (.int .i64 kd) (.slice va vn vc) (.int .i64 pg) (.int .i64 ct) := by rw [← hv, ← hg]; exact C5.box _ _ _ _ _ _
    obtain ⟨e0, e1, e2, e3, e4⟩ := hb5.cells
    refine hidden ⟨rfl, Nat.le_refl _, by omega, (by intro h; cases h), .inr ⟨g, 0, rfl, lt_some hb5, fun i c hc => ?_⟩⟩
    have hi : i = 0 := by have := (List.getElem?_eq_some_iff.1 hc).1; simpa using this
    subst hi
    simp only [List.getElem?_cons_zero, Option.some.injEq] at hc
    subst hc
    refine ⟨ka, kc, va, vc, ?_, e1, ?_, e3, e4, ?_, ?_⟩
    · rw [HKL.out]; exact e0
    · rw [HVL.out]; exact e2
    · rw [HKL.out]; exact HK.out.on (Nat.le_refl _) hxv
    · rw [HVL.out]; exact HV.out.on (Nat.le_refl _) hxv
  have HRP := hidden (replace_nil v a k n (some ⟨g, 0, none⟩) 1 1 [⟨key, kd, val, pg, ct⟩] HROWV.out HSC.out (fun c hc => by
    simp at hc
    subst hc
    exact HM.out.fit hn) (by have := HZ.out; simp [szN]; omega))
  have HCFV : Hid (Cf (· = a) w v) := hidden (Cf.of_below (bl_go HBX.out (Nat.le_refl _) hxv))
  clear hbv hxv
  go_wp2_with (first | (go_at_call 33; refine HRP.out.mono ?_; rintro e w9 ⟨rfl, HC9, HP9⟩))
  go_ret
  exact ⟨rfl, hidden (HCFV.out.go HC9.out), HP9⟩
set_option maxRecDepth 100000 in
theorem insert_nil (w : World) (a : Nat) (k : Int) (n : Nat) (h : PR w a k n (.slice none 0 0) (.slice none 0 0)) (hn : (n : Int) ≤ 65536) (ka : Option Addr) (kn kc : Nat) (kd : Int) (va : Option Addr) (vn vc : Nat) (pg ct : Int) (key val : List Int) (hk : Sl w ka kn kc key) (hv : Sl w va vn vc val) (hm : mayP k n ⟨key, kd, val, pg, ct⟩) (hz : 8 + ctk ⟨key, kd, val, pg, ct⟩ ≤ n) :
    Calls Tryd.prog 16 #[.pointer (some ⟨a, 0, none⟩), .int .i64 0, .agg #[.slice ka kn kc, .int .i64 kd, .slice va vn vc, .int .i64 pg, .int .i64 ct]] w fun e w' => e = .returned (.int .i64 0) ∧ Hid (Cf (· = a) w w') ∧ Hid (∃ bo bn bc so sn sc, PgAt w' a k n bo bn bc so sn sc [⟨key, kd, val, pg, ct⟩]) := by
  obtain ⟨x, hx⟩ : ∃ x, w.alloc (.cells #[.slice ka kn kc, .int .i64 kd, .slice va vn vc, .int .i64 pg, .int .i64 ct] 44) = x := ⟨_, rfl⟩
  have hbx : Below w.heap.size w x := by rw [← hx]; exact bl_al (Below.refl _ _) (Nat.le_refl _) _
  obtain ⟨s, hs⟩ : ∃ s, w.heap.size = s := ⟨_, rfl⟩
  have HBOX : Hid (C5 x s (.slice ka kn kc) (.int .i64 kd) (.slice va vn vc) (.int .i64 pg) (.int .i64 ct)) := by rw [← hx, ← hs]; exact hidden (C5.box _ _ _ _ _ _)
  have HL : Hid (Calls Tryd.prog 18 #[.pointer (some ⟨a, 0, none⟩)] x fun e w' => e = .returned (.int .i64 0) ∧ w' = x) := hidden (by simpa using lenR_any x a k n (.slice none 0 0) none 0 0 (box_on h hbx))
  have HP := hidden (put_nil x a k n (box_on h hbx) hn ka kn kc kd va vn vc pg ct key val (hk.on (Nat.le_refl _) hbx) (hv.on (Nat.le_refl _) hbx) hm hz)
  have HBX := hidden hbx
  obtain ⟨z0, z1, z2, z3, z4⟩ := HBOX.out.cells
  clear h hk hv hm hz hbx
  go_enter Tryd.func16, Tryd.ntmps16
  go_wp2_with (first | (go_at_call 18; refine same_call HL.out ?_) | (go_at_call 38; refine HP.out.mono ?_; rintro e w2 ⟨rfl, HC2, HP2⟩))
  go_ret
  exact ⟨rfl, hidden ((Cf.of_below HBX.out).go HC2.out), HP2⟩
end Go.Proofs.YtdmpbdppdcaabaaDoor

/- The chapter's first example, as numbers. -/

namespace Go.Proofs.YtdmpbdppdcaabaaDoor
open Go.RowKit

/-- The cell a = xy. -/
def cA : Cl := ⟨[97], 1, [120, 121], 0, 0⟩
set_option maxRecDepth 100000 in
theorem cA_wf : cA.Wf := ⟨Wf.cons (by omega) Wf.nil, Wf.cons (by omega) (Wf.cons (by omega) Wf.nil)⟩
set_option maxRecDepth 100000 in
theorem cA_may : mayP 2 512 cA := by decide
set_option maxRecDepth 100000 in
theorem cA_chk : chk 2 512 none [cA] = 0 := by decide
set_option maxRecDepth 100000 in
theorem cA_sz : szN [cA] = 18 := by decide
set_option maxRecDepth 100000 in
theorem cA_bdy : bdy [cA] = [1, 0, 1, 97, 0, 2, 120, 121] := by decide
set_option maxRecDepth 100000 in
theorem pw512 : pw 512 := by decide
set_option maxRecDepth 100000 in
theorem isKd2 : isKd 2 := by decide
set_option maxRecDepth 100000 in
theorem isKd1 : ¬ isKd 1 := by decide
set_option maxRecDepth 100000 in
theorem cA_enc : encE 2 512 [cA] = 0 := by
  unfold encE
  rw [if_pos ⟨isKd2, pw512⟩, if_pos cA_chk, if_neg (by rw [cA_sz]; decide)]
/-- Its page. -/
def pA : List Int := pgB 2 512 [cA]
set_option maxRecDepth 100000 in
theorem pA_is : Is 2 512 [cA] pA := ⟨isKd2, pw512, cA_chk, by rw [cA_sz]; decide, rfl⟩
set_option maxRecDepth 100000 in
theorem pA_len : pA.length = 512 := pgB_length 2 512 [cA] (by rw [cA_sz]; decide)
set_option maxRecDepth 100000 in
theorem pA_wf : Wf pA := pgB_wf (by omega) (fun c hc => by simp at hc; subst hc; exact cA_wf)
set_option maxRecDepth 100000 in
theorem pA_kd : pA.getD 0 0 = 2 := (readM_of pA_is).2.2
set_option maxRecDepth 100000 in
theorem pA_one (cs : List Cl) (h : Is (pA.getD 0 0) pA.length cs pA) : cs = [cA] := (h.one pA_is).2.2
set_option maxRecDepth 100000 in
theorem pA_split : ∃ U : List Int, U.length = 4 ∧ pA = [2, 1, 0, 1, 1, 244] ++ (zs 494 ++ ([1, 0, 1, 97, 0, 2, 120, 121] ++ U)) := by
  obtain ⟨U, hU, h⟩ := pgB_split 2 512 [cA]
  refine ⟨U, hU, ?_⟩
  rw [show pA = pgB 2 512 [cA] from rfl, h, cA_bdy, cA_sz]
  have e1 : sloB (sts (512 - 4 - ([1, 0, 1, 97, 0, 2, 120, 121] : List Int).length) [cA]) = [1, 244] := by decide
  have e2 : fB 2 (([cA] : List Cl).length : Int) = [0, 1] := by decide
  rw [e1, e2]
  rfl
set_option maxRecDepth 100000 in
theorem pA_six : (pA.drop 0).take 6 = [2, 1, 0, 1, 1, 244] := by
  obtain ⟨U, _, h⟩ := pA_split
  rw [h, List.drop_zero]
  rfl
set_option maxRecDepth 100000 in
theorem pA_cell : (pA.drop 500).take 8 = [1, 0, 1, 97, 0, 2, 120, 121] := by
  obtain ⟨U, _, h⟩ := pA_split
  rw [h, ← List.append_assoc, List.drop_left' (by simp [zs_length])]
  rfl
set_option maxRecDepth 100000 in
/-- One cell in a slice of its own. -/
theorem slc_one {u : World} {ka va : Option Addr} {kn kc vn vc : Nat} {kd pg ct : Int} {key val : List Int} (hk : Sl u ka kn kc key) (hv : Sl u va vn vc val) :
    SlC (u.alloc (.cells #[.slice ka kn kc, .int .i64 kd, .slice va vn vc, .int .i64 pg, .int .i64 ct] 44)) (some ⟨u.heap.size, 0, none⟩) 1 1 [⟨key, kd, val, pg, ct⟩] := by
  have hb : Below u.heap.size u (u.alloc (.cells #[.slice ka kn kc, .int .i64 kd, .slice va vn vc, .int .i64 pg, .int .i64 ct] 44)) := bl_al (Below.refl _ _) (Nat.le_refl _) _
  have hb5 := C5.box u (.slice ka kn kc) (.int .i64 kd) (.slice va vn vc) (.int .i64 pg) (.int .i64 ct)
  obtain ⟨e0, e1, e2, e3, e4⟩ := hb5.cells
  refine ⟨rfl, Nat.le_refl _, by omega, (by intro h; cases h), .inr ⟨u.heap.size, 0, rfl, lt_some hb5, fun i c hc => ?_⟩⟩
  have hi : i = 0 := by have := (List.getElem?_eq_some_iff.1 hc).1; simpa using this
  subst hi
  simp only [List.getElem?_cons_zero, Option.some.injEq] at hc
  subst hc
  refine ⟨ka, kc, va, vc, ?_, e1, ?_, e3, e4, ?_, ?_⟩
  · rw [hk.hlen]; exact e0
  · rw [hv.hlen]; exact e2
  · rw [hk.hlen]; exact hk.on (Nat.le_refl _) hb
  · rw [hv.hlen]; exact hv.on (Nat.le_refl _) hb
set_option maxRecDepth 100000 in
theorem conv6H (w : World) (C : Array Value) (n c H : Nat) (hH : w.heap.size = H) : (convert 22 22 (.slice (some ⟨H, 0, none⟩) n c)).run Tryd.prog (w.alloc (.cells C 5)) = .ok (.slice (some ⟨H, 0, none⟩) n c) (w.alloc (.cells C 5 (C.size, C.size + 1))) := by
  subst hH
  exact Lib.run_convert_bytes_const (P := Tryd.prog) w 22 5 C n c Tryd.underlying22 Tryd.underlying5
end Go.Proofs.YtdmpbdppdcaabaaDoor

/- The chapter's first examples: awake answers true. -/

namespace Go.Proofs.YtdmpbdppdcaabaaDoor
open Go.RowKit

set_option maxRecDepth 100000 in
theorem sl_lit (u : World) (C : List Int) (n : Nat) (fr : Nat × Nat) (g : Nat) (h : u.heap[g]? = some (.cells (By C).toArray 5 fr)) (hn : C.length = n) (hw : Wf C) (hb : n ≤ 65536) : Sl u (some ⟨g, 0, none⟩) n n C := by
  refine ⟨hn, Nat.le_refl _, by omega, hw, (by intro h; cases h), .inr ⟨g, 0, rfl, lt_some h, fun i hi => ?_⟩⟩
  rw [Nat.zero_add, cell_of_row _ _ i _ _ _ h]
  simp [By, List.getD, List.getElem?_eq_getElem (show i < C.length by omega)]
/-- What awake holds through its calls. -/
structure Aw (w u : World) (s : Nat) : Prop where
  be : Below w.heap.size w u
  k : Sl u (some ⟨s, 0, none⟩) 1 1 [97]
  v : Sl u (some ⟨s + 1, 0, none⟩) 2 2 [120, 121]
  c : C5 u (s + 2) (.slice (some ⟨s, 0, none⟩) 1 1) (.int .i64 1) (.slice (some ⟨s + 1, 0, none⟩) 2 2) (.int .i64 0) (.int .i64 0)
  hs : s = w.heap.size
set_option maxRecDepth 100000 in
theorem Aw.on {w u u' : World} {s : Nat} (h : Aw w u s) (hb : Below u.heap.size u u') : Aw w u' s := ⟨bl_go h.be (Nat.le_refl _) hb, h.k.on (Nat.le_refl _) hb, h.v.on (Nat.le_refl _) hb, box_on h.c hb, h.hs⟩

set_option maxRecDepth 100000 in
theorem Aw.cf {w u u' : World} {s a : Nat} (h : Aw w u s) (hc : Cf (· = a) u u') (ha : s + 2 < a) : Aw w u' s := by
  have hsw := h.hs
  refine ⟨h.be.trans (hc.below h.be.size (by intro i hi e; omega)), h.k.cf hc (.inr fun p hp => ?_), h.v.cf hc (.inr fun p hp => ?_), h.c.cf hc (by omega), h.hs⟩
  · injection hp with hp; subst hp; simp only; omega
  · injection hp with hp; subst hp; simp only; omega
set_option maxRecDepth 100000 in
theorem fnd_A (r : Nat) (h : Fnd [cA] [97] r) : r = 0 := by
  rcases Nat.eq_zero_or_pos r with h0 | h0
  · exact h0
  · exact absurd (h.lo 0 cA h0 rfl) (by decide)
set_option maxRecDepth 100000 in
set_option maxHeartbeats 4000000 in
theorem awake_any (w : World) (ht : Tab w) (h0 : 0 < w.heap.size) : Calls Tryd.prog 4 #[] w fun e w' => e = .returned (.bool true) ∧ Below w.heap.size w w' := by
  have HT := hidden ht
  obtain ⟨s, hs⟩ : ∃ s, w.heap.size = s := ⟨_, rfl⟩
  have k1 := conv6H w #[.int .u8 97] 1 1 s hs
  have k2 := fun X => conv6H (w.alloc X) #[.int .u8 120, .int .u8 121] 2 2 (s + 1) (by rw [← hs]; simp)
  clear ht
  go_enter Tryd.func4, Tryd.ntmps4
  go_upto_region 2 with fail
  obtain ⟨x, hx⟩ : ∃ x, (((w.alloc (.cells #[.int .u8 97] 5 (1, 2))).alloc (.cells #[.int .u8 120, .int .u8 121] 5 (2, 3))).alloc (.cells #[.slice (some ⟨s, 0, none⟩) 1 1, .int .i64 1, .slice (some ⟨s + 1, 0, none⟩) 2 2, .int .i64 0, .int .i64 0] 44)) = x := ⟨_, rfl⟩
  have HA0 : Hid (Aw w x s) := by
    have z1 : (w.alloc (.cells #[.int .u8 97] 5 (1, 2))).heap.size = s + 1 := by rw [← hs]; simp
    have z2 : ((w.alloc (.cells #[.int .u8 97] 5 (1, 2))).alloc (.cells #[.int .u8 120, .int .u8 121] 5 (2, 3))).heap.size = s + 2 := by rw [← hs]; simp
    have e0 : x.heap[s]? = some (.cells (By [97]).toArray 5 (1, 2)) := by
      rw [← hx]
      refine (Below.heap_alloc _ _ _ (by rw [z2]; omega)).trans ((Below.heap_alloc _ _ _ (by rw [z1]; omega)).trans ?_)
      rw [← hs]
      exact heap_alloc_last w _
    have e1 : x.heap[s + 1]? = some (.cells (By [120, 121]).toArray 5 (2, 3)) := by
      rw [← hx]
      refine (Below.heap_alloc _ _ _ (by rw [z2]; omega)).trans ?_
      have := heap_alloc_last (w.alloc (.cells #[.int .u8 97] 5 (1, 2))) (.cells #[.int .u8 120, .int .u8 121] 5 (2, 3))
      rw [z1] at this
      exact this
    have e2 : C5 x (s + 2) (.slice (some ⟨s, 0, none⟩) 1 1) (.int .i64 1) (.slice (some ⟨s + 1, 0, none⟩) 2 2) (.int .i64 0) (.int .i64 0) := by
      rw [← hx]
      have := heap_alloc_last ((w.alloc (.cells #[.int .u8 97] 5 (1, 2))).alloc (.cells #[.int .u8 120, .int .u8 121] 5 (2, 3))) (.cells #[.slice (some ⟨s, 0, none⟩) 1 1, .int .i64 1, .slice (some ⟨s + 1, 0, none⟩) 2 2, .int .i64 0, .int .i64 0] 44)
      rw [z2] at this
      exact this
    refine hidden ⟨?_, sl_lit x [97] 1 (1, 2) s e0 rfl (Wf.cons (by omega) Wf.nil) (by omega), sl_lit x [120, 121] 2 (2, 3) (s + 1) e1 rfl (Wf.cons (by omega) (Wf.cons (by omega) Wf.nil)) (by omega), e2, hs.symm⟩
    rw [← hx]
    exact bl_al (bl_al (bl_al (Below.refl _ _) (Nat.le_refl _) _) (Nat.le_refl _) _) (Nat.le_refl _) _
  rw [hx]
  have HAL : Hid (∀ u, Aw w u s → ∀ o, Aw w (u.alloc o) s) := hidden fun u hu o => hu.on (bl_al (Below.refl _ _) (Nat.le_refl _) _)
  have HTW : Hid (∀ u, Aw w u s → Tab u ∧ 0 < u.heap.size) := hidden fun u hu => ⟨HT.out.on hu.be h0, Nat.lt_of_lt_of_le h0 hu.be.size⟩
  have HSC : Hid (∀ u, Aw w u s → SlC (u.alloc (.cells #[.slice (some ⟨s, 0, none⟩) 1 1, .int .i64 1, .slice (some ⟨s + 1, 0, none⟩) 2 2, .int .i64 0, .int .i64 0] 44)) (some ⟨u.heap.size, 0, none⟩) 1 1 [cA]) := hidden fun u hu => slc_one hu.k hu.v
  have HE := hidden (encode_plain 2 512 (some ⟨x.heap.size, 0, none⟩) 1 1 [cA] _ (HSC.out x HA0.out) (by rw [cA_sz]; decide) (HTW.out _ (HAL.out x HA0.out _)).1 (HTW.out _ (HAL.out x HA0.out _)).2)
  obtain ⟨c0, c1, c2, c3, c4⟩ := HA0.out.c.cells
  clear k1 k2 hx
  go_wp2_with (first | (go_at_call 13; refine HE.out.mono ?_; rintro e w1 ⟨ao, m, cap, c, rfl, HB1, HQ1⟩; refine Hid.out ?_))
  apply hidden
  obtain ⟨hc, hq⟩ := HQ1.out
  rw [cA_enc] at hc
  subst hc
  obtain ⟨gB, rfl, rfl, rfl, hgB, hbk⟩ : ∃ g, ao = some ⟨g, 0, none⟩ ∧ m = 512 ∧ cap = 512 ∧ (x.alloc (.cells #[.slice (some ⟨s, 0, none⟩) 1 1, .int .i64 1, .slice (some ⟨s + 1, 0, none⟩) 2 2, .int .i64 0, .int .i64 0] 44)).heap.size ≤ g ∧ Bk w1 g pA := by
    rcases hq with ⟨h, _⟩ | ⟨_, g, h1, h2, h3, h4, h5⟩
    · exact absurd rfl h
    · exact ⟨g, h1, h2, h3, h4, h5⟩
  have HBK1 := hidden hbk
  have HA1 : Hid (Aw w w1 s) := hidden ((HAL.out x HA0.out _).on HB1.out)
  clear c0 c1 c2 c3 c4 HE HQ1 hq hbk hgB HB1
  obtain ⟨c0, c1, c2, c3, c4⟩ := HA1.out.c.cells
  have HZ := hidden (size_any 2 (some ⟨w1.heap.size, 0, none⟩) 1 1 [cA] _ (HSC.out w1 HA1.out) (by rw [cA_sz]; decide))
  rw [cA_sz] at HZ
  go_wp2_with (first | (go_at_call 14; refine HZ.out.mono ?_; rintro e w2 ⟨rfl, hb2⟩; have HB2 := hidden (al5 hb2); clear hb2; refine Hid.out ?_))
  apply hidden
  have HA2 : Hid (Aw w w2 s) := hidden (HA1.out.on HB2.out)
  have HBK2 : Hid (Bk w2 gB pA) := hidden (HBK1.out.on HB2.out)
  clear c0 c1 c2 c3 c4 HZ HA0 HA1 HBK1 HB2
  have HD := hidden (decode_any (some ⟨gB, 0, none⟩) 512 512 pA w2 (HBK2.out.sl pA_len pA_wf (by omega)) (HTW.out _ HA2.out).1 (HTW.out _ HA2.out).2)
  go_wp2_with (first | (go_at_call 6; refine HD.out.mono ?_; rintro e w3 ⟨dk, dao, dn, dcap, dc, rfl, HB3, HQ3⟩; refine Hid.out ?_))
  apply hidden
  obtain ⟨rfl, rfl, rfl⟩ : dk = 2 ∧ dn = 1 ∧ dc = 0 := by
    rcases HQ3.out with ⟨_, _, _, _, _, h⟩ | ⟨cs, g, h1, h2, h3, h4, h5, h6, _⟩
    · exact absurd ⟨[cA], pA_is.at⟩ h
    · have := pA_one cs h6
      subst this
      exact ⟨by rw [h2, pA_kd], h4, h1⟩
  have HA3 : Hid (Aw w w3 s) := hidden (HA2.out.on HB3.out)
  have HBK3 : Hid (Bk w3 gB pA) := hidden (HBK2.out.on HB3.out)
  clear HD HQ3 HA2 HBK2 HB3
  have HN := hidden (new_any 2 512 w3)
  go_wp2_with (first | (go_at_call 15; refine HN.out.mono ?_; rintro e w4 ⟨po, ec, rfl, HB4, HQ4⟩; refine Hid.out ?_))
  apply hidden
  obtain ⟨rfl, rfl, hrow⟩ : po = some ⟨w3.heap.size, 0, none⟩ ∧ ec = 0 ∧ PR w4 w3.heap.size 2 512 (.slice none 0 0) (.slice none 0 0) := by
    rcases HQ4.out with ⟨_, _, h⟩ | ⟨h1, h2, _, _, h5⟩
    · exact absurd ⟨isKd2, pw512⟩ h
    · exact ⟨h1, h2, h5⟩
  obtain ⟨a, ha⟩ : ∃ a, w3.heap.size = a := ⟨_, rfl⟩
  rw [ha] at hrow ⊢
  have HROW4 := hidden hrow
  have HAS : Hid (s + 2 < a ∧ gB < a) := hidden (by have h1 := lt_some HA3.out.c; have h2 := lt_some HBK3.out; omega)
  have HA4 : Hid (Aw w w4 s) := hidden (HA3.out.on HB4.out)
  have HBK4 : Hid (Bk w4 gB pA) := hidden (HBK3.out.on HB4.out)
  clear HN HQ4 HA3 HBK3 HB4 hrow ha
  have HM := hidden (new_any 1 512 w4)
  go_wp2_with (first | (go_at_call 15; refine HM.out.mono ?_; rintro e w5 ⟨po, ec, rfl, HB5, HQ5⟩; refine Hid.out ?_))
  apply hidden
  obtain ⟨rfl, rfl⟩ : po = none ∧ ec = 1 := by
    rcases HQ5.out with ⟨h1, h2, _⟩ | ⟨_, _, h, _⟩
    · exact ⟨h1, h2⟩
    · exact absurd h isKd1
  have HROW5 : Hid (PR w5 a 2 512 (.slice none 0 0) (.slice none 0 0)) := hidden (box_on HROW4.out HB5.out)
  have HA5 : Hid (Aw w w5 s) := hidden (HA4.out.on HB5.out)
  have HBK5 : Hid (Bk w5 gB pA) := hidden (HBK4.out.on HB5.out)
  clear HM HQ5 HA4 HBK4 HROW4 HB5
  obtain ⟨c0, c1, c2, c3, c4⟩ := HA5.out.c.cells
  have HI := hidden (insert_nil w5 a 2 512 HROW5.out (by omega) _ 1 1 1 _ 2 2 0 0 [97] [120, 121] HA5.out.k HA5.out.v cA_may (by decide))
  go_wp2_with (first | (go_at_call 16; refine HI.out.mono ?_; rintro e w6 ⟨rfl, HC6, HP6⟩; refine Hid.out ?_))
  apply hidden
  obtain ⟨bo, bn, bc, so, sn, sc, hpg⟩ := HP6.out
  obtain ⟨hsn, hbn⟩ := hpg.sn_eq
  have hsn1 : sn = 1 := hsn
  have hbn1 : bn = 8 := by rw [hbn]; decide
  subst hsn1 hbn1
  have HPG6 : Hid (PgAt w6 a 2 512 bo 8 bc so 1 sc [cA]) := hidden hpg
  have HA6 : Hid (Aw w w6 s) := hidden (HA5.out.cf HC6.out HAS.out.1)
  have HBK6 : Hid (Bk w6 gB pA) := hidden (HBK5.out.cf HC6.out (by have := HAS.out.2; omega))
  clear c0 c1 c2 c3 c4 HI HP6 HC6 hpg hsn hbn HA5 HBK5 HROW5
  have k6 := conv6H w6 #[.int .u8 97] 1 1 w6.heap.size rfl
  obtain ⟨y, hy⟩ : ∃ y, w6.alloc (.cells #[.int .u8 97] 5 (1, 2)) = y := ⟨_, rfl⟩
  have hby : Below w6.heap.size w6 y := by rw [← hy]; exact bl_al (Below.refl _ _) (Nat.le_refl _) _
  have HYS : Hid (Sl y (some ⟨w6.heap.size, 0, none⟩) 1 1 [97]) := hidden (sl_lit y [97] 1 (1, 2) _ (by rw [← hy]; exact heap_alloc_last w6 _) rfl (Wf.cons (by omega) Wf.nil) (by omega))
  have HF := hidden (find_any y a 2 512 bo 8 bc so 1 sc [cA] (HPG6.out.on hby) cA_chk (by omega) (by rw [cA_sz]; decide) (some ⟨w6.heap.size, 0, none⟩) 1 1 [97] HYS.out)
  have HBY := hidden hby
  clear hby
  go_wp2_with (first | (go_at_call 17; refine HF.out.mono ?_; rintro e w7 ⟨r, is, rfl, HB7, HQ7⟩; refine Hid.out ?_))
  apply hidden
  obtain ⟨hf, hi⟩ := HQ7.out
  obtain rfl : r = 0 := fnd_A r hf
  obtain rfl : is = true := hi.2 ⟨cA, rfl, rfl⟩
  have HB67 : Hid (Below w6.heap.size w6 w7) := hidden (bl_go HBY.out (Nat.le_refl _) HB7.out)
  have HA7 : Hid (Aw w w7 s) := hidden (HA6.out.on HB67.out)
  have HBK7 : Hid (Bk w7 gB pA) := hidden (HBK6.out.on HB67.out)
  have HPG7 := hidden (HPG6.out.on HB67.out)
  clear HF HQ7 hf hi HA6 HBK6 HPG6 HB7 HB67 HBY HYS k6 hy
  obtain ⟨c0, c1, c2, c3, c4⟩ := HA7.out.c.cells
  have HO := hidden (insert_over w7 a 2 512 (.slice bo 8 bc) so 1 sc HPG7.out.row 2 (by omega) (by omega) (some ⟨s, 0, none⟩) 1 1 1 (some ⟨s + 1, 0, none⟩) 2 2 0 0)
  go_wp2_with (first | (go_at_call 16; refine HO.out.mono ?_; rintro e w8 ⟨rfl, HB8⟩; refine Hid.out ?_))
  apply hidden
  have HA8 : Hid (Aw w w8 s) := hidden (HA7.out.on HB8.out)
  have HBK8 : Hid (Bk w8 gB pA) := hidden (HBK7.out.on HB8.out)
  have HPG8 := hidden (HPG7.out.on HB8.out)
  clear HO HA7 HBK7 HPG7 HB8 c0 c1 c2 c3 c4
  have hsl := HBK8.out.sl pA_len pA_wf (by omega)
  have q1 := conv_sl (hsl.piece 0 6 512 (by omega) (by omega))
  have q2 := conv_sl (hsl.piece 500 8 12 (by omega) (by omega))
  rw [pA_six] at q1
  rw [pA_cell] at q2
  simp only [Nat.zero_add] at q1 q2
  rw [show strOfNums [2, 1, 0, 1, 1, 244] = ⟨#[2, 1, 0, 1, 1, 244]⟩ from by decide] at q1
  rw [show strOfNums [1, 0, 1, 97, 0, 2, 120, 121] = ⟨#[1, 0, 1, 97, 0, 2, 120, 121]⟩ from by decide] at q2
  have HLN := hidden (len_any w8 a 2 512 bo 8 bc so 1 sc [cA] HPG8.out)
  have HUS := hidden (used_row w8 a 2 512 bo 8 bc so 1 sc HPG8.out.row (by omega) (by omega))
  clear hsl
  go_wp2_with (first | (go_at_call 18; refine same_call HLN.out ?_) | (go_at_call 19; refine HUS.out.mono ?_; rintro e w9 ⟨rfl, q, rfl⟩))
  go_ret
  exact ⟨rfl, bl_dr HA8.out.be _⟩
end Go.Proofs.YtdmpbdppdcaabaaDoor
