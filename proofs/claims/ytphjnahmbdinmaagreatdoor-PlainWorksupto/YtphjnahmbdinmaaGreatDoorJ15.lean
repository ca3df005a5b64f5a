/- plain.Page: Used; Insert out of range, and into an empty page. -/
import Derived.Test.YtphjnahmbdinmaaGreatDoorJ14
import Derived.Lib.SlBytesConst
namespace Go.Proofs.YtphjnahmbdinmaaGreatDoor
open Go.RowKit

set_option maxRecDepth 100000 in
theorem used_row (w : World) (a : Nat) (k : Int) (n : Nat) (bo : Option Addr) (bn bc : Nat) (so : Option Addr) (sn sc : Nat) (h : PR w a k n (.slice bo bn bc) (.slice so sn sc)) (h1 : bn ≤ 65536) (h2 : sn ≤ 65536) :
    Calls Tryz.prog 10 #[.pointer (some ⟨a, 0, none⟩)] w fun e w' => e = .returned (.int .i64 ((8 + 2 * sn + bn : Nat) : Int)) ∧ ∃ q, w' = w.drewN q := by
  obtain ⟨c0, c1, c2, c3⟩ := h.cells
  have b1 : (bn : Int) ≤ 65536 := by omega
  have b2 : (sn : Int) ≤ 65536 := by omega
  have w1 : IntKind.i64.wrap (2 * (sn : Int)) = 2 * (sn : Int) := by rw [IntKind.wrap_i64]; omega
  have w2 : IntKind.i64.wrap (4 + 2 * (sn : Int)) = 4 + 2 * (sn : Int) := by rw [IntKind.wrap_i64]; omega
  have w3 : IntKind.i64.wrap (4 + 2 * (sn : Int) + (bn : Int)) = 4 + 2 * (sn : Int) + (bn : Int) := by rw [IntKind.wrap_i64]; omega
  have w4 : IntKind.i64.wrap (4 + 2 * (sn : Int) + (bn : Int) + 4) = 4 + 2 * (sn : Int) + (bn : Int) + 4 := by rw [IntKind.wrap_i64]; omega
  clear h
  go_enter Tryz.func10, Tryz.ntmps10
  go_wp2_with fail
  go_quiet (fail)
  go_wp2
  go_ret
  exact ⟨ret_int (by omega), _, rfl⟩
set_option maxRecDepth 100000 in
theorem lenR_any (w : World) (a : Nat) (k : Int) (n : Nat) (vb : Value) (so : Option Addr) (sn sc : Nat) (h : PR w a k n vb (.slice so sn sc)) :
    Calls Tryz.prog 8 #[.pointer (some ⟨a, 0, none⟩)] w fun e w' => e = .returned (.int .i64 (sn : Int)) ∧ w' = w := by
  obtain ⟨c0, c1, c2, c3⟩ := h.cells
  clear h
  go_enter Tryz.func8, Tryz.ntmps8
  go_wp2
  go_ret
  exact ⟨rfl, rfl⟩
set_option maxRecDepth 100000 in
theorem insert_over (w : World) (a : Nat) (k : Int) (n : Nat) (vb : Value) (so : Option Addr) (sn sc : Nat) (h : PR w a k n vb (.slice so sn sc)) (i : Nat) (hi : sn < i) (hb : i ≤ 65536) (ka : Option Addr) (kn kc : Nat) (kd : Int) (va : Option Addr) (vn vc : Nat) (pg ct : Int) :
    Calls Tryz.prog 18 #[.pointer (some ⟨a, 0, none⟩), .int .i64 (i : Int), .agg #[.slice ka kn kc, .int .i64 kd, .slice va vn vc, .int .i64 pg, .int .i64 ct]] w fun e w' => e = .returned (.int .i64 64) ∧ Hid (Below w.heap.size w w') := by
  have hbx : ∀ o, Below w.heap.size w (w.alloc o) := fun o => bl_al (Below.refl _ _) (Nat.le_refl _) _
  have HL : Hid (∀ o, Calls Tryz.prog 8 #[.pointer (some ⟨a, 0, none⟩)] (w.alloc o) fun e w' => e = .returned (.int .i64 (sn : Int)) ∧ w' = w.alloc o) := hidden fun o => lenR_any _ a k n vb so sn sc (box_on h (hbx o))
  have HH : Hid (∀ o, Calls Tryz.prog 46 #[.pointer (some ⟨a, 0, none⟩), .int .i64 (i : Int)] (w.alloc o) fun e w' => e = .returned (.bool false) ∧ w' = w.alloc o) := by
    refine hidden fun o => ?_
    have HLo := hidden (HL.out o)
    have i0 : 0 ≤ (i : Int) := by omega
    have i1 : ¬ (i : Int) < (sn : Int) := by omega
    generalize w.alloc o = x at *
    clear h HL hbx
    go_enter Tryz.func46, Tryz.ntmps46
    go_wp2_with (first | (go_at_call 8; refine same_call HLo.out ?_))
    go_ret
    exact ⟨ret_bool (by simp; omega), rfl⟩
  have HBX := hidden hbx
  have i2 : ¬ (i : Int) = (sn : Int) := by omega
  clear h hbx
  go_enter Tryz.func18, Tryz.ntmps18
  go_wp2_with (first | (go_at_call 8; refine same_call (HL.out _) ?_) | (go_at_call 46; refine same_call (HH.out _) ?_))
  go_ret
  exact ⟨rfl, hidden (HBX.out _)⟩

set_option maxRecDepth 100000 in
set_option maxHeartbeats 2000000 in
theorem put_nil (w : World) (a : Nat) (k : Int) (n : Nat) (h : PR w a k n (.slice none 0 0) (.slice none 0 0)) (hn : (n : Int) ≤ 65536) (ka : Option Addr) (kn kc : Nat) (kd : Int) (va : Option Addr) (vn vc : Nat) (pg ct : Int) (key val : List Int) (hk : Sl w ka kn kc key) (hv : Sl w va vn vc val) (hm : mayP k n ⟨key, kd, val, pg, ct⟩) (hz : 8 + ctk ⟨key, kd, val, pg, ct⟩ ≤ n) :
    Calls Tryz.prog 47 #[.pointer (some ⟨a, 0, none⟩), .int .i64 0, .int .i64 0, .agg #[.slice ka kn kc, .int .i64 kd, .slice va vn vc, .int .i64 pg, .int .i64 ct]] w fun e w' => e = .returned (.int .i64 0) ∧ Hid (Cf (· = a) w w') ∧ Hid (∃ bo bn bc so sn sc, PgAt w' a k n bo bn bc so sn sc [⟨key, kd, val, pg, ct⟩]) := by
  have hkr := hk.hroom
  have hvr := hv.hroom
  have hkl := hk.hlen
  have hvl := hv.hlen
  have hmn : mayN k n kn kd vn pg ct := by
    have := (mayP_iff k n ⟨key, kd, val, pg, ct⟩).2 hm
    simpa only [hkl, hvl] using this
  have d1 : decide (mayN k n kn kd vn pg ct) = true := decide_eq_true hmn
  obtain ⟨s, hs⟩ : ∃ s, w.heap.size = s := ⟨_, rfl⟩
  obtain ⟨x, hx⟩ : ∃ x, w.alloc (.cells #[.slice ka kn kc, .int .i64 kd, .slice va vn vc, .int .i64 pg, .int .i64 ct] 40) = x := ⟨_, rfl⟩
  have hbx : Below w.heap.size w x := by rw [← hx]; exact bl_al (Below.refl _ _) (Nat.le_refl _) _
  have HBOX : Hid (C5 x s (.slice ka kn kc) (.int .i64 kd) (.slice va vn vc) (.int .i64 pg) (.int .i64 ct)) := by rw [← hx, ← hs]; exact hidden (C5.box _ _ _ _ _ _)
  have HROW : Hid (PR x a k n (.slice none 0 0) (.slice none 0 0)) := hidden (box_on h hbx)
  have HK := hidden (hk.on (Nat.le_refl _) hbx)
  have HV := hidden (hv.on (Nat.le_refl _) hbx)
  have HBX := hidden hbx
  have HM := hidden hm
  have HZ := hidden hz
  have HMB := hidden (fun u => mayBe_any k (n : Int) ka kn kc kd va vn vc pg ct u (by omega) hn hkr hvr)
  obtain ⟨c0, c1, c2, c3⟩ := HROW.out.cells
  obtain ⟨z0, z1, z2, z3, z4⟩ := HBOX.out.cells
  have HKL := hidden hkl
  have HVL := hidden hvl
  clear h hk hv hm hz hbx hkl hvl hmn
  go_enter Tryz.func47, Tryz.ntmps47
  go_upto_region 1 with fail
  go_cut [20] (fun v u => v = .bool false ∧ Hid (Below x.heap.size x u))
  case first =>
    go_wp2_with fail
    go_region_law (first | (go_simp; go_at_call 40; refine (HMB.out _).mono ?_; rintro e y ⟨rfl, hby⟩; have HBY := hidden hby; clear hby; rw [d1]))
    all_goals (try go_wp2_with fail)
    all_goals go_meet
    all_goals exact ⟨rfl, hidden (by first | exact HBY.out | exact bl_go (Below.refl _ _).drew (Nat.le_refl _) HBY.out | exact bl_go (bl_dr (Below.refl _ _) _) (Nat.le_refl _) HBY.out)⟩
  obtain ⟨rfl, HB1⟩ := hcut
  obtain ⟨u1, hu1⟩ : ∃ u1, u1 = wc := ⟨_, rfl⟩
  subst hu1
  have HROW1 : Hid (PR u1 a k n (.slice none 0 0) (.slice none 0 0)) := hidden (box_on HROW.out HB1.out)
  have HBOX1 : Hid (C5 u1 s (.slice ka kn kc) (.int .i64 kd) (.slice va vn vc) (.int .i64 pg) (.int .i64 ct)) := hidden (box_on HBOX.out HB1.out)
  have HL : Hid (∀ q, Calls Tryz.prog 8 #[.pointer (some ⟨a, 0, none⟩)] (u1.drewN q) fun e w' => e = .returned (.int .i64 0) ∧ w' = u1.drewN q) := hidden fun q => by
    simpa using lenR_any (u1.drewN q) a k n (.slice none 0 0) none 0 0 HROW1.out
  have HSTA : Hid (∀ q, Calls Tryz.prog 69 #[.pointer (some ⟨a, 0, none⟩), .int .i64 0] (u1.drewN q) fun e w' => e = .returned (.int .i64 0) ∧ w' = u1.drewN q) := hidden fun q => start_nil (u1.drewN q) a k n HROW1.out
  clear c0 c1 c2 c3 z0 z1 z2 z3 z4 hx HMB d1
  go_wp2_with fail
  go_quiet (first | (go_at_call 8; exact Calls.quiet_of_same (HL.out _)))
  go_wp2_with (first | (go_at_call 69; refine same_call (HSTA.out _) ?_))
  obtain ⟨u2, hu2⟩ : ∃ u2, u1.drewN nq = u2 := ⟨_, rfl⟩
  rw [hu2]
  have HB2 : Hid (Below x.heap.size x u2) := by rw [← hu2]; exact hidden (bl_dr HB1.out _)
  have HROW2 : Hid (PR u2 a k n (.slice none 0 0) (.slice none 0 0)) := by rw [← hu2]; exact HROW1
  have HBOX2 : Hid (C5 u2 s (.slice ka kn kc) (.int .i64 kd) (.slice va vn vc) (.int .i64 pg) (.int .i64 ct)) := by rw [← hu2]; exact HBOX1
  clear hu2 HROW1 HBOX1 HL HSTA HB1
  obtain ⟨T, hT⟩ : ∃ T : Nat, ctk ⟨key, kd, val, pg, ct⟩ = T := ⟨_, rfl⟩
  have hT1 : 8 + T ≤ n := by rw [← hT]; exact HZ.out
  have HTI : Hid ((if kd = 1 then 7 + (kn : Int) + (vn : Int) else 13 + (kn : Int)) = (T : Int)) := by
    have := ctk_int ⟨key, kd, val, pg, ct⟩
    rw [hT] at this
    simp only [HKL.out, HVL.out] at this
    exact hidden this
  have HFY : Hid (∀ y, Below u2.heap.size u2 y → y.cell? ⟨a, 1, none⟩ = some (.int .i64 (n : Int)) ∧ y.cell? ⟨s, 0, none⟩ = some (.slice ka kn kc) ∧ y.cell? ⟨s, 1, none⟩ = some (.int .i64 kd) ∧ y.cell? ⟨s, 2, none⟩ = some (.slice va vn vc) ∧ y.cell? ⟨s, 3, none⟩ = some (.int .i64 pg) ∧ y.cell? ⟨s, 4, none⟩ = some (.int .i64 ct)) := hidden fun y hy => by
    have h5 : C5 y s (.slice ka kn kc) (.int .i64 kd) (.slice va vn vc) (.int .i64 pg) (.int .i64 ct) := box_on HBOX2.out hy
    exact ⟨(show PR y a k n (.slice none 0 0) (.slice none 0 0) from box_on HROW2.out hy).cells.2.1, h5.cells⟩
  have CU : Hid (∀ y, Below u2.heap.size u2 y → Calls Tryz.prog 10 #[.pointer (some ⟨a, 0, none⟩)] y fun e y' => e = .returned (.int .i64 8) ∧ Hid (Below u2.heap.size u2 y') ∧ (y'.cell? ⟨a, 1, none⟩ = some (.int .i64 (n : Int)) ∧ y'.cell? ⟨s, 0, none⟩ = some (.slice ka kn kc) ∧ y'.cell? ⟨s, 1, none⟩ = some (.int .i64 kd) ∧ y'.cell? ⟨s, 2, none⟩ = some (.slice va vn vc) ∧ y'.cell? ⟨s, 3, none⟩ = some (.int .i64 pg) ∧ y'.cell? ⟨s, 4, none⟩ = some (.int .i64 ct))) := by
    refine hidden fun y hy => (used_row y a k n none 0 0 none 0 0 (box_on HROW2.out hy) (by omega) (by omega)).mono ?_
    rintro e y' ⟨rfl, q, rfl⟩
    exact ⟨by simp, hidden (bl_dr hy _), HFY.out _ (bl_dr hy _)⟩
  have CT : Hid (∀ y, Hid (Below u2.heap.size u2 y) → Calls Tryz.prog 43 #[.agg #[.slice ka kn kc, .int .i64 kd, .slice va vn vc, .int .i64 pg, .int .i64 ct]] y fun e y' => e = .returned (.int .i64 (T : Int)) ∧ Hid (Below u2.heap.size u2 y') ∧ (y'.cell? ⟨a, 1, none⟩ = some (.int .i64 (n : Int)) ∧ y'.cell? ⟨s, 0, none⟩ = some (.slice ka kn kc) ∧ y'.cell? ⟨s, 1, none⟩ = some (.int .i64 kd) ∧ y'.cell? ⟨s, 2, none⟩ = some (.slice va vn vc) ∧ y'.cell? ⟨s, 3, none⟩ = some (.int .i64 pg) ∧ y'.cell? ⟨s, 4, none⟩ = some (.int .i64 ct))) := by
    refine hidden fun y hy => (ptaken_any ka kn kc kd va vn vc pg ct y hkr hvr).mono ?_
    rintro e y' ⟨rfl, hb⟩
    rw [HTI.out]
    exact ⟨rfl, hidden (bl_go hy.out (Nat.le_refl _) hb), HFY.out _ (bl_go hy.out (Nat.le_refl _) hb)⟩
  obtain ⟨c1, z0, z1, z2, z3, z4⟩ := HFY.out u2 (Below.refl _ _)
  have bT : (T : Int) ≤ 65536 := by omega
  have w1 : IntKind.i64.wrap (8 + (T : Int)) = 8 + (T : Int) := by rw [IntKind.wrap_i64]; omega
  have w8 : IntKind.i64.wrap 8 = 8 := by decide
  have hnT : ¬ (n : Int) < 8 + (T : Int) := by omega
  clear hT
  go_cut [71] (fun v u => v = .bool false ∧ Hid (Below u2.heap.size u2 u))
  case first =>
    go_wp2_with fail
    go_region_law (first
      | (go_simp; go_at_call 43; refine (CT.out _ HBU).mono ?_; rintro e y2 ⟨rfl, HBT, t1, t2, t3, t4, t5, t6⟩)
      | (go_simp; go_at_call 10; refine (CU.out _ (by first | exact Below.refl _ _ | exact (Below.refl _ _).drew | exact bl_dr (Below.refl _ _) _)).mono ?_; rintro e y1 ⟨rfl, HBU, s1, s2, s3, s4, s5, s6⟩))
    all_goals (try go_wp2_with fail)
    all_goals go_meet
    all_goals exact ⟨by congr 1; exact decide_eq_false (by omega), HBT⟩
  obtain ⟨rfl, HB3⟩ := hcut
  obtain ⟨u3, hu3⟩ : ∃ u3, u3 = wc := ⟨_, rfl⟩
  subst hu3
  have HBX3 : Hid (Below x.heap.size x u3) := hidden (bl_go HB2.out (Nat.le_refl _) HB3.out)
  clear c1 z0 z1 z2 z3 z4 CU CT HFY
  have HBOX3 : Hid (C5 u3 s (.slice ka kn kc) (.int .i64 kd) (.slice va vn vc) (.int .i64 pg) (.int .i64 ct)) := hidden (box_on HBOX2.out HB3.out)
  obtain ⟨z0, z1, z2, z3, z4⟩ := HBOX3.out.cells
  obtain ⟨v, hv⟩ : ∃ v, u3.alloc (.cells #[.slice ka kn kc, .int .i64 kd, .slice va vn vc, .int .i64 pg, .int .i64 ct] 40) = v := ⟨_, rfl⟩
  have hbv : Below u3.heap.size u3 v := by rw [← hv]; exact bl_al (Below.refl _ _) (Nat.le_refl _) _
  obtain ⟨g, hg⟩ : ∃ g, u3.heap.size = g := ⟨_, rfl⟩
  have HROWV : Hid (PR v a k n (.slice none 0 0) (.slice none 0 0)) := hidden (box_on (box_on HROW.out HBX3.out) hbv)
  have hxv : Below x.heap.size x v := bl_go HBX3.out (Nat.le_refl _) hbv
  have HSC : Hid (SlC v (some ⟨g, 0, none⟩) 1 1 [⟨key, kd, val, pg, ct⟩]) := by
    have hb5 : C5 v g (.slice ka kn kc) (.int .i64 kd) (.slice va vn vc) (.int .i64 pg) (.int .i64 ct) := by rw [← hv, ← hg]; exact C5.box _ _ _ _ _ _
    obtain ⟨e0, e1, e2, e3, e4⟩ := hb5.cells
    refine hidden ⟨rfl, Nat.le_refl _, by omega, (by intro h; cases h), .inr ⟨g, 0, rfl, lt_some hb5, fun i c hc => ?_⟩⟩
    have hi : i = 0 := by have := (List.getElem?_eq_some_iff.1 hc).1; simpa using this
    subst hi
    simp only [List.getElem?_cons_zero, Option.some.injEq] at hc
    subst hc
    refine ⟨ka, kc, va, vc, ?_, e1, ?_, e3, e4, ?_, ?_⟩
    · rw [HKL.out]; exact e0
    · rw [HVL.out]; exact e2
    · rw [HKL.out]; exact HK.out.on (Nat.le_refl _) hxv
    · rw [HVL.out]; exact HV.out.on (Nat.le_refl _) hxv
  have HRP := hidden (replace_nil v a k n (some ⟨g, 0, none⟩) 1 1 [⟨key, kd, val, pg, ct⟩] HROWV.out HSC.out (fun c hc => by
    simp at hc
    subst hc
    exact HM.out.fit hn) (by have := HZ.out; simp [szN]; omega))
  have HCFV : Hid (Cf (· = a) w v) := hidden (Cf.of_below (bl_go HBX.out (Nat.le_refl _) hxv))
  clear hbv hxv
  go_wp2_with (first | (go_at_call 42; refine HRP.out.mono ?_; rintro e w9 ⟨rfl, HC9, HP9⟩))
  go_ret
  exact ⟨rfl, hidden (HCFV.out.go HC9.out), HP9⟩
set_option maxRecDepth 100000 in
theorem insert_nil (w : World) (a : Nat) (k : Int) (n : Nat) (h : PR w a k n (.slice none 0 0) (.slice none 0 0)) (hn : (n : Int) ≤ 65536) (ka : Option Addr) (kn kc : Nat) (kd : Int) (va : Option Addr) (vn vc : Nat) (pg ct : Int) (key val : List Int) (hk : Sl w ka kn kc key) (hv : Sl w va vn vc val) (hm : mayP k n ⟨key, kd, val, pg, ct⟩) (hz : 8 + ctk ⟨key, kd, val, pg, ct⟩ ≤ n) :
    Calls Tryz.prog 18 #[.pointer (some ⟨a, 0, none⟩), .int .i64 0, .agg #[.slice ka kn kc, .int .i64 kd, .slice va vn vc, .int .i64 pg, .int .i64 ct]] w fun e w' => e = .returned (.int .i64 0) ∧ Hid (Cf (· = a) w w') ∧ Hid (∃ bo bn bc so sn sc, PgAt w' a k n bo bn bc so sn sc [⟨key, kd, val, pg, ct⟩]) := by
  obtain ⟨x, hx⟩ : ∃ x, w.alloc (.cells #[.slice ka kn kc, .int .i64 kd, .slice va vn vc, .int .i64 pg, .int .i64 ct] 40) = x := ⟨_, rfl⟩
  have hbx : Below w.heap.size w x := by rw [← hx]; exact bl_al (Below.refl _ _) (Nat.le_refl _) _
  obtain ⟨s, hs⟩ : ∃ s, w.heap.size = s := ⟨_, rfl⟩
  have HBOX : Hid (C5 x s (.slice ka kn kc) (.int .i64 kd) (.slice va vn vc) (.int .i64 pg) (.int .i64 ct)) := by rw [← hx, ← hs]; exact hidden (C5.box _ _ _ _ _ _)
  have HL : Hid (Calls Tryz.prog 8 #[.pointer (some ⟨a, 0, none⟩)] x fun e w' => e = .returned (.int .i64 0) ∧ w' = x) := hidden (by simpa using lenR_any x a k n (.slice none 0 0) none 0 0 (box_on h hbx))
  have HP := hidden (put_nil x a k n (box_on h hbx) hn ka kn kc kd va vn vc pg ct key val (hk.on (Nat.le_refl _) hbx) (hv.on (Nat.le_refl _) hbx) hm hz)
  have HBX := hidden hbx
  obtain ⟨z0, z1, z2, z3, z4⟩ := HBOX.out.cells
  clear h hk hv hm hz hbx
  go_enter Tryz.func18, Tryz.ntmps18
  go_wp2_with (first | (go_at_call 8; refine same_call HL.out ?_) | (go_at_call 47; refine HP.out.mono ?_; rintro e w2 ⟨rfl, HC2, HP2⟩))
  go_ret
  exact ⟨rfl, hidden ((Cf.of_below HBX.out).go HC2.out), HP2⟩
end Go.Proofs.YtphjnahmbdinmaaGreatDoor

/- The chapter's first example, as numbers. -/

namespace Go.Proofs.YtphjnahmbdinmaaGreatDoor
open Go.RowKit

/-- The cell a = xy. -/
def cA : Cl := ⟨[97], 1, [120, 121], 0, 0⟩
set_option maxRecDepth 100000 in
theorem cA_wf : cA.Wf := ⟨Wf.cons (by omega) Wf.nil, Wf.cons (by omega) (Wf.cons (by omega) Wf.nil)⟩
set_option maxRecDepth 100000 in
theorem cA_may : mayP 2 512 cA := by decide
set_option maxRecDepth 100000 in
theorem cA_chk : chk 2 512 none [cA] = 0 := by decide
set_option maxRecDepth 100000 in
theorem cA_sz : szN [cA] = 18 := by decide
set_option maxRecDepth 100000 in
theorem cA_bdy : bdy [cA] = [1, 0, 1, 97, 0, 2, 120, 121] := by decide
set_option maxRecDepth 100000 in
theorem pw512 : pw 512 := by decide
set_option maxRecDepth 100000 in
theorem isKd2 : isKd 2 := by decide
set_option maxRecDepth 100000 in
theorem isKd1 : ¬ isKd 1 := by decide
set_option maxRecDepth 100000 in
theorem cA_enc : encE 2 512 [cA] = 0 := by
  unfold encE
  rw [if_pos ⟨isKd2, pw512⟩, if_pos cA_chk, if_neg (by rw [cA_sz]; decide)]
/-- Its page. -/
def pA : List Int := pgB 2 512 [cA]
set_option maxRecDepth 100000 in
theorem pA_is : Is 2 512 [cA] pA := ⟨isKd2, pw512, cA_chk, by rw [cA_sz]; decide, rfl⟩
set_option maxRecDepth 100000 in
theorem pA_len : pA.length = 512 := pgB_length 2 512 [cA] (by rw [cA_sz]; decide)
set_option maxRecDepth 100000 in
theorem pA_wf : Wf pA := pgB_wf (by omega) (fun c hc => by simp at hc; subst hc; exact cA_wf)
set_option maxRecDepth 100000 in
theorem pA_kd : pA.getD 0 0 = 2 := (readM_of pA_is).2.2
set_option maxRecDepth 100000 in
theorem pA_one (cs : List Cl) (h : Is (pA.getD 0 0) pA.length cs pA) : cs = [cA] := (h.one pA_is).2.2
set_option maxRecDepth 100000 in
theorem pA_split : ∃ U : List Int, U.length = 4 ∧ pA = [2, 1, 0, 1, 1, 244] ++ (zs 494 ++ ([1, 0, 1, 97, 0, 2, 120, 121] ++ U)) := by
  obtain ⟨U, hU, h⟩ := pgB_split 2 512 [cA]
  refine ⟨U, hU, ?_⟩
  rw [show pA = pgB 2 512 [cA] from rfl, h, cA_bdy, cA_sz]
  have e1 : sloB (sts (512 - 4 - ([1, 0, 1, 97, 0, 2, 120, 121] : List Int).length) [cA]) = [1, 244] := by decide
  have e2 : fB 2 (([cA] : List Cl).length : Int) = [0, 1] := by decide
  rw [e1, e2]
  rfl
set_option maxRecDepth 100000 in
theorem pA_six : (pA.drop 0).take 6 = [2, 1, 0, 1, 1, 244] := by
  obtain ⟨U, _, h⟩ := pA_split
  rw [h, List.drop_zero]
  rfl
set_option maxRecDepth 100000 in
theorem pA_cell : (pA.drop 500).take 8 = [1, 0, 1, 97, 0, 2, 120, 121] := by
  obtain ⟨U, _, h⟩ := pA_split
  rw [h, ← List.append_assoc, List.drop_left' (by simp [zs_length])]
  rfl
set_option maxRecDepth 100000 in
/-- One cell in a slice of its own. -/
theorem slc_one {u : World} {ka va : Option Addr} {kn kc vn vc : Nat} {kd pg ct : Int} {key val : List Int} (hk : Sl u ka kn kc key) (hv : Sl u va vn vc val) :
    SlC (u.alloc (.cells #[.slice ka kn kc, .int .i64 kd, .slice va vn vc, .int .i64 pg, .int .i64 ct] 40)) (some ⟨u.heap.size, 0, none⟩) 1 1 [⟨key, kd, val, pg, ct⟩] := by
  have hb : Below u.heap.size u (u.alloc (.cells #[.slice ka kn kc, .int .i64 kd, .slice va vn vc, .int .i64 pg, .int .i64 ct] 40)) := bl_al (Below.refl _ _) (Nat.le_refl _) _
  have hb5 := C5.box u (.slice ka kn kc) (.int .i64 kd) (.slice va vn vc) (.int .i64 pg) (.int .i64 ct)
  obtain ⟨e0, e1, e2, e3, e4⟩ := hb5.cells
  refine ⟨rfl, Nat.le_refl _, by omega, (by intro h; cases h), .inr ⟨u.heap.size, 0, rfl, lt_some hb5, fun i c hc => ?_⟩⟩
  have hi : i = 0 := by have := (List.getElem?_eq_some_iff.1 hc).1; simpa using this
  subst hi
  simp only [List.getElem?_cons_zero, Option.some.injEq] at hc
  subst hc
  refine ⟨ka, kc, va, vc, ?_, e1, ?_, e3, e4, ?_, ?_⟩
  · rw [hk.hlen]; exact e0
  · rw [hv.hlen]; exact e2
  · rw [hk.hlen]; exact hk.on (Nat.le_refl _) hb
  · rw [hv.hlen]; exact hv.on (Nat.le_refl _) hb
set_option maxRecDepth 100000 in
theorem conv6H (w : World) (C : Array Value) (n c H : Nat) (hH : w.heap.size = H) : (convert 38 38 (.slice (some ⟨H, 0, none⟩) n c)).run Tryz.prog (w.alloc (.cells C 5)) = .ok (.slice (some ⟨H, 0, none⟩) n c) (w.alloc (.cells C 5 (C.size, C.size + 1))) := by
  subst hH
  exact Lib.run_convert_bytes_const (P := Tryz.prog) w 38 5 C n c Tryz.underlying38 Tryz.underlying5
end Go.Proofs.YtphjnahmbdinmaaGreatDoor
