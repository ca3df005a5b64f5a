/- packed: lay, putInPlace that can't, Insert behind all. -/
import Derived.Test.YtbefpojdopfeeaaGreatDoorJ28
import Derived.Test.YtbefpojdopfeeaaGreatDoorJ31
namespace Go.Proofs.YtbefpojdopfeeaaGreatDoor
open Go.RowKit

/-- A page's row, of any values. -/
def QV (w : World) (a : Nat) (x0 x1 x2 x3 x4 x5 : Value) : Prop := w.heap[a]? = some (.cells #[x0, x1, x2, x3, x4, x5] 63 (0, 0))
set_option maxRecDepth 100000 in
theorem QV.set {w : World} {g : Nat} {x0 x1 x2 x3 x4 x5 : Value} (h : QV w g x0 x1 x2 x3 x4 x5) (y : Value) :
    QV (w.setCell ⟨g, 0, none⟩ y) g y x1 x2 x3 x4 x5 ∧ QV (w.setCell ⟨g, 1, none⟩ y) g x0 y x2 x3 x4 x5 ∧ QV (w.setCell ⟨g, 2, none⟩ y) g x0 x1 y x3 x4 x5 ∧ QV (w.setCell ⟨g, 3, none⟩ y) g x0 x1 x2 y x4 x5 ∧ QV (w.setCell ⟨g, 4, none⟩ y) g x0 x1 x2 x3 y x5 ∧ QV (w.setCell ⟨g, 5, none⟩ y) g x0 x1 x2 x3 x4 y := by
  unfold QV at *
  refine ⟨?_, ?_, ?_, ?_, ?_, ?_⟩
  · simpa using set_row (w := w) (a := g) (i := 0) (cs := [x0, x1, x2, x3, x4, x5]) (u := y) h
  · simpa using set_row (w := w) (a := g) (i := 1) (cs := [x0, x1, x2, x3, x4, x5]) (u := y) h
  · simpa using set_row (w := w) (a := g) (i := 2) (cs := [x0, x1, x2, x3, x4, x5]) (u := y) h
  · simpa using set_row (w := w) (a := g) (i := 3) (cs := [x0, x1, x2, x3, x4, x5]) (u := y) h
  · simpa using set_row (w := w) (a := g) (i := 4) (cs := [x0, x1, x2, x3, x4, x5]) (u := y) h
  · simpa using set_row (w := w) (a := g) (i := 5) (cs := [x0, x1, x2, x3, x4, x5]) (u := y) h
set_option maxRecDepth 100000 in
theorem QV.put {w : World} {g : Nat} {x0 x1 x2 x3 x4 x5 : Value} (h : QV w g x0 x1 x2 x3 x4 x5) (y0 y1 y2 y3 y4 y5 : Value) : QV (put6 w g y0 y1 y2 y3 y4 y5) g y0 y1 y2 y3 y4 y5 :=
  (((((((h.set y0).1).set y1).2.1.set y2).2.2.1.set y3).2.2.2.1.set y4).2.2.2.2.1.set y5).2.2.2.2.2
set_option maxRecDepth 100000 in
/-- A slice of bytes does not lie in a page's row. -/
theorem Sl.apartQ {w : World} {ao : Option Addr} {n cap : Nat} {l : List Int} (h : Sl w ao n cap l) {g : Nat} {a b d : Option Addr} {c1 c2 c3 c4 c5 c6 : Nat} {x y z : Int} (hr : QR w g x y (.slice a c1 c2) (.slice b c3 c4) (.slice d c5 c6) z) : n = 0 ∨ ∀ p, ao = some p → ¬ p.block = g := by
  rcases h.hat with h0 | ⟨q, off, rfl, hg, hc⟩
  · exact .inl h0
  · rcases Nat.eq_zero_or_pos n with h0 | h0
    · exact .inl h0
    · right
      rintro p hp rfl
      injection hp with hp
      subst hp
      have h1 := hc 0 h0
      unfold QR at hr
      rw [cell_of_row _ _ _ _ _ _ hr] at h1
      rcases Nat.lt_or_ge (off + 0) 6 with h3 | h3
      · have h4 : off + 0 = 0 ∨ off + 0 = 1 ∨ off + 0 = 2 ∨ off + 0 = 3 ∨ off + 0 = 4 ∨ off + 0 = 5 := by omega
        rcases h4 with h4 | h4 | h4 | h4 | h4 | h4 <;> (rw [h4] at h1; simp at h1)
      · rw [Array.getElem?_eq_none (by simpa using h3)] at h1
        cases h1
set_option maxRecDepth 100000 in
theorem LaidTo.po {k : Int} {n : Nat} {cs : List Cl} {w w' : World} {e : Ending} (h : LaidTo k n cs w e w') :
    ∃ b po pn pc bo bn bc so sn sc, e = .returned (.pointer (some ⟨b, 0, none⟩)) ∧ Hid (PO w' w.heap.size b k n po pn pc (.slice bo bn bc) (.slice so sn sc) 0 (shP k cs) (qbd (shP k cs).length (whl k) cs) (qst (shP k cs).length (whl k) 0 cs)) ∧ Hid (Below w.heap.size w w') ∧ Hid (pn = (shP k cs).length ∧ bn = (qbd (shP k cs).length (whl k) cs).length ∧ sn = cs.length) := by
  obtain ⟨w1, a, po, pn, pc, vb, vs, rfl, HL, HP, HB⟩ := h
  have hb := HL.out.be
  obtain ⟨bo, bc, rfl⟩ := HL.out.ob.shape
  obtain ⟨so, sc, rfl⟩ := HL.out.on.shape
  have hz := HB.out.size
  refine ⟨a, po, pn, pc, bo, _, bc, so, _, sc, rfl, hidden ⟨HL.out.row, HP.out.on (Nat.le_refl _) hb, HL.out.ob.low hz, ?_, HP.out.lo.far HL.out.ob (Nat.le_refl _), Nat.le_trans hz HL.out.ha⟩, hidden (bl_go HB.out (Nat.le_refl _) hb), hidden ⟨HP.out.hlen.symm, rfl, qst_length _ _ _ _⟩⟩
  have h6 := HL.out.on
  unfold OwnN at h6 ⊢
  rcases h6.2 with h8 | ⟨g, c, cur, e, hg, r⟩
  · exact ⟨h6.1, .inl h8⟩
  · exact ⟨h6.1, .inr ⟨g, c, cur, e, Nat.le_trans hz hg, r⟩⟩
/-- What a page is, that was just laid in the place of another. -/
def LayTo (B a : Nat) (k : Int) (n : Nat) (cs : List Cl) (w : World) (e : Ending) (w' : World) : Prop :=
  e = .returned (.int .i64 0) ∧ Hid (Cf (· = a) w w') ∧ Hid (∃ po pn pc bo bn bc so sn sc, PO w' B a k n po pn pc (.slice bo bn bc) (.slice so sn sc) 0 (shP k cs) (qbd (shP k cs).length (whl k) cs) (qst (shP k cs).length (whl k) 0 cs))
set_option maxRecDepth 100000 in
set_option maxHeartbeats 2000000 in
theorem lay_fit (w : World) (B a : Nat) (k : Int) (n : Nat) (po : Option Addr) (pn pc : Nat) (bo : Option Addr) (bn bc : Nat) (so : Option Addr) (sn sc : Nat) (ws : Int) (h : QR w a k n (.slice po pn pc) (.slice bo bn bc) (.slice so sn sc) ws) (hBa : B ≤ a) (hBw : B ≤ w.heap.size) (G : Nat) (ao : Option Addr) (m cap : Nat) (cs : List Cl) (hs : SlE w G ao m cap cs) (hG : G ≤ w.heap.size) (hr : Rs cs) (hf : ∀ c ∈ cs, c.fit) (hn : n ≤ 65536) (hfit : szQ k (shP k cs).length cs ≤ n) :
    Calls Tryz.prog 45 #[.pointer (some ⟨a, 0, none⟩), .slice ao m cap] w fun e w' => LayTo B a k n cs w e w' := by
  have hz := szQ_eq k (shP k cs).length cs
  have hm : m ≤ 65536 := by have := hs.hlen; omega
  obtain ⟨Z, hZ⟩ : ∃ Z, szQ k (shP k cs).length cs = Z := ⟨_, rfl⟩
  rw [hZ] at hz hfit
  have haw := lt_some h
  have E1 : Hid (∀ u, Below w.heap.size w u → Calls Tryz.prog 54 #[.int .i64 k, .int .i64 (n : Int), .slice ao m cap] u fun e w' => ∃ b qo qn qc co cn cc to_ tn tc, e = .returned (.pointer (some ⟨b, 0, none⟩)) ∧ w'.cell? ⟨a, 1, none⟩ = some (.int .i64 (n : Int)) ∧ Hid (PO w' w.heap.size b k n qo qn qc (.slice co cn cc) (.slice to_ tn tc) 0 (shP k cs) (qbd (shP k cs).length (whl k) cs) (qst (shP k cs).length (whl k) 0 cs)) ∧ Hid (Below w.heap.size w w') ∧ Hid (10 + qn + 2 * tn + cn = Z)) := by
    refine hidden fun u hu => (laid_any k n G ao m cap cs u (hs.on hu) (Nat.le_trans hG hu.size) hr hf hm (by omega)).mono ?_
    intro e w' hq
    obtain ⟨b, qo, qn, qc, co, cn, cc, to_, tn, tc, rfl, HPO, HB, HN⟩ := hq.po
    have hb := bl_go hu (Nat.le_refl _) HB.out
    have hpo := HPO.out
    obtain ⟨n1, n2, n3⟩ := HN.out
    refine ⟨b, qo, qn, qc, co, cn, cc, to_, tn, tc, rfl, (show QR w' a k n (.slice po pn pc) (.slice bo bn bc) (.slice so sn sc) ws from box_on h hb).cells.2.1, hidden ⟨hpo.row, hpo.pre, hpo.ob.low hu.size, ?_, hpo.far, Nat.le_trans hu.size hpo.ha⟩, hidden hb, hidden (by omega)⟩
    have h6 := hpo.on
    unfold OwnN at h6 ⊢
    rcases h6.2 with h8 | ⟨g, c, cur, e, hg, r⟩
    · exact ⟨h6.1, .inl h8⟩
    · exact ⟨h6.1, .inr ⟨g, c, cur, e, Nat.le_trans hu.size hg, r⟩⟩
  have HRA : Hid (∀ u, Below w.heap.size w u → QR u a k n (.slice po pn pc) (.slice bo bn bc) (.slice so sn sc) ws) := hidden fun u hu => box_on h hu
  obtain ⟨c0, c1, c2, c3, c4, c5⟩ := h.cells
  have hfI : (Z : Int) ≤ (n : Int) := by omega
  have hnI : (n : Int) ≤ 65536 := by omega
  clear h hs hr hf hz hZ
  go_enter Tryz.func45, Tryz.ntmps45
  go_upto_region 1 with fail
  go_cut [5] from 6 to 15 (fun v u => ∃ b qo qn qc co cn cc to_ tn tc, v = .pointer (some ⟨b, 0, none⟩) ∧ Hid (PO u w.heap.size b k n qo qn qc (.slice co cn cc) (.slice to_ tn tc) 0 (shP k cs) (qbd (shP k cs).length (whl k) cs) (qst (shP k cs).length (whl k) 0 cs)) ∧ Hid (Below w.heap.size w u) ∧ Hid (10 + qn + 2 * tn + cn = Z))
  case first =>
    go_wp2_with fail
    go_region_with (first | (go_at_call 54; refine (E1.out _ (by first | exact Below.refl _ _ | exact (Below.refl _ _).drew | exact bl_dr (Below.refl _ _) _)).mono ?_; rintro e w1 ⟨b, qo, qn, qc, co, cn, cc, to_, tn, tc, rfl, y1, HPO, HB1, HZ1⟩))
    all_goals (try go_wp2_with fail)
    all_goals go_meet
    all_goals exact ⟨b, qo, qn, qc, co, cn, cc, to_, tn, tc, rfl, by first | exact HPO | exact hidden (HPO.out.go (Below.refl _ _).drew) | exact hidden (HPO.out.go (bl_dr (Below.refl _ _) _)), by first | exact HB1 | exact hidden HB1.out.drew | exact hidden (bl_dr HB1.out _), HZ1⟩
  obtain ⟨b, qo, qn, qc, co, cn, cc, to_, tn, tc, rfl, HPO, HB1, HZ1⟩ := hcut
  obtain ⟨w1, hw1⟩ : ∃ w1, w1 = wc := ⟨_, rfl⟩
  subst hw1
  clear c0 c1 c2 c3 c4 c5 E1
  have hz1 := HZ1.out
  have HUS : Hid (∀ u, Below w1.heap.size w1 u → Calls Tryz.prog 17 #[.pointer (some ⟨b, 0, none⟩)] u fun e w' => e = .returned (.int .i64 (Z : Int)) ∧ w'.cell? ⟨a, 1, none⟩ = some (.int .i64 (n : Int)) ∧ Hid (Below w1.heap.size w1 w')) := by
    refine hidden fun u hu => (usedQ_any u b k n qo qn qc co cn cc to_ tn tc (box_on HPO.out.row hu) (by omega) (by omega) (by omega) Z hz1).mono ?_
    rintro e w' ⟨rfl, HB⟩
    have hb := bl_go hu (Nat.le_refl _) HB.out
    exact ⟨rfl, (HRA.out w' (bl_go HB1.out (Nat.le_refl _) hb)).cells.2.1, hidden hb⟩
  have c1 := (HRA.out w1 HB1.out).cells.2.1
  clear hz1
  go_upto_region 2 with fail
  go_cut [22] from 16 to 22 (fun v u => v = .bool false ∧ Hid (Below w1.heap.size w1 u))
  case first =>
    go_wp2_with fail
    go_region_with (first | (go_at_call 17; refine (HUS.out _ (by first | exact Below.refl _ _ | exact (Below.refl _ _).drew | exact bl_dr (Below.refl _ _) _)).mono ?_; rintro e w2 ⟨rfl, y1, HB2⟩))
    all_goals (try go_wp2_with fail)
    all_goals go_meet
    all_goals exact ⟨by simp; omega, by first | exact HB2 | exact hidden HB2.out.drew | exact hidden (bl_dr HB2.out _)⟩
  obtain ⟨rfl, HB2⟩ := hcut
  obtain ⟨w2, hw2⟩ : ∃ w2, w2 = wc := ⟨_, rfl⟩
  subst hw2
  clear c1 HUS
  have HPO2 := hidden (HPO.out.go HB2.out)
  have HBW : Hid (Below w.heap.size w w2) := hidden (bl_go HB1.out (Nat.le_refl _) HB2.out)
  have HR2 := hidden (HRA.out w2 HBW.out)
  obtain ⟨c0, c1, c2, c3, c4, c5⟩ := HR2.out.cells
  obtain ⟨d0, d1, d2, d3, d4, d5⟩ := HPO2.out.row.cells
  have f0 := HR2.out.free 0
  have f1 := HR2.out.free 1
  have f2 := HR2.out.free 2
  have f3 := HR2.out.free 3
  have f4 := HR2.out.free 4
  have f5 := HR2.out.free 5
  have HAW := hidden haw
  clear haw
  go_wp2
  go_ret
  have hcf := put6_cf w2 a (.int .i64 k) (.int .i64 (n : Int)) (.slice qo qn qc) (.slice co cn cc) (.slice to_ tn tc) (.int .i64 0)
  have hr2 := HR2.out
  have hpo := HPO2.out
  have hbw := HBW.out
  refine ⟨rfl, hidden ((Cf.of_below hbw).go hcf), hidden ⟨qo, qn, qc, co, cn, cc, to_, tn, tc, ?_, hpo.pre.cf hcf (hpo.pre.apartQ hr2), ?_, ?_, hpo.far, hBa⟩⟩
  · exact QV.put (show QV w2 a _ _ _ _ _ _ from hr2) _ _ _ _ _ _
  · unfold QR at hr2
    exact (hpo.ob.low hBw).cf hcf (hpo.ob.apart hr2 (by decide))
  · unfold QR at hr2
    have h6 := hpo.on.cf hcf (hpo.on.apart hr2 (by decide))
    unfold OwnN at h6 ⊢
    rcases h6.2 with h8 | ⟨g, c, cur, e, hg, r⟩
    · exact ⟨h6.1, .inl h8⟩
    · exact ⟨h6.1, .inr ⟨g, c, cur, e, Nat.le_trans hBw hg, r⟩⟩
set_option maxRecDepth 100000 in
set_option maxHeartbeats 1000000 in
/-- putInPlace, of a key that does not begin with the prefix. -/
theorem inPlace_no (w : World) (a : Nat) (k : Int) (n : Nat) (po : Option Addr) (pn pc : Nat) (vb vs : Value) (ws : Int) (P : List Int) (h : QR w a k n (.slice po pn pc) vb vs ws) (hP : Sl w po pn pc P) (i : Nat) (hi : ¬ (k = 3 ∧ i = 0)) (ka : Option Addr) (kn kc : Nat) (kd : Int) (va : Option Addr) (vn vc : Nat) (pg ct : Int) (key : List Int) (hk : Sl w ka kn kc key) (hno : key.take P.length ≠ P) :
    Calls Tryz.prog 88 #[.pointer (some ⟨a, 0, none⟩), .int .i64 (i : Int), .int .i64 (i : Int), .agg #[.slice ka kn kc, .int .i64 kd, .slice va vn vc, .int .i64 pg, .int .i64 ct]] w fun e w' => e = .returned (.bool false) ∧ Hid (Below w.heap.size w w') := by
  obtain ⟨x, hx⟩ : ∃ x, w.alloc (.cells #[.slice ka kn kc, .int .i64 kd, .slice va vn vc, .int .i64 pg, .int .i64 ct] 39) = x := ⟨_, rfl⟩
  have hbx : Below w.heap.size w x := by rw [← hx]; exact bl_al (Below.refl _ _) (Nat.le_refl _) _
  have hc5 : C5 x w.heap.size (.slice ka kn kc) (.int .i64 kd) (.slice va vn vc) (.int .i64 pg) (.int .i64 ct) := by rw [← hx]; exact C5.box _ _ _ _ _ _
  obtain ⟨z0, z1, z2, z3, z4⟩ := hc5.cells
  have hrx : QR x a k n (.slice po pn pc) vb vs ws := box_on h hbx
  obtain ⟨c0, c1, c2, c3, c4, c5⟩ := hrx.cells
  obtain ⟨qo, qn, qc, hqc, hhd⟩ := head_row k i po pn pc
  obtain ⟨rfl, rfl, rfl⟩ : qo = po ∧ qn = pn ∧ qc = pc := by
    rcases hqc with ⟨_, _, _, h4⟩ | ⟨h1, h2, h3, _⟩
    · exact absurd h4 hi
    · exact ⟨h1, h2, h3⟩
  have HHD := hidden (hhd x a n vb vs ws hrx)
  have HSW : Hid (Calls Tryz.prog 44 #[.int .i64 k, .int .i64 (i : Int)] x fun e w' => e = .returned (.bool false) ∧ w' = x) := hidden (by
    have := standsWhole_any k (i : Int) x
    rwa [decide_eq_false (show ¬ (k = 3 ∧ (i : Int) = 0) by omega)] at this)
  have HHP : Hid (Calls Tryz.prog 123 #[.slice ka kn kc, .slice qo qn qc] x fun e w' => e = .returned (.bool false) ∧ w' = x) := hidden (by
    have := hasPrefix_any ka qo kn qn kc qc key P x (hk.on (Nat.le_refl _) hbx) (hP.on (Nat.le_refl _) hbx)
    rwa [decide_eq_false hno] at this)
  have HBX := hidden hbx
  clear h hP hk hbx hc5 hrx hhd hqc hi hno
  go_enter Tryz.func88, Tryz.ntmps88
  go_wp2_with (first | (go_at_call 44; refine same_call HSW.out ?_) | (go_at_call 95; refine same_call HHD.out ?_) | (go_at_call 123; refine same_call HHP.out ?_))
  go_ret
  exact ⟨rfl, HBX⟩
end Go.Proofs.YtbefpojdopfeeaaGreatDoor
