/- packed: lay, putInPlace that can't, Insert behind all. -/
import Derived.Test.YtobfkcepjnjfpaaGreatDoorJ44
import Derived.Test.YtobfkcepjnjfpaaGreatDoorJ47
namespace Go.Proofs.YtobfkcepjnjfpaaGreatDoor
open Go.RowKit

/-- A page's row, of any values. -/
def QV (w : World) (a : Nat) (x0 x1 x2 x3 x4 x5 : Value) : Prop := w.heap[a]? = some (.cells #[x0, x1, x2, x3, x4, x5] 52 (0, 0))
set_option maxRecDepth 100000 in
theorem QV.set {w : World} {g : Nat} {x0 x1 x2 x3 x4 x5 : Value} (h : QV w g x0 x1 x2 x3 x4 x5) (y : Value) :
    QV (w.setCell ⟨g, 0, none⟩ y) g y x1 x2 x3 x4 x5 ∧ QV (w.setCell ⟨g, 1, none⟩ y) g x0 y x2 x3 x4 x5 ∧ QV (w.setCell ⟨g, 2, none⟩ y) g x0 x1 y x3 x4 x5 ∧ QV (w.setCell ⟨g, 3, none⟩ y) g x0 x1 x2 y x4 x5 ∧ QV (w.setCell ⟨g, 4, none⟩ y) g x0 x1 x2 x3 y x5 ∧ QV (w.setCell ⟨g, 5, none⟩ y) g x0 x1 x2 x3 x4 y := by
  unfold QV at *
  refine ⟨?_, ?_, ?_, ?_, ?_, ?_⟩
  · simpa using set_row (w := w) (a := g) (i := 0) (cs := [x0, x1, x2, x3, x4, x5]) (u := y) h
  · simpa using set_row (w := w) (a := g) (i := 1) (cs := [x0, x1, x2, x3, x4, x5]) (u := y) h
  · simpa using set_row (w := w) (a := g) (i := 2) (cs := [x0, x1, x2, x3, x4, x5]) (u := y) h
  · simpa using set_row (w := w) (a := g) (i := 3) (cs := [x0, x1, x2, x3, x4, x5]) (u := y) h
  · simpa using set_row (w := w) (a := g) (i := 4) (cs := [x0, x1, x2, x3, x4, x5]) (u := y) h
  · simpa using set_row (w := w) (a := g) (i := 5) (cs := [x0, x1, x2, x3, x4, x5]) (u := y) h
set_option maxRecDepth 100000 in
theorem QV.put {w : World} {g : Nat} {x0 x1 x2 x3 x4 x5 : Value} (h : QV w g x0 x1 x2 x3 x4 x5) (y0 y1 y2 y3 y4 y5 : Value) : QV (put6 w g y0 y1 y2 y3 y4 y5) g y0 y1 y2 y3 y4 y5 :=
  (((((((h.set y0).1).set y1).2.1.set y2).2.2.1.set y3).2.2.2.1.set y4).2.2.2.2.1.set y5).2.2.2.2.2
set_option maxRecDepth 100000 in
/-- A slice of bytes does not lie in a page's row. -/
theorem Sl.apartQ {w : World} {ao : Option Addr} {n cap : Nat} {l : List Int} (h : Sl w ao n cap l) {g : Nat} {a b d : Option Addr} {c1 c2 c3 c4 c5 c6 : Nat} {x y z : Int} (hr : QR w g x y (.slice a c1 c2) (.slice b c3 c4) (.slice d c5 c6) z) : n = 0 ∨ ∀ p, ao = some p → ¬ p.block = g := by
  rcases h.hat with h0 | ⟨q, off, rfl, hg, hc⟩
  · exact .inl h0
  · rcases Nat.eq_zero_or_pos n with h0 | h0
    · exact .inl h0
    · right
      rintro p hp rfl
      injection hp with hp
      subst hp
      have h1 := hc 0 h0
      unfold QR at hr
      rw [cell_of_row _ _ _ _ _ _ hr] at h1
      rcases Nat.lt_or_ge (off + 0) 6 with h3 | h3
      · have h4 : off + 0 = 0 ∨ off + 0 = 1 ∨ off + 0 = 2 ∨ off + 0 = 3 ∨ off + 0 = 4 ∨ off + 0 = 5 := by omega
        rcases h4 with h4 | h4 | h4 | h4 | h4 | h4 <;> (rw [h4] at h1; simp at h1)
      · rw [Array.getElem?_eq_none (by simpa using h3)] at h1
        cases h1
set_option maxRecDepth 100000 in
theorem LaidTo.po {k : Int} {n : Nat} {cs : List Cl} {w w' : World} {e : Ending} (h : LaidTo k n cs w e w') :
    ∃ b po pn pc bo bn bc so sn sc, e = .returned (.pointer (some ⟨b, 0, none⟩)) ∧ Hid (PO w' w.heap.size b k n po pn pc (.slice bo bn bc) (.slice so sn sc) 0 (shP k cs) (qbd (shP k cs).length (whl k) cs) (qst (shP k cs).length (whl k) 0 cs)) ∧ Hid (Below w.heap.size w w') ∧ Hid (pn = (shP k cs).length ∧ bn = (qbd (shP k cs).length (whl k) cs).length ∧ sn = cs.length) := by
  obtain ⟨w1, a, po, pn, pc, vb, vs, rfl, HL, HP, HB⟩ := h
  have hb := HL.out.be
  obtain ⟨bo, bc, rfl⟩ := HL.out.ob.shape
  obtain ⟨so, sc, rfl⟩ := HL.out.on.shape
  have hz := HB.out.size
  refine ⟨a, po, pn, pc, bo, _, bc, so, _, sc, rfl, hidden ⟨HL.out.row, HP.out.on (Nat.le_refl _) hb, HL.out.ob.low hz, ?_, HP.out.lo.far HL.out.ob (Nat.le_refl _), Nat.le_trans hz HL.out.ha⟩, hidden (bl_go HB.out (Nat.le_refl _) hb), hidden ⟨HP.out.hlen.symm, rfl, qst_length _ _ _ _⟩⟩
  have h6 := HL.out.on
  unfold OwnN at h6 ⊢
  rcases h6.2 with h8 | ⟨g, c, cur, e, hg, r⟩
  · exact ⟨h6.1, .inl h8⟩
  · exact ⟨h6.1, .inr ⟨g, c, cur, e, Nat.le_trans hz hg, r⟩⟩
/-- What a page is, that was just laid in the place of another. -/
def LayTo (B a : Nat) (k : Int) (n : Nat) (cs : List Cl) (w : World) (e : Ending) (w' : World) : Prop :=
  e = .returned (.int .i64 0) ∧ Hid (Cf (· = a) w w') ∧ Hid (∃ po pn pc bo bn bc so sn sc, PO w' B a k n po pn pc (.slice bo bn bc) (.slice so sn sc) 0 (shP k cs) (qbd (shP k cs).length (whl k) cs) (qst (shP k cs).length (whl k) 0 cs))
set_option maxRecDepth 100000 in
set_option maxHeartbeats 2000000 in
theorem lay_fit (w : World) (B a : Nat) (k : Int) (n : Nat) (po : Option Addr) (pn pc : Nat) (bo : Option Addr) (bn bc : Nat) (so : Option Addr) (sn sc : Nat) (ws : Int) (h : QR w a k n (.slice po pn pc) (.slice bo bn bc) (.slice so sn sc) ws) (hBa : B ≤ a) (hBw : B ≤ w.heap.size) (G : Nat) (ao : Option Addr) (m cap : Nat) (cs : List Cl) (hs : SlE w G ao m cap cs) (hG : G ≤ w.heap.size) (hr : Rs cs) (hf : ∀ c ∈ cs, c.fit) (hn : n ≤ 65536) (hfit : szQ k (shP k cs).length cs ≤ n) :
    Calls Tryz.prog 77 #[.pointer (some ⟨a, 0, none⟩), .slice ao m cap] w fun e w' => LayTo B a k n cs w e w' := by
  have hz := szQ_eq k (shP k cs).length cs
  have hm : m ≤ 65536 := by have := hs.hlen; omega
  obtain ⟨Z, hZ⟩ : ∃ Z, szQ k (shP k cs).length cs = Z := ⟨_, rfl⟩
  rw [hZ] at hz hfit
  have haw := lt_some h
  have E1 : Hid (∀ u, Below w.heap.size w u → Calls Tryz.prog 31 #[.int .i64 k, .int .i64 (n : Int), .slice ao m cap] u fun e w' => ∃ b qo qn qc co cn cc to_ tn tc, e = .returned (.pointer (some ⟨b, 0, none⟩)) ∧ w'.cell? ⟨a, 1, none⟩ = some (.int .i64 (n : Int)) ∧ Hid (PO w' w.heap.size b k n qo qn qc (.slice co cn cc) (.slice to_ tn tc) 0 (shP k cs) (qbd (shP k cs).length (whl k) cs) (qst (shP k cs).length (whl k) 0 cs)) ∧ Hid (Below w.heap.size w w') ∧ Hid (10 + qn + 2 * tn + cn = Z)) := by
    refine hidden fun u hu => (laid_any k n G ao m cap cs u (hs.on hu) (Nat.le_trans hG hu.size) hr hf hm (by omega)).mono ?_
    intro e w' hq
    obtain ⟨b, qo, qn, qc, co, cn, cc, to_, tn, tc, rfl, HPO, HB, HN⟩ := hq.po
    have hb := bl_go hu (Nat.le_refl _) HB.out
    have hpo := HPO.out
    obtain ⟨n1, n2, n3⟩ := HN.out
    refine ⟨b, qo, qn, qc, co, cn, cc, to_, tn, tc, rfl, (show QR w' a k n (.slice po pn pc) (.slice bo bn bc) (.slice so sn sc) ws from box_on h hb).cells.2.1, hidden ⟨hpo.row, hpo.pre, hpo.ob.low hu.size, ?_, hpo.far, Nat.le_trans hu.size hpo.ha⟩, hidden hb, hidden (by omega)⟩
    have h6 := hpo.on
    unfold OwnN at h6 ⊢
    rcases h6.2 with h8 | ⟨g, c, cur, e, hg, r⟩
    · exact ⟨h6.1, .inl h8⟩
    · exact ⟨h6.1, .inr ⟨g, c, cur, e, Nat.le_trans hu.size hg, r⟩⟩
  have HRA : Hid (∀ u, Below w.heap.size w u → QR u a k n (.slice po pn pc) (.slice bo bn bc) (.slice so sn sc) ws) := hidden fun u hu => box_on h hu
  obtain ⟨c0, c1, c2, c3, c4, c5⟩ := h.cells
  have hfI : (Z : Int) ≤ (n : Int) := by omega
  have hnI : (n : Int) ≤ 65536 := by omega
  clear h hs hr hf hz hZ
  go_enter Tryz.func77, Tryz.ntmps77
  go_upto_region 1 with fail
  go_cut [5] from 6 to 15 (fun v u => ∃ b qo qn qc co cn cc to_ tn tc, v = .pointer (some ⟨b, 0, none⟩) ∧ Hid (PO u w.heap.size b k n qo qn qc (.slice co cn cc) (.slice to_ tn tc) 0 (shP k cs) (qbd (shP k cs).length (whl k) cs) (qst (shP k cs).length (whl k) 0 cs)) ∧ Hid (Below w.heap.size w u) ∧ Hid (10 + qn + 2 * tn + cn = Z))
  case first =>
    go_wp2_with fail
    go_region_with (first | (go_at_call 31; refine (E1.out _ (by first | exact Below.refl _ _ | exact (Below.refl _ _).drew | exact bl_dr (Below.refl _ _) _)).mono ?_; rintro e w1 ⟨b, qo, qn, qc, co, cn, cc, to_, tn, tc, rfl, y1, HPO, HB1, HZ1⟩))
    all_goals (try go_wp2_with fail)
    all_goals go_meet
    all_goals exact ⟨b, qo, qn, qc, co, cn, cc, to_, tn, tc, rfl, by first | exact HPO | exact hidden (HPO.out.go (Below.refl _ _).drew) | exact hidden (HPO.out.go (bl_dr (Below.refl _ _) _)), by first | exact HB1 | exact hidden HB1.out.drew | exact hidden (bl_dr HB1.out _), HZ1⟩
  obtain ⟨b, qo, qn, qc, co, cn, cc, to_, tn, tc, rfl, HPO, HB1, HZ1⟩ := hcut
  obtain ⟨w1, hw1⟩ : ∃ w1, w1 = wc := ⟨_, rfl⟩
  subst hw1
  clear c0 c1 c2 c3 c4 c5 E1
  have hz1 := HZ1.out
  have HUS : Hid (∀ u, Below w1.heap.size w1 u → Calls Tryz.prog 107 #[.pointer (some ⟨b, 0, none⟩)] u fun e w' => e = .returned (.int .i64 (Z : Int)) ∧ w'.cell? ⟨a, 1, none⟩ = some (.int .i64 (n : Int)) ∧ Hid (Below w1.heap.size w1 w')) := by
    refine hidden fun u hu => (usedQ_any u b k n qo qn qc co cn cc to_ tn tc (box_on HPO.out.row hu) (by omega) (by omega) (by omega) Z hz1).mono ?_
    rintro e w' ⟨rfl, HB⟩
    have hb := bl_go hu (Nat.le_refl _) HB.out
    exact ⟨rfl, (HRA.out w' (bl_go HB1.out (Nat.le_refl _) hb)).cells.2.1, hidden hb⟩
  have c1 := (HRA.out w1 HB1.out).cells.2.1
  clear hz1
  go_upto_region 2 with fail
  go_cut [22] from 16 to 22 (fun v u => v = .bool false ∧ Hid (Below w1.heap.size w1 u))
  case first =>
    go_wp2_with fail
    go_region_with (first | (go_at_call 107; refine (HUS.out _ (by first | exact Below.refl _ _ | exact (Below.refl _ _).drew | exact bl_dr (Below.refl _ _) _)).mono ?_; rintro e w2 ⟨rfl, y1, HB2⟩))
    all_goals (try go_wp2_with fail)
    all_goals go_meet
    all_goals exact ⟨by simp; omega, by first | exact HB2 | exact hidden HB2.out.drew | exact hidden (bl_dr HB2.out _)⟩
  obtain ⟨rfl, HB2⟩ := hcut
  obtain ⟨w2, hw2⟩ : ∃ w2, w2 = wc := ⟨_, rfl⟩
  subst hw2
  clear c1 HUS
  have HPO2 := hidden (HPO.out.go HB2.out)
  have HBW : Hid (Below w.heap.size w w2) := hidden (bl_go HB1.out (Nat.le_refl _) HB2.out)
  have HR2 := hidden (HRA.out w2 HBW.out)
  obtain ⟨c0, c1, c2, c3, c4, c5⟩ := HR2.out.cells
  obtain ⟨d0, d1, d2, d3, d4, d5⟩ := HPO2.out.row.cells
  have f0 := HR2.out.free 0
  have f1 := HR2.out.free 1
  have f2 := HR2.out.free 2
  have f3 := HR2.out.free 3
  have f4 := HR2.out.free 4
  have f5 := HR2.out.free 5
  have HAW := hidden haw
  clear haw
  go_wp2
  go_ret
  have hcf := put6_cf w2 a (.int .i64 k) (.int .i64 (n : Int)) (.slice qo qn qc) (.slice co cn cc) (.slice to_ tn tc) (.int .i64 0)
  have hr2 := HR2.out
  have hpo := HPO2.out
  have hbw := HBW.out
  refine ⟨rfl, hidden ((Cf.of_below hbw).go hcf), hidden ⟨qo, qn, qc, co, cn, cc, to_, tn, tc, ?_, hpo.pre.cf hcf (hpo.pre.apartQ hr2), ?_, ?_, hpo.far, hBa⟩⟩
  · exact QV.put (show QV w2 a _ _ _ _ _ _ from hr2) _ _ _ _ _ _
  · unfold QR at hr2
    exact (hpo.ob.low hBw).cf hcf (hpo.ob.apart hr2 (by decide))
  · unfold QR at hr2
    have h6 := hpo.on.cf hcf (hpo.on.apart hr2 (by decide))
    unfold OwnN at h6 ⊢
    rcases h6.2 with h8 | ⟨g, c, cur, e, hg, r⟩
    · exact ⟨h6.1, .inl h8⟩
    · exact ⟨h6.1, .inr ⟨g, c, cur, e, Nat.le_trans hBw hg, r⟩⟩
set_option maxRecDepth 100000 in
set_option maxHeartbeats 1000000 in
/-- putInPlace, of a key that does not begin with the prefix. -/
theorem inPlace_no (w : World) (a : Nat) (k : Int) (n : Nat) (po : Option Addr) (pn pc : Nat) (vb vs : Value) (ws : Int) (P : List Int) (h : QR w a k n (.slice po pn pc) vb vs ws) (hP : Sl w po pn pc P) (i : Nat) (hi : ¬ (k = 3 ∧ i = 0)) (ka : Option Addr) (kn kc : Nat) (kd : Int) (va : Option Addr) (vn vc : Nat) (pg ct : Int) (key : List Int) (hk : Sl w ka kn kc key) (hno : key.take P.length ≠ P) :
    Calls Tryz.prog 76 #[.pointer (some ⟨a, 0, none⟩), .int .i64 (i : Int), .int .i64 (i : Int), .agg #[.slice ka kn kc, .int .i64 kd, .slice va vn vc, .int .i64 pg, .int .i64 ct]] w fun e w' => e = .returned (.bool false) ∧ Hid (Below w.heap.size w w') := by
  obtain ⟨x, hx⟩ : ∃ x, w.alloc (.cells #[.slice ka kn kc, .int .i64 kd, .slice va vn vc, .int .i64 pg, .int .i64 ct] 37) = x := ⟨_, rfl⟩
  have hbx : Below w.heap.size w x := by rw [← hx]; exact bl_al (Below.refl _ _) (Nat.le_refl _) _
  have hc5 : C5 x w.heap.size (.slice ka kn kc) (.int .i64 kd) (.slice va vn vc) (.int .i64 pg) (.int .i64 ct) := by rw [← hx]; exact C5.box _ _ _ _ _ _
  obtain ⟨z0, z1, z2, z3, z4⟩ := hc5.cells
  have hrx : QR x a k n (.slice po pn pc) vb vs ws := box_on h hbx
  obtain ⟨c0, c1, c2, c3, c4, c5⟩ := hrx.cells
  obtain ⟨qo, qn, qc, hqc, hhd⟩ := head_row k i po pn pc
  obtain ⟨rfl, rfl, rfl⟩ : qo = po ∧ qn = pn ∧ qc = pc := by
    rcases hqc with ⟨_, _, _, h4⟩ | ⟨h1, h2, h3, _⟩
    · exact absurd h4 hi
    · exact ⟨h1, h2, h3⟩
  have HHD := hidden (hhd x a n vb vs ws hrx)
  have HSW : Hid (Calls Tryz.prog 37 #[.int .i64 k, .int .i64 (i : Int)] x fun e w' => e = .returned (.bool false) ∧ w' = x) := hidden (by
    have := standsWhole_any k (i : Int) x
    rwa [decide_eq_false (show ¬ (k = 3 ∧ (i : Int) = 0) by omega)] at this)
  have HHP : Hid (Calls Tryz.prog 103 #[.slice ka kn kc, .slice qo qn qc] x fun e w' => e = .returned (.bool false) ∧ w' = x) := hidden (by
    have := hasPrefix_any ka qo kn qn kc qc key P x (hk.on (Nat.le_refl _) hbx) (hP.on (Nat.le_refl _) hbx)
    rwa [decide_eq_false hno] at this)
  have HBX := hidden hbx
  clear h hP hk hbx hc5 hrx hhd hqc hi hno
  go_enter Tryz.func76, Tryz.ntmps76
  go_wp2_with (first | (go_at_call 37; refine same_call HSW.out ?_) | (go_at_call 48; refine same_call HHD.out ?_) | (go_at_call 103; refine same_call HHP.out ?_))
  go_ret
  exact ⟨rfl, HBX⟩
end Go.Proofs.YtobfkcepjnjfpaaGreatDoor

/- packed: Insert behind all, of a key that does not begin with the prefix. -/

namespace Go.Proofs.YtobfkcepjnjfpaaGreatDoor
open Go.RowKit

set_option maxRecDepth 100000 in
theorem PO.pgq {w : World} {B a : Nat} {k : Int} {n : Nat} {po : Option Addr} {pn pc : Nat} {bo : Option Addr} {bn bc : Nat} {so : Option Addr} {sn sc : Nat} {ws : Int} {P body : List Int} {st : List Nat} (h : PO w B a k n po pn pc (.slice bo bn bc) (.slice so sn sc) ws P body st) (hw : Wf body) (hb : body.length ≤ 140737488355328) (hs : st.length ≤ 140737488355328) : PgQ w a k n po pn pc bo bn bc so sn sc ws P body st := by
  obtain ⟨bo', bc', so', sc', e1, e2, hp⟩ := h.pg hw hb hs
  injection e1 with i1 i2 i3
  injection e2 with i4 i5 i6
  subst i1 i3 i4 i6
  rw [← i2, ← i5] at hp
  exact hp
set_option maxRecDepth 100000 in
set_option maxHeartbeats 4000000 in
theorem put_end (w : World) (B a : Nat) (k : Int) (n : Nat) (po : Option Addr) (pn pc : Nat) (bo : Option Addr) (bn bc : Nat) (so : Option Addr) (sn sc : Nat) (P body : List Int) (st : List Nat) (cs : List Cl) (hPO : PO w B a k n po pn pc (.slice bo bn bc) (.slice so sn sc) 0 P body st) (hl : LayQ k P cs body st) (hwf : Wf body) (hbb : body.length ≤ 65536) (hB : B ≤ w.heap.size)
    (c : Cl) (ka va : Option Addr) (kc vc : Nat) (hk : Sl w ka c.key.length kc c.key) (hv : Sl w va c.val.length vc c.val) (hm : mayP k n c) (hn : pw n) (hr : Rs (cs ++ [c])) (hno : c.key.take P.length ≠ P) (hfit : szQ k (shP k (cs ++ [c])).length (cs ++ [c]) ≤ n) (t : Nat) (hsn : sn = t + 1) :
    Calls Tryz.prog 45 #[.pointer (some ⟨a, 0, none⟩), .int .i64 (sn : Int), .int .i64 (sn : Int), .agg #[.slice ka c.key.length kc, .int .i64 c.kd, .slice va c.val.length vc, .int .i64 c.pg, .int .i64 c.ct]] w fun e w' => LayTo B a k n (cs ++ [c]) w e w' := by
  have hn2 := pw_nat hn
  have hzz := szQ_eq k (shP k (cs ++ [c])).length (cs ++ [c])
  rw [List.length_append] at hzz
  have hstl := hl.len
  have hsl : st.length = sn := (hPO.on.len).symm
  have hcl : cs.length = sn := by omega
  have hsb : sn ≤ 65535 := by simp at hzz; omega
  have hpg0 := hPO.pgq hwf (by omega) (by omega)
  have hrs : Rs cs := (List.pairwise_append.1 hr).1
  have hcf : c.fit := hm.fit (by omega)
  have hck := hcf.key
  have hcv := hcf.val
  have hbn : bn = body.length := hPO.ob.len
  obtain ⟨d, hd⟩ : ∃ d, cs[t]? = some d := ⟨_, List.getElem?_eq_getElem (by omega)⟩
  have hkl : kl d.key c.key := (List.pairwise_append.1 hr).2.2 d (List.mem_of_getElem? hd) c (by simp)
  have hff : ∀ x ∈ cs ++ [c], x.fit := by
    intro x hx
    rcases List.mem_append.1 hx with e | e
    · exact hl.fit x e
    · simp at e; subst e; exact hcf
  obtain ⟨x, hx⟩ : ∃ x, w.alloc (.cells #[.slice ka c.key.length kc, .int .i64 c.kd, .slice va c.val.length vc, .int .i64 c.pg, .int .i64 c.ct] 37) = x := ⟨_, rfl⟩
  have hbx : Below w.heap.size w x := by rw [← hx]; exact bl_al (Below.refl _ _) (Nat.le_refl _) _
  obtain ⟨s, hs⟩ : ∃ s, w.heap.size = s := ⟨_, rfl⟩
  have hc5 : C5 x s (.slice ka c.key.length kc) (.int .i64 c.kd) (.slice va c.val.length vc) (.int .i64 c.pg) (.int .i64 c.ct) := by rw [← hx, ← hs]; exact C5.box _ _ _ _ _ _
  have HMB := hidden (fun u => mayBe_any k (n : Int) ka c.key.length kc c.kd va c.val.length vc c.pg c.ct u (by omega) (by omega) (by omega) (by omega))
  rw [decide_eq_true ((mayP_iff k n c).2 hm)] at HMB
  have HU : Hid (∀ u, Below x.heap.size x u → PgQ u a k n po pn pc bo bn bc so sn sc 0 P body st ∧ C5 u s (.slice ka c.key.length kc) (.int .i64 c.kd) (.slice va c.val.length vc) (.int .i64 c.pg) (.int .i64 c.ct) ∧ Sl u ka c.key.length kc c.key ∧ Sl u va c.val.length vc c.val ∧ Below w.heap.size w u) := hidden fun u hu => by
    have hb := bl_go hbx (Nat.le_refl _) hu
    exact ⟨hpg0.on hb, box_on hc5 hu, hk.on (Nat.le_refl _) hb, hv.on (Nat.le_refl _) hb, hb⟩
  have HLAY := hidden hl
  have HRS := hidden hrs
  have HD := hidden hd
  have HKL := hidden hkl
  have HNO := hidden hno
  obtain ⟨p0, p1, p2, p3, p4, p5⟩ := (hpg0.on hbx).cells
  obtain ⟨z0, z1, z2, z3, z4⟩ := hc5.cells
  have HBA : Hid (B ≤ a) := hidden hPO.ha
  have HLK : Hid (Lo w.heap.size ka c.key.length ∧ Lo w.heap.size va c.val.length) := hidden ⟨hk.lo, hv.lo⟩
  have HFF := hidden hff
  have HR := hidden hr
  have HFIT := hidden hfit
  have hsI : (sn : Int) - 1 = (t : Int) := by omega
  have hs0 : 0 < sn := by omega
  have hs0I : 0 < (sn : Int) := by omega
  have bsI : (sn : Int) ≤ 65535 := by omega
  have HSN : Hid (sn = t + 1) := hidden hsn
  have hbnb : bn ≤ 65536 := by omega
  have hnb : n ≤ 65536 := hn2.2
  have HSW := hidden hs
  clear hPO hl hwf hk hv hm hn hr hno hfit hpg0 hrs hcf hd hkl hff hbx hc5 hzz hstl hsl hcl hsn hbn hck hcv hn2
  go_enter Tryz.func45, Tryz.ntmps45
  go_upto_region 1 with fail
  go_cut [20] from 10 to 20 (fun v u => v = .bool false ∧ Hid (Below x.heap.size x u))
  case first =>
    go_wp2_with fail
    go_region_with (first | (go_at_call 42; refine (HMB.out _).mono ?_; rintro e w2 ⟨rfl, hb2⟩; have HB2 : Hid (Below x.heap.size x w2) := hidden (by first | exact hb2 | exact bl_go (Below.refl _ _).drew (Nat.le_refl _) hb2 | exact bl_go (bl_dr (Below.refl _ _) _) (Nat.le_refl _) hb2)))
    all_goals (try go_wp2_with fail)
    all_goals go_meet
    all_goals exact ⟨by simp, by first | exact HB2 | exact hidden HB2.out.drew | exact hidden (bl_dr HB2.out _)⟩
  obtain ⟨rfl, HB2⟩ := hcut
  obtain ⟨w2, hw2⟩ : ∃ w2, w2 = wc := ⟨_, rfl⟩
  subst hw2
  clear p0 p1 p2 p3 p4 p5 z0 z1 z2 z3 z4 HMB hx
  obtain ⟨hpg2, hc52, hk2, hv2, hb2⟩ := HU.out w2 HB2.out
  obtain ⟨z0, z1, z2, z3, z4⟩ := hc52.cells
  have HAG := hidden (against_any w2 a k n po pn pc _ _ 0 P hpg2.row hpg2.pre ka c.key.length kc c.key hk2)
  clear hpg2 hc52 hk2 hv2 hb2
  go_wp2_with (first | (go_at_call 47; refine HAG.out.mono ?_; rintro e w3 ⟨b1, b2, b3, b4, ro, rn, rc, b, rfl, HA3, HB3⟩; refine Hid.out ?_))
  apply hidden
  have HX3 : Hid (Below x.heap.size x w3) := hidden (bl_go HB2.out (Nat.le_refl _) HB3.out)
  clear z0 z1 z2 z3 z4 HAG
  have HF3 : Hid (Calls Tryz.prog 82 #[.int .i64 (t : Int), .pointer (some ⟨b1, 0, none⟩), .pointer (some ⟨b2, 0, none⟩), .pointer (some ⟨b3, 0, none⟩), .pointer (some ⟨b4, 0, none⟩)] w3 fun e w' => e = .returned (.int .i64 (ordL d.key c.key)) ∧ Hid (Below w3.heap.size w3 w')) := hidden (against1_any w3 a k n po pn pc bo bn bc so sn sc 0 P body st cs (HU.out w3 HX3.out).1 HLAY.out t d HD.out (by omega) b1 b2 b3 b4 ka c.key.length kc ro rn rc b c.key HA3.out)
  have ho : ordL d.key c.key < 0 := by
    have := HKL.out
    have h3 := ordL_three d.key c.key
    unfold kl at this
    omega
  generalize ordL d.key c.key = o at *
  have hoI : ¬ (0 ≤ o) := by omega
  have HLN : Hid (∀ u, Below x.heap.size x u → Calls Tryz.prog 14 #[.pointer (some ⟨a, 0, none⟩)] u fun e w' => e = .returned (.int .i64 (sn : Int)) ∧ w' = u) := hidden fun u hu => qlen_any u a k n po pn pc bo bn bc so sn sc 0 P body st (HU.out u hu).1
  have hssI : ¬ (sn : Int) < (sn : Int) := by omega
  go_wp2_with (first
    | (go_at_call 82; refine HF3.out.mono ?_; rintro e w4 ⟨rfl, HB4⟩; have HX4 : Hid (Below x.heap.size x w4) := hidden (bl_go HX3.out (Nat.le_refl _) HB4.out); obtain ⟨z0, z1, z2, z3, z4⟩ := (HU.out w4 HX4.out).2.1.cells)
    | (go_at_call 14; refine same_call (HLN.out _ HX4.out) ?_)
    | (go_at_call 76; refine Hid.out ?_))
  apply hidden
  obtain ⟨hpg4, hc54, hk4, hv4, hb4⟩ := HU.out w4 HX4.out
  have HIP := hidden (inPlace_no w4 a k n po pn pc _ _ 0 P hpg4.row hpg4.pre sn (by omega) ka c.key.length kc c.kd va c.val.length vc c.pg c.ct c.key hk4 HNO.out)
  clear hpg4 hc54 hk4 hv4 hb4 HF3
  refine HIP.out.mono ?_
  rintro e w5 ⟨rfl, HB5⟩
  have HX5 : Hid (Below x.heap.size x w5) := hidden (bl_go HX4.out (Nat.le_refl _) HB5.out)
  clear z0 z1 z2 z3 z4 HIP
  obtain ⟨z0, z1, z2, z3, z4⟩ := (HU.out w5 HX5.out).2.1.cells
  have z0a := fun o => (HU.out (w5.alloc o) (bl_al HX5.out (Nat.le_refl _) _)).2.1.cells
  have EN : Hid (∀ u, Below w5.heap.size w5 u → Calls Tryz.prog 32 #[.pointer (some ⟨a, 0, none⟩)] u fun e w' => ∃ g, e = .returned (.slice (some ⟨g, 0, none⟩) sn sn) ∧ (w'.cell? ⟨s, 0, none⟩ = some (.slice ka c.key.length kc) ∧ w'.cell? ⟨s, 1, none⟩ = some (.int .i64 c.kd) ∧ w'.cell? ⟨s, 2, none⟩ = some (.slice va c.val.length vc) ∧ w'.cell? ⟨s, 3, none⟩ = some (.int .i64 c.pg) ∧ w'.cell? ⟨s, 4, none⟩ = some (.int .i64 c.ct)) ∧ Hid (SlE w' g (some ⟨g, 0, none⟩) sn sn cs ∧ RowE w' g sn ∧ w5.heap.size ≤ g ∧ g < w'.heap.size) ∧ Hid (Below u.heap.size u w') ∧ Hid (Below w5.heap.size w5 w')) := by
    refine hidden fun u hu => (entriesR_any u a k n po pn pc bo bn bc so sn sc 0 P body st cs (HU.out u (bl_go HX5.out (Nat.le_refl _) hu)).1 HLAY.out (by omega)).mono ?_
    rintro e w' ⟨g, rfl, HS, HB⟩
    have hb := bl_go hu (Nat.le_refl _) HB.out.1
    exact ⟨g, rfl, (HU.out w' (bl_go HX5.out (Nat.le_refl _) hb)).2.1.cells, hidden ⟨HS.out.1, HS.out.2, Nat.le_trans hu.size HB.out.2.1, HB.out.2.2⟩, hidden HB.out.1, hidden hb⟩
  have RP : Hid (∀ u w6 g b, Hid (SlE w6 g (some ⟨g, 0, none⟩) sn sn cs ∧ RowE w6 g sn ∧ w5.heap.size ≤ g ∧ g < w6.heap.size) → Hid (Below w5.heap.size w5 w6) → Below w6.heap.size w6 u → E6 u b (.slice none 0 0) (.slice ka c.key.length kc) (.int .i64 c.kd) (.slice va c.val.length vc) (.int .i64 c.pg) (.int .i64 c.ct) → Calls Tryz.prog 78 #[.slice (some ⟨g, 0, none⟩) sn sn, .int .i64 (sn : Int), .int .i64 (sn : Int), .slice (some ⟨b, 0, none⟩) 1 1] u fun e w' => ∃ ao c', e = .returned (.slice ao (sn + 1) c') ∧ Hid (SlE w' g ao (sn + 1) c' (cs ++ [c]) ∧ Below w5.heap.size w5 w' ∧ g ≤ w'.heap.size)) := by
    refine hidden fun u w6 g b hq h56 hu hb => ?_
    obtain ⟨q1, q2, q3, q4⟩ := hq.out
    have h5u := bl_go h56.out (Nat.le_refl _) hu
    obtain ⟨_, _, hku, hvu, hbu⟩ := HU.out u (bl_go HX5.out (Nat.le_refl _) h5u)
    have hwg : w.heap.size ≤ g := Nat.le_trans (HU.out w5 HX5.out).2.2.2.2.size q3
    refine (repE_any u g sn cs c (q1.on hu) (q2.on hu) hsb b ka va kc vc hb hku hvu (HLK.out.1.mono hwg) (HLK.out.2.mono hwg)).mono ?_
    rintro e w' ⟨ao, c', rfl, HS, HB⟩
    exact ⟨ao, c', rfl, hidden ⟨HS.out, h5u.trans (HB.out.mono q3), Nat.le_trans (Nat.le_of_lt q4) (Nat.le_trans hu.size HB.out.size)⟩⟩
  have LY : Hid (∀ u w7 g ao c', Hid (SlE w7 g ao (sn + 1) c' (cs ++ [c]) ∧ Below w5.heap.size w5 w7 ∧ g ≤ w7.heap.size) → Below w7.heap.size w7 u → Calls Tryz.prog 77 #[.pointer (some ⟨a, 0, none⟩), .slice ao (sn + 1) c'] u fun e w' => LayTo B a k n (cs ++ [c]) w e w') := by
    refine hidden fun u w7 g ao c' hq hu => ?_
    obtain ⟨q1, q2, q3⟩ := hq.out
    have h5u := bl_go q2 (Nat.le_refl _) hu
    obtain ⟨hpu, _, _, _, hbu⟩ := HU.out u (bl_go HX5.out (Nat.le_refl _) h5u)
    refine (lay_fit u B a k n po pn pc bo bn bc so sn sc 0 hpu.row HBA.out (Nat.le_trans hB hbu.size) g ao (sn + 1) c' (cs ++ [c]) (q1.on hu) (Nat.le_trans q3 hu.size) HR.out HFF.out hnb HFIT.out).mono ?_
    rintro e w' ⟨rfl, HC, HP⟩
    exact ⟨rfl, hidden ((Cf.of_below hbu).go HC.out), HP⟩
  clear HU
  go_wp2_with fail
  go_region_with (first
    | (go_at_call 77; refine (LY.out _ w7 g7 ao7 c7 HQ7 (by first | exact Below.refl _ _ | exact (Below.refl _ _).drew | exact bl_dr (Below.refl _ _) _)).mono ?_; rintro e w8 ⟨rfl, HC8, HP8⟩)
    | (go_at_call 78; refine (RP.out _ w6 g7 _ HQ6 HB65 (by repeat (first | exact Below.refl _ _ | apply Below.drew | apply below_drewN | refine bl_al ?_ (Nat.le_refl _) _)) (by first | exact E6.box _ _ _ _ _ _ _ | exact (show E6 _ _ _ _ _ _ _ _ from box_on (by exact E6.box w5 _ _ _ _ _ _) HB6.out))).mono ?_; rintro e w7 ⟨ao7, c7, rfl, HQ7⟩)
    | (go_at_call 32; refine (EN.out _ (by repeat (first | exact Below.refl _ _ | apply Below.drew | apply below_drewN | refine bl_al ?_ (Nat.le_refl _) _))).mono ?_; rintro e w6 ⟨g7, rfl, ⟨y0, y1, y2, y3, y4⟩, HQ6, HB6, HB65⟩))
  all_goals
    go_wp2
    go_ret
    exact ⟨rfl, HC8, HP8⟩
end Go.Proofs.YtobfkcepjnjfpaaGreatDoor

/- packed.Page.Insert behind all. -/

namespace Go.Proofs.YtobfkcepjnjfpaaGreatDoor
open Go.RowKit

set_option maxRecDepth 100000 in
set_option maxHeartbeats 1000000 in
theorem insert_end (w : World) (B a : Nat) (k : Int) (n : Nat) (po : Option Addr) (pn pc : Nat) (bo : Option Addr) (bn bc : Nat) (so : Option Addr) (sn sc : Nat) (P body : List Int) (st : List Nat) (cs : List Cl) (hPO : PO w B a k n po pn pc (.slice bo bn bc) (.slice so sn sc) 0 P body st) (hl : LayQ k P cs body st) (hwf : Wf body) (hbb : body.length ≤ 65536) (hB : B ≤ w.heap.size)
    (c : Cl) (ka va : Option Addr) (kc vc : Nat) (hk : Sl w ka c.key.length kc c.key) (hv : Sl w va c.val.length vc c.val) (hm : mayP k n c) (hn : pw n) (hr : Rs (cs ++ [c])) (hno : c.key.take P.length ≠ P) (hfit : szQ k (shP k (cs ++ [c])).length (cs ++ [c]) ≤ n) (t : Nat) (hsn : sn = t + 1) :
    Calls Tryz.prog 19 #[.pointer (some ⟨a, 0, none⟩), .int .i64 (sn : Int), .agg #[.slice ka c.key.length kc, .int .i64 c.kd, .slice va c.val.length vc, .int .i64 c.pg, .int .i64 c.ct]] w fun e w' => LayTo B a k n (cs ++ [c]) w e w' := by
  obtain ⟨x, hx⟩ : ∃ x, w.alloc (.cells #[.slice ka c.key.length kc, .int .i64 c.kd, .slice va c.val.length vc, .int .i64 c.pg, .int .i64 c.ct] 37) = x := ⟨_, rfl⟩
  have hbx : Below w.heap.size w x := by rw [← hx]; exact bl_al (Below.refl _ _) (Nat.le_refl _) _
  have hc5 : C5 x w.heap.size (.slice ka c.key.length kc) (.int .i64 c.kd) (.slice va c.val.length vc) (.int .i64 c.pg) (.int .i64 c.ct) := by rw [← hx]; exact C5.box _ _ _ _ _ _
  obtain ⟨z0, z1, z2, z3, z4⟩ := hc5.cells
  have hsl : st.length = sn := (hPO.on.len).symm
  have hfew : sn ≤ 65536 := by
    have h1 := szQ_eq k (shP k (cs ++ [c])).length (cs ++ [c])
    have h2 := hl.len
    have h3 := pw_nat hn
    rw [List.length_append] at h1
    omega
  have HPT := hidden (put_end x B a k n po pn pc bo bn bc so sn sc P body st cs (hPO.go hbx) hl hwf hbb (Nat.le_trans hB hbx.size) c ka va kc vc (hk.on (Nat.le_refl _) hbx) (hv.on (Nat.le_refl _) hbx) hm hn hr hno hfit t hsn)
  have HLN := hidden (qlen_any x a k n po pn pc bo bn bc so sn sc 0 P body st ((hPO.pgq hwf (by omega) (by omega)).on hbx))
  have HBX := hidden hbx
  clear hPO hl hwf hk hv hm hn hr hno hfit hbx hc5 hsl hsn
  go_enter Tryz.func19, Tryz.ntmps19
  go_wp2_with (first | (go_at_call 14; refine same_call HLN.out ?_) | (go_at_call 45; refine HPT.out.mono ?_; rintro e w2 ⟨rfl, HC2, HP2⟩))
  go_ret
  exact ⟨rfl, hidden ((Cf.of_below HBX.out).go HC2.out), HP2⟩
end Go.Proofs.YtobfkcepjnjfpaaGreatDoor
