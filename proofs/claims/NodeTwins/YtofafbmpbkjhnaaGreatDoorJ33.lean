import Derived.Test.YtofafbmpbkjhnaaGreatDoorJ31
import Derived.Test.YtofafbmpbkjhnaaGreatDoorJ32
namespace Go.Proofs.YtofafbmpbkjhnaaGreatDoor
set_option maxRecDepth 100000
open Go.RowKit
def QV (w : World) (a : Nat) (x0 x1 x2 x3 x4 x5 : Value) : Prop := w.heap[a]? = some (.cells #[x0, x1, x2, x3, x4, x5] 164 (0, 0))
theorem QV.set {w : World} {g : Nat} {x0 x1 x2 x3 x4 x5 : Value} (h : QV w g x0 x1 x2 x3 x4 x5) (y : Value) :
  QV (w.setCell ⟨g, 0, none⟩ y) g y x1 x2 x3 x4 x5 ∧ QV (w.setCell ⟨g, 1, none⟩ y) g x0 y x2 x3 x4 x5 ∧ QV (w.setCell ⟨g, 2, none⟩ y) g x0 x1 y x3 x4 x5 ∧ QV (w.setCell ⟨g, 3, none⟩ y) g x0 x1 x2 y x4 x5 ∧ QV (w.setCell ⟨g, 4, none⟩ y) g x0 x1 x2 x3 y x5 ∧ QV (w.setCell ⟨g, 5, none⟩ y) g x0 x1 x2 x3 x4 y := by
 unfold QV at *
 refine ⟨?_, ?_, ?_, ?_, ?_, ?_⟩
 ·simpa using zam (w := w) (a := g) (i := 0) (cs := [x0, x1, x2, x3, x4, x5]) (u := y) h
 ·simpa using zam (w := w) (a := g) (i := 1) (cs := [x0, x1, x2, x3, x4, x5]) (u := y) h
 ·simpa using zam (w := w) (a := g) (i := 2) (cs := [x0, x1, x2, x3, x4, x5]) (u := y) h
 ·simpa using zam (w := w) (a := g) (i := 3) (cs := [x0, x1, x2, x3, x4, x5]) (u := y) h
 ·simpa using zam (w := w) (a := g) (i := 4) (cs := [x0, x1, x2, x3, x4, x5]) (u := y) h
 ·simpa using zam (w := w) (a := g) (i := 5) (cs := [x0, x1, x2, x3, x4, x5]) (u := y) h
theorem QV.put {w : World} {g : Nat} {x0 x1 x2 x3 x4 x5 : Value} (h : QV w g x0 x1 x2 x3 x4 x5) (y0 y1 y2 y3 y4 y5 : Value) : QV (put6 w g y0 y1 y2 y3 y4 y5) g y0 y1 y2 y3 y4 y5 :=
 (((((((h.set y0).1).set y1).2.1.set y2).2.2.1.set y3).2.2.2.1.set y4).2.2.2.2.1.set y5).2.2.2.2.2
theorem Sl.apartQ {w : World} {ao : Option Addr} {n cap : Nat} {l : List Int} (h : Sl w ao n cap l) {g : Nat} {a b d : Option Addr} {c1 c2 c3 c4 c5 c6 : Nat} {x y z : Int} (hr : QR w g x y (.slice a c1 c2) (.slice b c3 c4) (.slice d c5 c6) z) : n = 0 ∨ ∀ p, ao = some p → ¬ p.block = g := by
 rcases h.hat with h0 | ⟨q, off, rfl, hg, hc⟩
 ·exact .inl h0
 ·rcases Nat.eq_zero_or_pos n with h0 | h0
  ·exact .inl h0
  ·right
   rintro p hp rfl
   injection hp with hp
   subst hp
   have h1 := hc 0 h0
   unfold QR at hr
   rw [cell_of_row _ _ _ _ _ _ hr] at h1
   rcases Nat.lt_or_ge (off + 0) 6 with h3 | h3
   ·have h4 : off + 0 = 0 ∨ off + 0 = 1 ∨ off + 0 = 2 ∨ off + 0 = 3 ∨ off + 0 = 4 ∨ off + 0 = 5 := by omega
    rcases h4 with h4 | h4 | h4 | h4 | h4 | h4 <;> (rw [h4] at h1; simp at h1)
   ·rw [Array.getElem?_eq_none (by simpa using h3)] at h1
    cases h1
theorem LaidTo.po {k : Int} {n : Nat} {cs : List Cl} {w w' : World} {e : Ending} (h : LaidTo k n cs w e w') :
  ∃ b po pn pc bo bn bc so sn sc, e = .returned (.pointer (some ⟨b, 0, none⟩)) ∧ Hid (PO w' w.heap.size b k n po pn pc (.slice bo bn bc) (.slice so sn sc) 0 (shP k cs) (qbd (shP k cs).length (whl k) cs) (qst (shP k cs).length (whl k) 0 cs)) ∧ Hid (Below w.heap.size w w') ∧ Hid (pn = (shP k cs).length ∧ bn = (qbd (shP k cs).length (whl k) cs).length ∧ sn = cs.length) := by
 obtain ⟨w1, a, po, pn, pc, vb, vs, rfl, HL, HP, HB, _⟩ := h
 have hb := HL.out.be
 obtain ⟨bo, bc, rfl⟩ := HL.out.ob.shape
 obtain ⟨so, sc, rfl⟩ := HL.out.on.shape
 have hz := HB.out.size
 refine ⟨a, po, pn, pc, bo, _, bc, so, _, sc, rfl, zaa ⟨HL.out.row, HP.out.on Lr hb, HL.out.ob.low hz, ?_, HP.out.lo.far HL.out.ob Lr, zN hz HL.out.ha⟩, zaa (zab HB.out Lr hb), zaa ⟨HP.out.hlen.symm, rfl, zcn _ _ _ _⟩⟩
 have h6 := HL.out.on
 unfold OwnN at h6 ⊢
 rcases h6.2 with h8 | ⟨g, c, cur, e, hg, r⟩
 ·exact ⟨h6.1, .inl h8⟩
 ·exact ⟨h6.1, .inr ⟨g, c, cur, e, zN hz hg, r⟩⟩
set_option maxHeartbeats 1000000 in
theorem inPlace_no (w : World) (a : Nat) (k : Int) (n : Nat) (po : Option Addr) (pn pc : Nat) (vb vs : Value) (ws : Int) (P : List Int) (h : QR w a k n (.slice po pn pc) vb vs ws) (hP : Sl w po pn pc P) (i : Nat) (hi : ¬ (k = 3 ∧ i = 0)) (ka : Option Addr) (kn kc : Nat) (kd : Int) (va : Option Addr) (vn vc : Nat) (pg ct : Int) (key : List Int) (hk : Sl w ka kn kc key) (hno : key.take P.length ≠ P) :
  Calls Tryz.prog 291 #[.pointer (some ⟨a, 0, none⟩), .int .i64 (i : Int), .int .i64 (i : Int), .agg #[.slice ka kn kc, .int .i64 kd, .slice va vn vc, .int .i64 pg, .int .i64 ct]] w fun e w' => e = .returned (.bool false) ∧ Hid (Below w.heap.size w w') := by
 obtain ⟨x, hx⟩ : ∃ x, w.alloc (.cells #[.slice ka kn kc, .int .i64 kd, .slice va vn vc, .int .i64 pg, .int .i64 ct] 43) = x := ⟨_, rfl⟩
 have hbx : Below w.heap.size w x := by rw [← hx]; exact zac Br Lr _
 have hc5 : C5 x w.heap.size (.slice ka kn kc) (.int .i64 kd) (.slice va vn vc) (.int .i64 pg) (.int .i64 ct) := by rw [← hx]; exact C5.box _ _ _ _ _ _
 obtain ⟨z0, z1, z2, z3, z4⟩ := hc5.cells
 have hrx : QR x a k n (.slice po pn pc) vb vs ws := zaf h hbx
 obtain ⟨c0, c1, c2, c3, c4, c5⟩ := hrx.cells
 obtain ⟨qo, qn, qc, hqc, hhd⟩ := zcw k i po pn pc
 obtain ⟨rfl, rfl, rfl⟩ : qo = po ∧ qn = pn ∧ qc = pc := by
  rcases hqc with ⟨_, _, _, h4⟩ | ⟨h1, h2, h3, _⟩
  ·exact absurd h4 hi
  ·exact ⟨h1, h2, h3⟩
 have HHD := zaa (hhd x a n vb vs ws hrx)
 have HSW : Hid (Calls Tryz.prog 153 #[.int .i64 k, .int .i64 (i : Int)] x fun e w' => e = .returned (.bool false) ∧ w' = x) := zaa (by
  have := zba k (i : Int) x
  rwa [decide_eq_false (show ¬ (k = 3 ∧ (i : Int) = 0) by omega)] at this)
 have HHP : Hid (Calls Tryz.prog 293 #[.slice ka kn kc, .slice qo qn qc] x fun e w' => e = .returned (.bool false) ∧ w' = x) := zaa (by
  have := zcx ka qo kn qn kc qc key P x (hk.on Lr hbx) (hP.on Lr hbx)
  rwa [decide_eq_false hno] at this)
 have HBX := zaa hbx
 clear h hP hk hbx hc5 hrx hhd hqc hi hno
 go_enter Tryz.func291, Tryz.ntmps291
 go_wp2_with (first | (go_at_call 153; refine zae HSW.out ?_) | (go_at_call 199; refine zae HHD.out ?_) | (go_at_call 293; refine zae HHP.out ?_))
 go_ret
 exact ⟨rfl, HBX⟩
end Go.Proofs.YtofafbmpbkjhnaaGreatDoor
