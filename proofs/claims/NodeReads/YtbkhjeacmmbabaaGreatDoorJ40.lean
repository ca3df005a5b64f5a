import Derived.Test.YtbkhjeacmmbabaaGreatDoorJ39
namespace Go.Proofs.YtbkhjeacmmbabaaGreatDoor
set_option maxRecDepth 100000
set_option maxHeartbeats 4000000
open Go.RowKit
theorem ru_ok {l : List Int} {p : Nat} (hw : Wf l) (hp : p ≤ l.length) (h : (rUx l (p : Int)).2.2 = 0) : ∃ (v t9 : Nat), rUx l (p : Int) = ((v : Int), (t9 : Int), 0) ∧ l.drop p = uB (v : Int) ++ l.drop t9 ∧ p < t9 ∧ t9 ≤ l.length ∧ (v : Int) < 18446744073709551616 := by
 unfold rUx at h ⊢
 rw [if_neg zq] at h ⊢
 rw [Int.toNat_natCast] at h ⊢
 obtain ⟨s1, s2, s3⟩ := rU_shift (l.drop p) (p : Int) 0 0
 rw [s2] at h
 have A : pU (l.drop p) = some ((rU 0 (l.drop p) 0 0).1, (l.drop p).drop (rU 0 (l.drop p) 0 0).2.1.toNat) := by
  unfold pU
  rw [if_pos h]
 obtain ⟨e1, h0, h1, _⟩ := pU_inv (hw.drop p) A
 generalize (rU 0 (l.drop p) 0 0).1 = v at *
 generalize (l.drop p).drop (rU 0 (l.drop p) 0 0).2.1.toNat = r at *
 obtain ⟨x, rfl⟩ := Int.eq_ofNat_of_zero_le h0
 have hl := congrArg List.length e1
 rw [zK, zG] at hl
 have hu := zcj (x : Int)
 refine ⟨x, p + (uB (x : Int)).length, ?_, ?_, zq, zq, h1⟩
 ·rw [e1, rU_uB _ _ _ h0 h1]
  simp
 ·rw [← List.drop_drop, e1, List.drop_left]
theorem ru_no {l : List Int} {p : Nat} (hp : p ≤ l.length) (h : (rUx l (p : Int)).2.2 ≠ 0) (v : Int) (R : List Int) (h0 : 0 ≤ v) (h1 : v < 18446744073709551616) : l.drop p ≠ uB v ++ R := fun e => by
 unfold rUx at h
 rw [if_neg zq, Int.toNat_natCast, e, rU_uB _ _ _ h0 h1] at h
 exact h rfl
theorem part_no (ao : Option Addr) (n cap at_ : Nat) (m : Int) (w : World) (ha : at_ ≤ n) (hn : n ≤ 65536) (hm : (n : Int) - (at_ : Int) < m) :
  Calls Tryz.prog 57 #[.slice ao n cap, .int .i64 (at_ : Int), .int .u64 m] w fun e w' => e = .returned (.tuple #[.slice none 0 0, .bool false]) ∧ w' = w := by
 obtain ⟨D, hD⟩ : ∃ D, n - at_ = D := ⟨_, rfl⟩
 have A : (n : Int) - (at_ : Int) = (D : Int) := zq
 have B : (D : Int) < m := zq
 have C : (D : Int) ≤ 65536 := zq
 have E : (n : Int) ≤ 65536 := zq
 have F : (at_ : Int) ≤ 65536 := zq
 clear hm hD ha
 go_enter Tryz.func57, Tryz.ntmps57
 go_wp2
 go_ret2
 exact ⟨rfl, rfl⟩
theorem part_yes (g off n cap at_ M : Nat) (l : List Int) (w : World) (hs : Sl w (some ⟨g, off, none⟩) n cap l) (hn : n ≤ 65536) (hM : at_ + M ≤ n) :
  ∃ po pc, (∀ u, Calls Tryz.prog 57 #[.slice (some ⟨g, off, none⟩) n cap, .int .i64 (at_ : Int), .int .u64 (M : Int)] u fun e w' => e = .returned (.tuple #[.slice po M pc, .bool true]) ∧ w' = u) ∧ (∀ u, Below w.heap.size w u → Sl u po M pc ((l.drop at_).take M)) ∧ ∀ p, po = some p → p.block = g := by
 have hc := hs.hcap
 have HS := zaa hs
 obtain ⟨D, hD⟩ : ∃ D, n - at_ = D := ⟨_, rfl⟩
 have B : (n : Int) - (at_ : Int) = (D : Int) := zq
 have C : ¬ (D : Int) < (M : Int) := zq
 have E : (D : Int) ≤ 65536 := zq
 have F : (n : Int) ≤ 65536 := zq
 have G : (at_ : Int) ≤ 65536 := zq
 have H : (M : Int) ≤ 65536 := zq
 obtain ⟨t, ht⟩ : ∃ t, at_ + M = t := ⟨_, rfl⟩
 have I : (at_ : Int) + (M : Int) = (t : Int) := zq
 have J : (t : Int) ≤ (cap : Int) := zq
 have K : (at_ : Int) ≤ (t : Int) := zq
 have L : t - at_ = M := zq
 by_cases e : cap = at_
 ·obtain rfl : M = 0 := zq
  refine ⟨some ⟨g, off, none⟩, 0, fun u => ?_, fun u hu => ?_, fun p hp => by cases hp; rfl⟩
  ·have A : cap - at_ = 0 := zq
   clear hs hD hM hc ht
   go_enter Tryz.func57, Tryz.ntmps57
   go_wp2
   go_ret2
   exact ⟨zv, rfl⟩
  ·rw [List.take_zero]
   exact Sl.nil_any _ _ _ (fun h => by cases h)
 ·refine ⟨some ⟨g, off + at_, none⟩, cap - at_, fun u => ?_, fun u hu => (HS.out.on Lr hu).piece at_ M (cap - at_) hM zq, fun p hp => by cases hp; rfl⟩
  have A : ¬ cap - at_ = 0 := zq
  have N : at_ < cap := zq
  clear hs hD hM hc ht
  go_enter Tryz.func57, Tryz.ntmps57
  go_wp2
  go_ret2
  exact ⟨zv, rfl⟩
structure Gd7 (c : Cl) : Prop where
 k0 : 0 ≤ c.kd
 k1 : c.kd ≤ 255
 v1 : c.kd = 1 → c.pg = 0 ∧ c.ct = 0
 v2 : c.kd ≠ 1 → c.val = [] ∧ 0 ≤ c.pg ∧ c.pg ≤ 65536 ∧ 0 ≤ c.ct ∧ c.ct ≤ 1073741824
 l1 : c.key.length ≤ 65536
 l2 : c.val.length ≤ 65536
def qtl (c : Cl) : List Int := if c.kd = 1 then uB c.val.length ++ c.val else uB (c.pg % 18446744073709551616) ++ uB (c.ct % 18446744073709551616)
theorem zcs (c : Cl) (R : List Int) : qB 0 c ++ R = (c.kd % 256) :: (uB (c.key.length : Int) ++ (c.key ++ (qtl c ++ R))) := by
 unfold qB qtl
 simp
theorem uB_inj {a b : Int} {R S : List Int} (ha : 0 ≤ a) (A : a < 18446744073709551616) (hb : 0 ≤ b) (B : b < 18446744073709551616) (h : uB a ++ R = uB b ++ S) : a = b ∧ R = S := by
 have h1 := rU_uB 0 a R ha A
 have h2 := rU_uB 0 b S hb B
 rw [h] at h1
 have e : a = b := by
  have := h1.symm.trans h2
  injection this
 subst e
 exact ⟨rfl, List.append_cancel_left h⟩
def No7 (l : List Int) (at_ : Nat) : Prop := ∀ c R, Gd7 c → l.drop at_ ≠ qB 0 c ++ R
def Is7 (l : List Int) (at_ t : Nat) (c : Cl) : Prop := Gd7 c ∧ c.Wf ∧ l.drop at_ = qB 0 c ++ l.drop t ∧ at_ < t ∧ t ≤ l.length
theorem no_end {l : List Int} {at_ : Nat} (h : l.length ≤ at_) : No7 l at_ := fun c R _ e => by
 rw [List.drop_eq_nil_of_le h, zcs] at e
 cases e
theorem at_cons {l : List Int} {at_ : Nat} (h : at_ < l.length) : l.drop at_ = l.getD at_ 0 :: l.drop (at_ + 1) := zbu l at_ h
theorem no_key {l : List Int} {at_ : Nat} (h : at_ < l.length) (he : (rUx l ((at_ + 1 : Nat) : Int)).2.2 ≠ 0) : No7 l at_ := fun c R g e => by
 rw [at_cons h, zcs] at e
 injection e with _ e
 exact ru_no zq he _ _ zq (by have := g.l1; omega) e
theorem no_rest {l : List Int} {at_ v t : Nat} (h : at_ < l.length) (hv : (v : Int) < 18446744073709551616) (h1 : l.drop (at_ + 1) = uB (v : Int) ++ l.drop t) (ht : t ≤ l.length) (A : l.length < t + v) : No7 l at_ := fun c R g e => by
 rw [at_cons h, zcs] at e
 injection e with _ e
 rw [h1] at e
 obtain ⟨e1, e2⟩ := uB_inj zq hv zq (by have := g.l1; omega) e
 have := congrArg List.length e2
 simp only [zG, zK] at this
 omega
theorem to_key {l : List Int} {at_ v t : Nat} (h : at_ < l.length) (hv : (v : Int) < 18446744073709551616) (h1 : l.drop (at_ + 1) = uB (v : Int) ++ l.drop t) {c : Cl} {R : List Int} (g : Gd7 c) (e : l.drop at_ = qB 0 c ++ R) : c.kd = l.getD at_ 0 ∧ l.drop (t + v) = qtl c ++ R := by
 rw [at_cons h, zcs] at e
 injection e with e0 e
 rw [h1] at e
 obtain ⟨e1, e2⟩ := uB_inj zq hv zq (by have := g.l1; omega) e
 have := g.k0
 have := g.k1
 refine ⟨zq, ?_⟩
 have A : v = c.key.length := zq
 rw [← List.drop_drop, e2, A, List.drop_left]
theorem no_tail {l : List Int} {at_ v t : Nat} (h : at_ < l.length) (hv : (v : Int) < 18446744073709551616) (h1 : l.drop (at_ + 1) = uB (v : Int) ++ l.drop t) (A : t + v ≤ l.length) (he : (rUx l ((t + v : Nat) : Int)).2.2 ≠ 0) : No7 l at_ := fun c R g e => by
 obtain ⟨_, e2⟩ := to_key h hv h1 g e
 unfold qtl at e2
 split at e2
 ·rw [zM] at e2
  exact ru_no A he _ _ zq (by have := g.l2; omega) e2
 ·rw [zM] at e2
  exact ru_no A he _ _ zq zq e2
theorem no_val {l : List Int} {at_ v t m s : Nat} (h : at_ < l.length) (hv : (v : Int) < 18446744073709551616) (h1 : l.drop (at_ + 1) = uB (v : Int) ++ l.drop t) (hx : l.getD at_ 0 = 1) (hm : (m : Int) < 18446744073709551616) (h2 : l.drop (t + v) = uB (m : Int) ++ l.drop s) (hs : s ≤ l.length) (A : l.length < s + m) : No7 l at_ := fun c R g e => by
 obtain ⟨ek, e2⟩ := to_key h hv h1 g e
 unfold qtl at e2
 rw [if_pos zq, zM, h2] at e2
 obtain ⟨e3, e4⟩ := uB_inj zq hm zq (by have := g.l2; omega) e2
 have := congrArg List.length e4
 simp only [zG, zK] at this
 omega
theorem no_ct {l : List Int} {at_ v t m s : Nat} (h : at_ < l.length) (hv : (v : Int) < 18446744073709551616) (h1 : l.drop (at_ + 1) = uB (v : Int) ++ l.drop t) (hx : ¬ l.getD at_ 0 = 1) (hm : (m : Int) < 18446744073709551616) (h2 : l.drop (t + v) = uB (m : Int) ++ l.drop s) (hs : s ≤ l.length) (he : (rUx l (s : Int)).2.2 ≠ 0) : No7 l at_ := fun c R g e => by
 obtain ⟨ek, e2⟩ := to_key h hv h1 g e
 unfold qtl at e2
 rw [if_neg zq, zM, h2] at e2
 obtain ⟨e3, e4⟩ := uB_inj zq hm zq zq e2
 exact ru_no hs he _ _ zq zq e4
theorem no_big {l : List Int} {at_ v t m s q z : Nat} (h : at_ < l.length) (hv : (v : Int) < 18446744073709551616) (h1 : l.drop (at_ + 1) = uB (v : Int) ++ l.drop t) (hx : ¬ l.getD at_ 0 = 1) (hm : (m : Int) < 18446744073709551616) (h2 : l.drop (t + v) = uB (m : Int) ++ l.drop s) (hq : (q : Int) < 18446744073709551616) (h3 : l.drop s = uB (q : Int) ++ l.drop z) (A : 65536 < m ∨ 1073741824 < q) : No7 l at_ := fun c R g e => by
 obtain ⟨ek, e2⟩ := to_key h hv h1 g e
 have hc := g.v2 zq
 unfold qtl at e2
 rw [if_neg zq, zM, h2] at e2
 obtain ⟨e3, e4⟩ := uB_inj zq hm zq zq e2
 rw [h3] at e4
 obtain ⟨e5, _⟩ := uB_inj zq hq zq zq e4
 omega
theorem is_val {l : List Int} {at_ v t m s : Nat} (hw : Wf l) (hl : l.length ≤ 65536) (h : at_ < l.length) (h1 : l.drop (at_ + 1) = uB (v : Int) ++ l.drop t) (ht : at_ + 1 < t) (B : t + v ≤ l.length) (hx : l.getD at_ 0 = 1) (h2 : l.drop (t + v) = uB (m : Int) ++ l.drop s) (hs : t + v < s) (A : s + m ≤ l.length) : Is7 l at_ (s + m) ⟨(l.drop t).take v, 1, (l.drop s).take m, 0, 0⟩ := by
 have k1 : ((l.drop t).take v).length = v := by rw [zJ, zK]; omega
 have k2 : ((l.drop s).take m).length = m := by rw [zJ, zK]; omega
 refine ⟨⟨zv, zv, fun _ => ⟨rfl, rfl⟩, fun e => absurd rfl e, by simp only; omega, by simp only; omega⟩, ⟨(hw.drop t).take v, (hw.drop s).take m⟩, ?_, zq, A⟩
 rw [at_cons h, zcs, hx, h1]
 simp only [qtl, k1, k2, if_true]
 have e3 : (l.drop s).take m ++ l.drop (s + m) = l.drop s := by rw [← List.drop_drop]; exact List.take_append_drop _ _
 have e4 : (l.drop t).take v ++ l.drop (t + v) = l.drop t := by rw [← List.drop_drop]; exact List.take_append_drop _ _
 rw [zM, e3, ← h2, e4]
 rfl
theorem is_ct {l : List Int} {at_ v t m s q z : Nat} (hw : Wf l) (hl : l.length ≤ 65536) (h : at_ < l.length) (h1 : l.drop (at_ + 1) = uB (v : Int) ++ l.drop t) (ht : at_ + 1 < t) (B : t + v ≤ l.length) (hx : ¬ l.getD at_ 0 = 1) (h2 : l.drop (t + v) = uB (m : Int) ++ l.drop s) (hs : t + v < s) (h3 : l.drop s = uB (q : Int) ++ l.drop z) (hz : s < z) (A : z ≤ l.length) (hm : m ≤ 65536) (hq : q ≤ 1073741824) : Is7 l at_ z ⟨(l.drop t).take v, l.getD at_ 0, [], m, q⟩ := by
 have k1 : ((l.drop t).take v).length = v := by rw [zJ, zK]; omega
 have hb := hw.getD at_
 refine ⟨⟨hb.1, hb.2, fun e => absurd e hx, fun _ => ⟨rfl, by simp only; omega, by simp only; omega, by simp only; omega, by simp only; omega⟩, by simp only; omega, zv⟩, ⟨(hw.drop t).take v, Wf.nil⟩, ?_, zq, A⟩
 rw [at_cons h, zcs, h1]
 simp only [qtl, k1, if_neg hx]
 rw [show ((m : Int) % 18446744073709551616) = (m : Int) by omega, show ((q : Int) % 18446744073709551616) = (q : Int) by omega, zM, show l.getD at_ 0 % 256 = l.getD at_ 0 by omega]
 rw [← h3, ← h2, ← List.drop_drop, List.take_append_drop]
theorem two_box7 (w : World) (y0 y1 y2 y3 y4 : Value) :
  C5 ((w.alloc (.cells #[.slice none 0 0, .int .i64 0, .slice none 0 0, .int .i64 0, .int .i64 0] 50)).alloc (.cells #[y0, y1, y2, y3, y4] 50)) w.heap.size (.slice none 0 0) (.int .i64 0) (.slice none 0 0) (.int .i64 0) (.int .i64 0) ∧ C5 ((w.alloc (.cells #[.slice none 0 0, .int .i64 0, .slice none 0 0, .int .i64 0, .int .i64 0] 50)).alloc (.cells #[y0, y1, y2, y3, y4] 50)) (w.heap.size + 1) y0 y1 y2 y3 y4 ∧ Below w.heap.size w ((w.alloc (.cells #[.slice none 0 0, .int .i64 0, .slice none 0 0, .int .i64 0, .int .i64 0] 50)).alloc (.cells #[y0, y1, y2, y3, y4] 50)) := by
 obtain ⟨y, hy⟩ : ∃ y, w.alloc (.cells #[.slice none 0 0, .int .i64 0, .slice none 0 0, .int .i64 0, .int .i64 0] 50) = y := ⟨_, rfl⟩
 have hz : y.heap.size = w.heap.size + 1 := by rw [← hy]; simp
 have h1 : C5 y w.heap.size (.slice none 0 0) (.int .i64 0) (.slice none 0 0) (.int .i64 0) (.int .i64 0) := by rw [← hy]; exact C5.box w _ _ _ _ _
 have B : Below w.heap.size w y := by rw [← hy]; exact zab Br Lr _
 rw [hy]
 have h2 := C5.box y y0 y1 y2 y3 y4
 rw [hz] at h2
 have A : Below y.heap.size y (y.alloc (.cells #[y0, y1, y2, y3, y4] 50)) := zab Br Lr _
 exact ⟨zag h1 A, h2, zae B Lr A⟩
theorem zdm {w : World} {B : Nat} {u : Value} {l : List Int} (h : OwnB w B u l) : ∃ ao c, u = .slice ao l.length c := by
 unfold OwnB at h
 rcases h.2 with ⟨rfl, h0⟩ | ⟨g, c, cur, rfl, _⟩
 ·exact ⟨none, 0, by rw [h0]⟩
 ·exact ⟨_, c, rfl⟩
theorem C5.gr7 {w w' : World} {v v' : Value} {g : Nat} {x0 x1 x2 x3 x4 : Value} (h : C5 w g x0 x1 x2 x3 x4) (hg : Gr w v w' v') (hv : v.ownBlock ≠ some g) : C5 w' g x0 x1 x2 x3 x4 := (hg.grow.block g (zaf h) (fun e => hv e.symm)).trans h
theorem OwnB.c5 {w w' : World} {B k : Nat} {v x0 x1 x2 x3 x4 : Value} {l : List Int} (h : OwnB w B v l) (hc : Cf (· = k) w w') (h5 : C5 w k x0 x1 x2 x3 x4) : OwnB w' B v l := h.same fun z hz => by
 have := (World.ownsRow.lt h z hz).2
 exact hc.block z this fun e => h.apart5 h5 (by rw [hz]; exact congrArg some e)
def pre7 (k : Int) (i : Nat) (P : List Int) : List Int := if k = 3 ∧ i = 0 then [] else P
def RdTo (l : List Int) (at_ : Nat) (k : Int) (i : Nat) (P : List Int) (w : World) (e : Ending) (w' : World) : Prop :=
 ∃ ao kn a2 kd bo vn b2 pg ct tz, e = .returned (.tuple #[.agg #[.slice ao kn a2, .int .i64 kd, .slice bo vn b2, .int .i64 pg, .int .i64 ct], .int .i64 tz]) ∧ Hid (Below w.heap.size w w') ∧
  Hid ((tz = 0 ∧ No7 l at_) ∨ ∃ (t : Nat) (c : Cl), tz = (t : Int) ∧ Is7 l at_ t c ∧ kn = (pre7 k i P ++ c.key).length ∧ vn = c.val.length ∧ kd = c.kd ∧ pg = c.pg ∧ ct = c.ct ∧ OwnB w' w.heap.size (.slice ao kn a2) (pre7 k i P ++ c.key) ∧ OwnB w' w.heap.size (.slice bo vn b2) c.val)
theorem RdTo.no {l : List Int} {at_ : Nat} {k : Int} {i : Nat} {P : List Int} {w w' : World} (hb : Below w.heap.size w w') (A : No7 l at_) : RdTo l at_ k i P w (.returned (.tuple #[.agg #[.slice none 0 0, .int .i64 0, .slice none 0 0, .int .i64 0, .int .i64 0], .int .i64 0])) w' := ⟨none, 0, 0, 0, none, 0, 0, 0, 0, 0, rfl, zaa hb, zaa (.inl ⟨rfl, A⟩)⟩
def Md7 (w u : World) (kk : Nat) (v : Value) (x : Int) (K : List Int) : Prop := C5 u kk (.slice none 0 0) (.int .i64 0) (.slice none 0 0) (.int .i64 0) (.int .i64 0) ∧ C5 u (kk + 1) v (.int .i64 x) (.slice none 0 0) (.int .i64 0) (.int .i64 0) ∧ OwnB u kk v K ∧ Below kk w u ∧ kk ≤ u.heap.size
theorem Md7.key {w u u1 : World} {kk : Nat} {v v1 : Value} {x : Int} {K K1 : List Int} (h : Md7 w u kk v x K) (ho : OwnB u1 kk v1 K1) (hg : Gr u v u1 v1) : Md7 w (u1.setCell ⟨kk + 1, 0, none⟩ v1) kk v1 x K1 := by
 obtain ⟨a1, a2, a3, a4, a5⟩ := h
 have b1 := a1.gr7 hg (a3.apart5 a1)
 have b2 := a2.gr7 hg (a3.apart5 a2)
 have hc := Cf.set u1 (kk + 1) 0 v1
 have hs := hg.grow.size
 refine ⟨b1.cf hc zq, (b2.set v1).1, ho.c5 hc b2, (a4.trans (hg.below a3 a5)).trans (hc.below zq (fun j hj e => zq)), zN (zN a5 hs) hc.size⟩
theorem rread_key (g off n cap : Nat) (l : List Int) (at_ : Nat) (k : Int) (i : Nat) (po : Option Addr) (pn pc : Nat) (P : List Int) (w : World) (hs : Sl w (some ⟨g, off, none⟩) n cap l) (hn : n ≤ 65536) (hP : Sl w po pn pc P) (_hpn : pn ≤ 65536) (_hi : i ≤ 65536) (ha : at_ < n) (he : (rUx l ((at_ + 1 : Nat) : Int)).2.2 ≠ 0) :
  Calls Tryz.prog 58 #[.slice (some ⟨g, off, none⟩) n cap, .int .i64 (at_ : Int), .int .i64 k, .int .i64 (i : Int), .slice po pn pc] w (RdTo l at_ k i P w) := by
 have HS := zaa hs
 have HP := zaa hP
 have J := hs.hlen
 have K := hs.hcap
 have O : (n : Int) ≤ 65536 := zq
 obtain ⟨kk, A⟩ : ∃ kk, w.heap.size = kk := ⟨_, rfl⟩
 have B : g < kk := by
  rcases hs.hat with h0 | ⟨b, o, e, hb, _⟩
  ·omega
  ·cases e; omega
 have Q := zaa B
 have C : at_ < l.length := zq
 obtain ⟨x, hx⟩ : ∃ x, l.getD at_ 0 = x := ⟨_, rfl⟩
 have D := hs.wf.getD at_
 rw [hx] at D
 obtain ⟨R, T⟩ := D
 have b0 : (w.alloc (.cells #[.slice none 0 0, .int .i64 0, .slice none 0 0, .int .i64 0, .int .i64 0] 50)).cell? ⟨g, off + at_, none⟩ = some (.int .u8 x) := by
  rcases hs.hat with h0 | ⟨b, o, e, hb, hc⟩
  ·omega
  ·cases e
   rw [← hx]
   exact ((zab (Below.refl w.heap.size w) Lr _).cell (p := ⟨g, off + at_, none⟩) hb).trans (hc at_ zq)
 have TB := two_box7 w (.slice none 0 0) (.int .i64 x) (.slice none 0 0) (.int .i64 0) (.int .i64 0)
 rw [A] at TB
 obtain ⟨y2, E⟩ : ∃ y2, (w.alloc (.cells #[.slice none 0 0, .int .i64 0, .slice none 0 0, .int .i64 0, .int .i64 0] 50)).alloc (.cells #[.slice none 0 0, .int .i64 x, .slice none 0 0, .int .i64 0, .int .i64 0] 50) = y2 := ⟨_, rfl⟩
 rw [E] at TB
 have F : Hid (Md7 w y2 kk (.slice none 0 0) x []) := zaa ⟨TB.1, TB.2.1, OwnB.nil _ _, TB.2.2, by have := zaf TB.1; omega⟩
 have U : ¬ (n : Int) ≤ (at_ : Int) := zq
 have V : (at_ : Int) < (n : Int) := zq
 have h0 : ¬ (at_ : Int) < 0 := zq
 have L : Hid (∀ u, Below kk w u → Sl u (some ⟨g, off, none⟩) n cap l) := zaa fun u hu => HS.out.on (by rw [A]; exact Lr) hu
 have W : Hid (∀ u, Below kk w u → Sl u po pn pc P) := zaa fun u hu => HP.out.on (by rw [A]; exact Lr) hu
 have M : Hid (∀ (p : Int) u, Below kk w u → Calls Tryz.prog 100 #[.slice (some ⟨g, off, none⟩) n cap, .int .i64 p] u fun e w' => e = .returned (.tuple #[.int .u64 (rUx l p).1, .int .i64 (rUx l p).2.1, .int .i64 (rUx l p).2.2]) ∧ w' = u) := zaa fun p u hu => zdp _ n cap l p u (L.out u hu)
 have G : Hid (Below kk w y2) := zaa TB.2.2
 clear TB
 have N := zaa (no_key C he)
 obtain ⟨⟨r1, r2, r3⟩, hr⟩ : ∃ r, rUx l ((at_ + 1 : Nat) : Int) = r := ⟨_, rfl⟩
 have H1 := zaa ((M.out ((at_ + 1 : Nat) : Int) y2 G.out).mono fun e w' h => (And.intro h.1 (zaa h.2) : _ ∧ Hid (w' = y2)))
 rw [hr] at H1 he
 simp only at H1 he
 obtain ⟨s1, H⟩ : ∃ s1, at_ + 1 = s1 := ⟨_, rfl⟩
 have X : (at_ : Int) + 1 = (s1 : Int) := zq
 rw [H] at H1
 clear hs hP J K hx hr B C H
 subst E
 go_enter Tryz.func58, Tryz.ntmps58
 go_wp2_with (go_at_call 100; refine H1.out.mono ?_; rintro e w1 ⟨rfl, I⟩; refine Hid.out ?_)
 apply zaa
 have HM : Hid (Md7 w w1 kk (.slice none 0 0) x []) := zaa (by rw [I.out]; exact F.out)
 obtain ⟨c0, c1, c2, c3, c4⟩ := HM.out.1.cells
 obtain ⟨f0, f1, f2, f3, f4⟩ := HM.out.1.free
 clear F I H1 b0 G
 go_wp2
 refine bodyPost_ret (zaz rfl _ _ kk 50 #[.slice none 0 0, .int .i64 0, .slice none 0 0, .int .i64 0, .int .i64 0] (0, 0) _ (.int .i64 0) zr zr (HM.out.1.put _ _ _ _ _) Tryz.underlying50 rfl zal) rfl ?_
 have hf := zaq w1 kk (.slice none 0 0) (.int .i64 0) (.slice none 0 0) (.int .i64 0) (.int .i64 0)
 refine RdTo.no ?_ N.out
 rw [A]
 exact HM.out.2.2.2.1.trans (hf.below HM.out.2.2.2.2 (fun j hj e => zq))
theorem rread_rest (g off n cap : Nat) (l : List Int) (at_ : Nat) (k : Int) (i : Nat) (po : Option Addr) (pn pc : Nat) (P : List Int) (w : World) (hs : Sl w (some ⟨g, off, none⟩) n cap l) (hn : n ≤ 65536) (hP : Sl w po pn pc P) (_hpn : pn ≤ 65536) (_hi : i ≤ 65536) (ha : at_ < n) (he : (rUx l ((at_ + 1 : Nat) : Int)).2.2 = 0) (v t : Nat) (D : rUx l ((at_ + 1 : Nat) : Int) = ((v : Int), (t : Int), 0)) (R : n < t + v) :
  Calls Tryz.prog 58 #[.slice (some ⟨g, off, none⟩) n cap, .int .i64 (at_ : Int), .int .i64 k, .int .i64 (i : Int), .slice po pn pc] w (RdTo l at_ k i P w) := by
 have HS := zaa hs
 have HP := zaa hP
 have O := hs.hlen
 have Q := hs.hcap
 have Y : (n : Int) ≤ 65536 := zq
 obtain ⟨kk, A⟩ : ∃ kk, w.heap.size = kk := ⟨_, rfl⟩
 have E : g < kk := by
  rcases hs.hat with h0 | ⟨b, o, e, hb, _⟩
  ·omega
  ·cases e; omega
 have Z := zaa E
 have F : at_ < l.length := zq
 obtain ⟨x, hx⟩ : ∃ x, l.getD at_ 0 = x := ⟨_, rfl⟩
 have G := hs.wf.getD at_
 rw [hx] at G
 obtain ⟨A0, A1⟩ := G
 have b0 : (w.alloc (.cells #[.slice none 0 0, .int .i64 0, .slice none 0 0, .int .i64 0, .int .i64 0] 50)).cell? ⟨g, off + at_, none⟩ = some (.int .u8 x) := by
  rcases hs.hat with h0 | ⟨b, o, e, hb, hc⟩
  ·omega
  ·cases e
   rw [← hx]
   exact ((zab (Below.refl w.heap.size w) Lr _).cell (p := ⟨g, off + at_, none⟩) hb).trans (hc at_ zq)
 have TB := two_box7 w (.slice none 0 0) (.int .i64 x) (.slice none 0 0) (.int .i64 0) (.int .i64 0)
 rw [A] at TB
 obtain ⟨y2, H⟩ : ∃ y2, (w.alloc (.cells #[.slice none 0 0, .int .i64 0, .slice none 0 0, .int .i64 0, .int .i64 0] 50)).alloc (.cells #[.slice none 0 0, .int .i64 x, .slice none 0 0, .int .i64 0, .int .i64 0] 50) = y2 := ⟨_, rfl⟩
 rw [H] at TB
 have I : Hid (Md7 w y2 kk (.slice none 0 0) x []) := zaa ⟨TB.1, TB.2.1, OwnB.nil _ _, TB.2.2, by have := zaf TB.1; omega⟩
 have A2 : ¬ (n : Int) ≤ (at_ : Int) := zq
 have A3 : (at_ : Int) < (n : Int) := zq
 have h0 : ¬ (at_ : Int) < 0 := zq
 have T : Hid (∀ u, Below kk w u → Sl u (some ⟨g, off, none⟩) n cap l) := zaa fun u hu => HS.out.on (by rw [A]; exact Lr) hu
 have A4 : Hid (∀ u, Below kk w u → Sl u po pn pc P) := zaa fun u hu => HP.out.on (by rw [A]; exact Lr) hu
 have U : Hid (∀ (p : Int) u, Below kk w u → Calls Tryz.prog 100 #[.slice (some ⟨g, off, none⟩) n cap, .int .i64 p] u fun e w' => e = .returned (.tuple #[.int .u64 (rUx l p).1, .int .i64 (rUx l p).2.1, .int .i64 (rUx l p).2.2]) ∧ w' = u) := zaa fun p u hu => zdp _ n cap l p u (T.out u hu)
 have J : Hid (Below kk w y2) := zaa TB.2.2
 clear TB
 obtain ⟨v1, t1, B, K, V, C, W⟩ := ru_ok hs.wf zq he
 have H1 := zaa ((U.out ((at_ + 1 : Nat) : Int) y2 J.out).mono fun e w' h => (And.intro h.1 (zaa h.2) : _ ∧ Hid (w' = y2)))
 rw [B] at H1
 simp only at H1
 obtain ⟨s1, L⟩ : ∃ s1, at_ + 1 = s1 := ⟨_, rfl⟩
 have A5 : (at_ : Int) + 1 = (s1 : Int) := zq
 rw [L] at H1
 have t1b : (t1 : Int) ≤ 65536 := zq
 obtain ⟨rfl, rfl⟩ : v1 = v ∧ t1 = t := by
  rw [D] at B
  injection B with q1 q2
  injection q2 with q2 _
  omega
 have X := zaa (no_rest F W K C zq)
 have M : Hid (∀ u, Calls Tryz.prog 57 #[.slice (some ⟨g, off, none⟩) n cap, .int .i64 (t1 : Int), .int .u64 (v1 : Int)] u fun e w' => e = .returned (.tuple #[.slice none 0 0, .bool false]) ∧ w' = u) := zaa fun u => part_no (some ⟨g, off, none⟩) n cap t1 (v1 : Int) u zq hn zq
 clear hs hP O Q hx B D E F L K V he R C
 subst H
 go_enter Tryz.func58, Tryz.ntmps58
 go_wp2_with (go_at_call 100; refine H1.out.mono ?_; rintro e w1 ⟨rfl, N⟩; refine Hid.out ?_)
 apply zaa
 have HM : Hid (Md7 w w1 kk (.slice none 0 0) x []) := zaa (by rw [N.out]; exact I.out)
 have H2 := zaa (M.out w1)
 obtain ⟨c0, c1, c2, c3, c4⟩ := HM.out.1.cells
 obtain ⟨f0, f1, f2, f3, f4⟩ := HM.out.1.free
 clear I N H1 b0 J M
 go_wp2_with (go_at_call 57; refine zad H2.out ?_)
 refine bodyPost_ret (zaz rfl _ _ kk 50 #[.slice none 0 0, .int .i64 0, .slice none 0 0, .int .i64 0, .int .i64 0] (0, 0) _ (.int .i64 0) zr zr (HM.out.1.put _ _ _ _ _) Tryz.underlying50 rfl zal) rfl ?_
 have hf := zaq w1 kk (.slice none 0 0) (.int .i64 0) (.slice none 0 0) (.int .i64 0) (.int .i64 0)
 refine RdTo.no ?_ X.out
 rw [A]
 exact HM.out.2.2.2.1.trans (hf.below HM.out.2.2.2.2 (fun j hj e => zq))
end Go.Proofs.YtbkhjeacmmbabaaGreatDoor
