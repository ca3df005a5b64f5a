import Derived.Test.YtbkhjeacmmbabaaGreatDoorJ39
namespace Go.Proofs.YtbkhjeacmmbabaaGreatDoor
set_option maxRecDepth 100000
set_option maxHeartbeats 8000000
open Go.RowKit
structure Gd7 (c : Cl) : Prop where
 k0 : 0 ≤ c.kd
 k1 : c.kd ≤ 255
 v1 : c.kd = 1 → c.pg = 0 ∧ c.ct = 0
 v2 : c.kd ≠ 1 → c.val = [] ∧ 0 ≤ c.pg ∧ c.pg ≤ 65536 ∧ 0 ≤ c.ct ∧ c.ct ≤ 1073741824
 l1 : c.key.length ≤ 65536
 l2 : c.val.length ≤ 65536
def qtl (c : Cl) : List Int := if c.kd = 1 then uB c.val.length ++ c.val else uB (c.pg % 18446744073709551616) ++ uB (c.ct % 18446744073709551616)
theorem zdb (c : Cl) (R : List Int) : qB 0 c ++ R = (c.kd % 256) :: (uB (c.key.length : Int) ++ (c.key ++ (qtl c ++ R))) := by
 unfold qB qtl
 simp
theorem uB_inj {a b : Int} {R S : List Int} (ha : 0 ≤ a) (ha1 : a < 18446744073709551616) (hb : 0 ≤ b) (hb1 : b < 18446744073709551616) (h : uB a ++ R = uB b ++ S) : a = b ∧ R = S := by
 have h1 := rU_uB 0 a R ha ha1
 have h2 := rU_uB 0 b S hb hb1
 rw [h] at h1
 have e : a = b := by
  have := h1.symm.trans h2
  injection this
 subst e
 exact ⟨rfl, List.append_cancel_left h⟩
def No7 (l : List Int) (at_ : Nat) : Prop := ∀ c R, Gd7 c → l.drop at_ ≠ qB 0 c ++ R
def Is7 (l : List Int) (at_ t : Nat) (c : Cl) : Prop := Gd7 c ∧ c.Wf ∧ l.drop at_ = qB 0 c ++ l.drop t ∧ at_ < t ∧ t ≤ l.length
theorem no_end {l : List Int} {at_ : Nat} (h : l.length ≤ at_) : No7 l at_ := fun c R _ e => by
 rw [List.drop_eq_nil_of_le h, zdb] at e
 cases e
theorem at_cons {l : List Int} {at_ : Nat} (h : at_ < l.length) : l.drop at_ = l.getD at_ 0 :: l.drop (at_ + 1) := zbz l at_ h
theorem no_key {l : List Int} {at_ : Nat} (h : at_ < l.length) (he : (rUx l ((at_ + 1 : Nat) : Int)).2.2 ≠ 0) : No7 l at_ := fun c R g e => by
 rw [at_cons h, zdb] at e
 injection e with _ e
 exact ru_no (by omega) he _ _ (by omega) (by have := g.l1; omega) e
theorem no_rest {l : List Int} {at_ v t : Nat} (h : at_ < l.length) (hv : (v : Int) < 18446744073709551616) (h1 : l.drop (at_ + 1) = uB (v : Int) ++ l.drop t) (ht : t ≤ l.length) (hno : l.length < t + v) : No7 l at_ := fun c R g e => by
 rw [at_cons h, zdb] at e
 injection e with _ e
 rw [h1] at e
 obtain ⟨e1, e2⟩ := uB_inj (by omega) hv (by omega) (by have := g.l1; omega) e
 have := congrArg List.length e2
 simp only [zG, zK] at this
 omega
theorem to_key {l : List Int} {at_ v t : Nat} (h : at_ < l.length) (hv : (v : Int) < 18446744073709551616) (h1 : l.drop (at_ + 1) = uB (v : Int) ++ l.drop t) {c : Cl} {R : List Int} (g : Gd7 c) (e : l.drop at_ = qB 0 c ++ R) : c.kd = l.getD at_ 0 ∧ l.drop (t + v) = qtl c ++ R := by
 rw [at_cons h, zdb] at e
 injection e with e0 e
 rw [h1] at e
 obtain ⟨e1, e2⟩ := uB_inj (by omega) hv (by omega) (by have := g.l1; omega) e
 have := g.k0
 have := g.k1
 refine ⟨by omega, ?_⟩
 have hv2 : v = c.key.length := by omega
 rw [← List.drop_drop, e2, hv2, List.drop_left]
theorem no_tail {l : List Int} {at_ v t : Nat} (h : at_ < l.length) (hv : (v : Int) < 18446744073709551616) (h1 : l.drop (at_ + 1) = uB (v : Int) ++ l.drop t) (htv : t + v ≤ l.length) (he : (rUx l ((t + v : Nat) : Int)).2.2 ≠ 0) : No7 l at_ := fun c R g e => by
 obtain ⟨_, e2⟩ := to_key h hv h1 g e
 unfold qtl at e2
 split at e2
 ·rw [zM] at e2
  exact ru_no htv he _ _ (by omega) (by have := g.l2; omega) e2
 ·rw [zM] at e2
  exact ru_no htv he _ _ (by omega) (by omega) e2
theorem no_val {l : List Int} {at_ v t m s : Nat} (h : at_ < l.length) (hv : (v : Int) < 18446744073709551616) (h1 : l.drop (at_ + 1) = uB (v : Int) ++ l.drop t) (hx : l.getD at_ 0 = 1) (hm : (m : Int) < 18446744073709551616) (h2 : l.drop (t + v) = uB (m : Int) ++ l.drop s) (hs : s ≤ l.length) (hno : l.length < s + m) : No7 l at_ := fun c R g e => by
 obtain ⟨ek, e2⟩ := to_key h hv h1 g e
 unfold qtl at e2
 rw [if_pos (by omega), zM, h2] at e2
 obtain ⟨e3, e4⟩ := uB_inj (by omega) hm (by omega) (by have := g.l2; omega) e2
 have := congrArg List.length e4
 simp only [zG, zK] at this
 omega
theorem no_ct {l : List Int} {at_ v t m s : Nat} (h : at_ < l.length) (hv : (v : Int) < 18446744073709551616) (h1 : l.drop (at_ + 1) = uB (v : Int) ++ l.drop t) (hx : ¬ l.getD at_ 0 = 1) (hm : (m : Int) < 18446744073709551616) (h2 : l.drop (t + v) = uB (m : Int) ++ l.drop s) (hs : s ≤ l.length) (he : (rUx l (s : Int)).2.2 ≠ 0) : No7 l at_ := fun c R g e => by
 obtain ⟨ek, e2⟩ := to_key h hv h1 g e
 unfold qtl at e2
 rw [if_neg (by omega), zM, h2] at e2
 obtain ⟨e3, e4⟩ := uB_inj (by omega) hm (by omega) (by omega) e2
 exact ru_no hs he _ _ (by omega) (by omega) e4
theorem no_big {l : List Int} {at_ v t m s q z : Nat} (h : at_ < l.length) (hv : (v : Int) < 18446744073709551616) (h1 : l.drop (at_ + 1) = uB (v : Int) ++ l.drop t) (hx : ¬ l.getD at_ 0 = 1) (hm : (m : Int) < 18446744073709551616) (h2 : l.drop (t + v) = uB (m : Int) ++ l.drop s) (hq : (q : Int) < 18446744073709551616) (h3 : l.drop s = uB (q : Int) ++ l.drop z) (hno : 65536 < m ∨ 1073741824 < q) : No7 l at_ := fun c R g e => by
 obtain ⟨ek, e2⟩ := to_key h hv h1 g e
 have hc := g.v2 (by omega)
 unfold qtl at e2
 rw [if_neg (by omega), zM, h2] at e2
 obtain ⟨e3, e4⟩ := uB_inj (by omega) hm (by omega) (by omega) e2
 rw [h3] at e4
 obtain ⟨e5, _⟩ := uB_inj (by omega) hq (by omega) (by omega) e4
 omega
theorem is_val {l : List Int} {at_ v t m s : Nat} (hw : Wf l) (hl : l.length ≤ 65536) (h : at_ < l.length) (h1 : l.drop (at_ + 1) = uB (v : Int) ++ l.drop t) (ht : at_ + 1 < t) (htv : t + v ≤ l.length) (hx : l.getD at_ 0 = 1) (h2 : l.drop (t + v) = uB (m : Int) ++ l.drop s) (hs : t + v < s) (hsm : s + m ≤ l.length) : Is7 l at_ (s + m) ⟨(l.drop t).take v, 1, (l.drop s).take m, 0, 0⟩ := by
 have k1 : ((l.drop t).take v).length = v := by rw [zJ, zK]; omega
 have k2 : ((l.drop s).take m).length = m := by rw [zJ, zK]; omega
 refine ⟨⟨by simp, by simp, fun _ => ⟨rfl, rfl⟩, fun e => absurd rfl e, by simp only; omega, by simp only; omega⟩, ⟨(hw.drop t).take v, (hw.drop s).take m⟩, ?_, by omega, hsm⟩
 rw [at_cons h, zdb, hx, h1]
 simp only [qtl, k1, k2, if_true]
 have e3 : (l.drop s).take m ++ l.drop (s + m) = l.drop s := by rw [← List.drop_drop]; exact List.take_append_drop _ _
 have e4 : (l.drop t).take v ++ l.drop (t + v) = l.drop t := by rw [← List.drop_drop]; exact List.take_append_drop _ _
 rw [zM, e3, ← h2, e4]
 rfl
theorem is_ct {l : List Int} {at_ v t m s q z : Nat} (hw : Wf l) (hl : l.length ≤ 65536) (h : at_ < l.length) (h1 : l.drop (at_ + 1) = uB (v : Int) ++ l.drop t) (ht : at_ + 1 < t) (htv : t + v ≤ l.length) (hx : ¬ l.getD at_ 0 = 1) (h2 : l.drop (t + v) = uB (m : Int) ++ l.drop s) (hs : t + v < s) (h3 : l.drop s = uB (q : Int) ++ l.drop z) (hz : s < z) (hzl : z ≤ l.length) (hm : m ≤ 65536) (hq : q ≤ 1073741824) : Is7 l at_ z ⟨(l.drop t).take v, l.getD at_ 0, [], m, q⟩ := by
 have k1 : ((l.drop t).take v).length = v := by rw [zJ, zK]; omega
 have hb := hw.getD at_
 refine ⟨⟨hb.1, hb.2, fun e => absurd e hx, fun _ => ⟨rfl, by simp only; omega, by simp only; omega, by simp only; omega, by simp only; omega⟩, by simp only; omega, by simp⟩, ⟨(hw.drop t).take v, Wf.nil⟩, ?_, by omega, hzl⟩
 rw [at_cons h, zdb, h1]
 simp only [qtl, k1, if_neg hx]
 rw [show ((m : Int) % 18446744073709551616) = (m : Int) by omega, show ((q : Int) % 18446744073709551616) = (q : Int) by omega, zM, show l.getD at_ 0 % 256 = l.getD at_ 0 by omega]
 rw [← h3, ← h2, ← List.drop_drop, List.take_append_drop]
theorem two_box7 (w : World) (y0 y1 y2 y3 y4 : Value) :
  C5 ((w.alloc (.cells #[.slice none 0 0, .int .i64 0, .slice none 0 0, .int .i64 0, .int .i64 0] 50)).alloc (.cells #[y0, y1, y2, y3, y4] 50)) w.heap.size (.slice none 0 0) (.int .i64 0) (.slice none 0 0) (.int .i64 0) (.int .i64 0) ∧ C5 ((w.alloc (.cells #[.slice none 0 0, .int .i64 0, .slice none 0 0, .int .i64 0, .int .i64 0] 50)).alloc (.cells #[y0, y1, y2, y3, y4] 50)) (w.heap.size + 1) y0 y1 y2 y3 y4 ∧ Below w.heap.size w ((w.alloc (.cells #[.slice none 0 0, .int .i64 0, .slice none 0 0, .int .i64 0, .int .i64 0] 50)).alloc (.cells #[y0, y1, y2, y3, y4] 50)) := by
 obtain ⟨y, hy⟩ : ∃ y, w.alloc (.cells #[.slice none 0 0, .int .i64 0, .slice none 0 0, .int .i64 0, .int .i64 0] 50) = y := ⟨_, rfl⟩
 have hz : y.heap.size = w.heap.size + 1 := by rw [← hy]; simp
 have h1 : C5 y w.heap.size (.slice none 0 0) (.int .i64 0) (.slice none 0 0) (.int .i64 0) (.int .i64 0) := by rw [← hy]; exact C5.box w _ _ _ _ _
 have hby : Below w.heap.size w y := by rw [← hy]; exact zad Br Lr _
 rw [hy]
 have h2 := C5.box y y0 y1 y2 y3 y4
 rw [hz] at h2
 have hbz : Below y.heap.size y (y.alloc (.cells #[y0, y1, y2, y3, y4] 50)) := zad Br Lr _
 exact ⟨zag h1 hbz, h2, zae hby Lr hbz⟩
theorem zdy {w : World} {B : Nat} {u : Value} {l : List Int} (h : OwnB w B u l) : ∃ ao c, u = .slice ao l.length c := by
 unfold OwnB at h
 rcases h.2 with ⟨rfl, h0⟩ | ⟨g, c, cur, rfl, _⟩
 ·exact ⟨none, 0, by rw [h0]⟩
 ·exact ⟨_, c, rfl⟩
theorem C5.gr7 {w w' : World} {v v' : Value} {g : Nat} {x0 x1 x2 x3 x4 : Value} (h : C5 w g x0 x1 x2 x3 x4) (hg : Gr w v w' v') (hv : v.ownBlock ≠ some g) : C5 w' g x0 x1 x2 x3 x4 := (hg.grow.block g (zaf h) (fun e => hv e.symm)).trans h
theorem OwnB.c5 {w w' : World} {B k : Nat} {v x0 x1 x2 x3 x4 : Value} {l : List Int} (h : OwnB w B v l) (hc : Cf (· = k) w w') (h5 : C5 w k x0 x1 x2 x3 x4) : OwnB w' B v l := h.same fun z hz => by
 have := (World.ownsRow.lt h z hz).2
 exact hc.block z this fun e => h.apart5 h5 (by rw [hz]; exact congrArg some e)
def pre7 (k : Int) (i : Nat) (P : List Int) : List Int := if k = 3 ∧ i = 0 then [] else P
def RdTo (l : List Int) (at_ : Nat) (k : Int) (i : Nat) (P : List Int) (w : World) (e : Ending) (w' : World) : Prop :=
 ∃ ao kn a2 kd bo vn b2 pg ct tz, e = .returned (.tuple #[.agg #[.slice ao kn a2, .int .i64 kd, .slice bo vn b2, .int .i64 pg, .int .i64 ct], .int .i64 tz]) ∧ Hid (Below w.heap.size w w') ∧
  Hid ((tz = 0 ∧ No7 l at_) ∨ ∃ (t : Nat) (c : Cl), tz = (t : Int) ∧ Is7 l at_ t c ∧ kn = (pre7 k i P ++ c.key).length ∧ vn = c.val.length ∧ kd = c.kd ∧ pg = c.pg ∧ ct = c.ct ∧ OwnB w' w.heap.size (.slice ao kn a2) (pre7 k i P ++ c.key) ∧ OwnB w' w.heap.size (.slice bo vn b2) c.val)
theorem RdTo.no {l : List Int} {at_ : Nat} {k : Int} {i : Nat} {P : List Int} {w w' : World} (hb : Below w.heap.size w w') (hno : No7 l at_) : RdTo l at_ k i P w (.returned (.tuple #[.agg #[.slice none 0 0, .int .i64 0, .slice none 0 0, .int .i64 0, .int .i64 0], .int .i64 0])) w' := ⟨none, 0, 0, 0, none, 0, 0, 0, 0, 0, rfl, zaa hb, zaa (.inl ⟨rfl, hno⟩)⟩
def Md7 (w u : World) (kk : Nat) (v : Value) (x : Int) (K : List Int) : Prop := C5 u kk (.slice none 0 0) (.int .i64 0) (.slice none 0 0) (.int .i64 0) (.int .i64 0) ∧ C5 u (kk + 1) v (.int .i64 x) (.slice none 0 0) (.int .i64 0) (.int .i64 0) ∧ OwnB u kk v K ∧ Below kk w u ∧ kk ≤ u.heap.size
theorem Md7.key {w u u1 : World} {kk : Nat} {v v1 : Value} {x : Int} {K K1 : List Int} (h : Md7 w u kk v x K) (ho : OwnB u1 kk v1 K1) (hg : Gr u v u1 v1) : Md7 w (u1.setCell ⟨kk + 1, 0, none⟩ v1) kk v1 x K1 := by
 obtain ⟨a1, a2, a3, a4, a5⟩ := h
 have b1 := a1.gr7 hg (a3.apart5 a1)
 have b2 := a2.gr7 hg (a3.apart5 a2)
 have hc := Cf.set u1 (kk + 1) 0 v1
 have hs := hg.grow.size
 refine ⟨b1.cf hc (by omega), (b2.set v1).1, ho.c5 hc b2, (a4.trans (hg.below a3 a5)).trans (hc.below (by omega) (fun j hj e => by omega)), zN (zN a5 hs) hc.size⟩
theorem rread_key (g off n cap : Nat) (l : List Int) (at_ : Nat) (k : Int) (i : Nat) (po : Option Addr) (pn pc : Nat) (P : List Int) (w : World) (hs : Sl w (some ⟨g, off, none⟩) n cap l) (hn : n ≤ 65536) (hP : Sl w po pn pc P) (_hpn : pn ≤ 65536) (_hi : i ≤ 65536) (ha : at_ < n) (he : (rUx l ((at_ + 1 : Nat) : Int)).2.2 ≠ 0) :
  Calls Tryz.prog 58 #[.slice (some ⟨g, off, none⟩) n cap, .int .i64 (at_ : Int), .int .i64 k, .int .i64 (i : Int), .slice po pn pc] w (RdTo l at_ k i P w) := by
 have HS := zaa hs
 have HP := zaa hP
 have hlen := hs.hlen
 have hcap := hs.hcap
 have hnI : (n : Int) ≤ 65536 := by omega
 obtain ⟨kk, hkk⟩ : ∃ kk, w.heap.size = kk := ⟨_, rfl⟩
 have hgl : g < kk := by
  rcases hs.hat with h0 | ⟨b, o, e, hb, _⟩
  ·omega
  ·cases e; omega
 have HGL := zaa hgl
 have hlt : at_ < l.length := by omega
 obtain ⟨x, hx⟩ : ∃ x, l.getD at_ 0 = x := ⟨_, rfl⟩
 have hby := hs.wf.getD at_
 rw [hx] at hby
 obtain ⟨hx0, hx1⟩ := hby
 have b0 : (w.alloc (.cells #[.slice none 0 0, .int .i64 0, .slice none 0 0, .int .i64 0, .int .i64 0] 50)).cell? ⟨g, off + at_, none⟩ = some (.int .u8 x) := by
  rcases hs.hat with h0 | ⟨b, o, e, hb, hc⟩
  ·omega
  ·cases e
   rw [← hx]
   exact ((zad (Below.refl w.heap.size w) Lr _).cell (p := ⟨g, off + at_, none⟩) hb).trans (hc at_ (by omega))
 have TB := two_box7 w (.slice none 0 0) (.int .i64 x) (.slice none 0 0) (.int .i64 0) (.int .i64 0)
 rw [hkk] at TB
 obtain ⟨y2, hy2⟩ : ∃ y2, (w.alloc (.cells #[.slice none 0 0, .int .i64 0, .slice none 0 0, .int .i64 0, .int .i64 0] 50)).alloc (.cells #[.slice none 0 0, .int .i64 x, .slice none 0 0, .int .i64 0, .int .i64 0] 50) = y2 := ⟨_, rfl⟩
 rw [hy2] at TB
 have HM0 : Hid (Md7 w y2 kk (.slice none 0 0) x []) := zaa ⟨TB.1, TB.2.1, OwnB.nil _ _, TB.2.2, by have := zaf TB.1; omega⟩
 have haI : ¬ (n : Int) ≤ (at_ : Int) := by omega
 have haJ : (at_ : Int) < (n : Int) := by omega
 have h0 : ¬ (at_ : Int) < 0 := by omega
 have HSU : Hid (∀ u, Below kk w u → Sl u (some ⟨g, off, none⟩) n cap l) := zaa fun u hu => HS.out.on (by rw [hkk]; exact Lr) hu
 have HPU : Hid (∀ u, Below kk w u → Sl u po pn pc P) := zaa fun u hu => HP.out.on (by rw [hkk]; exact Lr) hu
 have HRU : Hid (∀ (p : Int) u, Below kk w u → Calls Tryz.prog 100 #[.slice (some ⟨g, off, none⟩) n cap, .int .i64 p] u fun e w' => e = .returned (.tuple #[.int .u64 (rUx l p).1, .int .i64 (rUx l p).2.1, .int .i64 (rUx l p).2.2]) ∧ w' = u) := zaa fun p u hu => zee _ n cap l p u (HSU.out u hu)
 have HY2 : Hid (Below kk w y2) := zaa TB.2.2
 clear TB
 have HNO := zaa (no_key hlt he)
 obtain ⟨⟨r1, r2, r3⟩, hr⟩ : ∃ r, rUx l ((at_ + 1 : Nat) : Int) = r := ⟨_, rfl⟩
 have H1 := zaa ((HRU.out ((at_ + 1 : Nat) : Int) y2 HY2.out).mono fun e w' h => (And.intro h.1 (zaa h.2) : _ ∧ Hid (w' = y2)))
 rw [hr] at H1 he
 simp only at H1 he
 obtain ⟨s1, hs1⟩ : ∃ s1, at_ + 1 = s1 := ⟨_, rfl⟩
 have hsI : (at_ : Int) + 1 = (s1 : Int) := by omega
 rw [hs1] at H1
 clear hs hP hlen hcap hx hr hgl hlt hs1
 subst hy2
 go_enter Tryz.func58, Tryz.ntmps58
 go_wp2_with (go_at_call 100; refine H1.out.mono ?_; rintro e w1 ⟨rfl, hw1⟩; refine Hid.out ?_)
 apply zaa
 have HM : Hid (Md7 w w1 kk (.slice none 0 0) x []) := zaa (by rw [hw1.out]; exact HM0.out)
 obtain ⟨c0, c1, c2, c3, c4⟩ := HM.out.1.cells
 obtain ⟨f0, f1, f2, f3, f4⟩ := HM.out.1.free
 clear HM0 hw1 H1 b0 HY2
 go_wp2
 refine bodyPost_ret (zbd rfl _ _ kk 50 #[.slice none 0 0, .int .i64 0, .slice none 0 0, .int .i64 0, .int .i64 0] (0, 0) _ (.int .i64 0) (by rfl) (by rfl) (HM.out.1.put _ _ _ _ _) Tryz.underlying50 rfl zal) rfl ?_
 have hf := zas w1 kk (.slice none 0 0) (.int .i64 0) (.slice none 0 0) (.int .i64 0) (.int .i64 0)
 refine RdTo.no ?_ HNO.out
 rw [hkk]
 exact HM.out.2.2.2.1.trans (hf.below HM.out.2.2.2.2 (fun j hj e => by omega))
theorem rread_rest (g off n cap : Nat) (l : List Int) (at_ : Nat) (k : Int) (i : Nat) (po : Option Addr) (pn pc : Nat) (P : List Int) (w : World) (hs : Sl w (some ⟨g, off, none⟩) n cap l) (hn : n ≤ 65536) (hP : Sl w po pn pc P) (_hpn : pn ≤ 65536) (_hi : i ≤ 65536) (ha : at_ < n) (he : (rUx l ((at_ + 1 : Nat) : Int)).2.2 = 0) (v t : Nat) (hvt : rUx l ((at_ + 1 : Nat) : Int) = ((v : Int), (t : Int), 0)) (hno : n < t + v) :
  Calls Tryz.prog 58 #[.slice (some ⟨g, off, none⟩) n cap, .int .i64 (at_ : Int), .int .i64 k, .int .i64 (i : Int), .slice po pn pc] w (RdTo l at_ k i P w) := by
 have HS := zaa hs
 have HP := zaa hP
 have hlen := hs.hlen
 have hcap := hs.hcap
 have hnI : (n : Int) ≤ 65536 := by omega
 obtain ⟨kk, hkk⟩ : ∃ kk, w.heap.size = kk := ⟨_, rfl⟩
 have hgl : g < kk := by
  rcases hs.hat with h0 | ⟨b, o, e, hb, _⟩
  ·omega
  ·cases e; omega
 have HGL := zaa hgl
 have hlt : at_ < l.length := by omega
 obtain ⟨x, hx⟩ : ∃ x, l.getD at_ 0 = x := ⟨_, rfl⟩
 have hby := hs.wf.getD at_
 rw [hx] at hby
 obtain ⟨hx0, hx1⟩ := hby
 have b0 : (w.alloc (.cells #[.slice none 0 0, .int .i64 0, .slice none 0 0, .int .i64 0, .int .i64 0] 50)).cell? ⟨g, off + at_, none⟩ = some (.int .u8 x) := by
  rcases hs.hat with h0 | ⟨b, o, e, hb, hc⟩
  ·omega
  ·cases e
   rw [← hx]
   exact ((zad (Below.refl w.heap.size w) Lr _).cell (p := ⟨g, off + at_, none⟩) hb).trans (hc at_ (by omega))
 have TB := two_box7 w (.slice none 0 0) (.int .i64 x) (.slice none 0 0) (.int .i64 0) (.int .i64 0)
 rw [hkk] at TB
 obtain ⟨y2, hy2⟩ : ∃ y2, (w.alloc (.cells #[.slice none 0 0, .int .i64 0, .slice none 0 0, .int .i64 0, .int .i64 0] 50)).alloc (.cells #[.slice none 0 0, .int .i64 x, .slice none 0 0, .int .i64 0, .int .i64 0] 50) = y2 := ⟨_, rfl⟩
 rw [hy2] at TB
 have HM0 : Hid (Md7 w y2 kk (.slice none 0 0) x []) := zaa ⟨TB.1, TB.2.1, OwnB.nil _ _, TB.2.2, by have := zaf TB.1; omega⟩
 have haI : ¬ (n : Int) ≤ (at_ : Int) := by omega
 have haJ : (at_ : Int) < (n : Int) := by omega
 have h0 : ¬ (at_ : Int) < 0 := by omega
 have HSU : Hid (∀ u, Below kk w u → Sl u (some ⟨g, off, none⟩) n cap l) := zaa fun u hu => HS.out.on (by rw [hkk]; exact Lr) hu
 have HPU : Hid (∀ u, Below kk w u → Sl u po pn pc P) := zaa fun u hu => HP.out.on (by rw [hkk]; exact Lr) hu
 have HRU : Hid (∀ (p : Int) u, Below kk w u → Calls Tryz.prog 100 #[.slice (some ⟨g, off, none⟩) n cap, .int .i64 p] u fun e w' => e = .returned (.tuple #[.int .u64 (rUx l p).1, .int .i64 (rUx l p).2.1, .int .i64 (rUx l p).2.2]) ∧ w' = u) := zaa fun p u hu => zee _ n cap l p u (HSU.out u hu)
 have HY2 : Hid (Below kk w y2) := zaa TB.2.2
 clear TB
 obtain ⟨v1, t1, hr1, hd1, ht1, ht1l, hv1⟩ := ru_ok hs.wf (by omega) he
 have H1 := zaa ((HRU.out ((at_ + 1 : Nat) : Int) y2 HY2.out).mono fun e w' h => (And.intro h.1 (zaa h.2) : _ ∧ Hid (w' = y2)))
 rw [hr1] at H1
 simp only at H1
 obtain ⟨s1, hs1⟩ : ∃ s1, at_ + 1 = s1 := ⟨_, rfl⟩
 have hsI : (at_ : Int) + 1 = (s1 : Int) := by omega
 rw [hs1] at H1
 have t1b : (t1 : Int) ≤ 65536 := by omega
 obtain ⟨rfl, rfl⟩ : v1 = v ∧ t1 = t := by
  rw [hvt] at hr1
  injection hr1 with q1 q2
  injection q2 with q2 _
  omega
 have HNO := zaa (no_rest hlt hv1 hd1 ht1l (by omega))
 have HPN : Hid (∀ u, Calls Tryz.prog 57 #[.slice (some ⟨g, off, none⟩) n cap, .int .i64 (t1 : Int), .int .u64 (v1 : Int)] u fun e w' => e = .returned (.tuple #[.slice none 0 0, .bool false]) ∧ w' = u) := zaa fun u => part_no (some ⟨g, off, none⟩) n cap t1 (v1 : Int) u (by omega) hn (by omega)
 clear hs hP hlen hcap hx hr1 hvt hgl hlt hs1 hd1 ht1 he hno ht1l
 subst hy2
 go_enter Tryz.func58, Tryz.ntmps58
 go_wp2_with (go_at_call 100; refine H1.out.mono ?_; rintro e w1 ⟨rfl, hw1⟩; refine Hid.out ?_)
 apply zaa
 have HM : Hid (Md7 w w1 kk (.slice none 0 0) x []) := zaa (by rw [hw1.out]; exact HM0.out)
 have H2 := zaa (HPN.out w1)
 obtain ⟨c0, c1, c2, c3, c4⟩ := HM.out.1.cells
 obtain ⟨f0, f1, f2, f3, f4⟩ := HM.out.1.free
 clear HM0 hw1 H1 b0 HY2 HPN
 go_wp2_with (go_at_call 57; refine zac H2.out ?_)
 refine bodyPost_ret (zbd rfl _ _ kk 50 #[.slice none 0 0, .int .i64 0, .slice none 0 0, .int .i64 0, .int .i64 0] (0, 0) _ (.int .i64 0) (by rfl) (by rfl) (HM.out.1.put _ _ _ _ _) Tryz.underlying50 rfl zal) rfl ?_
 have hf := zas w1 kk (.slice none 0 0) (.int .i64 0) (.slice none 0 0) (.int .i64 0) (.int .i64 0)
 refine RdTo.no ?_ HNO.out
 rw [hkk]
 exact HM.out.2.2.2.1.trans (hf.below HM.out.2.2.2.2 (fun j hj e => by omega))
theorem rread_pre (g off n cap : Nat) (l : List Int) (at_ : Nat) (k : Int) (i : Nat) (po : Option Addr) (pn pc : Nat) (P : List Int) (w : World) (hs : Sl w (some ⟨g, off, none⟩) n cap l) (hn : n ≤ 65536) (hP : Sl w po pn pc P) (_hpn : pn ≤ 65536) (_hi : i ≤ 65536) (ha : at_ < n) (he : (rUx l ((at_ + 1 : Nat) : Int)).2.2 = 0) (v t : Nat) (hvt : rUx l ((at_ + 1 : Nat) : Int) = ((v : Int), (t : Int), 0)) (hok : t + v ≤ n) (hki : ¬ (k = 3 ∧ i = 0)) :
  Calls Tryz.prog 58 #[.slice (some ⟨g, off, none⟩) n cap, .int .i64 (at_ : Int), .int .i64 k, .int .i64 (i : Int), .slice po pn pc] w (RdTo l at_ k i P w) := by
 have HS := zaa hs
 have HP := zaa hP
 have hlen := hs.hlen
 have hcap := hs.hcap
 have hnI : (n : Int) ≤ 65536 := by omega
 obtain ⟨kk, hkk⟩ : ∃ kk, w.heap.size = kk := ⟨_, rfl⟩
 have hgl : g < kk := by
  rcases hs.hat with h0 | ⟨b, o, e, hb, _⟩
  ·omega
  ·cases e; omega
 have HGL := zaa hgl
 have hlt : at_ < l.length := by omega
 obtain ⟨x, hx⟩ : ∃ x, l.getD at_ 0 = x := ⟨_, rfl⟩
 have hby := hs.wf.getD at_
 rw [hx] at hby
 obtain ⟨hx0, hx1⟩ := hby
 have b0 : (w.alloc (.cells #[.slice none 0 0, .int .i64 0, .slice none 0 0, .int .i64 0, .int .i64 0] 50)).cell? ⟨g, off + at_, none⟩ = some (.int .u8 x) := by
  rcases hs.hat with h0 | ⟨b, o, e, hb, hc⟩
  ·omega
  ·cases e
   rw [← hx]
   exact ((zad (Below.refl w.heap.size w) Lr _).cell (p := ⟨g, off + at_, none⟩) hb).trans (hc at_ (by omega))
 have TB := two_box7 w (.slice none 0 0) (.int .i64 x) (.slice none 0 0) (.int .i64 0) (.int .i64 0)
 rw [hkk] at TB
 obtain ⟨y2, hy2⟩ : ∃ y2, (w.alloc (.cells #[.slice none 0 0, .int .i64 0, .slice none 0 0, .int .i64 0, .int .i64 0] 50)).alloc (.cells #[.slice none 0 0, .int .i64 x, .slice none 0 0, .int .i64 0, .int .i64 0] 50) = y2 := ⟨_, rfl⟩
 rw [hy2] at TB
 have HM0 : Hid (Md7 w y2 kk (.slice none 0 0) x []) := zaa ⟨TB.1, TB.2.1, OwnB.nil _ _, TB.2.2, by have := zaf TB.1; omega⟩
 have haI : ¬ (n : Int) ≤ (at_ : Int) := by omega
 have haJ : (at_ : Int) < (n : Int) := by omega
 have h0 : ¬ (at_ : Int) < 0 := by omega
 have HSU : Hid (∀ u, Below kk w u → Sl u (some ⟨g, off, none⟩) n cap l) := zaa fun u hu => HS.out.on (by rw [hkk]; exact Lr) hu
 have HPU : Hid (∀ u, Below kk w u → Sl u po pn pc P) := zaa fun u hu => HP.out.on (by rw [hkk]; exact Lr) hu
 have HRU : Hid (∀ (p : Int) u, Below kk w u → Calls Tryz.prog 100 #[.slice (some ⟨g, off, none⟩) n cap, .int .i64 p] u fun e w' => e = .returned (.tuple #[.int .u64 (rUx l p).1, .int .i64 (rUx l p).2.1, .int .i64 (rUx l p).2.2]) ∧ w' = u) := zaa fun p u hu => zee _ n cap l p u (HSU.out u hu)
 have HY2 : Hid (Below kk w y2) := zaa TB.2.2
 clear TB
 obtain ⟨v1, t1, hr1, hd1, ht1, ht1l, hv1⟩ := ru_ok hs.wf (by omega) he
 have H1 := zaa ((HRU.out ((at_ + 1 : Nat) : Int) y2 HY2.out).mono fun e w' h => (And.intro h.1 (zaa h.2) : _ ∧ Hid (w' = y2)))
 rw [hr1] at H1
 simp only at H1
 obtain ⟨s1, hs1⟩ : ∃ s1, at_ + 1 = s1 := ⟨_, rfl⟩
 have hsI : (at_ : Int) + 1 = (s1 : Int) := by omega
 rw [hs1] at H1
 have t1b : (t1 : Int) ≤ 65536 := by omega
 obtain ⟨rfl, rfl⟩ : v1 = v ∧ t1 = t := by
  rw [hvt] at hr1
  injection hr1 with q1 q2
  injection q2 with q2 _
  omega
 have HPRE : Hid (pre7 k i P = P) := zaa (by unfold pre7; rw [if_neg hki])
 obtain ⟨po1, pc1, hp1, hp2, hp3⟩ := part_yes g off n cap t1 v1 l w hs hn hok
 have HP1 := zaa hp1
 have HR1 : Hid (∀ u, Below kk w u → Sl u po1 v1 pc1 ((l.drop t1).take v1)) := zaa (by rw [← hkk]; exact hp2)
 have HG1 : Hid (∀ p, po1 = some p → p.block < kk) := zaa fun p hp => by rw [hp3 p hp]; exact hgl
 obtain ⟨t2, ht2⟩ : ∃ t2, t1 + v1 = t2 := ⟨_, rfl⟩
 have ht2I : (t1 : Int) + (v1 : Int) = (t2 : Int) := by omega
 have t2b : (t2 : Int) ≤ 65536 := by omega
 have v1b : (v1 : Int) ≤ 65536 := by omega
 have HPL := zaa hP.hlen
 have HL := zaa hlen
 have HLT := zaa hlt
 have HX := zaa hx
 have HD1 := zaa hd1
 have HT1 := zaa ht1
 have HT2 := zaa ht2
 have HT2N : Hid (t2 ≤ n) := zaa (by omega)
 have HV1 := zaa hv1
 have HWF := zaa hs.wf
 have hiI : (i : Int) ≤ 65536 := by omega
 have hR1l : ((l.drop t1).take v1).length = v1 := by rw [zJ, zK]; omega
 obtain ⟨R1, hR1⟩ : ∃ R1, (l.drop t1).take v1 = R1 := ⟨_, rfl⟩
 rw [hR1] at HR1 hR1l
 have HRR := zaa hR1
 have HRL := zaa hR1l
 have HAA : Hid (∀ u, Md7 w u kk (.slice none 0 0) x [] → Calls Tryz.prog 101 #[.slice none 0 0, .slice po pn pc] u fun e w' => ∃ v', e = .returned v' ∧ Hid (OwnB w' kk v' P) ∧ Hid (Gr u (.slice none 0 0) w' v')) := zaa fun u hu => by
  have := zcf (.slice none 0 0) kk [] P po pn pc u (OwnB.nil _ _) (HPU.out u hu.2.2.2.1) (.inr fun p _ => by simp [Value.ownBlock]) (by simp; omega) hu.2.2.2.2
  rw [List.nil_append] at this
  exact this
 have hkk3 : (k != 3) = true ∨ (k = 3 ∧ 0 < i) := by
  by_cases h3 : k = 3
  ·exact .inr ⟨h3, by omega⟩
  ·exact .inl (by simpa using h3)
 clear hs hP hlen hcap hx hr1 hvt hgl hlt hs1 hd1 ht1 he hok hki hp1 hp2 hp3 ht2 hR1 hR1l ht1l hv1
 have hcase : (k != 3) = true ∨ (k = 3 ∧ ∃ j, i = j + 1) := by
  rcases hkk3 with h | ⟨h, h2⟩
  ·exact .inl h
  ·exact .inr ⟨h, i - 1, by omega⟩
 clear hkk3
 subst hy2
 rcases hcase with hb1 | ⟨rfl, j9, rfl⟩
 all_goals
  go_enter Tryz.func58, Tryz.ntmps58
  go_wp2_with (go_at_call 100; refine H1.out.mono ?_; rintro e w1 ⟨rfl, hw1⟩; refine Hid.out ?_)
  apply zaa
  have HM9 : Hid (Md7 w w1 kk (.slice none 0 0) x []) := zaa (by rw [hw1.out]; exact HM0.out)
  have H2 := zaa (HP1.out w1)
  have HA0 := zaa (HAA.out w1 HM9.out)
  obtain ⟨d0, d1, d2, d3, d4⟩ := HM9.out.2.1.cells
  clear HM0 hw1 H1 b0 HY2 HP1 HAA
  go_wp2_with (first
   | (go_at_call 57; refine zac H2.out ?_)
   | (go_at_call 101; refine HA0.out.mono ?_; rintro e u1 ⟨v0, rfl, HO0, HG0⟩; refine Hid.out ?_))
  apply zaa
  clear d0 d1 d2 d3 d4
  obtain ⟨a0, c0', rfl⟩ := zdy HO0.out
  rw [HPL.out] at HO0 HG0
  have HM1 := zaa (HM9.out.key HO0.out HG0.out)
  have h51 := HM9.out.2.1.gr7 HG0.out (by simp [Value.ownBlock])
  obtain ⟨d0, d1, d2, d3, d4⟩ := h51.cells
  obtain ⟨f0, f1, f2, f3, f4⟩ := h51.free
  obtain ⟨u2, hu2⟩ : ∃ u2, u1.setCell ⟨kk + 1, 0, none⟩ (.slice a0 pn c0') = u2 := ⟨_, rfl⟩
  rw [hu2] at HM1
  have HA1 := zaa (zcf (.slice a0 pn c0') kk P R1 po1 v1 pc1 u2 HM1.out.2.2.1 (HR1.out u2 HM1.out.2.2.2.1) (HM1.out.2.2.1.far HG1.out) (by rw [HPL.out]; omega) HM1.out.2.2.2.2)
  obtain ⟨g0, g1, g2, g3, g4⟩ := HM1.out.2.1.cells
  rw [HPL.out]
  clear h51 HA0 HO0 HG0 H2
  go_wp2_with (go_at_call 101; refine HA1.out.mono ?_; rintro e u3 ⟨v3, rfl, HO1, HG3⟩; refine Hid.out ?_)
  apply zaa
  clear d0 d1 d2 d3 d4 f0 f1 f2 f3 f4 g0 g1 g2 g3 g4 hu2
  obtain ⟨KN, hKN⟩ : ∃ KN, (P ++ R1).length = KN := ⟨_, rfl⟩
  obtain ⟨a1, c1', rfl⟩ := zdy HO1.out
  rw [hKN] at HO1 HG3 ⊢
  have HKN := zaa hKN
  have HM2 := zaa (HM1.out.key HO1.out HG3.out)
  have h52 := HM1.out.2.1.gr7 HG3.out (HM1.out.2.2.1.apart5 HM1.out.2.1)
  obtain ⟨d0, d1, d2, d3, d4⟩ := h52.cells
  obtain ⟨f0, f1, f2, f3, f4⟩ := h52.free
  obtain ⟨u4, hu4⟩ : ∃ u4, u3.setCell ⟨kk + 1, 0, none⟩ (.slice a1 KN c1') = u4 := ⟨_, rfl⟩
  rw [hu4] at HM2
  have H3 := zaa (HRU.out (t2 : Int) u4 HM2.out.2.2.2.1)
  have hw4 := HM2.out.2.2.2.1
  have HW4 := zaa hw4
  obtain ⟨e0, e1, e2, e3, e4⟩ := HM2.out.2.1.cells
  obtain ⟨k0, k1, k2, k3, k4⟩ := HM2.out.2.1.free
  obtain ⟨c0, c1, c2, c3, c4⟩ := HM2.out.1.cells
  obtain ⟨j0, j1, j2, j3, j4⟩ := HM2.out.1.free
  clear h52 hw4 HA1 hKN HO1 HG3
  by_cases he3 : (rUx l (t2 : Int)).2.2 = 0
  ·obtain ⟨m, s3, hr3, hd3, hs3, hs3l, hm⟩ := ru_ok HWF.out (by rw [HL.out]; exact HT2N.out) he3
   rw [hr3] at H3
   simp only at H3
   have s3b : (s3 : Int) ≤ 65536 := by have := HL.out; omega
   have HD3 := zaa hd3
   have HS3 := zaa hs3
   have HMB := zaa hm
   have HS3L := zaa hs3l
   clear he3 hr3 hd3 hs3
   by_cases hx1' : x = 1
   ·by_cases hv2 : s3 + m ≤ n
    ·obtain ⟨po2, pc2, hq1, hq2, hq3⟩ := part_yes g off n cap s3 m l w HS.out hn hv2
     have H4 := zaa (hq1 u4)
     have hR2l : ((l.drop s3).take m).length = m := by rw [zJ, zK, HL.out]; omega
     obtain ⟨R2, hR2⟩ : ∃ R2, (l.drop s3).take m = R2 := ⟨_, rfl⟩
     rw [hR2] at hq2 hR2l
     have HA2 := zaa (zcf (.slice none 0 0) kk [] R2 po2 m pc2 u4 (OwnB.nil _ _) (hq2 u4 (by rw [hkk]; exact HW4.out)) (.inr fun p _ => by simp [Value.ownBlock]) (by simp; omega) HM2.out.2.2.2.2)
     rw [List.nil_append] at HA2
     have HIS := zaa (is_val HWF.out (by rw [HL.out]; exact hn) HLT.out HD1.out (by have := HT1.out; omega) (by rw [HL.out, HT2.out]; exact HT2N.out) (by rw [HX.out]; exact hx1') (by rw [HT2.out]; exact HD3.out) (by rw [HT2.out]; exact HS3.out) (by rw [HL.out]; exact hv2))
     rw [HRR.out, hR2] at HIS
     have HR2L := zaa hR2l
     obtain ⟨t4, ht4⟩ : ∃ t4, s3 + m = t4 := ⟨_, rfl⟩
     have ht4I : (s3 : Int) + (m : Int) = (t4 : Int) := by omega
     have mb : (m : Int) ≤ 65536 := by omega
     have t4b : (t4 : Int) ≤ 65536 := by omega
     rw [ht4] at HIS
     clear hq1 hq2 hq3 hR2 hR2l hv2 ht4 hm hs3l
     subst hx1'
     go_wp2_with (first
      | (go_at_call 100; refine zac H3.out ?_)
      | (go_at_call 57; refine zac H4.out ?_)
      | (go_at_call 101; refine HA2.out.mono ?_; rintro e u5 ⟨v5, rfl, HO5, HG5⟩; refine Hid.out ?_))
     apply zaa
     obtain ⟨a5, c5', rfl⟩ := zdy HO5.out
     rw [HR2L.out] at HO5 HG5 ⊢
     have q51 := HM2.out.2.1.gr7 HG5.out (by simp [Value.ownBlock])
     have q50 := HM2.out.1.gr7 HG5.out (by simp [Value.ownBlock])
     have hk5 : OwnB u5 kk (.slice a1 KN c1') (P ++ R1) := World.ownsRow.kept HM2.out.2.2.1 HG5.out.grow (by
      cases hz : (Value.slice a1 KN c1').ownBlock with
      | none => exact .inl rfl
      | some z => exact .inr (by simp [Value.ownBlock]))
     have hb5 : Below kk u4 u5 := HG5.out.below (OwnB.nil u4 kk) HM2.out.2.2.2.2
     have hs5 := hb5.size
     have hk4 := HM2.out.2.2.2.2
     have hc6 := Cf.set u5 (kk + 1) 2 (.slice a5 m c5')
     have q61 := (q51.set (.slice a5 m c5')).2.2.1
     have q60 := q50.cf hc6 (by omega)
     have hk6 := hk5.c5 hc6 q51
     have hv6 := HO5.out.c5 hc6 q51
     obtain ⟨u6, hu6⟩ : ∃ u6, u5.setCell ⟨kk + 1, 2, none⟩ (.slice a5 m c5') = u6 := ⟨_, rfl⟩
     have hs6 := hc6.size
     rw [hu6] at q61 q60 hk6 hv6 hc6 hs6
     have hc7 := zas u6 kk (.slice a1 KN c1') (.int .i64 1) (.slice a5 m c5') (.int .i64 0) (.int .i64 0)
     have HEND : Hid (Below w.heap.size w (put5 u6 kk (.slice a1 KN c1') (.int .i64 1) (.slice a5 m c5') (.int .i64 0) (.int .i64 0)) ∧ OwnB (put5 u6 kk (.slice a1 KN c1') (.int .i64 1) (.slice a5 m c5') (.int .i64 0) (.int .i64 0)) kk (.slice a1 KN c1') (P ++ R1) ∧ OwnB (put5 u6 kk (.slice a1 KN c1') (.int .i64 1) (.slice a5 m c5') (.int .i64 0) (.int .i64 0)) kk (.slice a5 m c5') R2) := zaa ⟨by
      rw [hkk]
      exact (HM2.out.2.2.2.1.trans hb5).trans ((hc6.below (by omega) (fun j hj e => by omega)).trans (hc7.below (by omega) (fun j hj e => by omega))), hk6.c5 hc7 q60, hv6.c5 hc7 q60⟩
     have H60 := zaa q60
     obtain ⟨x0, x1, x2, x3, x4⟩ := q51.cells
     obtain ⟨y0, y1, y2', y3, y4⟩ := q51.free
     obtain ⟨z0, z1, z2, z3, z4⟩ := q61.cells
     obtain ⟨o0, o1, o2, o3, o4⟩ := q60.cells
     obtain ⟨n0, n1, n2, n3, n4⟩ := q60.free
     clear q51 q50 hk5 hb5 hs5 hk4 hc6 q61 q60 hk6 hv6 hs6 hc7 e0 e1 e2 e3 e4 k0 k1 k2 k3 k4 c0 c1 c2 c3 c4 j0 j1 j2 j3 j4 d0 d1 d2 d3 d4 f0 f1 f2 f3 f4 hu4
     go_wp2
     refine bodyPost_ret (zbd rfl _ _ kk 50 #[.slice a1 KN c1', .int .i64 1, .slice a5 m c5', .int .i64 0, .int .i64 0] (0, 0) _ (.int .i64 (t4 : Int)) (by rfl) (by rfl) (H60.out.put _ _ _ _ _) Tryz.underlying50 rfl zal) rfl ?_
     refine ⟨a1, KN, c1', 1, a5, m, c5', 0, 0, (t4 : Int), rfl, zaa HEND.out.1, zaa (.inr ⟨t4, _, rfl, HIS.out, ?_, ?_, rfl, rfl, rfl, ?_, ?_⟩)⟩
     ·rw [HPRE.out]; exact HKN.out.symm
     ·exact HR2L.out.symm
     ·rw [HPRE.out, hkk]; exact HEND.out.2.1
     ·rw [hkk]; exact HEND.out.2.2
    ·have H4 := zaa (part_no (some ⟨g, off, none⟩) n cap s3 (m : Int) u4 (by have := HL.out; omega) hn (by omega))
     have HNO := zaa (no_val HLT.out HV1.out HD1.out (by rw [HX.out]; exact hx1') hm (by rw [HT2.out]; exact HD3.out) hs3l (by rw [HL.out]; omega))
     clear hv2 hm hs3l
     subst hx1'
     go_wp2_with (first | (go_at_call 100; refine zac H3.out ?_) | (go_at_call 57; refine zac H4.out ?_))
     refine bodyPost_ret (zbd rfl _ _ kk 50 #[.slice none 0 0, .int .i64 0, .slice none 0 0, .int .i64 0, .int .i64 0] (0, 0) _ (.int .i64 0) (by rfl) (by rfl) (HM2.out.1.put _ _ _ _ _) Tryz.underlying50 rfl zal) rfl ?_
     have hf := zas u4 kk (.slice none 0 0) (.int .i64 0) (.slice none 0 0) (.int .i64 0) (.int .i64 0)
     refine RdTo.no ?_ HNO.out
     rw [hkk]
     exact HM2.out.2.2.2.1.trans (hf.below HM2.out.2.2.2.2 (fun j hj e => by omega))
   ·have hxb : (x == 1) = false := by simpa using hx1'
    have H5 := zaa (HRU.out (s3 : Int) u4 HM2.out.2.2.2.1)
    by_cases he5 : (rUx l (s3 : Int)).2.2 = 0
    ·obtain ⟨q, z, hr5, hd5, hz5, hz5l, hq⟩ := ru_ok HWF.out hs3l he5
     rw [hr5] at H5
     simp only at H5
     have zb : (z : Int) ≤ 65536 := by have := HL.out; omega
     have H35 : Hid (∀ (p : Int) (a b c : Int), (p = (t2 : Int) ∧ a = (m : Int) ∧ b = (s3 : Int) ∧ c = 0) ∨ (p = (s3 : Int) ∧ a = (q : Int) ∧ b = (z : Int) ∧ c = 0) → Calls Tryz.prog 100 #[.slice (some ⟨g, off, none⟩) n cap, .int .i64 p] u4 fun e w' => e = .returned (.tuple #[.int .u64 a, .int .i64 b, .int .i64 c]) ∧ w' = u4) := zaa (by
      rintro p a b c (⟨rfl, rfl, rfl, rfl⟩ | ⟨rfl, rfl, rfl, rfl⟩)
      ·exact H3.out
      ·exact H5.out)
     clear he5 hr5
     by_cases hbig : 65536 < m ∨ 1073741824 < q
     ·have HNO := zaa (no_big HLT.out HV1.out HD1.out (by rw [HX.out]; exact hx1') hm (by rw [HT2.out]; exact HD3.out) hq hd5 hbig)
      have hbb : (decide ((65536 : Int) < (m : Int)) = true) ∨ (decide ((65536 : Int) < (m : Int)) = false ∧ decide ((1073741824 : Int) < (q : Int)) = true) := by
       by_cases hm6 : 65536 < m
       ·exact .inl (by simp; omega)
       ·exact .inr ⟨by simp; omega, by simp; omega⟩
      clear hbig hd5 hz5 hx1' hz5l hs3l
      rcases hbb with hb6 | ⟨hb6, hb7⟩
      all_goals
       go_wp2_with (go_at_call 100; first | with_reducible refine zac (H35.out _ _ _ _ (.inl ⟨rfl, rfl, rfl, rfl⟩)) ?_ | with_reducible refine zac (H35.out _ _ _ _ (.inr ⟨rfl, rfl, rfl, rfl⟩)) ?_)
       refine bodyPost_ret (zbd rfl _ _ kk 50 #[.slice none 0 0, .int .i64 0, .slice none 0 0, .int .i64 0, .int .i64 0] (0, 0) _ (.int .i64 0) (by rfl) (by rfl) (HM2.out.1.put _ _ _ _ _) Tryz.underlying50 rfl zal) rfl ?_
       have hf := zas u4 kk (.slice none 0 0) (.int .i64 0) (.slice none 0 0) (.int .i64 0) (.int .i64 0)
       refine RdTo.no ?_ HNO.out
       rw [hkk]
       exact HM2.out.2.2.2.1.trans (hf.below HM2.out.2.2.2.2 (fun j hj e => by omega))
     ·have HIS := zaa (is_ct HWF.out (by rw [HL.out]; exact hn) HLT.out HD1.out (by have := HT1.out; omega) (by rw [HL.out, HT2.out]; exact HT2N.out) (by rw [HX.out]; exact hx1') (by rw [HT2.out]; exact HD3.out) (by rw [HT2.out]; exact HS3.out) hd5 hz5 hz5l (by omega) (by omega))
      rw [HRR.out, HX.out] at HIS
      have mb : (m : Int) ≤ 65536 := by omega
      have qb : (q : Int) ≤ 1073741824 := by omega
      have hc5 := Cf.set u4 (kk + 1) 3 (.int .i64 (m : Int))
      have q51 := (HM2.out.2.1.set (.int .i64 (m : Int))).2.2.2.1
      have hc6 := Cf.set (u4.setCell ⟨kk + 1, 3, none⟩ (.int .i64 (m : Int))) (kk + 1) 4 (.int .i64 (q : Int))
      have q61 := (q51.set (.int .i64 (q : Int))).2.2.2.2
      have hcc := hc5.go hc6
      have q60 := HM2.out.1.cf hcc (by omega)
      have hk6 := HM2.out.2.2.1.c5 hcc HM2.out.2.1
      have hs6 := hcc.size
      have hk4 := HM2.out.2.2.2.2
      obtain ⟨u5, hu5⟩ : ∃ u5, u4.setCell ⟨kk + 1, 3, none⟩ (.int .i64 (m : Int)) = u5 := ⟨_, rfl⟩
      rw [hu5] at q51 q61 q60 hk6 hcc hs6
      obtain ⟨u6, hu6⟩ : ∃ u6, u5.setCell ⟨kk + 1, 4, none⟩ (.int .i64 (q : Int)) = u6 := ⟨_, rfl⟩
      rw [hu6] at q61 q60 hk6 hcc hs6
      have hc7 := zas u6 kk (.slice a1 KN c1') (.int .i64 x) (.slice none 0 0) (.int .i64 (m : Int)) (.int .i64 (q : Int))
      have HEND : Hid (Below w.heap.size w (put5 u6 kk (.slice a1 KN c1') (.int .i64 x) (.slice none 0 0) (.int .i64 (m : Int)) (.int .i64 (q : Int))) ∧ OwnB (put5 u6 kk (.slice a1 KN c1') (.int .i64 x) (.slice none 0 0) (.int .i64 (m : Int)) (.int .i64 (q : Int))) kk (.slice a1 KN c1') (P ++ R1)) := zaa ⟨by
       rw [hkk]
       exact HM2.out.2.2.2.1.trans ((hcc.below (by omega) (fun j hj e => by omega)).trans (hc7.below (by omega) (fun j hj e => by omega))), hk6.c5 hc7 q60⟩
      have H60 := zaa q60
      obtain ⟨x0, x1, x2, x3, x4⟩ := q51.cells
      obtain ⟨y0, y1, y2', y3, y4⟩ := q51.free
      obtain ⟨z0, z1, z2, z3, z4⟩ := q61.cells
      obtain ⟨o0, o1, o2, o3, o4⟩ := q60.cells
      obtain ⟨n0, n1, n2, n3, n4⟩ := q60.free
      clear q51 hc5 hc6 q61 hcc q60 hk6 hs6 hk4 hc7 hbig hd5 hz5 hx1' hz5l hs3l hm hq c0 c1 c2 c3 c4 j0 j1 j2 j3 j4
      have HMQ := zaa (And.intro mb qb)
      have hb6 : decide ((65536 : Int) < (m : Int)) = false := by simp; omega
      have hb7 : decide ((1073741824 : Int) < (q : Int)) = false := by simp; omega
      clear mb qb
      go_wp2_with (go_at_call 100; first | with_reducible refine zac (H35.out _ _ _ _ (.inl ⟨rfl, rfl, rfl, rfl⟩)) ?_ | (with_reducible refine zac (H35.out _ _ _ _ (.inr ⟨rfl, rfl, rfl, rfl⟩)) ?_; refine Hid.out ?_))
      apply zaa
      go_upto_region 26 with fail
      obtain ⟨mb, qb⟩ := HMQ.out
      go_wp2
      refine bodyPost_ret (zbd rfl _ _ kk 50 #[.slice a1 KN c1', .int .i64 x, .slice none 0 0, .int .i64 (m : Int), .int .i64 (q : Int)] (0, 0) _ (.int .i64 (z : Int)) (by rfl) (by rfl) (H60.out.put _ _ _ _ _) Tryz.underlying50 rfl zal) rfl ?_
      refine ⟨a1, KN, c1', x, none, 0, 0, (m : Int), (q : Int), (z : Int), rfl, zaa HEND.out.1, zaa (.inr ⟨z, _, rfl, HIS.out, ?_, rfl, rfl, rfl, rfl, ?_, OwnB.nil _ _⟩)⟩
      ·rw [HPRE.out]; exact HKN.out.symm
      ·rw [HPRE.out, hkk]; exact HEND.out.2
    ·have HNO := zaa (no_ct HLT.out HV1.out HD1.out (by rw [HX.out]; exact hx1') hm (by rw [HT2.out]; exact HD3.out) hs3l he5)
     obtain ⟨⟨r1, r2, r3⟩, hr⟩ : ∃ r, rUx l (s3 : Int) = r := ⟨_, rfl⟩
     rw [hr] at H5 he5
     simp only at H5 he5
     have H35 : Hid (∀ (p : Int) (a b c : Int), (p = (t2 : Int) ∧ a = (m : Int) ∧ b = (s3 : Int) ∧ c = 0) ∨ (p = (s3 : Int) ∧ a = r1 ∧ b = r2 ∧ c = r3) → Calls Tryz.prog 100 #[.slice (some ⟨g, off, none⟩) n cap, .int .i64 p] u4 fun e w' => e = .returned (.tuple #[.int .u64 a, .int .i64 b, .int .i64 c]) ∧ w' = u4) := zaa (by
      rintro p a b c (⟨rfl, rfl, rfl, rfl⟩ | ⟨rfl, rfl, rfl, rfl⟩)
      ·exact H3.out
      ·exact H5.out)
     clear hr hx1' hm hs3l
     go_wp2_with (go_at_call 100; first | with_reducible refine zac (H35.out _ _ _ _ (.inl ⟨rfl, rfl, rfl, rfl⟩)) ?_ | with_reducible refine zac (H35.out _ _ _ _ (.inr ⟨rfl, rfl, rfl, rfl⟩)) ?_)
     refine bodyPost_ret (zbd rfl _ _ kk 50 #[.slice none 0 0, .int .i64 0, .slice none 0 0, .int .i64 0, .int .i64 0] (0, 0) _ (.int .i64 0) (by rfl) (by rfl) (HM2.out.1.put _ _ _ _ _) Tryz.underlying50 rfl zal) rfl ?_
     have hf := zas u4 kk (.slice none 0 0) (.int .i64 0) (.slice none 0 0) (.int .i64 0) (.int .i64 0)
     refine RdTo.no ?_ HNO.out
     rw [hkk]
     exact HM2.out.2.2.2.1.trans (hf.below HM2.out.2.2.2.2 (fun j hj e => by omega))
  ·have HNO := zaa (no_tail HLT.out HV1.out HD1.out (by rw [HL.out, HT2.out]; exact HT2N.out) (by rw [HT2.out]; exact he3))
   obtain ⟨⟨r1, r2, r3⟩, hr⟩ : ∃ r, rUx l (t2 : Int) = r := ⟨_, rfl⟩
   rw [hr] at H3 he3
   simp only at H3 he3
   have he4 : (r3 != 0) = true := by simpa using he3
   clear hr e0 e1 e2 e3 e4 k0 k1 k2 k3 k4 he3
   go_wp2_with (go_at_call 100; with_reducible refine zac H3.out ?_)
   refine bodyPost_ret (zbd rfl _ _ kk 50 #[.slice none 0 0, .int .i64 0, .slice none 0 0, .int .i64 0, .int .i64 0] (0, 0) _ (.int .i64 0) (by rfl) (by rfl) (HM2.out.1.put _ _ _ _ _) Tryz.underlying50 rfl zal) rfl ?_
   have hf := zas u4 kk (.slice none 0 0) (.int .i64 0) (.slice none 0 0) (.int .i64 0) (.int .i64 0)
   refine RdTo.no ?_ HNO.out
   rw [hkk]
   exact HM2.out.2.2.2.1.trans (hf.below HM2.out.2.2.2.2 (fun j hj e => by omega))
end Go.Proofs.YtbkhjeacmmbabaaGreatDoor
