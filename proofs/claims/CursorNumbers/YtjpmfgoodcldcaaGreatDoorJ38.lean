import Derived.Test.YtjpmfgoodcldcaaGreatDoorJ37
import Derived.Test.YtjpmfgoodcldcaaGreatDoorJ24
namespace Go.Proofs.YtjpmfgoodcldcaaGreatDoor
set_option maxRecDepth 100000
open Go.RowKit Go.Shelf
attribute [local go_sem] Oper.semAt_some
structure CB (u : World) (p k g : Nat) (x y : Int) : Prop where
 c : C5 u p (.slice (some ⟨k, 0, none⟩) 1 1) (.int .i64 1) (.slice (some ⟨g, 0, none⟩) 1 1) (.int .i64 0) (.int .i64 0)
 k : Sl u (some ⟨k, 0, none⟩) 1 1 [x]
 v : Sl u (some ⟨g, 0, none⟩) 1 1 [y]
theorem CB.on {u u' : World} {p k g : Nat} {x y : Int} (h : CB u p k g x y) (hb : Below u.heap.size u u') : CB u' p k g x y := ⟨box_on h.c hb, h.k.on (Nat.le_refl _) hb, h.v.on (Nat.le_refl _) hb⟩
theorem CB.new {u : World} {k g : Nat} {x y : Int} (hk : Sl u (some ⟨k, 0, none⟩) 1 1 [x]) (hv : Sl u (some ⟨g, 0, none⟩) 1 1 [y]) : CB (u.alloc (.cells #[.slice (some ⟨k, 0, none⟩) 1 1, .int .i64 1, .slice (some ⟨g, 0, none⟩) 1 1, .int .i64 0, .int .i64 0] 32)) u.heap.size k g x y :=
 ⟨C5.box _ _ _ _ _ _, hk.on (Nat.le_refl _) (bl_al (Below.refl _ _) (Nat.le_refl _) _), hv.on (Nat.le_refl _) (bl_al (Below.refl _ _) (Nat.le_refl _) _)⟩
def row10 (k1 g1 k2 g2 : Nat) : List Value := [.slice (some ⟨k1, 0, none⟩) 1 1, .int .i64 1, .slice (some ⟨g1, 0, none⟩) 1 1, .int .i64 0, .int .i64 0, .slice (some ⟨k2, 0, none⟩) 1 1, .int .i64 1, .slice (some ⟨g2, 0, none⟩) 1 1, .int .i64 0, .int .i64 0]
theorem slc13 {u : World} {p1 k1 g1 p2 k2 g2 : Nat} (N : Nat) (hN : u.heap.size = N) (h1 : CB u p1 k1 g1 97 1) (h2 : CB u p2 k2 g2 98 2) : SlC (u.alloc (.cells (row10 k1 g1 k2 g2).toArray 32)) (some ⟨N, 0, none⟩) 2 2 cs13 := by
 subst hN
 have hb : Below u.heap.size u (u.alloc (.cells (row10 k1 g1 k2 g2).toArray 32)) := bl_al (Below.refl _ _) (Nat.le_refl _) _
 have hr := fun i => cell_of_row13 (cs := row10 k1 g1 k2 g2) (heap_alloc_new u (.cells (row10 k1 g1 k2 g2).toArray 32)) i
 refine ⟨rfl, by omega, by omega, (by intro h; cases h), .inr ⟨u.heap.size, 0, rfl, by simp, fun i c hc => ?_⟩⟩
 have hl : i < 2 := (List.getElem?_eq_some_iff.1 hc).1
 by_cases e : i = 0
 ·subst e
  injection hc with hc
  subst hc
  exact ⟨_, _, _, _, (hr 0).trans rfl, (hr 1).trans rfl, (hr 2).trans rfl, (hr 3).trans rfl, (hr 4).trans rfl, h1.k.on (Nat.le_refl _) hb, h1.v.on (Nat.le_refl _) hb⟩
 ·obtain rfl : i = 1 := by omega
  injection hc with hc
  subst hc
  exact ⟨_, _, _, _, (hr 5).trans rfl, (hr 6).trans rfl, (hr 7).trans rfl, (hr 8).trans rfl, (hr 9).trans rfl, h2.k.on (Nat.le_refl _) hb, h2.v.on (Nat.le_refl _) hb⟩
theorem sl_lit1 (w : World) (x : Int) (hx : 0 ≤ x ∧ x ≤ 255) : Sl (w.alloc (.cells #[.int .u8 x] 5 (1, 2))) (some ⟨w.heap.size, 0, none⟩) 1 1 [x] :=
 sl_lit _ [x] 1 (1, 2) _ (heap_alloc_last w _) rfl (Wf.cons hx Wf.nil) (by omega)
theorem sl_lit2 (w : World) (x y : Int) (hx : 0 ≤ x ∧ x ≤ 255) (hy : 0 ≤ y ∧ y ≤ 255) : Sl (w.alloc (.cells #[.int .u8 x, .int .u8 y] 5 (2, 3))) (some ⟨w.heap.size, 0, none⟩) 2 2 [x, y] :=
 sl_lit _ [x, y] 2 (2, 3) _ (heap_alloc_last w _) rfl (Wf.cons hx (Wf.cons hy Wf.nil)) (by omega)
theorem eqIn_fn (d : Nat) (f : Fn) (b c : Array Value) (u : World) : (Op.equalIn (d + 1) 26 (.func f b c) .nilFunc).run Tryz.prog u = .ok false u := by
 have h1 : Tryz.prog.underlying 26 = some (.func #[54] #[] false) := by kernel_rfl
 simp [Op.equalIn, run_underlying h1]
theorem eql_fn (f : Fn) (b c : Array Value) (u : World) : (binOp .eql 26 (.func f b c) .nilFunc).run Tryz.prog u = .ok (.bool false) u := by
 have h : (Op.equal 26 (.func f b c) .nilFunc).run Tryz.prog u = .ok false u := eqIn_fn 9999 f b c u
 simp only [binOp]
 simp [h]
theorem yield_any {m : Nat} (m' : Nat) {P : Program} {l : Nat} {vs : Array Value} {W : World} {R : Ending → World → Prop} (h : YieldAt Fence.wide m P l vs W R) : YieldAt Fence.wide m' P l vs W R := by
 obtain ⟨fn, tmps, assign, body, hy, h1, h2⟩ := h
 exact ⟨fn, tmps, assign, body, hy, h1, fun c cs _ => h2 c cs (fun d h => by cases h)⟩
def tv13 (k : Nat) : Int := if k = 0 then 0 else if k = 1 then 2 else 21
def bk13 (k : Nat) : Int := if k = 0 then 98 else 97
structure Tl (w : World) (b m c p8 nb : Nat) (ao : Option Addr) (a2 : Nat) (bo : Option Addr) (b2 : Nat) (k : Nat) (W : World) : Prop where
 x8 : C5 W p8 (.slice ao 1 a2) (.int .i64 1) (.slice bo 1 b2) (.int .i64 0) (.int .i64 0)
 sl : Sl W ao 1 a2 [98]
 nb : W.heap[nb]? = some (.cells [.int .i64 (tv13 k)].toArray 3 (0, 0))
 be : Below w.heap.size w W
theorem Tl.cf {w A B : World} {b m c p8 nb N0 : Nat} {ao : Option Addr} {a2 : Nat} {bo : Option Addr} {b2 k : Nat} (h : Tl w b m c p8 nb ao a2 bo b2 k A) (hb : w.heap.size ≤ b ∧ b < c ∧ w.heap.size ≤ m ∧ m < c) (hp : c < p8 ∧ p8 < nb ∧ nb < N0) (ha : ∀ p, ao = some p → c < p.block ∧ p.block < N0) (hw : w.heap.size ≤ N0) (hc : Cf (fun x => Bo b m x ∨ N0 ≤ x) A B) : Tl w b m c p8 nb ao a2 bo b2 k B := by
 refine ⟨h.x8.cf hc ?_, h.sl.cf hc (.inr fun p hq => ?_), (hc.block _ (lt_some h.nb) ?_).trans h.nb, h.be.trans (hc.below h.be.size (fun k hk => ?_))⟩
 ·rintro ((e | e) | e) <;> omega
 ·have := ha p hq
  rintro ((e | e) | e) <;> omega
 ·rintro ((e | e) | e) <;> omega
 ·rintro ((e | e) | e) <;> omega
def Vl (N0 : Nat) (k : Nat) (vs : Array Value) (W : World) : Prop := ∃ ao ac bo bc, vs = #[.agg #[.slice ao 1 ac, .int .i64 1, .slice bo 1 bc, .int .i64 0, .int .i64 0], .int .i64 0] ∧ Sl W ao 1 ac [bk13 k] ∧ ∀ p, ao = some p → N0 ≤ p.block
theorem cell_b {w : World} {c b m E0 E : Nat} {rd : Int} (h : Sn13 b m E0 E c 1 rd cs13 w) : Calls Tryz.prog 12 #[pB c] w fun e u => ∃ ao a2 bo b2, e = .returned (.tuple #[.agg #[.slice ao 1 a2, .int .i64 1, .slice bo 1 b2, .int .i64 0, .int .i64 0], .int .i64 0]) ∧ Hid (Sl u ao 1 a2 [98] ∧ Below w.heap.size w u ∧ ∀ p, ao = some p → w.heap.size ≤ p.block) := by
 refine (cell_yes (r := 1) (cl := cB13) h gd13 rfl).mono ?_
 rintro e u ⟨ao, a2, bo, b2, rfl, HO, HB⟩
 obtain ⟨ao', c', e1, hsl, hbl⟩ := HO.out.1.sl (Wf.cons (by omega) Wf.nil) (by decide)
 injection e1 with e2 e3 e4
 exact ⟨ao, a2, bo, b2, rfl, hidden ⟨by rw [e2, e4]; exact hsl, HB.out, by rw [e2]; exact hbl⟩⟩
set_option maxHeartbeats 4000000 in
theorem live_any (w : World) (ht : Tab w) (h0 : 1 < w.heap.size) : Calls Tryz.prog 4 #[] w fun e w' => e = .returned (.bool true) ∧ Below w.heap.size w w' := by
 have HT : Hid (∀ u, Below w.heap.size w u → Tab u ∧ 1 < u.heap.size) := hidden fun u hu => ⟨ht.on hu h0, Nat.lt_of_lt_of_le h0 hu.size⟩
 have HNB := hidden (newBench_yes w 1 512 100 (.inl rfl) (by decide) (by omega) (by omega))
 clear ht h0
 refine (callsIn_wide (n := 10)).1 ?_
 refine callsIn_of_wp_marks Tryz.func4 rfl trivial ?_ rfl
 simp only [Tryz.ntmps4, List.size_toArray, List.length_nil, Nat.reduceSub, Array.replicate_succ, Array.replicate_zero, List.push_toArray, List.append_toArray, List.nil_append, List.cons_append]
 gi_wp2_with (refine ⟨trivial, ?_⟩; gi_at_call 7; refine (callsIn_wide.2 HNB.out).mono ?_; rintro e w1 ⟨b, m, rfl, HQ1⟩; refine Hid.out ?_)
 apply hidden
 clear HNB
 have k1 := conv6H w1 #[.int .u8 97] 1 1 _ rfl
 gi_wp2_with (refine ⟨trivial, ?_⟩; gi_at_call 8; refine (callsIn_wide.2 (keyed_any _ _ 1 (by omega) _)).mono ?_; rintro e w2 ⟨g1, rfl, HK1⟩; refine Hid.out ?_)
 apply hidden
 have hk1 := sl_lit1 w1 97 (by omega)
 have HW2 : Hid (Below w1.heap.size w1 w2) := hidden (bl_go (bl_al (Below.refl _ _) (Nat.le_refl _) _) (Nat.le_refl _) HK1.out.2)
 have HCA := hidden (CB.new (hk1.on (Nat.le_refl _) HK1.out.2) HK1.out.1)
 have HW3 : Hid (Below w2.heap.size w2 (w2.alloc (.cells #[.slice (some ⟨w1.heap.size, 0, none⟩) 1 1, .int .i64 1, .slice (some ⟨g1, 0, none⟩) 1 1, .int .i64 0, .int .i64 0] 32))) := hidden (bl_al (Below.refl _ _) (Nat.le_refl _) _)
 clear HK1 hk1 k1
 obtain ⟨n1, hn1⟩ : ∃ n1, w1.heap.size = n1 := ⟨_, rfl⟩
 rw [hn1] at HCA HW3 ⊢
 have HN1 := hidden hn1
 clear hn1
 have k2 := conv6H (w2.alloc (.cells #[.slice (some ⟨n1, 0, none⟩) 1 1, .int .i64 1, .slice (some ⟨g1, 0, none⟩) 1 1, .int .i64 0, .int .i64 0] 32)) #[.int .u8 98] 1 1 (w2.heap.size + 1) (by simp)
 gi_wp2_with (refine ⟨trivial, ?_⟩; gi_at_call 8; refine (callsIn_wide.2 (keyed_any _ _ 2 (by omega) _)).mono ?_; rintro e w4 ⟨g2, rfl, HK2⟩; refine Hid.out ?_)
 apply hidden
 clear k2
 have hk2 := sl_lit1 (w2.alloc (.cells #[.slice (some ⟨n1, 0, none⟩) 1 1, .int .i64 1, .slice (some ⟨g1, 0, none⟩) 1 1, .int .i64 0, .int .i64 0] 32)) 98 (by omega)
 rw [show (w2.alloc (.cells #[.slice (some ⟨n1, 0, none⟩) 1 1, .int .i64 1, .slice (some ⟨g1, 0, none⟩) 1 1, .int .i64 0, .int .i64 0] 32)).heap.size = w2.heap.size + 1 by simp] at hk2
 have HCB := hidden (CB.new (hk2.on (Nat.le_refl _) HK2.out.2) HK2.out.1)
 have HB4 : Hid (Below (w2.alloc (.cells #[.slice (some ⟨n1, 0, none⟩) 1 1, .int .i64 1, .slice (some ⟨g1, 0, none⟩) 1 1, .int .i64 0, .int .i64 0] 32)).heap.size (w2.alloc (.cells #[.slice (some ⟨n1, 0, none⟩) 1 1, .int .i64 1, .slice (some ⟨g1, 0, none⟩) 1 1, .int .i64 0, .int .i64 0] 32)) w4) := hidden (bl_go (bl_al (Below.refl _ _) (Nat.le_refl _) _) (Nat.le_refl _) HK2.out.2)
 have HCA4 := hidden (HCA.out.on HB4.out)
 have HW4 : Hid (Below w1.heap.size w1 w4) := hidden (bl_go (bl_go (by have := HW2.out; exact this) (Nat.le_refl _) HW3.out) (Nat.le_refl _) HB4.out)
 have HB5 : Hid (Below w4.heap.size w4 (w4.alloc (.cells #[.slice (some ⟨w2.heap.size + 1, 0, none⟩) 1 1, .int .i64 1, .slice (some ⟨g2, 0, none⟩) 1 1, .int .i64 0, .int .i64 0] 32))) := hidden (bl_al (Below.refl _ _) (Nat.le_refl _) _)
 have HCA5 := hidden (HCA4.out.on HB5.out)
 have HEN := hidden (rencode6_yes 2 512 _ 2 2 cs13 _ (slc13 (w4.heap.size + 1) (by simp) HCA5.out HCB.out) (by omega) enc13)
 have HB6 : Hid (Below w4.heap.size w4 ((w4.alloc (.cells #[.slice (some ⟨w2.heap.size + 1, 0, none⟩) 1 1, .int .i64 1, .slice (some ⟨g2, 0, none⟩) 1 1, .int .i64 0, .int .i64 0] 32)).alloc (.cells (row10 n1 g1 (w2.heap.size + 1) g2).toArray 32))) := hidden (bl_al (bl_al (Below.refl _ _) (Nat.le_refl _) _) (Nat.le_refl _) _)
 obtain ⟨a0, a1, a2, a3, a4⟩ := HCA5.out.c.cells
 obtain ⟨b0, b1, b2, b3, b4⟩ := HCB.out.c.cells
 clear hk2 HK2 HB4 HW3 HCA HCA4
 gi_wp2_with (refine ⟨trivial, ?_⟩; gi_at_call 9; refine Hid.out ?_)
 apply hidden
 refine (callsIn_wide.2 HEN.out).mono ?_
 rintro e w6 ⟨pv, rfl, HPV, HB7⟩
 dsimp only
 clear HEN a0 a1 a2 a3 a4 b0 b1 b2 b3 b4
 obtain ⟨po, pc, hpv, hpsl, hpx⟩ := HPV.out.sl gd13.pwf (by rw [gd13.len]; omega)
 rw [gd13.len] at hpv hpsl
 subst hpv
 obtain ⟨hb1, hm1, hbn, hbw⟩ := HQ1.out
 have hb61 : Below w1.heap.size w1 w6 := bl_go (bl_go HW4.out (Nat.le_refl _) HB6.out) (Nat.le_refl _) HB7.out
 have hn6 := hbn.on hb61
 have HLY := hidden (blay_any hn6 5 (by decide) po 512 pc _ hpsl (by omega))
 have HFA := hidden (And.intro hb1 (And.intro hm1 (And.intro hn6 (bl_go hbw (Nat.le_refl _) hb61))))
 clear hpx HB7 HPV hpsl hb61 hn6 hb1 hm1 hbn hbw HQ1 HW2 HW4 HB5 HB6 HCB HCA5 HN1
 gi_wp2_with (refine ⟨trivial, ?_⟩; gi_at_call 10; refine (callsIn_wide.2 HLY.out).mono ?_; rintro e w7 ⟨k7, rfl, HL7⟩; refine Hid.out ?_)
 apply hidden
 have HR7 : Hid (R5 w7 b m w.heap.size w7.heap.size 0 cs13 ∧ Below w.heap.size w w7) := hidden (by
  obtain ⟨hb1, hm1, hn6, hbw⟩ := HFA.out
  rcases HL7.out with ⟨h1, _⟩ | ⟨_, f, h1, h2, h3, h4⟩
  ·exact absurd ⟨by omega, by omega⟩ h1
  ·have hbw7 : Below w.heap.size w w7 := hbw.trans (h4.below hbw.size (fun k hk e => by omega))
   refine ⟨⟨⟨hb1, h3.lt, hm1, h3.mlt⟩, fun u hu => HT.out u (hbw7.trans (hu.below hbw7.size (fun k hk => by omega))), _, _, f, h3, fun k f' hk => ?_, ?_, h1⟩, hbw7⟩
   ·have hz : k = 5 ∧ f' = f := by
     unfold putM at hk
     by_cases e : k = 5
     ·rw [if_pos e] at hk
      injection hk with hk
      exact ⟨e, hk.symm⟩
     ·rw [if_neg e] at hk
      cases hk
    obtain ⟨rfl, rfl⟩ := hz
    obtain ⟨hs1, _⟩ := h3.pgs 5 f' hk
    rcases hs1.hat with h0 | ⟨bb, oo, e, hlt, _⟩
    ·rw [h1, gd13.len] at h0
     omega
    ·injection e with e
     injection e with e
     rw [e]
     exact hlt
   ·unfold putM
    rw [if_pos rfl])
 clear HLY HFA HL7 HT
 have HNW := hidden (new_5 b 5 w7)
 gi_wp2_with (refine ⟨trivial, ?_⟩; gi_at_call 5; refine (callsIn_wide.2 HNW.out).mono ?_; rintro e w8 ⟨rfl, HQ8⟩; refine Hid.out ?_)
 apply hidden
 have HS8 : Hid (S0 b m w.heap.size w7.heap.size w7.heap.size 0 cs13 w8) := hidden ⟨HQ8.out.1, HR7.out.1.on HQ8.out.2, Nat.le_refl _⟩
 have HW8 := hidden (bl_go HR7.out.2 (Nat.le_refl _) HQ8.out.2)
 have HBM := hidden (And.intro HR7.out.1.bm HQ8.out.2.size)
 obtain ⟨c, hc⟩ : ∃ c, w7.heap.size = c := ⟨_, rfl⟩
 rw [hc] at HS8 HBM ⊢
 clear HNW HQ8 HR7 hc
 have k3 := conv6H w8 #[.int .u8 97, .int .u8 97] 2 2 _ rfl
 have hka := sl_lit2 w8 97 97 (by omega) (by omega)
 have HBK : Hid (Below w8.heap.size w8 (w8.alloc (.cells #[.int .u8 97, .int .u8 97] 5 (2, 3)))) := hidden (bl_al (Below.refl _ _) (Nat.le_refl _) _)
 have HSK := hidden (seek_5 (HS8.out.on HBK.out) gd13 (by omega) (by omega) hka (.inr (by intro p hp; cases hp; have := HBM.out; rintro (e | e) <;> simp only at e <;> omega)) fnd13 (by decide) (by decide))
 gi_wp2_with (refine ⟨trivial, ?_⟩; gi_at_call 11; refine (callsIn_wide.2 HSK.out).mono ?_; rintro e w9 ⟨rfl, HQ9⟩; refine Hid.out ?_)
 apply hidden
 have HW9 : Hid (Below w.heap.size w w9) := hidden ((bl_go HW8.out (Nat.le_refl _) HBK.out).trans (HQ9.out.2.below (bl_go HW8.out (Nat.le_refl _) HBK.out).size (fun k hk e => by have := HBM.out; rcases e with (e | e) | e <;> omega)))
 have HS9 : Hid (Sn13 b m w.heap.size c c 1 1 cs13 w9) := hidden HQ9.out.1
 have HC9 := hidden (cell_b HS9.out)
 have HZ9 : Hid (c < w9.heap.size) := hidden (by have h1 := HBM.out.2; have h2 := HQ9.out.2.size; rw [World.size_alloc] at h2; omega)
 clear HSK k3 hka HBK HS8 HW8 HQ9
 gi_wp2_with (refine ⟨trivial, ?_⟩; gi_at_call 12; refine (callsIn_wide.2 HC9.out).mono ?_; rintro e w10 ⟨ao, a2, bo, b2, rfl, HQ10⟩; refine Hid.out ?_)
 apply hidden
 have HB11 : Hid (Below w10.heap.size w10 (w10.alloc (.cells #[.slice ao 1 a2, .int .i64 1, .slice bo 1 b2, .int .i64 0, .int .i64 0] 32))) := hidden (bl_al (Below.refl _ _) (Nat.le_refl _) _)
 have HX11 : Hid (C5 (w10.alloc (.cells #[.slice ao 1 a2, .int .i64 1, .slice bo 1 b2, .int .i64 0, .int .i64 0] 32)) w10.heap.size (.slice ao 1 a2) (.int .i64 1) (.slice bo 1 b2) (.int .i64 0) (.int .i64 0)) := hidden (C5.box _ _ _ _ _ _)
 have HK11 := hidden (HQ10.out.1.on (Nat.le_refl _) HB11.out)
 have HW11 := hidden (bl_go (bl_go HW9.out (Nat.le_refl _) HQ10.out.2.1) (Nat.le_refl _) HB11.out)
 have HNX := hidden (next_out ((HS9.out.on HQ10.out.2.1).on HB11.out) (by decide) (by decide))
 have HOB : Hid (c < w10.heap.size ∧ ∀ p, ao = some p → c < p.block) := hidden ⟨Nat.lt_of_lt_of_le HZ9.out HQ10.out.2.1.size, fun p hp => Nat.lt_of_lt_of_le HZ9.out (HQ10.out.2.2 p hp)⟩
 clear HC9 HS9 HW9 HQ10 HB11
 gi_wp2_with (refine ⟨trivial, ?_⟩; gi_at_call 13; refine (callsIn_wide.2 HNX.out).mono ?_; rintro e w12 ⟨rfl, HQ12⟩; refine Hid.out ?_)
 apply hidden
 obtain ⟨p8, hp8⟩ : ∃ p8, w10.heap.size = p8 := ⟨_, rfl⟩
 rw [hp8] at HX11 ⊢
 rw [hp8] at HOB
 have HX12 : Hid (C5 w12 p8 (.slice ao 1 a2) (.int .i64 1) (.slice bo 1 b2) (.int .i64 0) (.int .i64 0)) := hidden (HX11.out.cf HQ12.out.2 (by have := HBM.out; have := HOB.out.1; rintro (e | e) <;> (try rcases e with e | e) <;> omega))
 have HK12 : Hid (Sl w12 ao 1 a2 [98]) := hidden (HK11.out.cf HQ12.out.2 (.inr (fun p hp => by have := HBM.out; have := HOB.out.2 p hp; rintro (e | e) <;> (try rcases e with e | e) <;> omega)))
 have HW12 : Hid (Below w.heap.size w w12) := hidden (HW11.out.trans (HQ12.out.2.below HW11.out.size (fun k hk e => by have := HBM.out; rcases e with (e | e) | e <;> omega)))
 have HS12 := hidden HQ12.out.1
 have HC12 := hidden (cell_no HS12.out)
 clear HNX HX11 HK11 HW11 HQ12 hp8
 gi_wp2_with (refine ⟨trivial, ?_⟩; gi_at_call 12; refine (callsIn_wide.2 HC12.out).mono ?_; rintro e w13 ⟨rfl, HQ13⟩; refine Hid.out ?_)
 apply hidden
 have HB15 : Hid (Below w12.heap.size w12 ((w13.alloc (.cells #[.slice none 0 0, .int .i64 0, .slice none 0 0, .int .i64 0, .int .i64 0] 32)).alloc (.cells #[.int .i64 0] 3))) := hidden (bl_go HQ13.out (Nat.le_refl _) (bl_al (bl_al (Below.refl _ _) (Nat.le_refl _) _) (Nat.le_refl _) _))
 have HN15 := hidden (heap_alloc_new (w13.alloc (.cells #[.slice none 0 0, .int .i64 0, .slice none 0 0, .int .i64 0, .int .i64 0] 32)) (.cells #[.int .i64 0] 3))
 clear HC12
 gi_wp2_with (refine ⟨trivial, ?_⟩; gi_at_call 6; refine Hid.out ?_)
 apply hidden
 refine (callsIn_wide.2 (scan_made (iB b) 5 true (.inr ⟨b, rfl⟩) _)).mono ?_
 rintro e w16 ⟨rfl, HQ16⟩
 dsimp only
 have HW16 := hidden (bl_go (bl_go HW12.out (Nat.le_refl _) HB15.out) (Nat.le_refl _) HQ16.out.be)
 have HR16 : Hid (R5 w16 b m w.heap.size c 1 cs13) := hidden ((HS12.out.2.1.on HB15.out).on HQ16.out.be)
 have HX16 := hidden (box_on (box_on HX12.out HB15.out) HQ16.out.be)
 have HK16 := hidden ((HK12.out.on (Nat.le_refl _) HB15.out).on (Nat.le_refl _) HQ16.out.be)
 have HN16 := hidden (box_on HN15.out HQ16.out.be)
 rw [show (w13.alloc (.cells #[.slice none 0 0, .int .i64 0, .slice none 0 0, .int .i64 0, .int .i64 0] 32)).heap.size = w13.heap.size + 1 by simp] at HN16
 obtain ⟨s16, hs16⟩ : ∃ s, ((w13.alloc (.cells #[.slice none 0 0, .int .i64 0, .slice none 0 0, .int .i64 0, .int .i64 0] 32)).alloc (.cells #[.int .i64 0] 3)).heap.size = s := ⟨_, rfl⟩
 have hs16' : w13.heap.size + 2 = s16 := by rw [← hs16]; simp
 rw [hs16] at HQ16 ⊢
 have HZ16 : Hid (w16.heap.size = s16 + 4 ∧ s16 = w13.heap.size + 2 ∧ w12.heap.size ≤ w13.heap.size ∧ p8 < w12.heap.size) := hidden ⟨HQ16.out.sz, hs16'.symm, HQ13.out.size, lt_some HX12.out⟩
 have HC16 := hidden (And.intro HQ16.out.c0 (And.intro HQ16.out.c1 (And.intro HQ16.out.c2 HQ16.out.c3)))
 have HAO : Hid (∀ p, ao = some p → c < p.block ∧ p.block < w12.heap.size) := hidden (fun p hp => ⟨HOB.out.2 p hp, by
  rcases HK12.out.hat with h | ⟨bb, oo, e, hlt, _⟩
  ·omega
  ·rw [hp] at e
   injection e with e
   rw [e]
   exact hlt⟩)
 obtain ⟨nb, hnb⟩ : ∃ nb, w13.heap.size + 1 = nb := ⟨_, rfl⟩
 rw [hnb] at HN16 ⊢
 have HNB : Hid (nb + 1 = s16) := hidden (by rw [← hnb, ← hs16'])
 clear HB15 HN15 HQ16 HX12 HK12 HW12 HS12 HQ13 HZ9 hs16 hs16' hnb
 have he := fun u => eql_fn (.func 15) #[] #[pB s16, pB (s16 + 1), pB (s16 + 3), pB (s16 + 2)] u
 gi_wp2
 clear he
 have HT16 : Hid (Tl w b m c p8 nb ao a2 bo b2 0 w16) := hidden ⟨HX16.out, HK16.out, HN16.out, HW16.out⟩
 clear HX16 HK16 HN16
 refine wpIn_rangeT (n := 10) (by decide) (gf := 15) (lb := #[pB s16, pB (s16 + 1), pB (s16 + 3), pB (s16 + 2)]) rfl (enters_of Tryz.func15 (by kernel_rfl) rfl)
  (fun k W => Tl w b m c p8 nb ao a2 bo b2 k W) 2 (Vl (w16.heap.size + 2)) (fun k a' W => Tl w b m c p8 nb ao a2 bo b2 k W ∧ k < 2 ∧ ∃ Bx ko kc vo vc, w16.heap.size + 1 < Bx ∧ C5 W Bx (.slice ko 1 kc) (.int .i64 1) (.slice vo 1 vc) (.int .i64 0) (.int .i64 0) ∧ Sl W ko 1 kc [bk13 k] ∧ (∀ p, ko = some p → p.block ≠ w16.heap.size + 1) ∧ a' = (?Fa : Nat → Option Addr → Nat → Option Addr → Nat → Act) Bx ko kc vo vc)
  (Bo b m) (fun x => x = nb) ?hFq ?hGc ?hT HT16.out ⟨?sz, ?asg, ?ax, ?bdy⟩ ?hseq ?hdone
 case hFq => have := HBM.out; have := HZ16.out; have := HOB.out.1; rintro k (e | e) <;> omega
 case hGc => have := HZ16.out; have := HNB.out; rintro k rfl; omega
 case hT => exact fun k A B h hc => h.cf HBM.out.1 (by have := HZ16.out; have := HNB.out; have := HOB.out.1; omega) (fun p hp => by have := HAO.out p hp; have := HZ16.out; omega) HW16.out.size hc
 case sz =>
  rintro k vs W ⟨ko, kc, vo, vc, rfl, _, _⟩
  rfl
 case asg =>
  rintro k vs W K hT ⟨ko, kc, vo, vc, rfl, hsl, hkb⟩ hkN hlW hK
  have HT := hidden hT
  have HS := hidden hsl
  have HKB := hidden hkb
  clear hT hsl hkb
  gi_wp2
  have hbx : Below W.heap.size W (W.alloc (.cells #[.slice ko 1 kc, .int .i64 1, .slice vo 1 vc, .int .i64 0, .int .i64 0] 32)) := bl_al (Below.refl _ _) (Nat.le_refl _) _
  have hx := C5.box W (.slice ko 1 kc) (.int .i64 1) (.slice vo 1 vc) (.int .i64 0) (.int .i64 0)
  obtain ⟨Bx, hBx⟩ : ∃ Bx, W.heap.size = Bx := ⟨_, rfl⟩
  rw [hBx] at hx hlW ⊢
  refine hK _ _ (Cf.of_below hbx) ⟨HT.out.cf HBM.out.1 (by have := HZ16.out; have := HNB.out; have := HOB.out.1; omega) (fun p hp => by have := HAO.out p hp; have := HZ16.out; omega) HW16.out.size (Cf.of_below hbx), hkN, Bx, ko, kc, vo, vc, hlW, hx, HS.out.on (Nat.le_refl _) hbx, fun p hp e => by have := HKB.out p hp; omega, ?_⟩
  rfl
 case ax =>
  rintro k a' W W' ⟨h1, h2, Bx, ko, kc, vo, vc, h3, h4, h5, h6, h7⟩ hl hc
  exact ⟨h1.cf HBM.out.1 (by have := HZ16.out; have := HNB.out; have := HOB.out.1; omega) (fun p hp => by have := HAO.out p hp; have := HZ16.out; omega) HW16.out.size (hc.wd13 (fun x hx => .inr (by omega))), h2, Bx, ko, kc, vo, vc, h3, h4.cf hc (by omega), h5.cf hc (.inr fun p hp => h6 p hp), h6, h7⟩
 case bdy =>
  rintro k a' W ⟨h1, h2, Bx, ko, kc, vo, vc, h3, h4, h5, h6, rfl⟩ _
  obtain ⟨y0, y1, y2, y3, y4⟩ := h4.cells
  have hnb0 : W.cell? ⟨nb, 0, none⟩ = some (.int .i64 (tv13 k)) := cell_of_row13 h1.nb 0
  have hnbf : W.frozen? ⟨nb, 0, none⟩ = false := by simp [World.frozen?, h1.nb]
  obtain ⟨kb, kf, rfl, hkl, hkc⟩ : ∃ kb kf, ko = some ⟨kb, kf, none⟩ ∧ kb < W.heap.size ∧ W.cell? ⟨kb, kf, none⟩ = some (.int .u8 (bk13 k)) := by
   rcases h5.hat with h | ⟨kb, kf, e, hlt, hc⟩
   ·omega
   ·exact ⟨kb, kf, e, hlt, by have := hc 0 (by omega); simpa using this⟩
  have hkc1 : 1 ≤ kc := h5.hcap
  have HFIN : Hid (∀ x : Int, x = tv13 (k + 1) → Cf (fun x => x = nb) W (W.setCell ⟨nb, 0, none⟩ (.int .i64 x)).drew ∧ Tl w b m c p8 nb ao a2 bo b2 (k + 1) (W.setCell ⟨nb, 0, none⟩ (.int .i64 x)).drew) := hidden (fun x hx => by
   have hc : Cf (fun x => x = nb) W (W.setCell ⟨nb, 0, none⟩ (.int .i64 x)).drew := (Cf.set W nb 0 (.int .i64 x)).go (Cf.of_below (Below.refl _ _).drew)
   have := HZ16.out
   have := HNB.out
   refine ⟨hc, h1.x8.cf hc (by omega), h1.sl.cf hc (.inr fun p hp => by have := HAO.out p hp; omega), ?_, h1.be.trans (hc.below h1.be.size (fun k hk => by have := HW16.out.size; have := HBM.out; have := HOB.out.1; omega))⟩
   rw [← hx]
   exact set_row h1.nb)
  have HK2 := hidden h2
  clear h1 h4 h5 h2
  have hk2 : k = 0 ∨ k = 1 := by have := HK2.out; omega
  rcases hk2 with rfl | rfl
  ·rw [show tv13 0 = 0 from rfl] at hnb0
   rw [show bk13 0 = 98 from rfl] at hkc
   have HX := hidden (HFIN.out 2 rfl)
   have hwv : IntKind.i64.wrap (IntKind.i64.wrap (IntKind.i64.wrap 0 + IntKind.i64.wrap 98) - 96) = 2 := by decide
   gi_wp2
   gi_region
   all_goals
    gi_wp2
    exact HX.out
  ·rw [show tv13 1 = 2 from rfl] at hnb0
   rw [show bk13 1 = 97 from rfl] at hkc
   have HX := hidden (HFIN.out 21 rfl)
   have hwv : IntKind.i64.wrap (IntKind.i64.wrap (IntKind.i64.wrap 20 + IntKind.i64.wrap 97) - 96) = 21 := by decide
   gi_wp2
   gi_region
   all_goals
    gi_wp2
    exact HX.out
 case hseq =>
  intro T' W1 hb1 hz1 hkeep hround h0
  have hz := HZ16.out
  have hbm := HBM.out
  have hnb := HNB.out
  have hob := HOB.out.1
  obtain ⟨c0, c1, c2, c3, c4⟩ := HC16.out
  refine scan1_in (w16.heap.size + 1) (w16.heap.size + 2) b m w.heap.size c 1 cs13 (fun x => x = nb ∨ x = w16.heap.size + 1) T' ⟨hkeep, ?_⟩ gd13 (by decide) (by decide) (by rintro k (rfl | rfl) <;> omega) (by omega) (by omega) (by omega)
   s16 W1 (HR16.out.on hb1) (by omega) (box_go c0 hb1) (box_go c1 hb1) (box_go c2 hb1) ⟨box_go c3 hb1, box_go c4 hb1⟩ (by rintro k hk (e | e) <;> omega) h0
  intro k W ko kc vo vc cl hT hk hcl hsl hkb
  have hk2 : k = 0 ∨ k = 1 := by have : cs13.length = 2 := rfl; omega
  rcases hk2 with rfl | rfl
  ·injection hcl with hcl
   subst hcl
   exact yield_any _ (hround 0 W _ hT hk ⟨ko, kc, vo, vc, rfl, hsl, hkb⟩)
  ·injection hcl with hcl
   subst hcl
   exact yield_any _ (hround 1 W _ hT hk ⟨ko, kc, vo, vc, rfl, hsl, hkb⟩)
 case hdone =>
  rintro D W hD hT hK
  obtain ⟨y0, y1, y2, y3, y4⟩ := hT.x8.cells
  have hcv := conv_sl hT.sl
  rw [show strOfNums [98] = ⟨#[98]⟩ from by decide] at hcv
  have hnb0 : W.cell? ⟨nb, 0, none⟩ = some (.int .i64 21) := cell_of_row13 hT.nb 0
  have HTB := hidden hT.be
  gi_wp2
  refine ⟨by simp, .inl ⟨_, _, rfl, run_takeDeferred hK, ?_⟩⟩
  exact ⟨_, results_tmp rfl _ _ _, rfl, HTB.out.trans ((putObj_cf W D _).below HTB.out.size (fun k hk e => by have := HW16.out.size; omega))⟩
end Go.Proofs.YtjpmfgoodcldcaaGreatDoor
