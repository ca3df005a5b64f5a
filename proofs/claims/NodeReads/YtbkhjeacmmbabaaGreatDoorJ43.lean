import Derived.Test.YtbkhjeacmmbabaaGreatDoorJ42
namespace Go.Proofs.YtbkhjeacmmbabaaGreatDoor
set_option maxRecDepth 100000
set_option maxHeartbeats 4000000
open Go.RowKit
theorem tidy_cutX {w w2 : World} {r : Nat} {k : Int} {n : Nat} {lv sv v : Value} {ws : Int} {P : List Int} (hq : QD w2 r k n lv sv ws) (ho : OwnB w2 w.heap.size v P) (hb : Below w.heap.size w w2) (hr : r < w.heap.size) :
  QD (w2.setCell ⟨r, 3, none⟩ v) r k n lv v ws ∧ OwnB (w2.setCell ⟨r, 3, none⟩ v) w.heap.size v P ∧ Cf (· = r) w (w2.setCell ⟨r, 3, none⟩ v) := by
 refine ⟨hq.set3 v, ho.cfX (Cf.set w2 r 3 v) (fun g hg e => ?_), (Cf.of_below hb).trans (Cf.set w2 r 3 v) (fun _ _ e => e)⟩
 have := (ho.blk hg).1
 omega
theorem dtidyX (w : World) (r : Nat) (k : Int) (n : Nat) (lo : Option Addr) (N lc : Nat) (sv : Value) (ws : Int) (cs : List Cl) (h : QD w r k n (.slice lo N lc) sv ws) (hs : SlC w lo N lc cs) (hN : N ≤ 70000) :
  Calls Tryz.prog 50 #[.pointer (some ⟨r, 0, none⟩)] w fun e w' => e = .returned (.tuple #[]) ∧ Hid (∃ v, QD w' r k n (.slice lo N lc) v 0 ∧ OwnB w' w.heap.size v (shP k cs) ∧ Cf (· = r) w w') := by
 obtain ⟨c0, c1, c2, c3, c4⟩ := h.cells
 obtain ⟨sn, hsn⟩ : ∃ sn, (shP k cs).length = sn := ⟨_, rfl⟩
 have HT : Hid (∀ u, Below w.heap.size w u → Calls Tryz.prog 93 #[.int .i64 k, .slice lo N lc] u fun e w' => ∃ so sc, e = .returned (.slice so sn sc) ∧ w'.cell? ⟨r, 3, none⟩ = some sv ∧ w'.frozen? ⟨r, 3, none⟩ = false ∧ Hid (QD w' r k n (.slice lo N lc) sv ws ∧ OwnB w' w.heap.size (.slice so sn sc) (shP k cs) ∧ Below w.heap.size w w')) := zaa fun u hu => by
  refine (rshared_any k lo N lc cs u (hs.on hu) (by omega)).mono ?_
  rintro e w' ⟨v, rfl, HO, HB⟩
  have hb := zae hu Lr HB.out
  have hq : QD w' r k n (.slice lo N lc) sv ws := zag h hb
  obtain ⟨so, sc, rfl⟩ := HO.out.shape
  rw [hsn] at HO ⊢
  exact ⟨so, sc, rfl, hq.cells.2.2.2.1, hq.free 3, zaa ⟨hq, HO.out.low hu.size, hb⟩⟩
 have HRL := zaa (zaf h)
 clear h hs
 go_enter Tryz.func50, Tryz.ntmps50
 go_upto_region 0 with fail
 go_cut [] from 2 to 13 (fun u => Hid (∃ v, QD u r k n (.slice lo N lc) v ws ∧ OwnB u w.heap.size v (shP k cs) ∧ Cf (· = r) w u))
 case first =>
  go_wp2_with fail
  go_region_with (first | (go_at_call 93; refine (HT.out _ (by first | exact Br | exact Br.drew | exact zab Br _)).mono ?_; rintro e w2 ⟨so, sc, rfl, y3, y4, HB2⟩))
  all_goals (try go_wp2_with fail)
  all_goals go_meet
  all_goals exact zaa ⟨_, tidy_cutX HB2.out.1 HB2.out.2.1 HB2.out.2.2 HRL.out⟩
 obtain ⟨w2, hw2⟩ : ∃ w2, w2 = wc := ⟨_, rfl⟩
 subst hw2
 obtain ⟨v, hq, ho, hc⟩ := hcut.out
 obtain ⟨d0, d1, d2, d3, d4⟩ := hq.cells
 have d5 := hq.free 4
 have HH := hcut
 go_wp2
 refine bodyPost_end (v := .tuple #[]) (by simp [results, Tryz.results50, go_sem]) rfl ?_
 refine ⟨rfl, zaa ⟨v, hq.set4 0, ho.cfX (Cf.set w2 r 4 _) (fun g hg e => ?_), hc.trans (Cf.set w2 r 4 _) (fun _ _ e => e)⟩⟩
 have h1 := (ho.blk hg).1
 have h2 := HRL.out
 omega
def D6 (w : World) (r : Nat) (k : Int) (n : Nat) (v : Value) : Prop := w.heap[r]? = some (.cells #[.int .i64 k, .int .i64 (n : Int), v] 90 (0, 0))
theorem D6.cells {w : World} {r : Nat} {k : Int} {n : Nat} {v : Value} (h : D6 w r k n v) : w.cell? ⟨r, 0, none⟩ = some (.int .i64 k) ∧ w.cell? ⟨r, 1, none⟩ = some (.int .i64 (n : Int)) ∧ w.cell? ⟨r, 2, none⟩ = some v := by
 unfold D6 at h
 refine ⟨?_, ?_, ?_⟩ <;> (rw [cell_of_row _ _ _ _ _ _ h]; rfl)
def ROp6 (l : List Int) (w : World) (e : Ending) (w' : World) : Prop :=
 ∃ p c, e = .returned (.tuple #[.pointer p, .int .i64 c]) ∧ Hid (Below w.heap.size w w') ∧ Hid ((p = none ∧ c = 60 ∧ ¬ ∃ cs, Is (l.getD 0 0) l.length cs l) ∨ ∃ r cs co cc, p = some ⟨r, 0, none⟩ ∧ c = 0 ∧ Is (l.getD 0 0) l.length cs l ∧ D6 w' r (l.getD 0 0) l.length (.slice co cs.length cc) ∧ OwnD w' w.heap.size (.slice co cs.length cc) cs)
theorem ropen6_any (ao : Option Addr) (n cap : Nat) (l : List Int) (w : World) (hs : Sl w ao n cap l) : Calls Tryz.prog 19 #[.slice ao n cap] w (ROp6 l w) := by
 have HD := zaa (rdec6o_any ao n cap l w hs)
 have HLEN := zaa hs.hlen
 clear hs
 go_enter Tryz.func19, Tryz.ntmps19
 go_wp2_with (go_at_call 21; refine HD.out.mono ?_; rintro e w1 ⟨k, co, cn, cc, c, rfl, HB, HQ⟩; refine Hid.out ?_)
 apply zaa
 clear HD
 rcases HQ.out with ⟨rfl, rfl, rfl, rfl, rfl, h6⟩ | ⟨cs, rfl, hk, h3, h4, h5⟩
 ·have H6 := zaa h6
  clear HQ h6
  go_wp2
  go_ret2
  exact ⟨none, 60, rfl, HB, zaa (.inl ⟨rfl, rfl, H6.out⟩)⟩
 ·have hcn := h4.hlen
  have H3 := zaa (And.intro hk (And.intro h3 (And.intro hcn h5)))
  clear HQ hk h3 h4 h5 hcn
  go_wp2
  go_ret2
  obtain ⟨hk, h3, hcn, h5⟩ := H3.out
  subst hk hcn
  have hl := HLEN.out
  subst hl
  exact ⟨_, 0, rfl, zaa (zad HB.out Lr _), zaa (.inr ⟨w1.heap.size, cs, co, cc, rfl, rfl, h3, heap_alloc_last w1 _, h5.on (zad Br Lr _)⟩)⟩
def ROp7 (l : List Int) (w : World) (e : Ending) (w' : World) : Prop :=
 ∃ p c, e = .returned (.tuple #[.pointer p, .int .i64 c]) ∧ Hid (Below w.heap.size w w') ∧ Hid ((p = none ∧ c = 60 ∧ ¬ ∃ cs, IsQ (l.getD 0 0) l.length cs l) ∨ ∃ r cs co cc sv, p = some ⟨r, 0, none⟩ ∧ c = 0 ∧ IsQ (l.getD 0 0) l.length cs l ∧ QD w' r (l.getD 0 0) l.length (.slice co cs.length cc) sv 0 ∧ OwnD w' w.heap.size (.slice co cs.length cc) cs ∧ OwnB w' w.heap.size sv (shP (l.getD 0 0) cs))
theorem ropen7_any (ao : Option Addr) (n cap : Nat) (l : List Int) (w : World) (hs : Sl w ao n cap l) : Calls Tryz.prog 20 #[.slice ao n cap] w (ROp7 l w) := by
 have HD := zaa (rdecQ_any ao n cap l w hs)
 have HLEN := zaa hs.hlen
 clear hs
 go_enter Tryz.func20, Tryz.ntmps20
 go_wp2_with (go_at_call 22; refine HD.out.mono ?_; rintro e w1 ⟨k, co, cn, cc, c, rfl, HB, HQ⟩; refine Hid.out ?_)
 apply zaa
 clear HD
 rcases HQ.out with ⟨rfl, rfl, rfl, rfl, rfl, h6⟩ | ⟨cs, rfl, hk, hcn, h3, hw, h4, h5⟩
 ·have H6 := zaa h6
  clear HQ h6
  go_wp2
  go_ret2
  exact ⟨none, 60, rfl, HB, zaa (.inl ⟨rfl, rfl, H6.out⟩)⟩
 ·have hl := HLEN.out
  have hN : cn ≤ 70000 := by
   have hp := zao h3.sz
   have h2 := zbn (l.getD 0 0) (shP (l.getD 0 0) cs).length cs
   have h3 := h3.fit
   omega
  obtain ⟨y, hy⟩ : ∃ y, w1.alloc (.cells #[.int .i64 k, .int .i64 (n : Int), .slice co cn cc, .slice none 0 0, .int .i64 0] 92) = y := ⟨_, rfl⟩
  obtain ⟨r, hr⟩ : ∃ r, w1.heap.size = r := ⟨_, rfl⟩
  have hby : Below w1.heap.size w1 y := by rw [← hy]; exact zad Br Lr _
  have hq : QD y r k n (.slice co cn cc) (.slice none 0 0) 0 := by rw [← hy, ← hr]; exact heap_alloc_last w1 _
  have HTD := zaa (dtidyX y r k n co cn cc _ 0 cs hq (h4.on hby) hN)
  have HBY : Hid (Below w1.heap.size w1 y) := zaa hby
  have HR := zaa hr
  have H3 := zaa (And.intro hk (And.intro h3 (And.intro hcn h5)))
  clear HQ hk h3 h4 h5 hcn hw hN hq hby hl
  go_wp2_with (go_at_call 50; refine HTD.out.mono ?_; rintro e w2 ⟨rfl, HQ2⟩; refine Hid.out ?_)
  apply zaa
  clear HTD hy
  go_wp2
  go_ret2
  obtain ⟨hk, h3, hcn, h5⟩ := H3.out
  obtain ⟨v, q1, q2, q3⟩ := HQ2.out
  have hb2 : Below w1.heap.size w1 w2 := HBY.out.trans (q3.below HBY.out.size (fun k hk e => by have := HR.out; omega))
  subst hk hcn
  have hl := HLEN.out
  subst hl
  exact ⟨_, 0, rfl, zaa (zae HB.out Lr hb2), zaa (.inr ⟨r, cs, co, cc, v, rfl, rfl, h3, q1, h5.on hb2, q2.low (zN HB.out.size HBY.out.size)⟩)⟩
def RX (w : World) (x : Nat) (l : List Int) (cs : List Cl) : Prop :=
 (egO l = 1 ∧ ∃ r co cc, w.heap[x]? = some (.cells #[.int .i64 1, .pointer (some ⟨r, 0, none⟩), .pointer none] 71 (0, 0)) ∧ D6 w r (l.getD 0 0) l.length (.slice co cs.length cc) ∧ OwnD w 0 (.slice co cs.length cc) cs) ∨
 (egO l = 2 ∧ ∃ r co cc sv, w.heap[x]? = some (.cells #[.int .i64 2, .pointer none, .pointer (some ⟨r, 0, none⟩)] 71 (0, 0)) ∧ QD w r (l.getD 0 0) l.length (.slice co cs.length cc) sv 0 ∧ OwnD w 0 (.slice co cs.length cc) cs ∧ OwnB w 0 sv (shP (l.getD 0 0) cs))
theorem OwnD.k3 {w w' : World} {B : Nat} {v : Value} {cs : List Cl} (h : OwnD w B v cs) (hk : Six.K3 w w') : OwnD w' B v cs := by
 obtain ⟨vs, h1, h2⟩ := h
 exact ⟨vs, Six.row_k3 h1 hk Six.c_ne6 Six.c_neX Six.c_neY, h2.keep (fun v l h => h.k3 hk)⟩
theorem OwnD.low0 {w : World} {B : Nat} {v : Value} {cs : List Cl} (h : OwnD w B v cs) : OwnD w 0 v cs := by
 obtain ⟨vs, h1, h2⟩ := h
 have go : ∀ {vs : List Value} {cs : List Cl}, R5B w B vs cs → R5B w 0 vs cs := by
  intro vs cs
  induction cs generalizing vs with
  | nil => intro h; exact h
  | cons c r ih =>
   rintro ⟨ka, kc, va, vc, t, rfl, g1, g2, g3⟩
   exact ⟨ka, kc, va, vc, t, rfl, g1.low (Nat.zero_le _), g2.low (Nat.zero_le _), ih g3⟩
 exact ⟨vs, ⟨h1.1, h1.2.imp id (fun ⟨g, cap, cur, e, _, r⟩ => ⟨g, cap, cur, e, Nat.zero_le _, r⟩)⟩, go h2⟩
theorem RX.k3 {w w' : World} {x : Nat} {l : List Int} {cs : List Cl} (h : RX w x l cs) (hk : Six.K3 w w') : RX w' x l cs := by
 rcases h with ⟨e, r, co, cc, h1, h2, h3⟩ | ⟨e, r, co, cc, sv, h1, h2, h3, h4⟩
 ·exact .inl ⟨e, r, co, cc, (hk.2 x _ _ _ h1 (by decide) (by decide) (by decide)).trans h1, (hk.2 r _ _ _ h2 (by decide) (by decide) (by decide)).trans h2, h3.k3 hk⟩
 ·exact .inr ⟨e, r, co, cc, sv, (hk.2 x _ _ _ h1 (by decide) (by decide) (by decide)).trans h1, (hk.2 r _ _ _ h2 (by decide) (by decide) (by decide)).trans h2, h3.k3 hk, h4.k3 hk⟩
theorem RX.on {w w' : World} {x : Nat} {l : List Int} {cs : List Cl} (h : RX w x l cs) (hb : Below w.heap.size w w') : RX w' x l cs := h.k3 (Six.K3.of_below hb)
theorem byte1 {w : World} {ao : Option Addr} {n cap : Nat} {l : List Int} (hs : Sl w ao n cap l) (h : ¬ n < 2) : ∃ g off, ao = some ⟨g, off, none⟩ ∧ w.cell? ⟨g, off + 1, none⟩ = some (.int .u8 (egO l)) ∧ 0 ≤ egO l ∧ egO l < 256 := by
 have hlen := hs.hlen
 have hb := hs.wf.getD 1
 rcases hs.hat with h0 | ⟨g, off, e, _, hc⟩
 ·omega
 ·refine ⟨g, off, e, ?_, ?_⟩
  ·unfold egO
   rw [if_neg (by omega)]
   exact hc 1 (by omega)
  ·unfold egO
   rw [if_neg (by omega)]
   omega
theorem egO_0 {l : List Int} (h : l.length < 2) : egO l = 0 := by unfold egO; rw [if_pos h]
def ROpG (l : List Int) (w : World) (e : Ending) (w' : World) : Prop :=
 ∃ p, e = .returned (.tuple #[.pointer p, .int .i64 (cE l)]) ∧ Hid (Below w.heap.size w w') ∧ Hid ((p = none ∧ ¬ ∃ cs, Yes l cs) ∨ ∃ x, p = some ⟨x, 0, none⟩ ∧ Yes l (csE l) ∧ RX w' x l (csE l))
theorem ROpG.no {l : List Int} {w w' : World} (h : ¬ ∃ cs, Yes l cs) (hb : Below w.heap.size w w') : ROpG l w (.returned (.tuple #[.pointer none, .int .i64 60])) w' := ⟨none, by rw [(no_E h).2.1], zaa hb, zaa (.inl ⟨rfl, h⟩)⟩
theorem ROpG.yes {l : List Int} {cs : List Cl} {w w' : World} {x : Nat} (hy : Yes l cs) (h : RX w' x l cs) (hb : Below w.heap.size w w') : ROpG l w (.returned (.tuple #[.pointer (some ⟨x, 0, none⟩), .int .i64 0])) w' := by
 obtain ⟨q1, q2, q3, q4⟩ := yes_E hy
 exact ⟨_, by rw [q2], zaa hb, zaa (.inr ⟨x, rfl, by rw [q1]; exact hy, by rw [q1]; exact h⟩)⟩
theorem ropen8_any (ao : Option Addr) (n cap : Nat) (l : List Int) (w : World) (hs : Sl w ao n cap l) : Calls Tryz.prog 7 #[.slice ao n cap] w (ROpG l w) := by
 have hlen := hs.hlen
 have hnr := hs.hroom
 by_cases h : n < 2
 ·have hI : (n : Int) < 2 := by omega
  have HN := zaa (yes_eg (l := l) (by rw [egO_0 (by omega)]; omega) (by rw [egO_0 (by omega)]; omega))
  clear hs hlen
  go_enter Tryz.func7, Tryz.ntmps7
  go_wp2
  go_ret2
  exact ROpG.no HN.out Br
 ·have hI : ¬ (n : Int) < 2 := by omega
  have h1n : 1 < n := by omega
  have H6 := zaa (ropen6_any ao n cap l w hs)
  have H7 := zaa (ropen7_any ao n cap l w hs)
  obtain ⟨g, off, rfl, hc, hb0, hb1⟩ := byte1 hs h
  have HE := zaa (yes_eg (l := l))
  have HEG := zaa (rfl : egO l = egO l)
  obtain ⟨x, hx⟩ : ∃ x, egO l = x := ⟨_, rfl⟩
  have HX := zaa hx
  rw [hx] at hc hb0 hb1 HE
  clear hs hlen hx h HEG
  by_cases hx1 : x < 1
  ·clear H6 H7
   go_enter Tryz.func7, Tryz.ntmps7
   go_wp2
   go_ret2
   exact ROpG.no (HE.out (by omega) (by omega)) Br
  by_cases hx2 : 2 < x
  ·clear H6 H7
   go_enter Tryz.func7, Tryz.ntmps7
   go_wp2
   go_ret2
   exact ROpG.no (HE.out (by omega) (by omega)) Br
  have h12 : x = 1 ∨ x = 2 := by omega
  clear hx1 hx2 hb0 hb1 HE
  rcases h12 with rfl | rfl
  ·clear H7
   go_enter Tryz.func7, Tryz.ntmps7
   go_wp2_with (go_at_call 19; refine H6.out.mono ?_; rintro e w1 ⟨p, c, rfl, HB, HQ⟩; refine Hid.out ?_)
   apply zaa
   clear H6
   rcases HQ.out with ⟨rfl, rfl, h6⟩ | ⟨r, cs, co, cc, rfl, rfl, h3, h4, h5⟩
   ·have H6 := zaa h6
    clear HQ h6 hc
    go_wp2
    go_ret2
    exact ROpG.no (by rintro ⟨cs, ⟨e, h⟩ | ⟨e, h⟩⟩; exact H6.out ⟨cs, h⟩; have := HX.out; omega) HB.out
   ·have H3 := zaa (And.intro h3 (And.intro h4 h5))
    clear HQ h3 h4 h5 hc
    go_wp2
    go_ret2
    obtain ⟨h3, h4, h5⟩ := H3.out
    have hal : Below w1.heap.size w1 (w1.alloc (.cells #[.int .i64 1, .pointer (some ⟨r, 0, none⟩), .pointer none] 71)) := zad Br Lr _
    exact ROpG.yes (.inl ⟨HX.out, h3⟩) (.inl ⟨HX.out, r, co, cc, heap_alloc_last w1 _, (hal.block r (zaf h4)).trans h4, (h5.on hal).low0⟩) (zae HB.out Lr hal)
  ·clear H6
   go_enter Tryz.func7, Tryz.ntmps7
   go_wp2_with (go_at_call 20; refine H7.out.mono ?_; rintro e w1 ⟨p, c, rfl, HB, HQ⟩; refine Hid.out ?_)
   apply zaa
   clear H7
   rcases HQ.out with ⟨rfl, rfl, h6⟩ | ⟨r, cs, co, cc, sv, rfl, rfl, h3, h4, h5, h6⟩
   ·have H6 := zaa h6
    clear HQ h6 hc
    go_wp2
    go_ret2
    exact ROpG.no (by rintro ⟨cs, ⟨e, h⟩ | ⟨e, h⟩⟩; have := HX.out; omega; exact H6.out ⟨cs, h⟩) HB.out
   ·have H3 := zaa (And.intro h3 (And.intro h4 (And.intro h5 h6)))
    clear HQ h3 h4 h5 h6 hc
    go_wp2
    go_ret2
    obtain ⟨h3, h4, h5, h6⟩ := H3.out
    have hal : Below w1.heap.size w1 (w1.alloc (.cells #[.int .i64 2, .pointer none, .pointer (some ⟨r, 0, none⟩)] 71)) := zad Br Lr _
    exact ROpG.yes (.inr ⟨HX.out, h3⟩) (.inr ⟨HX.out, r, co, cc, sv, heap_alloc_last w1 _, (hal.block r (zaf h4)).trans h4, (h5.on hal).low0, (h6.on Lr hal).low (Nat.zero_le _)⟩) (zae HB.out Lr hal)
def RDecG (l : List Int) (w : World) (e : Ending) (w' : World) : Prop :=
 ∃ co cc, e = .returned (.tuple #[.int .i64 (eE l), .int .i64 (kE l), .slice co (csE l).length cc, .int .i64 (cE l)]) ∧ Hid (Below w.heap.size w w') ∧ Hid (SlC w' co (csE l).length cc (csE l))
theorem RDecG.no {l : List Int} {w w' : World} (h : ¬ ∃ cs, Yes l cs) (hb : Below w.heap.size w w') : RDecG l w (.returned (.tuple #[.int .i64 0, .int .i64 0, .slice none 0 0, .int .i64 60])) w' := by
 obtain ⟨q1, q2, q3, q4⟩ := no_E h
 exact ⟨none, 0, by rw [q1, q2, q3, q4]; rfl, zaa hb, zaa (by rw [q1]; exact ⟨rfl, Lr, by simp, fun _ => rfl, .inl rfl⟩)⟩
theorem RDecG.yes {l : List Int} {cs : List Cl} {w w' : World} {co : Option Addr} {cn cc : Nat} {x k : Int} (h : Yes l cs) (hx : egO l = x) (hk : k = l.getD 0 0) (hb : Below w.heap.size w w') (hg : SlC w' co cn cc cs) : RDecG l w (.returned (.tuple #[.int .i64 x, .int .i64 k, .slice co cn cc, .int .i64 0])) w' := by
 obtain ⟨q1, q2, q3, q4⟩ := yes_E h
 have hl := hg.hlen
 subst hl
 exact ⟨co, cc, by rw [q1, q2, q3, q4, hx, hk], zaa hb, zaa (by rw [q1]; exact hg)⟩
theorem zei (ao : Option Addr) (n cap : Nat) (l : List Int) (w : World) (hs : Sl w ao n cap l) : Calls Tryz.prog 8 #[.slice ao n cap] w (RDecG l w) := by
 have hlen := hs.hlen
 have hnr := hs.hroom
 by_cases h : n < 2
 ·have hI : (n : Int) < 2 := by omega
  have HN := zaa (yes_eg (l := l) (by rw [egO_0 (by omega)]; omega) (by rw [egO_0 (by omega)]; omega))
  clear hs hlen
  go_enter Tryz.func8, Tryz.ntmps8
  go_wp2
  (try simp only [Exit.inBlock, Exit.then])
  refine bodyPost_ret (zcb rfl _ _ _) rfl ?_
  exact RDecG.no HN.out Br
 ·have hI : ¬ (n : Int) < 2 := by omega
  have h1n : 1 < n := by omega
  have H6 := zaa (rdec6o_any ao n cap l w hs)
  have H7 := zaa (rdecQ_any ao n cap l w hs)
  obtain ⟨g, off, rfl, hc, hb0, hb1⟩ := byte1 hs h
  have HE := zaa (yes_eg (l := l))
  obtain ⟨x, hx⟩ : ∃ x, egO l = x := ⟨_, rfl⟩
  have HX := zaa hx
  rw [hx] at hc hb0 hb1 HE
  clear hs hlen hx h
  by_cases hx1 : x < 1
  ·clear H6 H7
   go_enter Tryz.func8, Tryz.ntmps8
   go_wp2
   (try simp only [Exit.inBlock, Exit.then])
   refine bodyPost_ret (zcb rfl _ _ _) rfl ?_
   exact RDecG.no (HE.out (by omega) (by omega)) Br
  by_cases hx2 : 2 < x
  ·clear H6 H7
   go_enter Tryz.func8, Tryz.ntmps8
   go_wp2
   (try simp only [Exit.inBlock, Exit.then])
   refine bodyPost_ret (zcb rfl _ _ _) rfl ?_
   exact RDecG.no (HE.out (by omega) (by omega)) Br
  have h12 : x = 1 ∨ x = 2 := by omega
  clear hx1 hx2 hb0 hb1 HE
  rcases h12 with rfl | rfl
  ·clear H7
   go_enter Tryz.func8, Tryz.ntmps8
   go_wp2_with (go_at_call 21; refine H6.out.mono ?_; rintro e w1 ⟨k, co, cn, cc, c, rfl, HB, HQ⟩; refine Hid.out ?_)
   apply zaa
   clear H6
   rcases HQ.out with ⟨rfl, rfl, rfl, rfl, rfl, h6⟩ | ⟨cs, rfl, hk, h3, h4, h5⟩
   ·have H6 := zaa h6
    clear HQ h6 hc
    go_wp2
    (try simp only [Exit.inBlock, Exit.then])
    refine bodyPost_ret (zcb rfl _ _ _) rfl ?_
    exact RDecG.no (by rintro ⟨cs, ⟨e, h⟩ | ⟨e, h⟩⟩; exact H6.out ⟨cs, h⟩; have := HX.out; omega) HB.out
   ·have H3 := zaa (And.intro hk (And.intro h3 h4))
    clear HQ hk h3 h4 h5 hc
    go_wp2
    (try simp only [Exit.inBlock, Exit.then])
    refine bodyPost_ret (zcb rfl _ _ _) rfl ?_
    exact RDecG.yes (.inl ⟨HX.out, H3.out.2.1⟩) HX.out H3.out.1 HB.out H3.out.2.2
  ·clear H6
   go_enter Tryz.func8, Tryz.ntmps8
   go_wp2_with (go_at_call 22; refine H7.out.mono ?_; rintro e w1 ⟨k, co, cn, cc, c, rfl, HB, HQ⟩; refine Hid.out ?_)
   apply zaa
   clear H7
   rcases HQ.out with ⟨rfl, rfl, rfl, rfl, rfl, h6⟩ | ⟨cs, rfl, hk, hcn, h3, hw, h4, h5⟩
   ·have H6 := zaa h6
    clear HQ h6 hc
    go_wp2
    (try simp only [Exit.inBlock, Exit.then])
    refine bodyPost_ret (zcb rfl _ _ _) rfl ?_
    exact RDecG.no (by rintro ⟨cs, ⟨e, h⟩ | ⟨e, h⟩⟩; have := HX.out; omega; exact H6.out ⟨cs, h⟩) HB.out
   ·have H3 := zaa (And.intro hk (And.intro h3 h4))
    clear HQ hk hcn h3 hw h4 h5 hc
    go_wp2
    (try simp only [Exit.inBlock, Exit.then])
    refine bodyPost_ret (zcb rfl _ _ _) rfl ?_
    exact RDecG.yes (.inr ⟨HX.out, H3.out.2.1⟩) HX.out H3.out.1 HB.out H3.out.2.2
noncomputable def usX (l : List Int) (cs : List Cl) : Nat := if egO l = 1 then szN cs else szQ (l.getD 0 0) (shP (l.getD 0 0) cs).length cs
structure AsksP (w : World) (a : Nat) (l : List Int) (cs : List Cl) : Prop where
 len : Calls Tryz.prog 75 #[.pointer (some ⟨a, 0, none⟩)] w fun e w' => e = .returned (.int .i64 (cs.length : Int)) ∧ w' = w
 kind : Calls Tryz.prog 219 #[.pointer (some ⟨a, 0, none⟩)] w fun e w' => e = .returned (.int .i64 (l.getD 0 0)) ∧ w' = w
 used : Calls Tryz.prog 222 #[.pointer (some ⟨a, 0, none⟩)] w fun e w' => e = .returned (.int .i64 ((usX l cs : Nat) : Int)) ∧ Hid (Below w.heap.size w w')
 cell : ∀ x : Int, Calls Tryz.prog 216 #[.pointer (some ⟨a, 0, none⟩), .int .i64 x] w (CelO (cellE cs x) (remE cs x) w)
 bytes : Tab w → 1 < w.heap.size → Calls Tryz.prog 74 #[.pointer (some ⟨a, 0, none⟩)] w fun e w' => ∃ g, e = .returned (.slice (some ⟨g, 0, none⟩) l.length l.length) ∧ Hid (Sl w' (some ⟨g, 0, none⟩) l.length l.length l) ∧ Hid (Below w.heap.size w w')
structure AsksQ (w : World) (a : Nat) (l : List Int) (cs : List Cl) : Prop where
 len : Calls Tryz.prog 88 #[.pointer (some ⟨a, 0, none⟩)] w fun e w' => e = .returned (.int .i64 (cs.length : Int)) ∧ w' = w
 kind : Calls Tryz.prog 232 #[.pointer (some ⟨a, 0, none⟩)] w fun e w' => e = .returned (.int .i64 (l.getD 0 0)) ∧ w' = w
 used : Calls Tryz.prog 236 #[.pointer (some ⟨a, 0, none⟩)] w fun e w' => e = .returned (.int .i64 ((usX l cs : Nat) : Int)) ∧ Hid (Below w.heap.size w w')
 cell : ∀ x : Int, Calls Tryz.prog 229 #[.pointer (some ⟨a, 0, none⟩), .int .i64 x] w (CelO (cellE cs x) (remE cs x) w)
 bytes : Tab w → 1 < w.heap.size → Calls Tryz.prog 92 #[.pointer (some ⟨a, 0, none⟩)] w fun e w' => ∃ g, e = .returned (.slice (some ⟨g, 0, none⟩) l.length l.length) ∧ Hid (Sl w' (some ⟨g, 0, none⟩) l.length l.length l) ∧ Hid (Below w.heap.size w w')
theorem askP_of {w : World} {B a : Nat} {bo : Option Addr} {bn bc : Nat} {so : Option Addr} {sn sc : Nat} {l : List Int} {cs : List Cl} (he : egO l = 1) (hi : Is (l.getD 0 0) l.length cs l) (hw : ∀ d ∈ cs, d.Wf) (hlw : Wf l) (h : Po w B a (l.getD 0 0) l.length (.slice bo bn bc) (.slice so sn sc) cs) : AsksP w a l cs := by
 have hp := zao hi.sz
 have hf := hi.fit
 have hz := zbb cs
 have hat := h.pg hw (by omega)
 obtain ⟨hsn, hbn⟩ := hat.sn_eq
 have hu : usX l cs = szN cs := by unfold usX; rw [if_pos he]
 have hfit : ∀ c ∈ cs, c.fit := fun c hc => (zcv hi.ok c hc).fit (by omega)
 refine ⟨?_, ?_, ?_, fun x => cellO_any w B a _ _ _ _ cs x h hw hfit hf hp.2, fun ht h0 => ?_⟩
 ·rw [← hsn]
  exact lenR_any w a _ _ _ so sn sc h.row
 ·obtain ⟨p0, p1, p2, p3⟩ := h.row.cells
  generalize l.getD 0 0 = k at *
  clear h hat hw hfit hi hf hu hlw
  go_enter Tryz.func219, Tryz.ntmps219
  go_wp2_with fail
  go_ret
  exact ⟨rfl, rfl⟩
 ·rw [hu]
  refine (used_row w a _ _ bo bn bc so sn sc h.row (by omega) (by omega)).mono ?_
  rintro e w' ⟨rfl, q, rfl⟩
  refine ⟨?_, zaa (zab Br _)⟩
  first
   | rfl
   | (congr 2; omega)
   | (rw [hz, hsn, hbn])
 ·refine (bytes_any w a _ _ bo bn bc so sn sc cs hat hi.kd hi.sz hf ht h0 hw).mono ?_
  rintro e w' ⟨g, rfl, hg, HK, HB⟩
  rw [hi.eq] at HK
  exact ⟨g, rfl, zaa (Bk.sl HK.out rfl hlw (by omega)), HB⟩
theorem askQ_of {w : World} {B a gp qn qc : Nat} {vb vs : Value} {l : List Int} {cs : List Cl} (he : egO l = 2) (hi : IsQ (l.getD 0 0) l.length cs l) (hw : ∀ d ∈ cs, d.Wf) (hlw : Wf l) (h : PO w B a (l.getD 0 0) l.length (some ⟨gp, 0, none⟩) qn qc vb vs 0 (shP (l.getD 0 0) cs) (qbd (shP (l.getD 0 0) cs).length (whl (l.getD 0 0)) cs) (qst (shP (l.getD 0 0) cs).length (whl (l.getD 0 0)) 0 cs)) : AsksQ w a l cs := by
 have hp := zao hi.sz
 have hfit := zda hi.ok hi.sz
 have hz := zbn (l.getD 0 0) (shP (l.getD 0 0) cs).length cs
 have hf := hi.fit
 obtain ⟨bo, bc, so, sc, rfl, rfl, hpg⟩ := h.pg (qbd_wf _ _ _ fun c hc => ⟨hw c hc, hfit c hc⟩) (by omega) (by rw [zbm]; omega)
 have hlay := layQ_of (zce (l.getD 0 0) cs) hfit
 have hu : usX l cs = szQ (l.getD 0 0) (shP (l.getD 0 0) cs).length cs := by unfold usX; rw [if_neg (by omega)]
 have hsn := zbm (shP (l.getD 0 0) cs).length (whl (l.getD 0 0)) 0 cs
 have hqn : qn = (shP (l.getD 0 0) cs).length := h.pre.hlen.symm
 refine ⟨?_, kindW_any w a _ _ _ _ _ _ hpg.row, ?_, fun x => cellQ_any w a _ _ _ _ _ _ _ _ _ _ _ _ _ _ _ cs hpg hlay x, fun ht h0 => ?_⟩
 ·have := zcz w a _ _ _ _ _ _ _ _ _ _ _ _ _ _ _ hpg
  rw [hsn] at this
  exact this
 ·rw [hu]
  exact usedQ_any w a _ _ _ qn qc bo _ bc so _ sc hpg.row (by omega) (by omega) (by omega) _ (by omega)
 ·refine (bytesQ_any w a _ _ _ _ _ _ _ _ _ _ _ _ _ _ _ cs hpg hlay (chk_rs hi.ok) hi.kd hi.sz hf ht h0).mono ?_
  rintro e w' ⟨g, rfl, HK, HB⟩
  have h1 := HK.out.2
  rw [hi.eq] at h1
  exact ⟨g, rfl, zaa (h1.sl rfl hlw (by omega)), HB⟩
def CelG (cs : List Cl) (w : World) (e : Ending) (w' : World) : Prop :=
 ∃ co cc, e = .returned (.slice co cs.length cc) ∧ Hid (Got w' w.heap.size w'.heap.size co cs.length cc cs) ∧ Hid (Below w.heap.size w w')
theorem ncellsPX (w : World) (a : Nat) (l : List Int) (cs : List Cl) (hA : ∀ u, Below w.heap.size w u → AsksP u a l cs) (hn : cs.length ≤ 65536) :
  Calls Tryz.prog 25 #[iP a] w (CelG cs w) := by
 obtain ⟨ic, hic, hz0, hz1, hz2⟩ := info_parts infoC
 obtain ⟨sn, hsn⟩ : ∃ sn, cs.length = sn := ⟨_, rfl⟩
 have hs1 : sn ≤ 65536 := by omega
 have HSN := zaa hsn
 have HAS := zaa hA
 have HLN : Hid (Calls Tryz.prog 75 #[.pointer (some ⟨a, 0, none⟩)] w fun e w' => e = .returned (.int .i64 (sn : Int)) ∧ w' = w) := zaa (by
  have := (hA w Br).len
  rw [hsn] at this
  exact this)
 unfold CelG
 rw [hsn]
 clear hn hsn hA
 go_enter Tryz.func25, Tryz.ntmps25
 go_wp2_with (first
  | (go_at_call 75; refine zac HLN.out ?_)
  | (at_make; refine wpList_make_full _ rfl _ _ 29 rfl w.heap.size 50 ic _ 5 Tryz.underlying29 hic hz0 hz1 .i64 .i64 sn sn sn rfl rfl rfl rfl (by rw [hz2]; omega) (by unfold maxLen; omega) Lr ?_; refine Hid.out ?_))
 apply zaa
 intro w2 ho2 hg2
 have hb2 : Below w.heap.size w w2 := Br.grown hg2 Lr (fun k hk => by cases hk)
 obtain ⟨g, hg⟩ : ∃ g, w.heap.size = g := ⟨_, rfl⟩
 have HRW : Hid (RowC w2 g sn) := by
  rcases ho2.2 with ⟨h, _⟩ | ⟨q, c, cur, h, _, hh, _, _, hss, _⟩
  ·cases h
  ·cases h
   rw [← hg]
   exact zaa ⟨cur, hh, by rw [hss]; omega⟩
 have hgs : Below g w w2 := by rw [← hg]; exact hb2
 have HGS := zaa hgs
 have HGW := zaa hg
 have HG2 : Hid (g ≤ w2.heap.size) := zaa (by rw [← hg]; exact hgs.size)
 rw [hg]
 clear ho2 hg2 hb2 HLN hgs
 go_wp2_with fail
 go_loopw [4, 12, 15, 20] (fun s4 i s15 s20 wr => ∃ (j : Nat) (P : Nat → Nat), j ≤ sn ∧ i = .int .i64 j ∧ Hid (RowC wr g sn) ∧ Hid (Below g w wr) ∧ Hid (∀ i d, i < j → cs[i]? = some d → DGt wr (P i) (P (i + 1)) g (i * 5) d) ∧ Hid (g ≤ P 0 ∧ (∀ i, i < j → P i ≤ P (i + 1)) ∧ P j ≤ wr.heap.size)) (fun _ i _ _ _ => sn - (intOf i).toNat)
 case atStart => exact ⟨0, fun _ => g, by omega, rfl, HRW, HGS, zaa fun i d hi => by omega, zaa ⟨Lr, fun i hi => by omega, HG2.out⟩⟩
 case round =>
  obtain ⟨j, P, hj, rfl, HR, HG, HD, HP⟩ := hrel
  have HBE : Hid (Below w.heap.size w wr) := zaa (by rw [HGW.out]; exact HG.out)
  have bj : (j : Int) ≤ 65536 := by omega
  clear HRW HGS
  by_cases hlt : j < sn
  ·have hltI : (j : Int) < (sn : Int) := by omega
   obtain ⟨d, hd⟩ : ∃ d, cs[j]? = some d := ⟨_, zI (by rw [HSN.out]; exact hlt)⟩
   have HDJ := zaa hd
   have HCL : Hid (Calls Tryz.prog 216 #[.pointer (some ⟨a, 0, none⟩), .int .i64 (j : Int)] wr (CelO d 0 wr)) := zaa (by
    have h := (HAS.out wr HBE.out).cell (j : Int)
    have e1 : cellE cs (j : Int) = d := by unfold cellE; rw [if_pos ⟨by omega, by rw [HSN.out]; omega⟩, Int.toNat_natCast, hd]; rfl
    have e2 : remE cs (j : Int) = 0 := by unfold remE; rw [if_pos ⟨by omega, by rw [HSN.out]; omega⟩]
    rw [e1, e2] at h
    exact h)
   clear hd
   go_wp2_with (go_at_call 216; refine HCL.out.mono ?_; rintro e u2 ⟨ko, kc, vo, vc, rfl, HOO, HBU⟩; refine Hid.out ?_)
   apply zaa
   have HR2 : Hid (RowC u2 g sn) := zaa (HR.out.on HBU.out)
   have HGu : Hid (Below g w u2) := zaa (HG.out.trans (HBU.out.mono (Nat.le_of_lt HR.out.lt)))
   have HU2S : Hid (wr.heap.size ≤ u2.heap.size) := zaa HBU.out.size
   clear HCL
   go_wp2_with (refine put_cell (by rfl) _ _ (by rfl) g (j * 5) sn ko vo d.key.length kc d.val.length vc d.kd d.pg d.ct HR2.out (by rfl) (by rfl) (by omega) ?_; intro u3 HU3; refine Hid.out ?_)
   apply zaa
   have HR3 : Hid (RowC u3 g sn) := zaa (by rw [HU3.out]; exact RowC.sets _ _ _ HR2.out)
   have HG3 : Hid (Below g w u3) := zaa (by
    rw [HU3.out]
    simp only [World.setCells]
    refine ((((HGu.out.setCell ?_ _).setCell ?_ _).setCell ?_ _).setCell ?_ _).setCell ?_ _ <;> simp)
   obtain ⟨P3, hP3⟩ : ∃ P3 : Nat → Nat, P3 = fun i => if i ≤ j then P i else u2.heap.size := ⟨_, rfl⟩
   have HP3 : Hid (g ≤ P3 0 ∧ (∀ i, i < j + 1 → P3 i ≤ P3 (i + 1)) ∧ P3 (j + 1) ≤ u3.heap.size) := zaa (by
    obtain ⟨q1, q2, q3⟩ := HP.out
    have q4 := HU2S.out
    rw [hP3]
    refine ⟨by simpa using q1, fun i hi => ?_, ?_⟩
    ·by_cases e : i = j
     ·simp only [e, Nat.le_refl, if_true, show ¬ j + 1 ≤ j by omega, if_false]
      omega
     ·simp only [show i ≤ j by omega, show i + 1 ≤ j by omega, if_true]
      exact q2 i (by omega)
    ·simp only [show ¬ j + 1 ≤ j by omega, if_false]
     rw [HU3.out, sets_size7]
     exact Lr)
   have HD3 : Hid (∀ i d, i < j + 1 → cs[i]? = some d → DGt u3 (P3 i) (P3 (i + 1)) g (i * 5) d) := by
    refine zaa fun i d' hi hd' => ?_
    rw [HU3.out, hP3]
    by_cases e : i = j
    ·subst e
     rw [HDJ.out] at hd'
     injection hd' with hd'
     subst hd'
     simp only [Nat.le_refl, if_true, show ¬ i + 1 ≤ i by omega, if_false]
     have hp := HP.out.2.2
     exact DGt.new HR2.out (by omega) (HOO.out.1.low hp) (HOO.out.2.1.low hp) Lr HOO.out.2.2
    ·simp only [show i ≤ j by omega, show i + 1 ≤ j by omega, if_true]
     exact ((HD.out i d' (by omega) hd').on HR.out.lt HBU.out).put HR2.out (by omega)
   clear hP3
   clear HU3 HR2 HGu HR HG HD HOO HBU HP HU2S
   go_wp2
   go_roundw
   case rel => exact ⟨j + 1, P3, by omega, by go_num, HR3, HG3, HD3, HP3⟩
   case measure => simp [intOf]; omega
  ·obtain rfl : j = sn := by omega
   have hlI : ¬ (j : Int) < (j : Int) := by omega
   go_wp2
   go_ret
   refine ⟨some ⟨g, 0, none⟩, j, rfl, zaa ⟨P, ⟨HSN.out.symm, .inr ⟨g, rfl, rfl, ⟨by rw [HSN.out]; exact HR.out, Lr, HP.out.1, by rw [HSN.out]; exact HP.out.2.1, by rw [HSN.out]; exact HP.out.2.2, fun i d hd => HD.out i d (by have := (zH.1 hd).1; have := HSN.out; omega) hd⟩⟩⟩, HP.out.2.2, fun z hz => by injection hz with hz; rw [← hz]; exact ⟨Lr, HR.out.lt⟩⟩, HG⟩
theorem ncellsQX (w : World) (a : Nat) (l : List Int) (cs : List Cl) (hA : ∀ u, Below w.heap.size w u → AsksQ u a l cs) (hn : cs.length ≤ 65536) :
  Calls Tryz.prog 25 #[iQ a] w (CelG cs w) := by
 obtain ⟨ic, hic, hz0, hz1, hz2⟩ := info_parts infoC
 obtain ⟨sn, hsn⟩ : ∃ sn, cs.length = sn := ⟨_, rfl⟩
 have hs1 : sn ≤ 65536 := by omega
 have HSN := zaa hsn
 have HAS := zaa hA
 have HLN : Hid (Calls Tryz.prog 88 #[.pointer (some ⟨a, 0, none⟩)] w fun e w' => e = .returned (.int .i64 (sn : Int)) ∧ w' = w) := zaa (by
  have := (hA w Br).len
  rw [hsn] at this
  exact this)
 unfold CelG
 rw [hsn]
 clear hn hsn hA
 go_enter Tryz.func25, Tryz.ntmps25
 go_wp2_with (first
  | (go_at_call 88; refine zac HLN.out ?_)
  | (at_make; refine wpList_make_full _ rfl _ _ 29 rfl w.heap.size 50 ic _ 5 Tryz.underlying29 hic hz0 hz1 .i64 .i64 sn sn sn rfl rfl rfl rfl (by rw [hz2]; omega) (by unfold maxLen; omega) Lr ?_; refine Hid.out ?_))
 apply zaa
 intro w2 ho2 hg2
 have hb2 : Below w.heap.size w w2 := Br.grown hg2 Lr (fun k hk => by cases hk)
 obtain ⟨g, hg⟩ : ∃ g, w.heap.size = g := ⟨_, rfl⟩
 have HRW : Hid (RowC w2 g sn) := by
  rcases ho2.2 with ⟨h, _⟩ | ⟨q, c, cur, h, _, hh, _, _, hss, _⟩
  ·cases h
  ·cases h
   rw [← hg]
   exact zaa ⟨cur, hh, by rw [hss]; omega⟩
 have hgs : Below g w w2 := by rw [← hg]; exact hb2
 have HGS := zaa hgs
 have HGW := zaa hg
 have HG2 : Hid (g ≤ w2.heap.size) := zaa (by rw [← hg]; exact hgs.size)
 rw [hg]
 clear ho2 hg2 hb2 HLN hgs
 go_wp2_with fail
 go_loopw [4, 12, 15, 20] (fun s4 i s15 s20 wr => ∃ (j : Nat) (P : Nat → Nat), j ≤ sn ∧ i = .int .i64 j ∧ Hid (RowC wr g sn) ∧ Hid (Below g w wr) ∧ Hid (∀ i d, i < j → cs[i]? = some d → DGt wr (P i) (P (i + 1)) g (i * 5) d) ∧ Hid (g ≤ P 0 ∧ (∀ i, i < j → P i ≤ P (i + 1)) ∧ P j ≤ wr.heap.size)) (fun _ i _ _ _ => sn - (intOf i).toNat)
 case atStart => exact ⟨0, fun _ => g, by omega, rfl, HRW, HGS, zaa fun i d hi => by omega, zaa ⟨Lr, fun i hi => by omega, HG2.out⟩⟩
 case round =>
  obtain ⟨j, P, hj, rfl, HR, HG, HD, HP⟩ := hrel
  have HBE : Hid (Below w.heap.size w wr) := zaa (by rw [HGW.out]; exact HG.out)
  have bj : (j : Int) ≤ 65536 := by omega
  clear HRW HGS
  by_cases hlt : j < sn
  ·have hltI : (j : Int) < (sn : Int) := by omega
   obtain ⟨d, hd⟩ : ∃ d, cs[j]? = some d := ⟨_, zI (by rw [HSN.out]; exact hlt)⟩
   have HDJ := zaa hd
   have HCL : Hid (Calls Tryz.prog 229 #[.pointer (some ⟨a, 0, none⟩), .int .i64 (j : Int)] wr (CelO d 0 wr)) := zaa (by
    have h := (HAS.out wr HBE.out).cell (j : Int)
    have e1 : cellE cs (j : Int) = d := by unfold cellE; rw [if_pos ⟨by omega, by rw [HSN.out]; omega⟩, Int.toNat_natCast, hd]; rfl
    have e2 : remE cs (j : Int) = 0 := by unfold remE; rw [if_pos ⟨by omega, by rw [HSN.out]; omega⟩]
    rw [e1, e2] at h
    exact h)
   clear hd
   go_wp2_with (go_at_call 229; refine HCL.out.mono ?_; rintro e u2 ⟨ko, kc, vo, vc, rfl, HOO, HBU⟩; refine Hid.out ?_)
   apply zaa
   have HR2 : Hid (RowC u2 g sn) := zaa (HR.out.on HBU.out)
   have HGu : Hid (Below g w u2) := zaa (HG.out.trans (HBU.out.mono (Nat.le_of_lt HR.out.lt)))
   have HU2S : Hid (wr.heap.size ≤ u2.heap.size) := zaa HBU.out.size
   clear HCL
   go_wp2_with (refine put_cell (by rfl) _ _ (by rfl) g (j * 5) sn ko vo d.key.length kc d.val.length vc d.kd d.pg d.ct HR2.out (by rfl) (by rfl) (by omega) ?_; intro u3 HU3; refine Hid.out ?_)
   apply zaa
   have HR3 : Hid (RowC u3 g sn) := zaa (by rw [HU3.out]; exact RowC.sets _ _ _ HR2.out)
   have HG3 : Hid (Below g w u3) := zaa (by
    rw [HU3.out]
    simp only [World.setCells]
    refine ((((HGu.out.setCell ?_ _).setCell ?_ _).setCell ?_ _).setCell ?_ _).setCell ?_ _ <;> simp)
   obtain ⟨P3, hP3⟩ : ∃ P3 : Nat → Nat, P3 = fun i => if i ≤ j then P i else u2.heap.size := ⟨_, rfl⟩
   have HP3 : Hid (g ≤ P3 0 ∧ (∀ i, i < j + 1 → P3 i ≤ P3 (i + 1)) ∧ P3 (j + 1) ≤ u3.heap.size) := zaa (by
    obtain ⟨q1, q2, q3⟩ := HP.out
    have q4 := HU2S.out
    rw [hP3]
    refine ⟨by simpa using q1, fun i hi => ?_, ?_⟩
    ·by_cases e : i = j
     ·simp only [e, Nat.le_refl, if_true, show ¬ j + 1 ≤ j by omega, if_false]
      omega
     ·simp only [show i ≤ j by omega, show i + 1 ≤ j by omega, if_true]
      exact q2 i (by omega)
    ·simp only [show ¬ j + 1 ≤ j by omega, if_false]
     rw [HU3.out, sets_size7]
     exact Lr)
   have HD3 : Hid (∀ i d, i < j + 1 → cs[i]? = some d → DGt u3 (P3 i) (P3 (i + 1)) g (i * 5) d) := by
    refine zaa fun i d' hi hd' => ?_
    rw [HU3.out, hP3]
    by_cases e : i = j
    ·subst e
     rw [HDJ.out] at hd'
     injection hd' with hd'
     subst hd'
     simp only [Nat.le_refl, if_true, show ¬ i + 1 ≤ i by omega, if_false]
     have hp := HP.out.2.2
     exact DGt.new HR2.out (by omega) (HOO.out.1.low hp) (HOO.out.2.1.low hp) Lr HOO.out.2.2
    ·simp only [show i ≤ j by omega, show i + 1 ≤ j by omega, if_true]
     exact ((HD.out i d' (by omega) hd').on HR.out.lt HBU.out).put HR2.out (by omega)
   clear hP3
   clear HU3 HR2 HGu HR HG HD HOO HBU HP HU2S
   go_wp2
   go_roundw
   case rel => exact ⟨j + 1, P3, by omega, by go_num, HR3, HG3, HD3, HP3⟩
   case measure => simp [intOf]; omega
  ·obtain rfl : j = sn := by omega
   have hlI : ¬ (j : Int) < (j : Int) := by omega
   go_wp2
   go_ret
   refine ⟨some ⟨g, 0, none⟩, j, rfl, zaa ⟨P, ⟨HSN.out.symm, .inr ⟨g, rfl, rfl, ⟨by rw [HSN.out]; exact HR.out, Lr, HP.out.1, by rw [HSN.out]; exact HP.out.2.1, by rw [HSN.out]; exact HP.out.2.2, fun i d hd => HD.out i d (by have := (zH.1 hd).1; have := HSN.out; omega) hd⟩⟩⟩, HP.out.2.2, fun z hz => by injection hz with hz; rw [← hz]; exact ⟨Lr, HR.out.lt⟩⟩, HG⟩
end Go.Proofs.YtbkhjeacmmbabaaGreatDoor
