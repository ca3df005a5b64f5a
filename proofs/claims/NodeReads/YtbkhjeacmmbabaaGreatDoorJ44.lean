import Derived.Test.YtbkhjeacmmbabaaGreatDoorJ43
import Derived.Deep.DeepCutAuto
import Derived.Deep.CutRange
import Derived.Deep.RegionHeld
namespace Go.Proofs.YtbkhjeacmmbabaaGreatDoor
set_option maxRecDepth 100000
set_option maxHeartbeats 4000000
open Go.RowKit
theorem tidy_cutX {w w2 : World} {r : Nat} {k : Int} {n : Nat} {lv sv v : Value} {ws : Int} {P : List Int} (hq : QD w2 r k n lv sv ws) (ho : OwnB w2 w.heap.size v P) (hb : Below w.heap.size w w2) (hr : r < w.heap.size) :
  QD (w2.setCell ⟨r, 3, none⟩ v) r k n lv v ws ∧ OwnB (w2.setCell ⟨r, 3, none⟩ v) w.heap.size v P ∧ Cf (· = r) w (w2.setCell ⟨r, 3, none⟩ v) := by
 refine ⟨hq.set3 v, ho.cfX (Cf.set w2 r 3 v) (fun g hg e => ?_), (Cf.of_below hb).trans (Cf.set w2 r 3 v) (fun _ _ e => e)⟩
 have := (ho.blk hg).1
 omega
theorem dtidyX (w : World) (r : Nat) (k : Int) (n : Nat) (lo : Option Addr) (N lc : Nat) (sv : Value) (ws : Int) (cs : List Cl) (h : QD w r k n (.slice lo N lc) sv ws) (hs : SlC w lo N lc cs) (hN : N ≤ 70000) :
  Calls Tryz.prog 50 #[.pointer (some ⟨r, 0, none⟩)] w fun e w' => e = .returned (.tuple #[]) ∧ Hid (∃ v, QD w' r k n (.slice lo N lc) v 0 ∧ OwnB w' w.heap.size v (shP k cs) ∧ Cf (· = r) w w') := by
 obtain ⟨c0, c1, c2, c3, c4⟩ := h.cells
 obtain ⟨sn, C⟩ : ∃ sn, (shP k cs).length = sn := ⟨_, rfl⟩
 have HT : Hid (∀ u, Below w.heap.size w u → Calls Tryz.prog 93 #[.int .i64 k, .slice lo N lc] u fun e w' => ∃ so sc, e = .returned (.slice so sn sc) ∧ w'.cell? ⟨r, 3, none⟩ = some sv ∧ w'.frozen? ⟨r, 3, none⟩ = false ∧ Hid (QD w' r k n (.slice lo N lc) sv ws ∧ OwnB w' w.heap.size (.slice so sn sc) (shP k cs) ∧ Below w.heap.size w w')) := zaa fun u hu => by
  refine (rshared_any k lo N lc cs u (hs.on hu) zq).mono ?_
  rintro e w' ⟨v, rfl, HO, HB⟩
  have hb := zae hu Lr HB.out
  have hq : QD w' r k n (.slice lo N lc) sv ws := zag h hb
  obtain ⟨so, sc, rfl⟩ := HO.out.shape
  rw [C] at HO ⊢
  exact ⟨so, sc, rfl, hq.cells.2.2.2.1, hq.free 3, zaa ⟨hq, HO.out.low hu.size, hb⟩⟩
 have B := zaa (zaf h)
 clear h hs
 go_enter Tryz.func50, Tryz.ntmps50
 go_upto_region 0 with fail
 go_cut [] from 2 to 13 (fun u => Hid (∃ v, QD u r k n (.slice lo N lc) v ws ∧ OwnB u w.heap.size v (shP k cs) ∧ Cf (· = r) w u))
 case first =>
  go_wp2_with fail
  go_region_with (first | (go_at_call 93; refine (HT.out _ zW1).mono ?_; rintro e w2 ⟨so, sc, rfl, y3, y4, A⟩))
  all_goals (try go_wp2_with fail)
  all_goals go_meet
  all_goals exact zaa ⟨_, tidy_cutX A.out.1 A.out.2.1 A.out.2.2 B.out⟩
 obtain ⟨w2, D⟩ : ∃ w2, w2 = wc := ⟨_, rfl⟩
 subst D
 obtain ⟨v, hq, ho, hc⟩ := hcut.out
 obtain ⟨d0, d1, d2, d3, d4⟩ := hq.cells
 have d5 := hq.free 4
 have HH := hcut
 go_wp2
 refine bodyPost_end (v := .tuple #[]) (by simp [results, Tryz.results50, go_sem]) rfl ?_
 refine ⟨rfl, zaa ⟨v, hq.set4 0, ho.cfX (Cf.set w2 r 4 _) (fun g hg e => ?_), hc.trans (Cf.set w2 r 4 _) (fun _ _ e => e)⟩⟩
 have h1 := (ho.blk hg).1
 have h2 := B.out
 omega
def D6 (w : World) (r : Nat) (k : Int) (n : Nat) (v : Value) : Prop := w.heap[r]? = some (.cells #[.int .i64 k, .int .i64 (n : Int), v] 90 (0, 0))
theorem D6.cells {w : World} {r : Nat} {k : Int} {n : Nat} {v : Value} (h : D6 w r k n v) : w.cell? ⟨r, 0, none⟩ = some (.int .i64 k) ∧ w.cell? ⟨r, 1, none⟩ = some (.int .i64 (n : Int)) ∧ w.cell? ⟨r, 2, none⟩ = some v := by
 unfold D6 at h
 refine ⟨?_, ?_, ?_⟩ <;> (rw [cell_of_row _ _ _ _ _ _ h]; rfl)
def ROp6 (l : List Int) (w : World) (e : Ending) (w' : World) : Prop :=
 ∃ p c, e = .returned (.tuple #[.pointer p, .int .i64 c]) ∧ Hid (Below w.heap.size w w') ∧ Hid ((p = none ∧ c = 60 ∧ ¬ ∃ cs, Is (l.getD 0 0) l.length cs l) ∨ ∃ r cs co cc, p = some ⟨r, 0, none⟩ ∧ c = 0 ∧ Is (l.getD 0 0) l.length cs l ∧ D6 w' r (l.getD 0 0) l.length (.slice co cs.length cc) ∧ OwnD w' w.heap.size (.slice co cs.length cc) cs)
theorem ropen6_any (ao : Option Addr) (n cap : Nat) (l : List Int) (w : World) (hs : Sl w ao n cap l) : Calls Tryz.prog 19 #[.slice ao n cap] w (ROp6 l w) := by
 have HD := zaa (rdec6o_any ao n cap l w hs)
 have B := zaa hs.hlen
 clear hs
 go_enter Tryz.func19, Tryz.ntmps19
 go_wp2_with (go_at_call 21; refine HD.out.mono ?_; rintro e w1 ⟨k, co, cn, cc, c, rfl, HB, HQ⟩; refine Hid.out ?_)
 apply zaa
 clear HD
 rcases HQ.out with ⟨rfl, rfl, rfl, rfl, rfl, h6⟩ | ⟨cs, rfl, hk, h3, h4, h5⟩
 ·have H6 := zaa h6
  clear HQ h6
  go_wp2
  go_ret2
  exact ⟨none, 60, rfl, HB, zaa (.inl ⟨rfl, rfl, H6.out⟩)⟩
 ·have A := h4.hlen
  have H3 := zaa (And.intro hk (And.intro h3 (And.intro A h5)))
  clear HQ hk h3 h4 h5 A
  go_wp2
  go_ret2
  obtain ⟨hk, h3, A, h5⟩ := H3.out
  subst hk A
  have hl := B.out
  subst hl
  exact ⟨_, 0, rfl, zaa (zab HB.out Lr _), zaa (.inr ⟨w1.heap.size, cs, co, cc, rfl, rfl, h3, heap_alloc_last w1 _, h5.on (zab Br Lr _)⟩)⟩
def ROp7 (l : List Int) (w : World) (e : Ending) (w' : World) : Prop :=
 ∃ p c, e = .returned (.tuple #[.pointer p, .int .i64 c]) ∧ Hid (Below w.heap.size w w') ∧ Hid ((p = none ∧ c = 60 ∧ ¬ ∃ cs, IsQ (l.getD 0 0) l.length cs l) ∨ ∃ r cs co cc sv, p = some ⟨r, 0, none⟩ ∧ c = 0 ∧ IsQ (l.getD 0 0) l.length cs l ∧ QD w' r (l.getD 0 0) l.length (.slice co cs.length cc) sv 0 ∧ OwnD w' w.heap.size (.slice co cs.length cc) cs ∧ OwnB w' w.heap.size sv (shP (l.getD 0 0) cs))
theorem ropen7_any (ao : Option Addr) (n cap : Nat) (l : List Int) (w : World) (hs : Sl w ao n cap l) : Calls Tryz.prog 20 #[.slice ao n cap] w (ROp7 l w) := by
 have HD := zaa (rdecQ_any ao n cap l w hs)
 have D := zaa hs.hlen
 clear hs
 go_enter Tryz.func20, Tryz.ntmps20
 go_wp2_with (go_at_call 22; refine HD.out.mono ?_; rintro e w1 ⟨k, co, cn, cc, c, rfl, HB, HQ⟩; refine Hid.out ?_)
 apply zaa
 clear HD
 rcases HQ.out with ⟨rfl, rfl, rfl, rfl, rfl, h6⟩ | ⟨cs, rfl, hk, A, h3, hw, h4, h5⟩
 ·have H6 := zaa h6
  clear HQ h6
  go_wp2
  go_ret2
  exact ⟨none, 60, rfl, HB, zaa (.inl ⟨rfl, rfl, H6.out⟩)⟩
 ·have hl := D.out
  have hN : cn ≤ 70000 := by
   have hp := zas h3.sz
   have h2 := zbj (l.getD 0 0) (shP (l.getD 0 0) cs).length cs
   have h3 := h3.fit
   omega
  obtain ⟨y, hy⟩ : ∃ y, w1.alloc (.cells #[.int .i64 k, .int .i64 (n : Int), .slice co cn cc, .slice none 0 0, .int .i64 0] 92) = y := ⟨_, rfl⟩
  obtain ⟨r, hr⟩ : ∃ r, w1.heap.size = r := ⟨_, rfl⟩
  have B : Below w1.heap.size w1 y := by rw [← hy]; exact zab Br Lr _
  have hq : QD y r k n (.slice co cn cc) (.slice none 0 0) 0 := by rw [← hy, ← hr]; exact heap_alloc_last w1 _
  have E := zaa (dtidyX y r k n co cn cc _ 0 cs hq (h4.on B) hN)
  have C : Hid (Below w1.heap.size w1 y) := zaa B
  have HR := zaa hr
  have H3 := zaa (And.intro hk (And.intro h3 (And.intro A h5)))
  clear HQ hk h3 h4 h5 A hw hN hq B hl
  go_wp2_with (go_at_call 50; refine E.out.mono ?_; rintro e w2 ⟨rfl, G⟩; refine Hid.out ?_)
  apply zaa
  clear E hy
  go_wp2
  go_ret2
  obtain ⟨hk, h3, A, h5⟩ := H3.out
  obtain ⟨v, q1, q2, q3⟩ := G.out
  have F : Below w1.heap.size w1 w2 := C.out.trans (q3.below C.out.size (fun k hk e => by have := HR.out; omega))
  subst hk A
  have hl := D.out
  subst hl
  exact ⟨_, 0, rfl, zaa (zae HB.out Lr F), zaa (.inr ⟨r, cs, co, cc, v, rfl, rfl, h3, q1, h5.on F, q2.low (zN HB.out.size C.out.size)⟩)⟩
def RX (w : World) (x : Nat) (l : List Int) (cs : List Cl) : Prop :=
 (egO l = 1 ∧ ∃ r co cc, w.heap[x]? = some (.cells #[.int .i64 1, .pointer (some ⟨r, 0, none⟩), .pointer none] 71 (0, 0)) ∧ D6 w r (l.getD 0 0) l.length (.slice co cs.length cc) ∧ OwnD w 0 (.slice co cs.length cc) cs) ∨
 (egO l = 2 ∧ ∃ r co cc sv, w.heap[x]? = some (.cells #[.int .i64 2, .pointer none, .pointer (some ⟨r, 0, none⟩)] 71 (0, 0)) ∧ QD w r (l.getD 0 0) l.length (.slice co cs.length cc) sv 0 ∧ OwnD w 0 (.slice co cs.length cc) cs ∧ OwnB w 0 sv (shP (l.getD 0 0) cs))
theorem OwnD.k3 {w w' : World} {B : Nat} {v : Value} {cs : List Cl} (h : OwnD w B v cs) (hk : Six.K3 w w') : OwnD w' B v cs := by
 obtain ⟨vs, h1, h2⟩ := h
 exact ⟨vs, Six.row_k3 h1 hk Six.c_ne6 Six.c_neX Six.c_neY, h2.keep (fun v l h => h.k3 hk)⟩
theorem OwnD.low0 {w : World} {B : Nat} {v : Value} {cs : List Cl} (h : OwnD w B v cs) : OwnD w 0 v cs := by
 obtain ⟨vs, h1, h2⟩ := h
 have go : ∀ {vs : List Value} {cs : List Cl}, R5B w B vs cs → R5B w 0 vs cs := by
  intro vs cs
  induction cs generalizing vs with
  | nil => intro h; exact h
  | cons c r ih =>
   rintro ⟨ka, kc, va, vc, t, rfl, g1, g2, g3⟩
   exact ⟨ka, kc, va, vc, t, rfl, g1.low (Nat.zero_le _), g2.low (Nat.zero_le _), ih g3⟩
 exact ⟨vs, ⟨h1.1, h1.2.imp id (fun ⟨g, cap, cur, e, _, r⟩ => ⟨g, cap, cur, e, Nat.zero_le _, r⟩)⟩, go h2⟩
theorem RX.k3 {w w' : World} {x : Nat} {l : List Int} {cs : List Cl} (h : RX w x l cs) (hk : Six.K3 w w') : RX w' x l cs := by
 rcases h with ⟨e, r, co, cc, h1, h2, h3⟩ | ⟨e, r, co, cc, sv, h1, h2, h3, h4⟩
 ·exact .inl ⟨e, r, co, cc, (hk.2 x _ _ _ h1 zd zd zd).trans h1, (hk.2 r _ _ _ h2 zd zd zd).trans h2, h3.k3 hk⟩
 ·exact .inr ⟨e, r, co, cc, sv, (hk.2 x _ _ _ h1 zd zd zd).trans h1, (hk.2 r _ _ _ h2 zd zd zd).trans h2, h3.k3 hk, h4.k3 hk⟩
theorem RX.on {w w' : World} {x : Nat} {l : List Int} {cs : List Cl} (h : RX w x l cs) (hb : Below w.heap.size w w') : RX w' x l cs := h.k3 (Six.K3.of_below hb)
theorem byte1 {w : World} {ao : Option Addr} {n cap : Nat} {l : List Int} (hs : Sl w ao n cap l) (h : ¬ n < 2) : ∃ g off, ao = some ⟨g, off, none⟩ ∧ w.cell? ⟨g, off + 1, none⟩ = some (.int .u8 (egO l)) ∧ 0 ≤ egO l ∧ egO l < 256 := by
 have A := hs.hlen
 have hb := hs.wf.getD 1
 rcases hs.hat with h0 | ⟨g, off, e, _, hc⟩
 ·omega
 ·refine ⟨g, off, e, ?_, ?_⟩
  ·unfold egO
   rw [if_neg zq]
   exact hc 1 zq
  ·unfold egO
   rw [if_neg zq]
   omega
theorem egO_0 {l : List Int} (h : l.length < 2) : egO l = 0 := by unfold egO; rw [if_pos h]
def ROpG (l : List Int) (w : World) (e : Ending) (w' : World) : Prop :=
 ∃ p, e = .returned (.tuple #[.pointer p, .int .i64 (cE l)]) ∧ Hid (Below w.heap.size w w') ∧ Hid ((p = none ∧ ¬ ∃ cs, Yes l cs) ∨ ∃ x, p = some ⟨x, 0, none⟩ ∧ Yes l (csE l) ∧ RX w' x l (csE l))
theorem ROpG.no {l : List Int} {w w' : World} (h : ¬ ∃ cs, Yes l cs) (hb : Below w.heap.size w w') : ROpG l w (.returned (.tuple #[.pointer none, .int .i64 60])) w' := ⟨none, by rw [(no_E h).2.1], zaa hb, zaa (.inl ⟨rfl, h⟩)⟩
theorem ROpG.yes {l : List Int} {cs : List Cl} {w w' : World} {x : Nat} (hy : Yes l cs) (h : RX w' x l cs) (hb : Below w.heap.size w w') : ROpG l w (.returned (.tuple #[.pointer (some ⟨x, 0, none⟩), .int .i64 0])) w' := by
 obtain ⟨q1, q2, q3, q4⟩ := yes_E hy
 exact ⟨_, by rw [q2], zaa hb, zaa (.inr ⟨x, rfl, by rw [q1]; exact hy, by rw [q1]; exact h⟩)⟩
theorem ropen8_any (ao : Option Addr) (n cap : Nat) (l : List Int) (w : World) (hs : Sl w ao n cap l) : Calls Tryz.prog 7 #[.slice ao n cap] w (ROpG l w) := by
 have B := hs.hlen
 have I := hs.hroom
 by_cases h : n < 2
 ·have hI : (n : Int) < 2 := zq
  have HN := zaa (yes_eg (l := l) (by rw [egO_0 zq]; omega) (by rw [egO_0 zq]; omega))
  clear hs B
  go_enter Tryz.func7, Tryz.ntmps7
  go_wp2
  go_ret2
  exact ROpG.no HN.out Br
 ·have hI : ¬ (n : Int) < 2 := zq
  have J : 1 < n := zq
  have H6 := zaa (ropen6_any ao n cap l w hs)
  have H7 := zaa (ropen7_any ao n cap l w hs)
  obtain ⟨g, off, rfl, hc, C, D⟩ := byte1 hs h
  have HE := zaa (yes_eg (l := l))
  have E := zaa (rfl : egO l = egO l)
  obtain ⟨x, hx⟩ : ∃ x, egO l = x := ⟨_, rfl⟩
  have HX := zaa hx
  rw [hx] at hc C D HE
  clear hs B hx h E
  by_cases F : x < 1
  ·clear H6 H7
   go_enter Tryz.func7, Tryz.ntmps7
   go_wp2
   go_ret2
   exact ROpG.no (HE.out zq zq) Br
  by_cases G : 2 < x
  ·clear H6 H7
   go_enter Tryz.func7, Tryz.ntmps7
   go_wp2
   go_ret2
   exact ROpG.no (HE.out zq zq) Br
  have H : x = 1 ∨ x = 2 := zq
  clear F G C D HE
  rcases H with rfl | rfl
  ·clear H7
   go_enter Tryz.func7, Tryz.ntmps7
   go_wp2_with (go_at_call 19; refine H6.out.mono ?_; rintro e w1 ⟨p, c, rfl, HB, HQ⟩; refine Hid.out ?_)
   apply zaa
   clear H6
   rcases HQ.out with ⟨rfl, rfl, h6⟩ | ⟨r, cs, co, cc, rfl, rfl, h3, h4, h5⟩
   ·have H6 := zaa h6
    clear HQ h6 hc
    go_wp2
    go_ret2
    exact ROpG.no (by rintro ⟨cs, ⟨e, h⟩ | ⟨e, h⟩⟩; exact H6.out ⟨cs, h⟩; have := HX.out; omega) HB.out
   ·have H3 := zaa (And.intro h3 (And.intro h4 h5))
    clear HQ h3 h4 h5 hc
    go_wp2
    go_ret2
    obtain ⟨h3, h4, h5⟩ := H3.out
    have A : Below w1.heap.size w1 (w1.alloc (.cells #[.int .i64 1, .pointer (some ⟨r, 0, none⟩), .pointer none] 71)) := zab Br Lr _
    exact ROpG.yes (.inl ⟨HX.out, h3⟩) (.inl ⟨HX.out, r, co, cc, heap_alloc_last w1 _, (A.block r (zaf h4)).trans h4, (h5.on A).low0⟩) (zae HB.out Lr A)
  ·clear H6
   go_enter Tryz.func7, Tryz.ntmps7
   go_wp2_with (go_at_call 20; refine H7.out.mono ?_; rintro e w1 ⟨p, c, rfl, HB, HQ⟩; refine Hid.out ?_)
   apply zaa
   clear H7
   rcases HQ.out with ⟨rfl, rfl, h6⟩ | ⟨r, cs, co, cc, sv, rfl, rfl, h3, h4, h5, h6⟩
   ·have H6 := zaa h6
    clear HQ h6 hc
    go_wp2
    go_ret2
    exact ROpG.no (by rintro ⟨cs, ⟨e, h⟩ | ⟨e, h⟩⟩; have := HX.out; omega; exact H6.out ⟨cs, h⟩) HB.out
   ·have H3 := zaa (And.intro h3 (And.intro h4 (And.intro h5 h6)))
    clear HQ h3 h4 h5 h6 hc
    go_wp2
    go_ret2
    obtain ⟨h3, h4, h5, h6⟩ := H3.out
    have A : Below w1.heap.size w1 (w1.alloc (.cells #[.int .i64 2, .pointer none, .pointer (some ⟨r, 0, none⟩)] 71)) := zab Br Lr _
    exact ROpG.yes (.inr ⟨HX.out, h3⟩) (.inr ⟨HX.out, r, co, cc, sv, heap_alloc_last w1 _, (A.block r (zaf h4)).trans h4, (h5.on A).low0, (h6.on Lr A).low (Nat.zero_le _)⟩) (zae HB.out Lr A)
def RDecG (l : List Int) (w : World) (e : Ending) (w' : World) : Prop :=
 ∃ co cc, e = .returned (.tuple #[.int .i64 (eE l), .int .i64 (kE l), .slice co (csE l).length cc, .int .i64 (cE l)]) ∧ Hid (Below w.heap.size w w') ∧ Hid (SlC w' co (csE l).length cc (csE l))
theorem RDecG.no {l : List Int} {w w' : World} (h : ¬ ∃ cs, Yes l cs) (hb : Below w.heap.size w w') : RDecG l w (.returned (.tuple #[.int .i64 0, .int .i64 0, .slice none 0 0, .int .i64 60])) w' := by
 obtain ⟨q1, q2, q3, q4⟩ := no_E h
 exact ⟨none, 0, by rw [q1, q2, q3, q4]; rfl, zaa hb, zaa (by rw [q1]; exact ⟨rfl, Lr, zv, fun _ => rfl, .inl rfl⟩)⟩
theorem RDecG.yes {l : List Int} {cs : List Cl} {w w' : World} {co : Option Addr} {cn cc : Nat} {x k : Int} (h : Yes l cs) (hx : egO l = x) (hk : k = l.getD 0 0) (hb : Below w.heap.size w w') (hg : SlC w' co cn cc cs) : RDecG l w (.returned (.tuple #[.int .i64 x, .int .i64 k, .slice co cn cc, .int .i64 0])) w' := by
 obtain ⟨q1, q2, q3, q4⟩ := yes_E h
 have hl := hg.hlen
 subst hl
 exact ⟨co, cc, by rw [q1, q2, q3, q4, hx, hk], zaa hb, zaa (by rw [q1]; exact hg)⟩
theorem rdecode8_any (ao : Option Addr) (n cap : Nat) (l : List Int) (w : World) (hs : Sl w ao n cap l) : Calls Tryz.prog 8 #[.slice ao n cap] w (RDecG l w) := by
 have A := hs.hlen
 have H := hs.hroom
 by_cases h : n < 2
 ·have hI : (n : Int) < 2 := zq
  have HN := zaa (yes_eg (l := l) (by rw [egO_0 zq]; omega) (by rw [egO_0 zq]; omega))
  clear hs A
  go_enter Tryz.func8, Tryz.ntmps8
  go_wp2
  (try simp only [Exit.inBlock, Exit.then])
  refine bodyPost_ret (zbw rfl _ _ _) rfl ?_
  exact RDecG.no HN.out Br
 ·have hI : ¬ (n : Int) < 2 := zq
  have I : 1 < n := zq
  have H6 := zaa (rdec6o_any ao n cap l w hs)
  have H7 := zaa (rdecQ_any ao n cap l w hs)
  obtain ⟨g, off, rfl, hc, B, C⟩ := byte1 hs h
  have HE := zaa (yes_eg (l := l))
  obtain ⟨x, hx⟩ : ∃ x, egO l = x := ⟨_, rfl⟩
  have HX := zaa hx
  rw [hx] at hc B C HE
  clear hs A hx h
  by_cases D : x < 1
  ·clear H6 H7
   go_enter Tryz.func8, Tryz.ntmps8
   go_wp2
   (try simp only [Exit.inBlock, Exit.then])
   refine bodyPost_ret (zbw rfl _ _ _) rfl ?_
   exact RDecG.no (HE.out zq zq) Br
  by_cases E : 2 < x
  ·clear H6 H7
   go_enter Tryz.func8, Tryz.ntmps8
   go_wp2
   (try simp only [Exit.inBlock, Exit.then])
   refine bodyPost_ret (zbw rfl _ _ _) rfl ?_
   exact RDecG.no (HE.out zq zq) Br
  have F : x = 1 ∨ x = 2 := zq
  clear D E B C HE
  rcases F with rfl | rfl
  ·clear H7
   go_enter Tryz.func8, Tryz.ntmps8
   go_wp2_with (go_at_call 21; refine H6.out.mono ?_; rintro e w1 ⟨k, co, cn, cc, c, rfl, HB, HQ⟩; refine Hid.out ?_)
   apply zaa
   clear H6
   rcases HQ.out with ⟨rfl, rfl, rfl, rfl, rfl, h6⟩ | ⟨cs, rfl, hk, h3, h4, h5⟩
   ·have H6 := zaa h6
    clear HQ h6 hc
    go_wp2
    (try simp only [Exit.inBlock, Exit.then])
    refine bodyPost_ret (zbw rfl _ _ _) rfl ?_
    exact RDecG.no (by rintro ⟨cs, ⟨e, h⟩ | ⟨e, h⟩⟩; exact H6.out ⟨cs, h⟩; have := HX.out; omega) HB.out
   ·have H3 := zaa (And.intro hk (And.intro h3 h4))
    clear HQ hk h3 h4 h5 hc
    go_wp2
    (try simp only [Exit.inBlock, Exit.then])
    refine bodyPost_ret (zbw rfl _ _ _) rfl ?_
    exact RDecG.yes (.inl ⟨HX.out, H3.out.2.1⟩) HX.out H3.out.1 HB.out H3.out.2.2
  ·clear H6
   go_enter Tryz.func8, Tryz.ntmps8
   go_wp2_with (go_at_call 22; refine H7.out.mono ?_; rintro e w1 ⟨k, co, cn, cc, c, rfl, HB, HQ⟩; refine Hid.out ?_)
   apply zaa
   clear H7
   rcases HQ.out with ⟨rfl, rfl, rfl, rfl, rfl, h6⟩ | ⟨cs, rfl, hk, G, h3, hw, h4, h5⟩
   ·have H6 := zaa h6
    clear HQ h6 hc
    go_wp2
    (try simp only [Exit.inBlock, Exit.then])
    refine bodyPost_ret (zbw rfl _ _ _) rfl ?_
    exact RDecG.no (by rintro ⟨cs, ⟨e, h⟩ | ⟨e, h⟩⟩; have := HX.out; omega; exact H6.out ⟨cs, h⟩) HB.out
   ·have H3 := zaa (And.intro hk (And.intro h3 h4))
    clear HQ hk G h3 hw h4 h5 hc
    go_wp2
    (try simp only [Exit.inBlock, Exit.then])
    refine bodyPost_ret (zbw rfl _ _ _) rfl ?_
    exact RDecG.yes (.inr ⟨HX.out, H3.out.2.1⟩) HX.out H3.out.1 HB.out H3.out.2.2
noncomputable def usX (l : List Int) (cs : List Cl) : Nat := if egO l = 1 then szN cs else szQ (l.getD 0 0) (shP (l.getD 0 0) cs).length cs
structure AsksP (w : World) (a : Nat) (l : List Int) (cs : List Cl) : Prop where
 len : Calls Tryz.prog 75 #[.pointer (some ⟨a, 0, none⟩)] w fun e w' => e = .returned (.int .i64 (cs.length : Int)) ∧ w' = w
 kind : Calls Tryz.prog 219 #[.pointer (some ⟨a, 0, none⟩)] w fun e w' => e = .returned (.int .i64 (l.getD 0 0)) ∧ w' = w
 used : Calls Tryz.prog 222 #[.pointer (some ⟨a, 0, none⟩)] w fun e w' => e = .returned (.int .i64 ((usX l cs : Nat) : Int)) ∧ Hid (Below w.heap.size w w')
 cell : ∀ x : Int, Calls Tryz.prog 216 #[.pointer (some ⟨a, 0, none⟩), .int .i64 x] w (CelO (cellE cs x) (remE cs x) w)
 bytes : Tab w → 1 < w.heap.size → Calls Tryz.prog 74 #[.pointer (some ⟨a, 0, none⟩)] w fun e w' => ∃ g, e = .returned (.slice (some ⟨g, 0, none⟩) l.length l.length) ∧ Hid (Sl w' (some ⟨g, 0, none⟩) l.length l.length l) ∧ Hid (Below w.heap.size w w')
structure AsksQ (w : World) (a : Nat) (l : List Int) (cs : List Cl) : Prop where
 len : Calls Tryz.prog 88 #[.pointer (some ⟨a, 0, none⟩)] w fun e w' => e = .returned (.int .i64 (cs.length : Int)) ∧ w' = w
 kind : Calls Tryz.prog 232 #[.pointer (some ⟨a, 0, none⟩)] w fun e w' => e = .returned (.int .i64 (l.getD 0 0)) ∧ w' = w
 used : Calls Tryz.prog 236 #[.pointer (some ⟨a, 0, none⟩)] w fun e w' => e = .returned (.int .i64 ((usX l cs : Nat) : Int)) ∧ Hid (Below w.heap.size w w')
 cell : ∀ x : Int, Calls Tryz.prog 229 #[.pointer (some ⟨a, 0, none⟩), .int .i64 x] w (CelO (cellE cs x) (remE cs x) w)
 bytes : Tab w → 1 < w.heap.size → Calls Tryz.prog 92 #[.pointer (some ⟨a, 0, none⟩)] w fun e w' => ∃ g, e = .returned (.slice (some ⟨g, 0, none⟩) l.length l.length) ∧ Hid (Sl w' (some ⟨g, 0, none⟩) l.length l.length l) ∧ Hid (Below w.heap.size w w')
theorem askP_of {w : World} {B a : Nat} {bo : Option Addr} {bn bc : Nat} {so : Option Addr} {sn sc : Nat} {l : List Int} {cs : List Cl} (he : egO l = 1) (hi : Is (l.getD 0 0) l.length cs l) (hw : ∀ d ∈ cs, d.Wf) (D : Wf l) (h : Po w B a (l.getD 0 0) l.length (.slice bo bn bc) (.slice so sn sc) cs) : AsksP w a l cs := by
 have hp := zas hi.sz
 have hf := hi.fit
 have hz := zaw cs
 have A := h.pg hw zq
 obtain ⟨E, F⟩ := A.sn_eq
 have hu : usX l cs = szN cs := by unfold usX; rw [if_pos he]
 have C : ∀ c ∈ cs, c.fit := fun c hc => (zcp hi.ok c hc).fit zq
 refine ⟨?_, ?_, ?_, fun x => cellO_any w B a _ _ _ _ cs x h hw C hf hp.2, fun ht h0 => ?_⟩
 ·rw [← E]
  exact lenR_any w a _ _ _ so sn sc h.row
 ·obtain ⟨p0, p1, p2, p3⟩ := h.row.cells
  generalize l.getD 0 0 = k at *
  clear h A hw C hi hf hu D
  go_enter Tryz.func219, Tryz.ntmps219
  go_wp2_with fail
  go_ret
  exact ⟨rfl, rfl⟩
 ·rw [hu]
  refine (used_row w a _ _ bo bn bc so sn sc h.row zq zq).mono ?_
  rintro e w' ⟨rfl, q, rfl⟩
  refine ⟨?_, zaa (zac Br _)⟩
  first
   | rfl
   | (congr 2; omega)
   | (rw [hz, E, F])
 ·refine (bytes_any w a _ _ bo bn bc so sn sc cs A hi.kd hi.sz hf ht h0 hw).mono ?_
  rintro e w' ⟨g, rfl, hg, HK, HB⟩
  rw [hi.eq] at HK
  exact ⟨g, rfl, zaa (Bk.sl HK.out rfl D zq), HB⟩
theorem askQ_of {w : World} {B a gp qn qc : Nat} {vb vs : Value} {l : List Int} {cs : List Cl} (he : egO l = 2) (hi : IsQ (l.getD 0 0) l.length cs l) (hw : ∀ d ∈ cs, d.Wf) (E : Wf l) (h : PO w B a (l.getD 0 0) l.length (some ⟨gp, 0, none⟩) qn qc vb vs 0 (shP (l.getD 0 0) cs) (qbd (shP (l.getD 0 0) cs).length (whl (l.getD 0 0)) cs) (qst (shP (l.getD 0 0) cs).length (whl (l.getD 0 0)) 0 cs)) : AsksQ w a l cs := by
 have hp := zas hi.sz
 have C := chk_fit hi.ok hi.sz
 have hz := zbj (l.getD 0 0) (shP (l.getD 0 0) cs).length cs
 have hf := hi.fit
 obtain ⟨bo, bc, so, sc, rfl, rfl, A⟩ := h.pg (qbd_wf _ _ _ fun c hc => ⟨hw c hc, C c hc⟩) zq (by rw [zbi]; omega)
 have D := layQ_of (zby (l.getD 0 0) cs) C
 have hu : usX l cs = szQ (l.getD 0 0) (shP (l.getD 0 0) cs).length cs := by unfold usX; rw [if_neg zq]
 have F := zbi (shP (l.getD 0 0) cs).length (whl (l.getD 0 0)) 0 cs
 have G : qn = (shP (l.getD 0 0) cs).length := h.pre.hlen.symm
 refine ⟨?_, kindW_any w a _ _ _ _ _ _ A.row, ?_, fun x => cellQ_any w a _ _ _ _ _ _ _ _ _ _ _ _ _ _ _ cs A D x, fun ht h0 => ?_⟩
 ·have := zcr w a _ _ _ _ _ _ _ _ _ _ _ _ _ _ _ A
  rw [F] at this
  exact this
 ·rw [hu]
  exact usedQ_any w a _ _ _ qn qc bo _ bc so _ sc A.row zq zq zq _ zq
 ·refine (bytesQ_any w a _ _ _ _ _ _ _ _ _ _ _ _ _ _ _ cs A D (chk_rs hi.ok) hi.kd hi.sz hf ht h0).mono ?_
  rintro e w' ⟨g, rfl, HK, HB⟩
  have h1 := HK.out.2
  rw [hi.eq] at h1
  exact ⟨g, rfl, zaa (h1.sl rfl E zq), HB⟩
def CelG (cs : List Cl) (w : World) (e : Ending) (w' : World) : Prop :=
 ∃ co cc, e = .returned (.slice co cs.length cc) ∧ Hid (Got w' w.heap.size w'.heap.size co cs.length cc cs) ∧ Hid (Below w.heap.size w w')
theorem ncellsX (w : World) (a : Nat) (v : Value) (l : List Int) (cs : List Cl) (hA : (v = iP a ∧ ∀ u, Below w.heap.size w u → AsksP u a l cs) ∨ (v = iQ a ∧ ∀ u, Below w.heap.size w u → AsksQ u a l cs)) (hn : cs.length ≤ 65536) :
  Calls Tryz.prog 25 #[v] w (CelG cs w) := by
 obtain ⟨ic, T, U, V, W⟩ := info_parts infoC
 obtain ⟨sn, G⟩ : ∃ sn, cs.length = sn := ⟨_, rfl⟩
 have A9 : sn ≤ 65536 := zq
 have A := zaa G
 unfold CelG
 rw [G]
 clear hn
 rcases hA with ⟨rfl, hA⟩ | ⟨rfl, hA⟩
 all_goals
  have X := zaa hA
  have H := zaa (hA w Br).len
  rw [G] at H
  clear G hA
  go_enter Tryz.func25, Tryz.ntmps25
  go_wp2_with (first
   | (go_at_call 75; refine zad H.out ?_)
   | (go_at_call 88; refine zad H.out ?_)
   | (at_make; refine wpList_make_full _ rfl _ _ 29 rfl w.heap.size 50 ic _ 5 Tryz.underlying29 T U V .i64 .i64 sn sn sn rfl rfl rfl rfl (by rw [W]; omega) zml Lr ?_; refine Hid.out ?_))
  apply zaa
  intro w2 L M
  have N : Below w.heap.size w w2 := Br.grown M Lr (fun k hk => by cases hk)
  obtain ⟨g, hg⟩ : ∃ g, w.heap.size = g := ⟨_, rfl⟩
  have O : Hid (RowC w2 g sn) := by
   rcases L.2 with ⟨h, _⟩ | ⟨q, c, cur, h, _, hh, _, _, Y, _⟩
   ·cases h
   ·cases h
    rw [← hg]
    exact zaa ⟨cur, hh, by rw [Y]; omega⟩
  have I : Below g w w2 := by rw [← hg]; exact N
  have Q := zaa I
  have Z := zaa hg
  have A0 : Hid (g ≤ w2.heap.size) := zaa (by rw [← hg]; exact I.size)
  rw [hg]
  clear L M N H I
  go_wp2_with fail
  go_loopw [4, 12, 15, 20] (fun s4 i s15 s20 wr => ∃ (j : Nat) (P : Nat → Nat), j ≤ sn ∧ i = .int .i64 j ∧ Hid (RowC wr g sn) ∧ Hid (Below g w wr) ∧ Hid (∀ i d, i < j → cs[i]? = some d → DGt wr (P i) (P (i + 1)) g (i * 5) d) ∧ Hid (g ≤ P 0 ∧ (∀ i, i < j → P i ≤ P (i + 1)) ∧ P j ≤ wr.heap.size)) (fun _ i _ _ _ => sn - (intOf i).toNat)
  case atStart => exact ⟨0, fun _ => g, zq, rfl, O, Q, zaa fun i d hi => zq, zaa ⟨Lr, fun i hi => zq, A0.out⟩⟩
  case round =>
   obtain ⟨j, P, hj, rfl, HR, HG, HD, HP⟩ := hrel
   have A1 : Hid (Below w.heap.size w wr) := zaa (by rw [Z.out]; exact HG.out)
   have bj : (j : Int) ≤ 65536 := zq
   clear O Q
   by_cases A2 : j < sn
   ·have A8 : (j : Int) < (sn : Int) := zq
    obtain ⟨d, hd⟩ : ∃ d, cs[j]? = some d := ⟨_, zI (by rw [A.out]; exact A2)⟩
    have A3 := zaa hd
    have B := (X.out wr A1.out).cell (j : Int)
    have e1 : cellE cs (j : Int) = d := by unfold cellE; rw [if_pos ⟨zq, by rw [A.out]; omega⟩, Int.toNat_natCast, hd]; rfl
    have e2 : remE cs (j : Int) = 0 := by unfold remE; rw [if_pos ⟨zq, by rw [A.out]; omega⟩]
    rw [e1, e2] at B
    have B := zaa B
    clear e1 e2
    clear hd
    go_wp2_with (first | (go_at_call 216; refine B.out.mono ?_; rintro e u2 ⟨ko, kc, vo, vc, rfl, D, C⟩; refine Hid.out ?_) | (go_at_call 229; refine B.out.mono ?_; rintro e u2 ⟨ko, kc, vo, vc, rfl, D, C⟩; refine Hid.out ?_))
    apply zaa
    have E : Hid (RowC u2 g sn) := zaa (HR.out.on C.out)
    have R : Hid (Below g w u2) := zaa (HG.out.trans (C.out.mono (Nat.le_of_lt HR.out.lt)))
    have K : Hid (wr.heap.size ≤ u2.heap.size) := zaa C.out.size
    clear B
    go_wp2_with (refine put_cell zr _ _ zr g (j * 5) sn ko vo d.key.length kc d.val.length vc d.kd d.pg d.ct E.out zr zr zq ?_; intro u3 F; refine Hid.out ?_)
    apply zaa
    have A4 : Hid (RowC u3 g sn) := zaa (by rw [F.out]; exact RowC.sets _ _ _ E.out)
    have A5 : Hid (Below g w u3) := zaa (by
     rw [F.out]
     simp only [World.setCells]
     refine ((((R.out.setCell ?_ _).setCell ?_ _).setCell ?_ _).setCell ?_ _).setCell ?_ _ <;> simp)
    obtain ⟨P3, J⟩ : ∃ P3 : Nat → Nat, P3 = fun i => if i ≤ j then P i else u2.heap.size := ⟨_, rfl⟩
    have A6 : Hid (g ≤ P3 0 ∧ (∀ i, i < j + 1 → P3 i ≤ P3 (i + 1)) ∧ P3 (j + 1) ≤ u3.heap.size) := zaa (by
     obtain ⟨q1, q2, q3⟩ := HP.out
     have q4 := K.out
     rw [J]
     refine ⟨by simpa using q1, fun i hi => ?_, ?_⟩
     ·by_cases e : i = j
      ·simp only [e, Nat.le_refl, if_true, show ¬ j + 1 ≤ j by omega, if_false]
       omega
      ·simp only [show i ≤ j by omega, show i + 1 ≤ j by omega, if_true]
       exact q2 i zq
     ·simp only [show ¬ j + 1 ≤ j by omega, if_false]
      rw [F.out, sets_size7]
      exact Lr)
    have A7 : Hid (∀ i d, i < j + 1 → cs[i]? = some d → DGt u3 (P3 i) (P3 (i + 1)) g (i * 5) d) := by
     refine zaa fun i d' hi hd' => ?_
     rw [F.out, J]
     by_cases e : i = j
     ·subst e
      rw [A3.out] at hd'
      injection hd' with hd'
      subst hd'
      simp only [Nat.le_refl, if_true, show ¬ i + 1 ≤ i by omega, if_false]
      have hp := HP.out.2.2
      exact DGt.new E.out zq (D.out.1.low hp) (D.out.2.1.low hp) Lr D.out.2.2
     ·simp only [show i ≤ j by omega, show i + 1 ≤ j by omega, if_true]
      exact ((HD.out i d' zq hd').on HR.out.lt C.out).put E.out zq
    clear J
    clear F E R HR HG HD D C HP K
    go_wp2
    go_roundw
    case rel => exact ⟨j + 1, P3, zq, by go_num, A4, A5, A7, A6⟩
    case measure => simp [intOf]; omega
   ·obtain rfl : j = sn := zq
    have B0 : ¬ (j : Int) < (j : Int) := zq
    go_wp2
    go_ret
    refine ⟨some ⟨g, 0, none⟩, j, rfl, zaa ⟨P, ⟨A.out.symm, .inr ⟨g, rfl, rfl, ⟨by rw [A.out]; exact HR.out, Lr, HP.out.1, by rw [A.out]; exact HP.out.2.1, by rw [A.out]; exact HP.out.2.2, fun i d hd => HD.out i d (by have := (zH.1 hd).1; have := A.out; omega) hd⟩⟩⟩, HP.out.2.2, fun z hz => by injection hz with hz; rw [← hz]; exact ⟨Lr, HR.out.lt⟩⟩, HG⟩
def kyL (cs : List Cl) (i : Nat) : List Int := ((cs[i]?).map (·.key)).getD []
theorem kyL_at {cs : List Cl} {i : Nat} {c : Cl} (h : cs[i]? = some c) : kyL cs i = c.key := by unfold kyL; rw [h]; rfl
theorem key_any (w : World) (a : Nat) (k : Int) (n : Nat) (bo : Option Addr) (bn bc : Nat) (so : Option Addr) (sn sc : Nat) (cs : List Cl) (h : PgAt w a k n bo bn bc so sn sc cs) (C : ∀ c ∈ cs, c.fit) (i : Nat) (hi : i < cs.length) (hsz : bn ≤ 65536) :
  Calls Tryz.prog 228 #[.pointer (some ⟨a, 0, none⟩), .int .i64 (i : Int)] w fun e w' => ∃ ko kn kc, e = .returned (.slice ko kn kc) ∧ Hid (Sl w' ko kn kc (kyL cs i)) ∧ Hid (Below w.heap.size w w') := by
 have A : cs[i]? = some (cs[i]'hi) := zI hi
 have B := zaa (keyAt_any w a k n bo bn bc so sn sc cs h C i _ A hsz)
 rw [← kyL_at A] at B
 obtain ⟨D, _⟩ := h.sn_eq
 obtain ⟨c0, c1, c2, c3⟩ := h.cells
 obtain ⟨g, off, rfl, cI⟩ : ∃ g off, so = some ⟨g, off, none⟩ ∧ w.cell? ⟨g, off + i, none⟩ = some (.int .i64 (((sts 0 cs).getD i 0 : Nat) : Int)) := by
  rcases h.starts.hat with h0 | ⟨g, off, e, _, hc⟩
  ·omega
  ·exact ⟨g, off, e, hc i zq⟩
 have E : (i : Int) < (sn : Int) := zq
 have F : i < sn := zq
 generalize (sts 0 cs).getD i 0 = r at *
 clear h D A
 go_enter Tryz.func228, Tryz.ntmps228
 go_wp2_with (go_at_call 226; refine B.out.mono ?_; rintro e w1 ⟨k1, k2, k3, rfl, H1, H2⟩)
 go_ret
 exact ⟨k1, k2, k3, rfl, H1, H2⟩
def putE (k : Int) (n : Nat) (cs : List Cl) (i j : Nat) (c : Cl) : Int :=
 if ¬ mayP k n c then 62 else if (0 < i ∧ ¬ kl (kyL cs (i - 1)) c.key) ∨ (j < cs.length ∧ ¬ kl c.key (kyL cs j)) then 63 else if n < szN (cs.take i ++ [c] ++ cs.drop j) then 61 else 0
def badO (cs : List Cl) (i j : Nat) (key : List Int) : Prop := (0 < i ∧ ¬ kl (kyL cs (i - 1)) key) ∨ (j < cs.length ∧ ¬ kl key (kyL cs j))
def PuTo (w : World) (B a : Nat) (k : Int) (n : Nat) (vb vs : Value) (cs new : List Cl) (r : Int) (e : Ending) (w' : World) : Prop :=
 e = .returned (.int .i64 r) ∧ Hid (∃ vb' vs', Po w' B a k n vb' vs' (if r = 0 then new else cs) ∧ (vb'.ownBlock = vb.ownBlock ∨ ∃ g, vb'.ownBlock = some g ∧ w.heap.size ≤ g) ∧ (vs'.ownBlock = vs.ownBlock ∨ ∃ g, vs'.ownBlock = some g ∧ w.heap.size ≤ g)) ∧ Hid (Cf (PZ a vb vs) w w')
theorem PuTo.same {w w' : World} {B a : Nat} {k : Int} {n : Nat} {vb vs : Value} {cs new : List Cl} {r : Int} (hp : Po w B a k n vb vs cs) (hb : Below w.heap.size w w') (hr : r ≠ 0) : PuTo w B a k n vb vs cs new r (.returned (.int .i64 r)) w' :=
 ⟨rfl, zaa ⟨vb, vs, by rw [if_neg hr]; exact hp.on hb, .inl rfl, .inl rfl⟩, zaa (Cf.of_below hb)⟩
structure OrdC (u1 : World) (s a : Nat) (ka : Option Addr) (kn kc : Nat) (key : List Int) (cs : List Cl) (i j sn : Nat) : Prop where
 box : ∀ y, Below u1.heap.size u1 y → y.cell? ⟨s, 0, none⟩ = some (.slice ka kn kc)
 ck : ∀ y, Below u1.heap.size u1 y → Sl y ka kn kc key
 len : ∀ y, Below u1.heap.size u1 y → Calls Tryz.prog 75 #[.pointer (some ⟨a, 0, none⟩)] y fun e y' => e = .returned (.int .i64 (sn : Int)) ∧ Hid (Below u1.heap.size u1 y')
 ki : ∀ t : Nat, i = t + 1 → ∀ y, Below u1.heap.size u1 y → Calls Tryz.prog 228 #[.pointer (some ⟨a, 0, none⟩), .int .i64 (t : Int)] y fun e y' => ∃ ko kn kc, e = .returned (.slice ko kn kc) ∧ Hid (Sl y' ko kn kc (kyL cs t)) ∧ Hid (Below u1.heap.size u1 y')
 kj : j < sn → ∀ y, Below u1.heap.size u1 y → Calls Tryz.prog 228 #[.pointer (some ⟨a, 0, none⟩), .int .i64 (j : Int)] y fun e y' => ∃ ko kn kc, e = .returned (.slice ko kn kc) ∧ Hid (Sl y' ko kn kc (kyL cs j)) ∧ Hid (Below u1.heap.size u1 y')
def insE (k : Int) (n : Nat) (cs : List Cl) (x : Int) (c : Cl) : Int := if 0 ≤ x ∧ x ≤ (cs.length : Int) then putE k n cs x.toNat x.toNat c else 64
end Go.Proofs.YtbkhjeacmmbabaaGreatDoor
