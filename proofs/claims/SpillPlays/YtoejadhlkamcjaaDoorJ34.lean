import Derived.Test.YtoejadhlkamcjaaDoorJ33
namespace Go.Proofs.YtoejadhlkamcjaaDoor
set_option maxRecDepth 100000
open Go.RowKit Go.Maps
theorem bl_drw9 {B : Nat} {w w' : World} (h : Below B w w') (q : Nat) : Below B w (w'.drewN q) := ⟨h.os, h.tape, h.output, h.size, h.block⟩
set_option maxHeartbeats 2000000 in
theorem same9 (w : World) (ao bo : Option Addr) (n c c2 : Nat) (l : List Int) (ha : SlJ w ao n c l) (hb : SlJ w bo n c2 l) (hn : n ≤ 4294967296) :
  Calls Tryd.prog 25 #[.slice ao n c, .slice bo n c2] w fun e u => e = .returned (.bool true) ∧ Hid (Below w.heap.size w u) := by
 have HA := hidden ha
 have HB := hidden hb
 have hnI : (n : Int) ≤ 4294967296 := by omega
 have hca := ha.hcap
 have hcb := hb.hcap
 clear ha hb
 go_enter Tryd.func25, Tryd.ntmps25
 go_wp2_with fail
 go_loopw [5] (fun i wr => ∃ j : Nat, j ≤ n ∧ i = .int .i64 (j : Int) ∧ Hid (Below w.heap.size w wr)) (fun i _ => n - (intOf i).toNat)
 case atStart => exact ⟨0, by omega, rfl, hidden (Below.refl _ _)⟩
 case round =>
  obtain ⟨j, hj, rfl, HW⟩ := hrel
  by_cases hlt : j < n
  ·have hltI : (j : Int) < (n : Int) := by omega
   obtain ⟨g1, rfl, hg1, hc1⟩ : ∃ b, ao = some ⟨b, 0, none⟩ ∧ b < w.heap.size ∧ ∀ i, i < n → w.cell? ⟨b, i, none⟩ = some (.int .i64 (l.getD i 0)) := by
    rcases HA.out.hat with h | h
    ·omega
    ·exact h
   obtain ⟨g2, rfl, hg2, hc2⟩ : ∃ b, bo = some ⟨b, 0, none⟩ ∧ b < w.heap.size ∧ ∀ i, i < n → w.cell? ⟨b, i, none⟩ = some (.int .i64 (l.getD i 0)) := by
    rcases HB.out.hat with h | h
    ·omega
    ·exact h
   have d1 : wr.cell? ⟨g1, j, none⟩ = some (.int .i64 (l.getD j 0)) := (HW.out.cell (p := ⟨g1, j, none⟩) hg1).trans (hc1 j hlt)
   have d2 : wr.cell? ⟨g2, j, none⟩ = some (.int .i64 (l.getD j 0)) := (HW.out.cell (p := ⟨g2, j, none⟩) hg2).trans (hc2 j hlt)
   obtain ⟨y, hy⟩ : ∃ y, l.getD j 0 = y := ⟨_, rfl⟩
   rw [hy] at d1 d2
   have eY : (y == y) = true := by simp
   have eN : (y != y) = false := by simp
   clear hc1 hc2 hy hg1 hg2
   go_wp2_with fail
   go_quiet (fail)
   go_wp2
   go_roundw
   case rel => exact ⟨j + 1, by omega, by go_num, hidden (bl_drw9 HW.out _)⟩
   case measure => simp [intOf]; omega
  ·obtain rfl : j = n := by omega
   have hlI : ¬ (j : Int) < (j : Int) := by omega
   go_wp2
   go_ret
   exact ⟨rfl, HW⟩
variable {w u y w1 : World} {B x b m b2 m2 P T : Nat} {rd rd2 : Int} {M N : Int → Option Pf} {ct ct2 : Nat} {K : Nat → Prop} {rb : Nat → Value} {R : Nat → List Value}
def fsN (FL : List Int) (f : Int) : Int := if 0 ≤ f ∨ FL = [] then f else FL.getD ((-(f + 1)) % (FL.length : Int)).toNat 0
theorem fsN_wf {FL : List Int} {f : Int} (hF : ∀ a ∈ FL, 2 ≤ a ∧ a < 65536) (hf : (Lit.int .i64 f).wf = true) : (Lit.int .i64 (fsN FL f)).wf = true := by
 unfold fsN
 split
 ·exact hf
 ·rename_i h
  by_cases e : ((-(f + 1)) % (FL.length : Int)).toNat < FL.length
  ·have := hF _ (getD_mem e)
   exact wf64 _ (by omega) (by omega)
  ·rw [show FL.getD ((-(f + 1)) % (FL.length : Int)).toNat 0 = 0 from by rw [List.getD_eq_getElem?_getD, List.getElem?_eq_none (Nat.not_lt.1 e)]; rfl]
   exact wf64 _ (by omega) (by omega)
abbrev opV (k f n fr to : Int) (vo : Option Addr) (vn vc : Nat) : Value := .agg #[.int .i64 k, .int .i64 f, .int .i64 n, .int .i64 fr, .int .i64 to, .slice vo vn vc]
set_option maxHeartbeats 2000000 in
theorem first9 (h : Sq9 w B x b m b2 m2 P T rd rd2 M N ct ct2 K rb R) (FL : List Int) (h0 : R 0 = IV FL) (hFL : FL.length ≤ 4000000) (k f n fr to : Int) (vo : Option Addr) (vn vc : Nat) (hf : -9223372036854775808 ≤ f ∧ f ≤ 9223372036854775807) :
  Calls Tryd.prog 19 #[.pointer (some ⟨x, 0, none⟩), opV k f n fr to vo vn vc] w fun e u => e = .returned (.int .i64 (fsN FL f)) ∧ Hid (Below w.heap.size w u) := by
 have hxl := lt_some h.row
 obtain ⟨z, hz⟩ : ∃ z, w.alloc (.cells #[.int .i64 k, .int .i64 f, .int .i64 n, .int .i64 fr, .int .i64 to, .slice vo vn vc] 35) = z := ⟨_, rfl⟩
 have hbz : Below w.heap.size w z := by rw [← hz]; exact bl_al (Below.refl _ _) (Nat.le_refl _) _
 obtain ⟨s, hs⟩ : ∃ s, w.heap.size = s := ⟨_, rfl⟩
 have c1 : z.cell? ⟨s, 1, none⟩ = some (.int .i64 f) := by rw [← hz, ← hs]; simp
 have hoo := (h.on hbz).oo 0 (by omega)
 have cx : z.cell? ⟨x, 2, none⟩ = some (rb 0) := by simp [World.cell?, (h.on hbz).row, rowX]
 obtain ⟨fo, fc, e0, hfc⟩ := row_slice hoo
 rw [h0] at e0 hfc
 have hl : (IV FL).length = FL.length := by simp [IV]
 rw [hl] at e0 hfc
 rw [e0] at cx
 obtain ⟨q, hq⟩ : ∃ q, FL.length = q := ⟨_, rfl⟩
 have HQL := hidden hq
 rw [hq] at cx hfc hFL
 have HBZ : Hid (Below w.heap.size w z) := hidden hbz
 have qI : (q : Int) ≤ 4000000 := by omega
 by_cases c0 : 0 ≤ f
 ·have e1 : decide (0 ≤ f) = true := by simpa using c0
  have HX : Hid (fsN FL f = f) := hidden (by unfold fsN; rw [if_pos (.inl c0)])
  clear h h0 hoo e0 hfc hbz hl hq c0
  go_enter Tryd.func19, Tryd.ntmps19
  go_wp2
  go_ret
  rw [HX.out]
  exact ⟨rfl, by first | exact HBZ | (rw [hs] at HBZ; exact HBZ) | (rw [← hs]; exact HBZ)⟩
 ·have e1 : decide (0 ≤ f) = false := by simpa using c0
  by_cases q0 : q = 0
  ·have HX : Hid (fsN FL f = f) := hidden (by unfold fsN; rw [if_pos (.inr (List.eq_nil_of_length_eq_zero (by omega)))])
   subst q0
   clear h h0 hoo e0 hfc hbz hl hq
   go_enter Tryd.func19, Tryd.ntmps19
   go_wp2
   go_ret
   rw [HX.out]
   exact ⟨rfl, by first | exact HBZ | (rw [hs] at HBZ; exact HBZ) | (rw [← hs]; exact HBZ)⟩
  ·have eq0 : ((q : Int) == 0) = false := by rw [beq_eq_false_iff_ne]; omega
   have nq0 : ¬ (q : Int) = 0 := by omega
   obtain ⟨d, hd⟩ : ∃ d : Nat, (-(f + 1)) % (q : Int) = (d : Int) := ⟨((-(f + 1)) % (q : Int)).toNat, by
    have := Int.emod_nonneg (-(f + 1)) nq0
    omega⟩
   have hdq : d < q := by
    have := Int.emod_lt_of_pos (-(f + 1)) (show 0 < (q : Int) by omega)
    omega
   have hdI : (d : Int) < (q : Int) := by omega
   have htm : Int.tmod (-(f + 1)) (q : Int) = (d : Int) := by rw [Int.tmod_eq_emod_of_nonneg (by omega)]; exact hd
   have htm2 : Int.tmod (-1 - f) (q : Int) = (d : Int) := by rw [show -1 - f = -(f + 1) by omega]; exact htm
   have htm3 : Int.tmod (-f - 1) (q : Int) = (d : Int) := by rw [show -f - 1 = -(f + 1) by omega]; exact htm
   have htm4 : Int.tmod (-f + -1) (q : Int) = (d : Int) := by rw [show -f + -1 = -(f + 1) by omega]; exact htm
   have w1 : IntKind.i64.wrap (f + 1) = f + 1 := by rw [IntKind.wrap_i64]; omega
   have w2 : IntKind.i64.wrap (-(f + 1)) = -(f + 1) := by rw [IntKind.wrap_i64]; omega
   have w3 : IntKind.i64.wrap (d : Int) = (d : Int) := by rw [IntKind.wrap_i64]; omega
   obtain ⟨gb, rfl, hgc, hgl⟩ : ∃ g, fo = some ⟨g, 0, none⟩ ∧ q ≤ fc ∧ ∀ (t : Nat) (u : Value), (IV FL)[t]? = some u → z.cell? ⟨g, t, none⟩ = some u := by
    rcases hfc with h | h
    ·omega
    ·exact h
   have HX : Hid (fsN FL f = FL.getD d 0) := hidden (by
    unfold fsN
    rw [if_neg (by rintro (e | e); exact c0 e; rw [e] at hq; simp at hq; omega), hq, hd]
    rfl)
   have cd : z.cell? ⟨gb, d, none⟩ = some (.int .i64 (FL.getD d 0)) := hgl d _ (by
    unfold IV
    rw [List.getElem?_map, List.getElem?_eq_getElem (show d < FL.length by omega)]
    simp [List.getD, show d < FL.length by omega])
   obtain ⟨v, hv⟩ : ∃ v, FL.getD d 0 = v := ⟨_, rfl⟩
   rw [hv] at cd HX
   clear h h0 hoo e0 hfc hbz hl hq hgl hd hv
   go_enter Tryd.func19, Tryd.ntmps19
   go_wp2_with fail
   go_quiet (fail)
   go_wp2
   go_ret
   rw [HX.out]
   exact ⟨rfl, hidden (by first | exact bl_drw9 HBZ.out _ | (rw [hs] at HBZ; exact bl_drw9 HBZ.out _))⟩
end Go.Proofs.YtoejadhlkamcjaaDoor

namespace Go.Proofs.YtoejadhlkamcjaaDoor
set_option maxRecDepth 100000
open Go.RowKit Go.Maps
def LayTo9 (w : World) (b m : Nat) (en pg ps rd : Int) (M : Int → Option Pf) (ct : Nat) (n : Int) (d : List Int) (u : World) : Prop :=
 (¬ (2 ≤ n ∧ n < ps) ∧ u = w) ∨ ((2 ≤ n ∧ n < ps) ∧ ∃ f : Pf, f.l = d ∧ w.heap.size ≤ f.g ∧ Bn u b m en pg ps rd (putM M n f) (if (M n).isSome then ct else ct + 1) ∧ Cf (· = m) w u)
theorem blay_any {w : World} {b m : Nat} {en pg ps rd : Int} {M : Int → Option Pf} {ct : Nat} (h : Bn w b m en pg ps rd M ct) (n : Int) (hn : (Lit.int .i64 n).wf = true) (ao : Option Addr) (dn dc : Nat) (d : List Int) (hd : Sl w ao dn dc d) (hct : ct < 1000000) :
  Calls Tryd.prog 27 #[pB b, .int .i64 n, .slice ao dn dc] w fun e u => ∃ k, e = .returned (.int .i64 k) ∧ Hid (LayTo9 w b m en pg ps rd M ct n d u) := by
 obtain ⟨c0, c1, c2, c3, c4, f4⟩ := h.cells
 by_cases h1 : n < 2
 ·have e1 : decide (n < 2) = true := by simpa using h1
  have HF : Hid (LayTo9 w b m en pg ps rd M ct n d w) := hidden (.inl ⟨by omega, rfl⟩)
  clear h hd
  go_enter Tryd.func27, Tryd.ntmps27
  go_wp2
  go_ret
  first | exact ⟨_, rfl, HF⟩ | exact ⟨⟨_, rfl⟩, HF⟩
 ·have e1 : decide (n < 2) = false := by simpa using h1
  by_cases h2 : ps ≤ n
  ·have e2 : decide (ps ≤ n) = true := by simpa using h2
   have HF : Hid (LayTo9 w b m en pg ps rd M ct n d w) := hidden (.inl ⟨by omega, rfl⟩)
   clear h hd
   go_enter Tryd.func27, Tryd.ntmps27
   go_wp2
   go_ret
   first | exact ⟨_, rfl, HF⟩ | exact ⟨⟨_, rfl⟩, HF⟩
  ·have e2 : decide (ps ≤ n) = false := by simpa using h2
   have hr := hd.hroom
   have hmk := made_run dn (by omega)
   have hrI : (dn : Int) ≤ 140737488355328 := by omega
   obtain ⟨y, hy⟩ : ∃ y, (w.drew).alloc (.cells (madeCells #[.int .u8 0] dn) 5) = y := ⟨_, rfl⟩
   have hwy : Below w.heap.size w y := by rw [← hy]; exact bl_al (Below.refl _ w).drew (Nat.le_refl _) _
   have HO : Hid (OwnB y w.heap.size (.slice (some ⟨w.heap.size, 0, none⟩) 0 dn) []) := hidden (by rw [← hy]; exact made_own w.drew _ (by omega))
   have HSY : Hid (Sl y ao dn dc d) := hidden (hd.on (Nat.le_refl _) hwy)
   have HWY := hidden hwy
   have c3y := (h.on hwy).cells.c3
   have hys : w.heap.size ≤ y.heap.size := hwy.size
   have HB := hidden h
   have HD := hidden hd
   have HDL := hidden hd.hlen
   have HP : Hid (2 ≤ n ∧ n < ps) := hidden (by omega)
   clear h hd hwy
   go_enter Tryd.func27, Tryd.ntmps27
   go_wp2_with fail
   go_region_law (first
    | (refine step_sl rfl _ _ rfl w.heap.size [] d _ ao dn dc rfl rfl HO.out HSY.out (by simp; omega) hys ?_; intro v' u ho hg; obtain ⟨c3u, f2, rfl, u2, hst, HX⟩ := new_store HB.out n hn hct HWY.out HO.out ho hg HD.out.wf (by rw [HDL.out]; exact hr); clear ho hg))
   all_goals
    clear hst hmk
    go_wp2
    go_ret
    first | exact ⟨_, rfl, hidden (.inr ⟨HP.out, f2, HX.out⟩)⟩ | exact ⟨⟨_, rfl⟩, hidden (.inr ⟨HP.out, f2, HX.out⟩)⟩
theorem reads_any {w : World} {b m : Nat} {en pg ps rd : Int} {M : Int → Option Pf} {ct : Nat} (h : Bn w b m en pg ps rd M ct) : Calls Tryd.prog 29 #[pB b] w fun e u => e = .returned (.int .i64 rd) ∧ u = w := by
 obtain ⟨c0, c1, c2, c3, c4, f4⟩ := h.cells
 clear h
 go_enter Tryd.func29, Tryd.ntmps29
 go_wp2
 go_ret
 exact ⟨rfl, rfl⟩
end Go.Proofs.YtoejadhlkamcjaaDoor

namespace Go.Proofs.YtoejadhlkamcjaaDoor
set_option maxRecDepth 100000
open Go.RowKit Go.Maps
variable {w u y w1 : World} {B x b m b2 m2 P T : Nat} {rd rd2 rd' : Int} {M N : Int → Option Pf} {ct ct2 : Nat} {K : Nat → Prop} {rb : Nat → Value} {R : Nat → List Value}
def Rs9 (w : World) (B x b m b2 m2 P T : Nat) (rd : Int) (K : Nat → Prop) (rb : Nat → Value) (R : Nat → List Value) (u : World) : Prop :=
 ∃ rd' M' N' ct' K', Sq9 u B x b m b2 m2 P T rd' rd' M' N' ct' ct' K' rb R ∧ con M' = con N' ∧ (∀ k, K k → K' k) ∧ Cf (Mu x b m b2 m2 rb) w u ∧ rd ≤ rd' ∧ rd' ≤ rd + 66000
theorem Sq9.readr (h : Sq9 w B x b m b2 m2 P T rd rd2 M N ct ct2 K rb R) (hr : Bn u b m 2 (P : Int) ((T : Int) + 2) rd' M ct) (hc : Cf (fun k => k = b ∨ k = m) w u) : Sq9 u B x b m b2 m2 P T rd' rd2 M N ct ct2 K rb R := by
 have g := h.actr hr hc h.gM (Zs.refl _ _)
 exact ⟨g.row, g.br, g.bd, g.gM, g.gN, h.zM, h.zN, fun k hk => g.kl k (.inl hk), g.oo, g.d1, g.d2, g.d3, g.hB⟩
theorem Sq9.readd (h : Sq9 w B x b m b2 m2 P T rd rd2 M N ct ct2 K rb R) (hr : Bn u b2 m2 2 (P : Int) ((T : Int) + 2) rd' N ct2) (hc : Cf (fun k => k = b2 ∨ k = m2) w u) : Sq9 u B x b m b2 m2 P T rd rd' M N ct ct2 K rb R := by
 have g := h.actd hr hc h.gN (Zs.refl _ _)
 exact ⟨g.row, g.br, g.bd, g.gM, g.gN, h.zM, h.zN, fun k hk => g.kl k (.inl hk), g.oo, g.d1, g.d2, g.d3, g.hB⟩
theorem Mu_r (k : Nat) (e : k = b ∨ k = m) : Mu x b m b2 m2 rb k := .inl (e.elim (fun e => .inr (.inl e)) fun e => .inr (.inr (.inl e)))
theorem Mu_d (k : Nat) (e : k = b2 ∨ k = m2) : Mu x b m b2 m2 rb k := .inl (e.elim (fun e => .inr (.inr (.inr (.inl e)))) fun e => .inr (.inr (.inr (.inr e))))
theorem Sq9.cells (h : Sq9 w B x b m b2 m2 P T rd rd2 M N ct ct2 K rb R) : w.cell? ⟨x, 0, none⟩ = some (pB b) ∧ w.cell? ⟨x, 1, none⟩ = some (pB b2) := by
 constructor <;> simp [World.cell?, h.row, rowX]
def PgTo (w : World) (B x b m b2 m2 P T : Nat) (rd : Int) (M N : Int → Option Pf) (ct : Nat) (K : Nat → Prop) (rb : Nat → Value) (R : Nat → List Value) (v : Value) (pn : Nat) (l : List Int) (u : World) : Prop :=
 OwnB u w.heap.size v l ∧ Wf l ∧ l.length = pn ∧ l.length ≤ 140737488355328 ∧ ∃ rd', Sq9 u B x b m b2 m2 P T rd' rd' M N ct ct K rb R ∧ Cf (Mu x b m b2 m2 rb) w u ∧ rd ≤ rd' ∧ rd' ≤ rd + 1
set_option maxHeartbeats 1000000 in
theorem page9 (h : Sq9 w B x b m b2 m2 P T rd rd M N ct ct K rb R) (hc : con M = con N) (n : Int) (hn : (Lit.int .i64 n).wf = true) (hrd : rd < 4611686018427387904) (hr0 : 0 ≤ rd) :
  Calls Tryd.prog 51 #[.pointer (some ⟨x, 0, none⟩), .int .i64 n] w fun e u => ∃ ao pn pc, e = .returned (.slice ao pn pc) ∧ Hid (∃ l, PgTo w B x b m b2 m2 P T rd M N ct K rb R (.slice ao pn pc) pn l u) := by
 have H := hidden h
 have HC := hidden hc
 obtain ⟨c0, c1⟩ := h.cells
 have HD := hidden (bread_any h.bd n hn hrd hr0)
 have hxl := lt_some h.row
 have HD1 := hidden h.d1
 clear h hc
 go_enter Tryd.func51, Tryd.ntmps51
 go_wp2_with (first
  | (go_at_call 9; refine HD.out.mono ?_; rintro e v1 ⟨ao, sn, c, k, rfl, HK⟩; refine Hid.out ?_))
 apply hidden
 clear HD c0 c1
 rcases HK.out with ⟨hN, rfl, rfl, rfl, rfl, hv0⟩ | ⟨f, hN, rfl, rfl, ho, hbn, hcf⟩
 ·have hv1 := hv0.symm
  clear hv0
  subst hv1
  have hM : M n = none := by
   have e := congrFun HC.out n
   refine con_none ?_
   rw [e]
   unfold con
   rw [hN]
   rfl
  obtain ⟨c0, c1⟩ := H.out.cells
  have HR := hidden (bread_any H.out.br n hn hrd hr0)
  have HM := hidden hM
  clear HK hN hM
  go_wp2_with (first
   | (go_at_call 9; refine HR.out.mono ?_; rintro e v2 ⟨ao, sn, c, k, rfl, HK2⟩; refine Hid.out ?_))
  apply hidden
  have hv : w = v2 := by
   rcases HK2.out with ⟨_, _, _, _, _, e⟩ | ⟨f, e, _⟩
   ·exact e.symm
   ·rw [HM.out] at e; cases e
  subst hv
  clear HK2 HR
  go_wp2
  go_ret
  exact ⟨_, _, _, rfl, hidden ⟨[], OwnB.nil _ _, Wf.nil, rfl, by simp, rd, H.out, Cf.refl _ _, by omega, by omega⟩⟩
 ·obtain ⟨f2, hM, hfl⟩ : ∃ f2, M n = some f2 ∧ f2.l = f.l := by
   have e := congrFun HC.out n
   unfold con at e
   rw [hN] at e
   cases e2 : M n with
   | none => rw [e2] at e; cases e
   | some f2 =>
    rw [e2] at e
    simp only [Option.map_some, Option.some.injEq] at e
    exact ⟨f2, rfl, e⟩
  have hcd : Cf (fun k => k = b2 ∨ k = m2) w v1 := hcf.wide fun k e => .inl e
  have hs1 := H.out.readd hbn hcd
  have HS1 := hidden hs1
  have HCD := hidden hcd
  obtain ⟨c0, c1⟩ := hs1.cells
  have HR := hidden (bread_any hs1.br n hn hrd hr0)
  have HM := hidden hM
  have hwl := (H.out.bd.pgs n f hN).1.wf
  have hrl := (H.out.bd.pgs n f hN).1.hroom
  have HW := hidden hwl
  have HO := hidden ho
  clear HK hN hM hcf hbn ho hs1 hcd hwl hfl
  go_wp2_with (first
   | (go_at_call 9; refine HR.out.mono ?_; rintro e v2 ⟨ao2, sn2, c2, k2, rfl, HK2⟩; refine Hid.out ?_))
  apply hidden
  obtain ⟨hbr, hcr⟩ : Bn v2 b m 2 (P : Int) ((T : Int) + 2) (rd + 1) M ct ∧ Cf (· = b) v1 v2 := by
   rcases HK2.out with ⟨e, _⟩ | ⟨f', _, _, _, _, e1, e2⟩
   ·rw [HM.out] at e; cases e
   ·exact ⟨e1, e2⟩
  have hcr2 : Cf (fun k => k = b ∨ k = m) v1 v2 := hcr.wide fun k e => .inl e
  have HF : Hid (∃ l, PgTo w B x b m b2 m2 P T rd M N ct K rb R (.slice ao f.l.length c) f.l.length l v2) := hidden ⟨f.l, HO.out.cf hcr (fun k hk e => by
    have h1 := (HO.out.blk hk).1
    have h2 := H.out.br.lt
    omega), HW.out, rfl, hrl, rd + 1, HS1.out.readr hbr hcr2, (HCD.out.wide (Mu_d (rb := rb))).go (hcr2.wide (Mu_r (rb := rb))), by omega, by omega⟩
  clear HK2 HR hbr hcr hcr2
  go_wp2
  go_ret
  exact ⟨_, _, _, rfl, HF⟩
theorem lay_both9 {w1 u : World} (h : Sq9 w B x b m b2 m2 P T rd rd M N ct ct K rb R) (hc : con M = con N) (n : Int) (d : List Int) (h1 : LayTo9 w b m 2 P ((T : Int) + 2) rd M ct n d w1) (h2 : LayTo9 w1 b2 m2 2 P ((T : Int) + 2) rd N ct n d u) :
  ∃ M' N' ct' K', Sq9 u B x b m b2 m2 P T rd rd M' N' ct' ct' K' rb R ∧ con M' = con N' ∧ (∀ k, K k → K' k) ∧ Cf (Mu x b m b2 m2 rb) w u := by
 rcases h1 with ⟨a1, rfl⟩ | ⟨a1, f, hf, hg, hb, hcf⟩
 ·rcases h2 with ⟨_, rfl⟩ | ⟨a2, _⟩
  ·exact ⟨M, N, ct, K, h, hc, fun _ e => e, Cf.refl _ _⟩
  ·exact absurd a2 a1
 ·rcases h2 with ⟨a2, _⟩ | ⟨_, f2, hf2, hg2, hb2, hcf2⟩
  ·exact absurd a1 a2
  ·have e : (N n).isSome = (M n).isSome := (con_iso hc n).symm
   have s1 := h.actr hb (hcf.wide fun k e => .inr e) (h.gM.lay a1.1 a1.2) ((Zs.refl _ _).put hg)
   have s2 := s1.actd hb2 (hcf2.wide fun k e => .inr e) (h.gN.lay a1.1 a1.2) ((Zs.refl _ _).put hg2)
   rw [e] at s2
   exact ⟨_, _, _, _, s2, by rw [con_put, con_put, hc, hf, hf2], fun k hk => .inl (.inl hk), (hcf.wide fun k e => Mu_r k (.inr e)).go (hcf2.wide fun k e => Mu_d k (.inr e))⟩
end Go.Proofs.YtoejadhlkamcjaaDoor
