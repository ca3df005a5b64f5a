import Derived.Test.YtjpmfgoodcldcaaGreatDoorJ30
import Derived.RangeFuncNested
import Derived.RangeFuncBound
import Derived.RangeFuncCalls
import Derived.RangeFuncLeaves
import Derived.Shelf.Abstract
import Derived.Shelf.RegionOpen
import Derived.OwnWalkIn
import Derived.TacticsInMore
import Derived.LoopNIn
import Derived.LoopIn
namespace Go.Proofs.YtjpmfgoodcldcaaGreatDoor
set_option maxRecDepth 100000
open Go.RowKit Go.Shelf
attribute [local go_sem] Oper.semAt_some
def clV (ao : Option Addr) (ac : Nat) (bo : Option Addr) (bc : Nat) (cl : Cl) : Value := .agg #[.slice ao cl.key.length ac, .int .i64 cl.kd, .slice bo cl.val.length bc, .int .i64 cl.pg, .int .i64 cl.ct]
def lft (w : World) (c : Nat) : Nat := match w.cell? ⟨c, 82, none⟩, w.cell? ⟨c, 3, none⟩ with | some d, some v => (intOf d).toNat * ((intOf v) + 1).toNat | _, _ => 0
theorem Cu.lft {w : World} {c b : Nat} {root : Int} {n : Value} {at_ deep err : Int} (h : Cu w c b root n at_ deep err) : lft w c = deep.toNat * (at_ + 1).toNat := by
 unfold Go.Proofs.YtjpmfgoodcldcaaGreatDoor.lft
 rw [h.cells.2.2.2.2.1, h.cells.2.2.2.1]
 rfl
structure Rnd (l N0 b m : Nat) (cs : List Cl) (G : Nat → Prop) (T : Nat → World → Prop) : Prop where
 keep : ∀ k A B, T k A → Cf (fun x => Bo b m x ∨ N0 ≤ x) A B → T k B
 round : ∀ k W ao ac bo bc cl, T k W → k < cs.length → cs[cs.length - 1 - k]? = some cl → Sl W ao cl.key.length ac cl.key → (∀ p, ao = some p → N0 ≤ p.block) → YieldAt Fence.wide (9 - 1 - 1) Tryz.prog l #[clV ao ac bo bc cl, .int .i64 0] W fun e W' => e = .returned (.bool true) ∧ T (k + 1) W' ∧ Cf G W W'
theorem key_fits {cs : List Cl} (g : Gd1 cs) {cl : Cl} (h : cl ∈ cs) : cl.key.length ≤ 65536 := by
 have h1 := (g.fit cl h).key
 omega
set_option maxHeartbeats 4000000 in
theorem tell_in (l N0 b m E0 E c : Nat) (rd : Int) (cs : List Cl) (G : Nat → Prop) (T : Nat → World → Prop) (hR : Rnd l N0 b m cs G T) (g : Gd1 cs) (hn : 0 < cs.length) (hln : cs.length < 100000) (hG : ∀ k, G k → E ≤ k ∧ k < N0) (hc : N0 ≤ c)
  (W : World) (hS : Sn13 b m E0 E c ((cs.length : Int) - 1) rd cs W) (hT : T 0 W) :
  CallsIn Fence.wide 8 Tryz.prog 18 #[pB c, .func (.func 19) #[pB c] #[], .func (.func 20) #[spN] #[], .func (.yield l) #[] #[]] W fun e W' => (∃ v, e = .returned v) ∧ T cs.length W' := by
 obtain ⟨n, hnn⟩ : ∃ n, cs.length = n := ⟨_, rfl⟩
 rw [hnn] at hn hln hS ⊢
 have HNN := hidden hnn
 have HRD := hidden hR
 have HG := hidden g
 have HGG := hidden hG
 have HS0 := hidden hS
 have HT0 := hidden hT
 have HST : Hid (Calls Tryz.prog 36 #[pB c] W fun e u => e = .returned (.bool true) ∧ u = W) := hidden (by obtain ⟨a, B, h1, h2, h3, h4, h5⟩ := hS; exact stands_1 h2)
 clear hR g hG hS hT hnn
 refine callsIn_of_wp Tryz.func18 rfl trivial ?_ rfl
 simp only [Tryz.ntmps18, List.size_toArray, List.length_cons, List.length_nil, Nat.reduceAdd, Nat.reduceSub, Array.replicate_succ, Array.replicate_zero, List.push_toArray, List.append_toArray, List.nil_append, List.cons_append]
 gi_wp2_with (refine ⟨trivial, ?_⟩; gi_at_call 36; refine (callsIn_wide.2 HST.out).mono ?_; rintro e w1 ⟨rfl, rfl⟩)
 gi_loopw [8] (fun is wr => (∃ r : Nat, r < n ∧ is = .bool true ∧ Hid (Sn13 b m E0 E c (r : Int) rd cs wr) ∧ Hid (T (n - 1 - r) wr)) ∨ (is = .bool false ∧ Hid (S0 b m E0 E c rd cs wr) ∧ Hid (T n wr))) (fun _ wr => lft wr c)
 case atStart => exact .inl ⟨n - 1, by omega, rfl, by rw [show ((n - 1 : Nat) : Int) = (n : Int) - 1 by omega]; exact HS0, by rw [show n - 1 - (n - 1) = 0 by omega]; exact HT0⟩
 case round =>
  rcases hrel with ⟨r, hrn, rfl, HS, HT⟩ | ⟨rfl, HS, HT⟩
  ·obtain ⟨cl, hcl⟩ : ∃ cl, cs[r]? = some cl := ⟨_, List.getElem?_eq_getElem (by rw [HNN.out]; exact hrn)⟩
   have HCL := hidden hcl
   have HC := hidden (cell_yes HS.out HG.out hcl)
   have HSX : Hid (cl.key.length ≤ 65536) := hidden (key_fits HG.out (List.mem_of_getElem? hcl))
   clear hcl HST
   gi_wp2_with (refine ⟨trivial, ?_⟩; gi_at_call 12; refine (callsIn_wide.2 HC.out).mono ?_; rintro e w2 ⟨ao, ac, bo, bc, rfl, HO, HB2⟩; refine Hid.out ?_)
   apply hidden
   have HBX : Hid (C5 (w2.alloc (.cells #[.slice ao cl.key.length ac, .int .i64 cl.kd, .slice bo cl.val.length bc, .int .i64 cl.pg, .int .i64 cl.ct] 32)) w2.heap.size (.slice ao cl.key.length ac) (.int .i64 cl.kd) (.slice bo cl.val.length bc) (.int .i64 cl.pg) (.int .i64 cl.ct)) := hidden (C5.box _ _ _ _ _ _)
   have HB3 : Hid (Below w2.heap.size w2 (w2.alloc (.cells #[.slice ao cl.key.length ac, .int .i64 cl.kd, .slice bo cl.val.length bc, .int .i64 cl.pg, .int .i64 cl.ct] 32))) := hidden (bl_al (Below.refl _ _) (Nat.le_refl _) _)
   have HSL : Hid (Sl w2 ao cl.key.length ac cl.key) := hidden (by
    obtain ⟨ao', c', e1, hsl, hbl⟩ := HO.out.1.sl (HG.out.wf cl (List.mem_of_getElem? HCL.out)).1 (by have := HSX.out; omega)
    injection e1 with e2 e3 e4
    rw [e2, e4]
    exact hsl)
   have HSB : Hid (∀ p, ao = some p → N0 ≤ p.block) := hidden (by
    obtain ⟨ao', c', e1, hsl, hbl⟩ := HO.out.1.sl (HG.out.wf cl (List.mem_of_getElem? HCL.out)).1 (by have := HSX.out; omega)
    injection e1 with e2 e3 e4
    intro p hp
    have h1 := hbl p (by rw [← e2]; exact hp)
    obtain ⟨a, B, g1, g2, g3, g4, g5⟩ := HS.out
    have h2 := g2.lt
    omega)
   have HF := hidden (isFromLo_nil ao cl.key.length ac cl.key _ (HSL.out.on (Nat.le_refl _) HB3.out))
   obtain ⟨y0, y1, y2, y3, y4⟩ := HBX.out.cells
   clear HC
   gi_wp2_with (refine ⟨trivial, ?_⟩; gi_at_call 20; refine (callsIn_wide.2 HF.out).mono ?_; rintro e w4 ⟨rfl, HB4⟩; refine Hid.out ?_)
   apply hidden
   clear y0 y1 y2 y3 y4 HF
   have HBW : Hid (Below wr.heap.size wr w4) := hidden (bl_go (bl_go HB2.out (Nat.le_refl _) HB3.out) (Nat.le_refl _) HB4.out)
   have HX4 : Hid (C5 w4 w2.heap.size (.slice ao cl.key.length ac) (.int .i64 cl.kd) (.slice bo cl.val.length bc) (.int .i64 cl.pg) (.int .i64 cl.ct)) := hidden (box_on HBX.out HB4.out)
   have HSL4 := hidden ((HSL.out.on (Nat.le_refl _) HB3.out).on (Nat.le_refl _) HB4.out)
   have HT4 := hidden (HRD.out.keep _ _ _ HT.out (Cf.of_below HBW.out))
   have HS4 := hidden (HS.out.on HBW.out)
   obtain ⟨y0, y1, y2, y3, y4⟩ := HX4.out.cells
   obtain ⟨fn, tmps, assign, body, hy, hR4⟩ := HRD.out.round (n - 1 - r) w4 ao ac bo bc cl HT4.out (by have := HNN.out; omega) (by rw [HNN.out, show n - 1 - (n - 1 - r) = r by omega]; exact HCL.out) HSL4.out HSB.out
   unfold clV at hy
   clear HB2 HO HBX HB3 HSL HB4 HX4 HSL4 HT4 HBW HT
   gi_wp2
   refine hR4.mono ?_
   rintro e W5 ⟨rfl, hT5, hk5⟩
   have HT5 : Hid (T (n - 1 - r + 1) W5) := hidden hT5
   have HS5 : Hid (Sn13 b m E0 E c (r : Int) rd cs W5) := hidden (by
    obtain ⟨a, B, h1, h2, h3, h4, h5⟩ := HS4.out
    have hG := HGG.out
    exact ⟨a, B, h1, h2.cf hk5 (fun e => by have := hG _ e; omega), h3.cf hk5 (fun k hk e => by have := hG _ e; omega), h4.cf hk5 (fun k hk => (hG k hk).1), h5⟩)
   have HMR : Hid (lft wr c = r + 1) := hidden (by
    obtain ⟨a, B, h1, h2, h3, h4, h5⟩ := HS.out
    rw [h2.lft]
    simp)
   clear hT5 hk5 hy hR4 y0 y1 y2 y3 y4 HS4 HS
   by_cases hr0 : r = 0
   ·have HP := hidden (prev_out HS5.out (by omega) (by omega))
    gi_wp2_with (refine ⟨trivial, ?_⟩; gi_at_call 19; refine (callsIn_wide.2 HP.out).mono ?_; rintro e W6 ⟨rfl, HQ⟩)
    go_roundw
    case rel => exact .inr ⟨rfl, hidden HQ.out.1, hidden (HRD.out.keep _ _ _ (by rw [show n = n - 1 - r + 1 by omega]; exact HT5.out) (HQ.out.2.wd13 (fun k hk => by rcases hk with h | h; exact .inl h; exact .inr (by omega))))⟩
    case measure => rw [HQ.out.1.1.lft, HMR.out]; simp
   ·have HP := hidden (prev_in HS5.out (by have := HNN.out; omega) (by rw [HNN.out]; exact hln))
    gi_wp2_with (refine ⟨trivial, ?_⟩; gi_at_call 19; refine (callsIn_wide.2 HP.out).mono ?_; rintro e W6 ⟨rfl, HQ⟩)
    go_roundw
    case rel => exact .inl ⟨r - 1, by omega, rfl, by rw [show ((r - 1 : Nat) : Int) = (r : Int) - 1 by omega]; exact hidden HQ.out.1, hidden (HRD.out.keep _ _ _ (by rw [show n - 1 - (r - 1) = n - 1 - r + 1 by omega]; exact HT5.out) (HQ.out.2.wd13 (fun k hk => by rcases hk with h | h; exact .inl h; exact .inr (by omega))))⟩
    case measure =>
     rw [HMR.out]
     obtain ⟨a, B, h1, h2, h3, h4, h5⟩ := HQ.out.1
     rw [h2.lft]
     simp
  ·have HE := hidden (err_any HS.out.1)
   gi_wp2_with (refine ⟨trivial, ?_⟩; gi_at_call 40; refine (callsIn_wide.2 HE.out).mono ?_; rintro e W6 ⟨rfl, rfl⟩)
   go_end0
   exact ⟨⟨_, rfl⟩, HT.out⟩
end Go.Proofs.YtjpmfgoodcldcaaGreatDoor

namespace Go.Proofs.YtjpmfgoodcldcaaGreatDoor
set_option maxRecDepth 100000
open Go.RowKit Go.Shelf
attribute [local go_sem] Oper.semAt_some
set_option maxHeartbeats 4000000 in
theorem scan1_in (l N0 b m E0 E : Nat) (rd : Int) (cs : List Cl) (G : Nat → Prop) (T : Nat → World → Prop) (hR : Rnd l N0 b m cs G T) (g : Gd1 cs) (hn : 0 < cs.length) (hln : cs.length < 100000) (hG : ∀ k, G k → E ≤ k ∧ k < N0) (hEN : E ≤ N0) (hrd : rd < 4611686018427387904) (hr0 : 0 ≤ rd)
  (s : Nat) (W : World) (h : R5 W b m E0 E rd cs) (hN : N0 ≤ W.heap.size) (c0 : W.cell? ⟨s, 0, none⟩ = some (iB b)) (c1 : W.cell? ⟨s + 1, 0, none⟩ = some (.int .i64 5)) (c2 : W.cell? ⟨s + 2, 0, none⟩ = some (.bool true)) (c3 : W.cell? ⟨s + 3, 0, none⟩ = some (.slice none 0 0) ∧ W.cell? ⟨s + 3, 1, none⟩ = some (.slice none 0 0)) (hs : ∀ k, s ≤ k ∧ k ≤ s + 3 → ¬ Bo b m k) (hT : T 0 W) :
  CallsIn Fence.wide 9 Tryz.prog 15 #[.func (.yield l) #[] #[], pB s, pB (s + 1), pB (s + 3), pB (s + 2)] W fun e W' => (∃ v, e = .returned v) ∧ T cs.length W' := by
 have HRD := hidden hR
 have HG := hidden g
 have HN := hidden (And.intro hn hln)
 have HGG := hidden hG
 have HR5 := hidden h
 have HS := hidden hs
 have HT := hidden hT
 have HNW := hidden (And.intro hN hEN)
 have HRR := hidden (And.intro hrd hr0)
 have HNEW := fun v => hidden (new_5 b 5 v)
 obtain ⟨c3, c4⟩ := c3
 have hsl := cell_lt13 c0
 have hsl1 := cell_lt13 c1
 have hsl2 := cell_lt13 c2
 have hsl3 := cell_lt13 c3
 clear hR g hn hln hG h hs hT hN hEN hrd hr0
 refine callsIn_of_wp Tryz.func15 rfl trivial ?_ rfl
 simp only [Tryz.ntmps15, List.size_toArray, List.length_cons, List.length_nil, Nat.reduceAdd, Nat.reduceSub, Array.replicate_succ, Array.replicate_zero, List.push_toArray, List.append_toArray, List.nil_append, List.cons_append]
 gi_wp2_with (refine ⟨trivial, ?_⟩; gi_at_call 5; refine (callsIn_wide.2 (HNEW _).out).mono ?_; rintro e w1 ⟨rfl, HQ1⟩; refine Hid.out ?_)
 apply hidden
 obtain ⟨q1, q2⟩ := HQ1.out
 have d2 := box_go c2 q2
 have d3 := box_go c3 q2
 have d4 := box_go c4 q2
 have HCU := hidden (And.intro q1 q2)
 have HEM := fun v => hidden (isEmpty_nil v)
 clear q1 q2 HQ1 HNEW
 gi_wp2_with (refine ⟨trivial, ?_⟩; gi_at_call 16; refine (callsIn_wide.2 (HEM _).out).mono ?_; rintro e w2 ⟨rfl, HB2⟩; refine Hid.out ?_)
 apply hidden
 have e2 := box_go d2 HB2.out
 have e3 := box_go d3 HB2.out
 have e4 := box_go d4 HB2.out
 clear d2 d3 d4 c0 c1 c2 c3 c4 HEM
 have HSS : Hid (S0 b m E0 E W.heap.size rd cs w2) := hidden ⟨HCU.out.1.on HB2.out, (HR5.out.on HCU.out.2).on HB2.out, Nat.le_trans HNW.out.2 HNW.out.1⟩
 have HT2 := hidden ((HRD.out.keep _ _ _ (HRD.out.keep _ _ _ HT.out (Cf.of_below HCU.out.2)) (Cf.of_below HB2.out)))
 have HTL := hidden (toLast_nil HSS.out HG.out HN.out.1 HRR.out.1 HRR.out.2 HN.out.2)
 clear HCU HB2 HT
 gi_wp2_with (refine ⟨trivial, ?_⟩; gi_at_call 17; refine (callsIn_wide.2 HTL.out).mono ?_; rintro e w3 ⟨rfl, HQ3⟩; refine Hid.out ?_)
 apply hidden
 have hs3 := HS.out
 have f3 := box_cf e3 HQ3.out.2 (by rintro (e | e); exact hs3 (s + 3) (by omega) e; simp only at e; omega)
 have f4 := box_cf e4 HQ3.out.2 (by rintro (e | e); exact hs3 (s + 3) (by omega) e; simp only at e; omega)
 have HT3 := hidden (HRD.out.keep _ _ _ HT2.out (HQ3.out.2.wd13 (fun k hk => by rcases hk with h | h; exact .inl h; exact .inr (by have := HNW.out.1; omega))))
 have HTE := hidden (tell_in l N0 b m E0 E W.heap.size (rd + 1) cs G T HRD.out HG.out HN.out.1 HN.out.2 HGG.out HNW.out.1 w3 HQ3.out.1 HT3.out)
 clear HTL HSS HT2 e2 e3 e4 hs3
 gi_wp2_with (refine ⟨trivial, ?_⟩; gi_at_call 18; refine HTE.out.mono ?_; rintro e w4 ⟨⟨v, rfl⟩, HT4⟩)
 refine bodyPost_ret (results_none rfl _ _ _) rfl ?_
 exact ⟨⟨_, rfl⟩, HT4⟩
theorem scan1_nil (yv : Value) (s : Nat) (x : Int) (W : World) (c0 : W.cell? ⟨s, 0, none⟩ = some .nilIface) (c1 : W.cell? ⟨s + 1, 0, none⟩ = some (.int .i64 x)) :
  Calls Tryz.prog 15 #[yv, pB s, pB (s + 1), pB (s + 3), pB (s + 2)] W fun e W' => e = .returned (.tuple #[]) ∧ W' = W := by
 go_enter Tryz.func15, Tryz.ntmps15
 go_wp2_with (first | (go_at_call 5; refine same_call (new_nil _ _) ?_))
 refine bodyPost_ret (results_none rfl _ _ _) rfl ?_
 exact ⟨rfl, rfl⟩
end Go.Proofs.YtjpmfgoodcldcaaGreatDoor
