import Derived.Test.YtoejadhlkamcjaaDoorJ11
namespace Go.Proofs.YtoejadhlkamcjaaDoor
set_option maxRecDepth 100000
open Go.RowKit Go.Maps
def Apt (v : Value) (M : Int → Option Pf) : Prop := ∀ k f, M k = some f → f.l.length = 0 ∨ v.ownBlock ≠ some f.g
theorem Bn.cf2 {w u : World} {b m : Nat} {en pg ps rd : Int} {M : Int → Option Pf} {ct : Nat} {F : Nat → Prop} (h : Bn w b m en pg ps rd M ct) (hc : Cf F w u) (hb : ¬ F b) (hm : ¬ F m) (hp : ∀ k f, M k = some f → f.l.length = 0 ∨ ¬ F f.g) : Bn u b m en pg ps rd M ct := by
 refine ⟨(hc.block b h.lt hb).trans h.box, ?_, fun k f hk => ?_⟩
 ·obtain ⟨D, h1, h2⟩ := h.mp
  exact ⟨D, h1.cf hc hm, h2⟩
 ·obtain ⟨h1, h2, h3⟩ := h.pgs k f hk
  refine ⟨h1.cf hc ?_, h2, h3⟩
  rcases hp k f hk with h4 | h4
  ·exact .inl h4
  ·exact .inr fun p e => by cases e; exact h4
theorem Gr.cf {w w' : World} {v v' : Value} (h : Gr w v w' v') : Cf (fun k => v.ownBlock = some k) w w' := ⟨h.grow.os, h.grow.tape, h.grow.output, h.grow.size, fun k hk hf => h.grow.block k hk (fun e => hf e.symm)⟩
theorem Bn.gr {w w' : World} {v v' : Value} {b m : Nat} {en pg ps rd : Int} {M : Int → Option Pf} {ct : Nat} (h : Bn w b m en pg ps rd M ct) (hg : Gr w v w' v') (ha : Apt v M) (hb : v.ownBlock ≠ some b) (hm : v.ownBlock ≠ some m) : Bn w' b m en pg ps rd M ct :=
 h.cf2 hg.cf hb hm fun k f hk => ha k f hk
theorem Apt.gr {w w' : World} {v v' : Value} {b m : Nat} {en pg ps rd : Int} {M : Int → Option Pf} {ct : Nat} (ha : Apt v M) (h : Bn w b m en pg ps rd M ct) (hg : Gr w v w' v') : Apt v' M := by
 intro k f hk
 rcases ha k f hk with h1 | h1
 ·exact .inl h1
 ·rcases h.lows k f hk with h2 | h2
  ·exact .inl h2
  ·right
   rcases hg.own with e | ⟨q, e, hq⟩
   ·rw [e]; exact h1
   ·rw [e]; intro e2; injection e2 with e2; omega
def Pre (M : Int → Option Pf) (t : Nat) : Prop := ∀ k, (M k).isSome = true ↔ 2 ≤ k ∧ k < (t : Int)
def rng (t : Nat) : Nat → List Int
 | 0 => []
 | j + 1 => rng t j ++ [((t + j : Nat) : Int)]
theorem rng_length (t : Nat) : ∀ j, (rng t j).length = j
 | 0 => rfl
 | j + 1 => by simp [rng, rng_length t j]
theorem rng_get (t : Nat) : ∀ j i, i < j → (rng t j).getD i 0 = ((t + i : Nat) : Int)
 | 0, i, h => by omega
 | j + 1, i, h => by
  unfold rng
  by_cases e : i < j
  ·rw [show (rng t j ++ [((t + j : Nat) : Int)]).getD i 0 = (rng t j).getD i 0 from by simp [List.getD, List.getElem?_append_left (show i < (rng t j).length by rw [rng_length]; exact e)]]
   exact rng_get t j i e
  ·obtain rfl : i = j := by omega
   simp [List.getD, rng_length]
set_option maxHeartbeats 2000000 in
theorem take_pre {w : World} {b m : Nat} {en pg ps rd : Int} {M : Int → Option Pf} {ct : Nat} (h : Bn w b m en pg ps rd M ct) (hp : pw pg) (h2 : ps ≤ 65536) (t C : Nat) (ht : 2 ≤ t) (hpre : Pre M t) (htC : ((t + C : Nat) : Int) ≤ ps) (hct : ct + C < 1000000) :
  Calls Tryd.prog 33 #[iB b, .int .i64 (C : Int)] w fun e u => ∃ ao ac, e = .returned (.tuple #[.slice ao C ac, .int .i64 0]) ∧ Hid (OwnJ u w.heap.size (.slice ao C ac) (rng t C)) ∧
   Hid (∃ M', Bn u b m en pg ps rd M' (ct + C) ∧ Pre M' (t + C) ∧ (∀ k, k < (t : Int) → M' k = M k) ∧ Cf (· = m) w u) := by
 have HB := hidden h
 have HPW := hidden hp
 have HPRE := hidden hpre
 have HBS := hidden (And.intro h.lt h.mlt)
 have hCI : (C : Int) ≤ 65536 := by omega
 clear h hp hpre
 go_enter Tryd.func33, Tryd.ntmps33
 go_wp2_with fail
 go_loopw [6, 10] (fun v i wr => ∃ (j : Nat) (ao : Option Addr) (ac : Nat), j ≤ C ∧ i = .int .i64 (j : Int) ∧ v = .slice ao j ac ∧ Hid (OwnJ wr w.heap.size (.slice ao j ac) (rng t j)) ∧ Hid (∃ M', Bn wr b m en pg ps rd M' (ct + j) ∧ Pre M' (t + j) ∧ (∀ k, k < (t : Int) → M' k = M k) ∧ Cf (· = m) w wr ∧ Apt (.slice ao j ac) M')) (fun _ i _ => C - (intOf i).toNat)
 case atStart => exact ⟨0, none, 0, by omega, rfl, rfl, hidden (OwnJ.nil _ _), hidden ⟨M, HB.out, HPRE.out, fun _ _ => rfl, Cf.refl _ _, fun k f _ => .inr (by simp [Value.ownBlock])⟩⟩
 case round =>
  obtain ⟨j, ao, ac, hj, rfl, rfl, HJ, HM⟩ := hrel
  by_cases hlt : j < C
  ·have hltI : (j : Int) < (C : Int) := by omega
   obtain ⟨M1, hb1, hpre1, hold1, hc1, ha1⟩ := HM.out
   have hno : M1 ((t + j : Nat) : Int) = none := by
    cases e : M1 ((t + j : Nat) : Int) with
    | none => rfl
    | some f =>
     have := (hpre1 ((t + j : Nat) : Int)).1 (by rw [e]; rfl)
     omega
   have HAL := hidden (alloc_yes hb1 HPW.out h2 ((t + j : Nat) : Int) (by omega) (by omega) hno (fun k h1 h2 => (hpre1 k).2 ⟨h1, h2⟩) (by omega))
   have HM1 := hidden (And.intro hb1 (And.intro hpre1 (And.intro hold1 (And.intro hc1 ha1))))
   obtain ⟨y, hy⟩ : ∃ y, ((t + j : Nat) : Int) = y := ⟨_, rfl⟩
   have HY := hidden hy
   rw [hy] at HAL
   clear hb1 hpre1 hold1 hc1 ha1 hno HM
   go_wp2_with (first
    | (go_at_call 62; refine HAL.out.mono ?_; rintro e w1 ⟨rfl, HX⟩; refine Hid.out ?_))
   apply hidden
   clear HAL
   obtain ⟨f, hfl, hfg, hb2, hc2⟩ := HX.out
   obtain ⟨hb1, hpre1, hold1, hc1, ha1⟩ := HM1.out
   have hJ1 : OwnJ w1 w.heap.size (.slice ao j ac) (rng t j) := HJ.out.cf hc2 (fun k hk e => by
    have h1 := (HJ.out.lt hk).1
    have h2 := HBS.out.2
    omega)
   have hA1 : Apt (.slice ao j ac) (putM M1 y f) := by
    intro k f' hk
    unfold putM at hk
    by_cases e : k = y
    ·rw [if_pos e] at hk
     cases hk
     right
     intro e2
     have := (HJ.out.lt e2).2
     omega
    ·rw [if_neg e] at hk
     exact ha1 k f' hk
   obtain ⟨x, hx⟩ : ∃ x, w1.alloc (.cells #[.int .i64 y] 3) = x := ⟨_, rfl⟩
   have hbx : Below w1.heap.size w1 x := by rw [← hx]; exact bl_al (Below.refl _ _) (Nat.le_refl _) _
   have hcx : x.cell? ⟨w1.heap.size, 0, none⟩ = some (.int .i64 y) := by rw [← hx]; simp
   have hw1 : w.heap.size ≤ w1.heap.size := Nat.le_trans hc1.size hc2.size
   have hxs : w.heap.size ≤ x.heap.size := Nat.le_trans hw1 hbx.size
   have HJX := hidden (hJ1.below hbx)
   have HBX := hidden (hb2.on hbx)
   have HAX := hidden hA1
   have HCX : Hid (Cf (· = m) w x) := hidden ((hc1.go hc2).go (Cf.of_below hbx))
   have HPR : Hid (Pre (putM M1 y f) (t + (j + 1)) ∧ ∀ k, k < (t : Int) → putM M1 y f k = M k) := hidden (by
    constructor
    ·intro k
     unfold putM
     by_cases e : k = y
     ·rw [if_pos e, e, ← HY.out]
      simp
      omega
     ·rw [if_neg e, hpre1 k, ← HY.out] at *
      omega
    ·intro k hk
     unfold putM
     rw [if_neg (by rw [← HY.out]; omega)]
     exact hold1 k hk)
   have hlen := rng_length t j
   clear hb2 hc2 hb1 hpre1 hold1 hc1 ha1 hJ1 hA1 hbx HX HM1 hfl hfg
   go_wp2_with (at_builtin; refine app_j _ rfl _ _ rfl w.heap.size (rng t j) y _ w1.heap.size rfl rfl HJX.out hcx (by omega) hxs ?_; refine Hid.out ?_)
   apply hidden
   intro v' w2 hj2 hg2
   have HB2 : Hid (Bn w2 b m en pg ps rd (putM M1 y f) (ct + j + 1)) := hidden (HBX.out.gr hg2 HAX.out (fun e => by
    have h1 := (HJX.out.lt e).1
    have h2 := HBS.out.1
    omega) (fun e => by
    have h1 := (HJX.out.lt e).1
    have h2 := HBS.out.2
    omega))
   have HA2 : Hid (Apt v' (putM M1 y f)) := hidden (HAX.out.gr HBX.out hg2)
   have HC2 : Hid (Cf (· = m) w w2) := hidden (HCX.out.thenB (own_below HJX.out hxs hg2.grow))
   obtain ⟨ao2, ac2, rfl, hs2⟩ := hj2.sl
   have hl2 : (rng t j ++ [y]).length = j + 1 := by rw [List.length_append, hlen]; rfl
   rw [hl2] at hj2 HA2 ⊢
   have HJ2 : Hid (OwnJ w2 w.heap.size (.slice ao2 (j + 1) ac2) (rng t (j + 1))) := hidden (by unfold rng; rw [HY.out]; exact hj2)
   clear hj2 hg2 hs2 hx hcx
   go_wp2
   go_roundw
   case rel => exact ⟨j + 1, ao2, ac2, by omega, by go_num, rfl, HJ2, hidden ⟨_, HB2.out, HPR.out.1, HPR.out.2, HC2.out, HA2.out⟩⟩
   case measure => simp [intOf]; omega
  ·obtain rfl : j = C := by omega
   have hlI : ¬ (j : Int) < (j : Int) := by omega
   have HF : Hid (∃ M', Bn wr b m en pg ps rd M' (ct + j) ∧ Pre M' (t + j) ∧ (∀ k, k < (t : Int) → M' k = M k) ∧ Cf (· = m) w wr) := hidden (by
    obtain ⟨M1, a1, a2, a3, a4, _⟩ := HM.out
    exact ⟨M1, a1, a2, a3, a4⟩)
   clear HM
   go_wp2
   go_ret2
   exact ⟨_, _, rfl, HJ, HF⟩
end Go.Proofs.YtoejadhlkamcjaaDoor
