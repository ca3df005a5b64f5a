import Derived.Test.YtoejadhlkamcjaaDoorJ14
namespace Go.Proofs.YtoejadhlkamcjaaDoor
set_option maxRecDepth 100000
open Go.RowKit Go.Maps
theorem pgN_nat {P N : Nat} (hp : pw P) (hN : 1 ≤ N) (hN2 : N ≤ 65536) : ∃ C : Nat, pgN P N = C ∧ 1 ≤ C ∧ C ≤ 65536 ∧ (P - 16) * (C - 1) < N ∧ N ≤ (P - 16) * C := by
 have hpl := pw_le hp
 refine ⟨(N - 1) / (P - 16) + 1, ?_, Nat.succ_le_succ (Nat.zero_le _), ?_, ?_, ?_⟩
 ·rw [pgN_pos hp (by omega)]
  rw [show (N : Int) - 1 = ((N - 1 : Nat) : Int) by omega, show (P : Int) - 16 = ((P - 16 : Nat) : Int) by omega]
  rfl
 ·have := Nat.div_le_self (N - 1) (P - 16)
  omega
 ·have := Nat.mul_div_le (N - 1) (P - 16)
  rw [Nat.add_sub_cancel]
  omega
 ·have h1 : N - 1 < (P - 16) * ((N - 1) / (P - 16) + 1) := by
   have := Nat.lt_mul_div_succ (N - 1) (show 0 < P - 16 by omega)
   exact this
  omega
set_option maxHeartbeats 1000000 in
theorem write_pre {w : World} {b m : Nat} {en ps rd : Int} {P : Nat} {M : Int → Option Pf} {ct : Nat} (h : Bn w b m en (P : Int) ps rd M ct) (hp : pw P) (hps2 : 2 ≤ ps) (hps : ps ≤ 65536) (t C : Nat) (ht : 2 ≤ t) (hpre : Pre M t) (hct : ct + 2 = t) (htC : ((t + C : Nat) : Int) ≤ ps)
  (vo : Option Addr) (N vc : Nat) (v : List Int) (hv : Sl w vo N vc v) (hN : 1 ≤ N) (hN3 : N ≤ 65536) (hC : pgN P N = C) (hC1 : 1 ≤ C) (hN1 : (P - 16) * (C - 1) < N) (hN2 : N ≤ (P - 16) * C) (htb : Tab w) (h0 : 0 < w.heap.size) (hm0 : m ≠ 0) :
  Calls Tryd.prog 11 #[iB b, .slice vo N vc] w fun e u => e = .returned (.tuple #[.int .i64 (t : Int), .int .i64 0]) ∧ Hid (∃ M', Bn u b m en (P : Int) ps rd M' (ct + C) ∧ Pre M' (t + C) ∧ LaidJ M' P t C v C ∧ (∀ k, k < (t : Int) → M' k = M k) ∧ Cf (· = m) w u) := by
 have HL := hidden (mayLie_any h hp (N : Int))
 have e1 : decide (1 ≤ (N : Int) ∧ (N : Int) ≤ 65536) = true := by simp; omega
 have HS := hidden (size_any h)
 have HP := fun u => pages_any (P : Int) (N : Int) (by omega) u
 rw [hC] at HP
 have HSP := hidden (spare_any h (C : Int) hps2 hps (by omega))
 have e2 : decide ((C : Int) ≤ ps - 2 - (ct : Int)) = true := by simp; omega
 rw [e2] at HSP
 have HTK := fun q => hidden (take_pre (h.on (bl_dr (Below.refl _ w) q)) hp hps t C ht hpre htC (by omega))
 have HPW := hidden hp
 have HV := hidden hv
 have HVN := hidden (hv.nomap h)
 have HTB := hidden htb
 have hNI : (N : Int) ≤ 65536 := by omega
 have hCI : (C : Int) ≤ 65536 := by omega
 have htI : (t : Int) ≤ 65536 := by omega
 have HBS := hidden (And.intro h.lt h.mlt)
 clear h hp hv htb hpre
 go_enter Tryd.func11, Tryd.ntmps11
 go_wp2_with (first
  | (go_at_call 32; refine same_call HL.out ?_; rw [e1])
  | (go_at_call 49; refine same_call HS.out ?_)
  | (go_at_call 18; refine same_call (HP _) ?_)
  | (go_at_call 61; refine HSP.out.mono ?_; rintro e w0 ⟨rfl, q, rfl⟩)
  | (go_at_call 33; refine (HTK _).out.mono ?_; rintro e w1 ⟨ao, ac, rfl, HJ, HM⟩; refine Hid.out ?_))
 apply hidden
 obtain ⟨M1, hb1, hpre1, hold1, hc1⟩ := HM.out
 have hc0 : Cf (· = m) w w1 := (Cf.drew (· = m) w q).go hc1
 have HSJ : Hid (SlJ w1 ao C ac (rng t C)) := hidden (by
  obtain ⟨ao', c', e, hs⟩ := HJ.out.sl
  injection e with e1 e2 e3
  subst e1 e3
  rw [rng_length] at hs
  exact hs)
 have HV1 : Hid (Sl w1 vo N vc v) := hidden (HV.out.cf hc0 HVN.out)
 have HT1 : Hid (Tab w1) := hidden (fun i hi => (World.cell?_of_block (hc0.block 0 h0 (fun e => hm0 e.symm))).trans (HTB.out i hi))
 have HLY := hidden (lay_pre hb1 HPW.out t C ht (by omega) hpre1 (by omega) ao ac HSJ.out vo N vc v HV1.out hN1 hN2 hN3 hC1 HT1.out (Nat.lt_of_lt_of_le h0 hc0.size) hm0)
 have HC0 := hidden hc0
 have HO1 := hidden hold1
 have HPN := hidden (HSJ.out.nomap hb1)
 obtain ⟨ab, rfl, hab, hcs⟩ : ∃ b, ao = some ⟨b, 0, none⟩ ∧ b < w1.heap.size ∧ ∀ i, i < C → w1.cell? ⟨b, i, none⟩ = some (.int .i64 ((rng t C).getD i 0)) := by
  rcases HSJ.out.hat with h | h
  ·omega
  ·exact h
 have hc00 : w1.cell? ⟨ab, 0, none⟩ = some (.int .i64 (t : Int)) := by
  rw [hcs 0 (by omega), rng_get t C 0 (by omega)]
  rfl
 have hC0 : (0 : Int) < (C : Int) := by omega
 have hC00 : 0 < C := by omega
 clear hb1 hpre1 hold1 hc1 hc0 hcs HM HTK HL HS HP HSP
 go_wp2_with (first
  | (go_at_call 34; refine HLY.out.mono ?_; rintro e w2 ⟨rfl, HQ⟩; refine Hid.out ?_))
 apply hidden
 obtain ⟨M2, hb2, hpre2, hl2, hold2, hc2⟩ := HQ.out
 have hce : w2.cell? ⟨ab, 0, none⟩ = some (.int .i64 (t : Int)) := by
  rw [← hc00]
  exact World.cell?_of_block (hc2.block ab hab (by
   rcases HPN.out with h | h
   ·omega
   ·exact h _ rfl))
 have HF : Hid (∃ M', Bn w2 b m en (P : Int) ps rd M' (ct + C) ∧ Pre M' (t + C) ∧ LaidJ M' P t C v C ∧ (∀ k, k < (t : Int) → M' k = M k) ∧ Cf (· = m) w w2) := hidden ⟨M2, hb2, hpre2, hl2, fun k hk => (hold2 k hk).trans (HO1.out k hk), HC0.out.go hc2⟩
 clear hb2 hpre2 hl2 hold2 hc2 HQ HLY hc00
 go_wp2
 go_ret2
 exact ⟨rfl, HF⟩
theorem thr_step (M : Int → Option Pf) (pg n all : Int) (k : Nat) (a : Int) (ps d : List Int) (r nx : Int) (x : List Int) (hni : ¬ a ∈ ps) (hl : ldM M pg a = .inr (nx, x)) (hi : isM M a = 1) :
  thr M pg n all (k + 1) a ps d r = if (x.length : Int) ≠ min (pg - 16) (n - d.length) ∨ decide (((ps.length + 1 : Nat) : Int) = all) ≠ decide (nx = 0) then (90, [], [], r + 1) else thr M pg n all k nx (ps ++ [a]) (d ++ x) (r + 1) := by
 simp only [thr]
 rw [if_neg hni, hl, hi]
theorem rng_mem {t j : Nat} {a : Int} (h : a ∈ rng t j) : (t : Int) ≤ a ∧ a < ((t + j : Nat) : Int) := by
 induction j with
 | zero => simp [rng] at h
 | succ j ih =>
  unfold rng at h
  rcases List.mem_append.1 h with h | h
  ·have := ih h
   omega
  ·simp only [List.mem_singleton] at h
   omega
theorem ckN_length {H N i : Nat} {v : List Int} (hv : v.length = N) : (ckN H v i).length = min H (N - H * i) := by
 unfold ckN
 rw [List.length_take, List.length_drop, hv]
theorem laid_ld {M : Int → Option Pf} {P t C N : Nat} {v : List Int} {i : Nat} (hl : LaidJ M P t C v C) (hi : i < C) (hp : pw P) (ht : 2 ≤ t) (htC : t + C ≤ 65536) (hv : v.length = N) (hN1 : (P - 16) * (C - 1) < N) :
  ldM M P ((t + i : Nat) : Int) = .inr (nxC t C i, ckN (P - 16) v i) ∧ isM M ((t + i : Nat) : Int) = 1 := by
 obtain ⟨f, hf, hfl⟩ := hl i hi
 have hpl := pw_le hp
 have hm : (P - 16) * i ≤ (P - 16) * (C - 1) := Nat.mul_le_mul_left _ (by omega)
 have hck := ckN_length (H := P - 16) (i := i) hv
 have hz : spE (nxC t C i) (ckN (P - 16) v i) (P : Int) = 0 := spE_zero.2 ⟨hp, nxC_ok ht htC, by omega, by omega⟩
 constructor
 ·unfold ldM
  rw [hf]
  simp only
  rw [hfl, spB_length _ _ _ (by omega), if_neg (by simp), spD_of hz]
 ·unfold isM
  rw [hf]
  rfl
theorem thr_laid {M : Int → Option Pf} {P t C N : Nat} {v : List Int} (hl : LaidJ M P t C v C) (hp : pw P) (ht : 2 ≤ t) (htC : t + C ≤ 65536) (hv : v.length = N) (hN1 : (P - 16) * (C - 1) < N) (T : Nat) (hT : T ≤ C) :
  ∀ (k j : Nat) (a r : Int), j + k = T → (0 < k → a = ((t + j : Nat) : Int)) → thr M P N C k a (rng t j) (v.take ((P - 16) * j)) r = (0, rng t T, v.take ((P - 16) * T), r + k)
 | 0, j, a, r, hj, _ => by
  obtain rfl : j = T := by omega
  simp [thr]
 | k + 1, j, a, r, hj, ha => by
  have hpl := pw_le hp
  obtain rfl := ha (by omega)
  have hjC : j < C := by omega
  obtain ⟨h1, h2⟩ := laid_ld hl hjC hp ht htC hv hN1
  have hm : (P - 16) * j ≤ (P - 16) * (C - 1) := Nat.mul_le_mul_left _ (by omega)
  have hck := ckN_length (H := P - 16) (i := j) hv
  have htk : (v.take ((P - 16) * j)).length = (P - 16) * j := by rw [List.length_take, hv]; omega
  rw [thr_step M P N C k _ _ _ r _ _ (fun h => by have := rng_mem h; omega) h1 h2, if_neg]
  ·have e : v.take ((P - 16) * j) ++ ckN (P - 16) v j = v.take ((P - 16) * (j + 1)) := by
    unfold ckN
    rw [show (P - 16) * (j + 1) = (P - 16) * j + (P - 16) from Nat.mul_succ _ _, List.take_add]
   rw [e, show rng t j ++ [((t + j : Nat) : Int)] = rng t (j + 1) from rfl, thr_laid hl hp ht htC hv hN1 T hT k (j + 1) (nxC t C j) (r + 1) (by omega) (fun hk => by unfold nxC; rw [if_pos (by omega)]; rfl)]
   rw [show r + 1 + (k : Int) = r + ((k + 1 : Nat) : Int) by omega]
  ·rw [htk, hck, rng_length]
   rw [not_or, Decidable.not_not, Decidable.not_not]
   constructor
   ·omega
   ·rw [decide_eq_decide]
    unfold nxC
    split <;> omega
end Go.Proofs.YtoejadhlkamcjaaDoor
