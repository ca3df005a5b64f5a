import Derived.Test.YtoejadhlkamcjaaDoorJ18
namespace Go.Proofs.YtoejadhlkamcjaaDoor
set_option maxRecDepth 100000
open Go.RowKit Go.Maps
def rdR (M : Int → Option Pf) (P first n rd : Int) : Int × List Int × List Int × Int := if 1 ≤ n ∧ n ≤ 65536 then thr M P n (pgN P n) (pgN P n).toNat first [] [] rd else (31, [], [], rd)
theorem rdR_con {M N : Int → Option Pf} (h : con M = con N) (P first n rd : Int) : rdR M P first n rd = rdR N P first n rd := by
 unfold rdR
 rw [thr_con h]
theorem pgN_le {P n : Int} (hp : pw P) (h1 : 1 ≤ n) (h2 : n ≤ 65536) : 0 ≤ pgN P n ∧ (pgN P n).toNat ≤ 65536 := by
 have hpl := pw_le hp
 obtain ⟨N, rfl⟩ := Int.eq_ofNat_of_zero_le (show 0 ≤ n by omega)
 obtain ⟨Q, rfl⟩ := Int.eq_ofNat_of_zero_le (show 0 ≤ P by omega)
 obtain ⟨C, hC, _, h3, _⟩ := pgN_nat (P := Q) (N := N) hp (by omega) (by omega)
 rw [hC]
 omega
theorem rdR_reads {M : Int → Option Pf} {P first n rd : Int} (hp : pw P) : rd ≤ (rdR M P first n rd).2.2.2 ∧ (rdR M P first n rd).2.2.2 ≤ rd + 65536 := by
 unfold rdR
 split
 ·rename_i h
  have h1 := thr_reads (M := M) (pg := P) (n := n) (all := pgN P n) (pgN P n).toNat first [] [] rd
  have h2 := (pgN_le hp h.1 h.2).2
  omega
 ·simp only
  omega
theorem pg_full {P n i : Int} (hp : pw P) (h1 : 1 ≤ n) (h : i + 1 < pgN P n) : (P - 16) * (i + 1) ≤ n := by
 have hpl := pw_le hp
 rw [pgN_pos hp h1] at h
 have h2 : (P - 16) * ((n - 1) / (P - 16)) ≤ n - 1 := Int.mul_ediv_self_le (by omega)
 have h3 : (P - 16) * (i + 1) ≤ (P - 16) * ((n - 1) / (P - 16)) := Int.mul_le_mul_of_nonneg_left (by omega) (by omega)
 omega
theorem read_g {w : World} {b m : Nat} {en pg ps rd : Int} {M : Int → Option Pf} {ct : Nat} (h : Bn w b m en pg ps rd M ct) (hp : pw pg) (first n : Int) (hf : (Lit.int .i64 first).wf = true) (hrd : rd < 2305843009213693952) (hr0 : 0 ≤ rd) (ht : Tab w) (h0 : 0 < w.heap.size) (hb0 : b ≠ 0) :
  Calls Tryd.prog 12 #[iB b, .int .i64 first, .int .i64 n] w fun e u => ReadTo (rdR M pg first n rd) w b m en pg ps M ct e u := by
 by_cases hn : 1 ≤ n ∧ n ≤ 65536
 ·unfold rdR
  rw [if_pos hn]
  exact read_may h hp first n hf hn.1 hn.2 hrd hr0 ht h0 hb0
 ·have HL := hidden (mayLie_any h hp n)
  have e1 : decide (1 ≤ n ∧ n ≤ 65536) = false := by simpa using hn
  have HX : Hid (rdR M pg first n rd = (31, [], [], rd)) := hidden (by unfold rdR; rw [if_neg hn])
  have HB := hidden h
  clear h hp ht hn
  go_enter Tryd.func12, Tryd.ntmps12
  go_wp2_with (first
   | (go_at_call 32; refine same_call HL.out ?_; rw [e1]))
  go_ret2
  rw [HX.out]
  exact ⟨_, _, _, _, rfl, hidden ⟨rfl, OwnB.nil _ _, rfl, HB.out, Cf.refl _ _⟩⟩
theorem list_g {w : World} {b m : Nat} {en pg ps rd : Int} {M : Int → Option Pf} {ct : Nat} (h : Bn w b m en pg ps rd M ct) (hp : pw pg) (first n : Int) (hf : (Lit.int .i64 first).wf = true) (hrd : rd < 2305843009213693952) (hr0 : 0 ≤ rd) (ht : Tab w) (h0 : 0 < w.heap.size) (hb0 : b ≠ 0) :
  Calls Tryd.prog 13 #[iB b, .int .i64 first, .int .i64 n] w fun e u => ListTo (rdR M pg first n rd) w b m en pg ps M ct e u := by
 by_cases hn : 1 ≤ n ∧ n ≤ 65536
 ·unfold rdR
  rw [if_pos hn]
  exact list_may h hp first n hf hn.1 hn.2 hrd hr0 ht h0 hb0
 ·have HL := hidden (mayLie_any h hp n)
  have e1 : decide (1 ≤ n ∧ n ≤ 65536) = false := by simpa using hn
  have HX : Hid (rdR M pg first n rd = (31, [], [], rd)) := hidden (by unfold rdR; rw [if_neg hn])
  have HB := hidden h
  clear h hp ht hn
  go_enter Tryd.func13, Tryd.ntmps13
  go_wp2_with (first
   | (go_at_call 32; refine same_call HL.out ?_; rw [e1]))
  go_ret2
  rw [HX.out]
  exact ⟨_, _, _, _, rfl, hidden ⟨rfl, OwnJ.nil _ _, rfl, HB.out, Cf.refl _ _⟩⟩
def slR (M : Int → Option Pf) (P first n fr to rd : Int) : Int × List Int × Int :=
 if ¬ (1 ≤ n ∧ n ≤ 65536) then (31, [], rd) else if fr < 0 ∨ to < fr ∨ n < to then (1, [], rd) else if fr = to then (0, [], rd) else
  if (thr M P n (pgN P n) (pgN P to).toNat first [] [] rd).1 = 0 then (0, ((thr M P n (pgN P n) (pgN P to).toNat first [] [] rd).2.2.1.drop fr.toNat).take (to - fr).toNat, (thr M P n (pgN P n) (pgN P to).toNat first [] [] rd).2.2.2)
  else ((thr M P n (pgN P n) (pgN P to).toNat first [] [] rd).1, [], (thr M P n (pgN P n) (pgN P to).toNat first [] [] rd).2.2.2)
theorem slR_con {M N : Int → Option Pf} (h : con M = con N) (P first n fr to rd : Int) : slR M P first n fr to rd = slR N P first n fr to rd := by
 unfold slR
 rw [thr_con h]
theorem slR_reads {M : Int → Option Pf} {P first n fr to rd : Int} (hp : pw P) : rd ≤ (slR M P first n fr to rd).2.2 ∧ (slR M P first n fr to rd).2.2 ≤ rd + 65536 := by
 unfold slR
 split
 ·simp only; omega
 ·rename_i h
  split
  ·simp only; omega
  ·rename_i h2
   split
   ·simp only; omega
   ·rename_i h3
    have h1 := thr_reads (M := M) (pg := P) (n := n) (all := pgN P n) (pgN P to).toNat first [] [] rd
    have h2 := (pgN_le hp (n := to) (by omega) (by omega)).2
    split <;> (simp only; omega)
theorem pg_mono {P to n : Int} (hp : pw P) (h1 : 1 ≤ to) (h2 : to ≤ n) : pgN P to ≤ pgN P n := by
 have hpl := pw_le hp
 rw [pgN_pos hp h1, pgN_pos hp (by omega)]
 have := Int.ediv_le_ediv (show 0 < P - 16 by omega) (show to - 1 ≤ n - 1 by omega)
 omega
theorem pg_enough {P to : Int} (hp : pw P) (h1 : 1 ≤ to) : to ≤ (P - 16) * pgN P to := by
 have hpl := pw_le hp
 rw [pgN_pos hp h1]
 have h := Int.lt_mul_ediv_self_add (x := to - 1) (k := P - 16) (by omega)
 rw [Int.mul_add, Int.mul_one]
 omega
theorem thr_to {M : Int → Option Pf} {P n to first rd : Int} (hp : pw P) (hw : ∀ k f, M k = some f → Wf f.l) (h1 : 1 ≤ to) (h2 : to ≤ n) (h3 : n ≤ 65536) (h : (thr M P n (pgN P n) (pgN P to).toNat first [] [] rd).1 = 0) :
  to ≤ ((thr M P n (pgN P n) (pgN P to).toNat first [] [] rd).2.2.1.length : Int) ∧ (thr M P n (pgN P n) (pgN P to).toNat first [] [] rd).2.2.1.length ≤ 65536 ∧ Wf (thr M P n (pgN P n) (pgN P to).toNat first [] [] rd).2.2.1 := by
 have hpl := pw_le hp
 obtain ⟨⟨e, ps', d', r'⟩, hx⟩ : ∃ y, thr M P n (pgN P n) (pgN P to).toNat first [] [] rd = y := ⟨_, rfl⟩
 rw [hx] at h ⊢
 simp only at h
 subst h
 have hpt := (pgN_le hp h1 (by omega)).1
 have hpm := pg_mono hp h1 h2
 have hpe := pg_enough hp h1
 have hp1 : 1 ≤ pgN P to := by
  rw [pgN_pos hp h1]
  have : 0 ≤ (to - 1) / (P - 16) := Int.ediv_nonneg (by omega) (by omega)
  omega
 obtain ⟨g1, g2, g3, _⟩ := thr_len (by omega) hw (fun i hi => pg_full hp (by omega) hi) _ first [] [] rd ps' d' r' hx (by simp only [List.length_nil]; omega) (.inr (by simp)) Wf.nil
 have g4 := g3 (by omega)
 simp only [List.length_nil, Nat.zero_add] at g2
 rw [g2, Int.toNat_of_nonneg hpt] at g4
 refine ⟨by simp only; omega, by simp only; omega, g1⟩
def SlcTo (x : Int × List Int × Int) (w : World) (b m : Nat) (en pg ps : Int) (M : Int → Option Pf) (ct : Nat) (e : Ending) (u : World) : Prop :=
 ∃ bo bn bc k, e = .returned (.tuple #[.slice bo bn bc, .int .i64 k]) ∧ Hid (x.1 = k ∧ OwnB u w.heap.size (.slice bo bn bc) x.2.1 ∧ bn = x.2.1.length ∧ Bn u b m en pg ps x.2.2 M ct ∧ Cf (· = b) w u)
set_option maxHeartbeats 1000000 in
theorem slice_g {w : World} {b m : Nat} {en pg ps rd : Int} {M : Int → Option Pf} {ct : Nat} (h : Bn w b m en pg ps rd M ct) (hp : pw pg) (first n fr to : Int) (hf : (Lit.int .i64 first).wf = true) (hrd : rd < 2305843009213693952) (hr0 : 0 ≤ rd) (ht : Tab w) (h0 : 0 < w.heap.size) (hb0 : b ≠ 0) :
  Calls Tryd.prog 14 #[iB b, .int .i64 first, .int .i64 n, .int .i64 fr, .int .i64 to] w fun e u => SlcTo (slR M pg first n fr to rd) w b m en pg ps M ct e u := by
 have HL := hidden (mayLie_any h hp n)
 have HB := hidden h
 by_cases hn : 1 ≤ n ∧ n ≤ 65536
 ·have e1 : decide (1 ≤ n ∧ n ≤ 65536) = true := by simpa using hn
  by_cases hr : fr < 0 ∨ to < fr ∨ n < to
  ·have HX : Hid (slR M pg first n fr to rd = (1, [], rd)) := hidden (by unfold slR; rw [if_neg (by simp [hn]), if_pos hr])
   by_cases a1 : fr < 0
   ·have b1 : decide (fr < 0) = true := by simpa using a1
    clear h hp ht hn hr
    go_enter Tryd.func14, Tryd.ntmps14
    go_wp2_with (first
     | (go_at_call 32; refine same_call HL.out ?_; rw [e1]))
    go_ret2
    rw [HX.out]
    exact ⟨_, _, _, _, rfl, hidden ⟨rfl, OwnB.nil _ _, rfl, HB.out, Cf.refl _ _⟩⟩
   ·have b1 : decide (fr < 0) = false := by simpa using a1
    by_cases a2 : to < fr
    ·have b2 : decide (to < fr) = true := by simpa using a2
     clear h hp ht hn hr
     go_enter Tryd.func14, Tryd.ntmps14
     go_wp2_with (first
      | (go_at_call 32; refine same_call HL.out ?_; rw [e1]))
     go_ret2
     rw [HX.out]
     exact ⟨_, _, _, _, rfl, hidden ⟨rfl, OwnB.nil _ _, rfl, HB.out, Cf.refl _ _⟩⟩
    ·have b2 : decide (to < fr) = false := by simpa using a2
     have a3 : n < to := by omega
     have b3 : decide (n < to) = true := by simpa using a3
     clear h hp ht hn hr
     go_enter Tryd.func14, Tryd.ntmps14
     go_wp2_with (first
      | (go_at_call 32; refine same_call HL.out ?_; rw [e1]))
     go_ret2
     rw [HX.out]
     exact ⟨_, _, _, _, rfl, hidden ⟨rfl, OwnB.nil _ _, rfl, HB.out, Cf.refl _ _⟩⟩
  ·have a1 : ¬ fr < 0 := by omega
   have a2 : ¬ to < fr := by omega
   have a3 : ¬ n < to := by omega
   have b1 : decide (fr < 0) = false := by simpa using a1
   have b2 : decide (to < fr) = false := by simpa using a2
   have b3 : decide (n < to) = false := by simpa using a3
   by_cases a4 : fr = to
   ·have HX : Hid (slR M pg first n fr to rd = (0, [], rd)) := hidden (by unfold slR; rw [if_neg (by simp [hn]), if_neg hr, if_pos a4])
    have b4 : (fr == to) = true := by simpa using a4
    clear h hp ht hn hr a4
    go_enter Tryd.func14, Tryd.ntmps14
    go_wp2_with (first
     | (go_at_call 32; refine same_call HL.out ?_; rw [e1]))
    go_ret2
    rw [HX.out]
    exact ⟨_, _, _, _, rfl, hidden ⟨rfl, OwnB.nil _ _, rfl, HB.out, Cf.refl _ _⟩⟩
   ·have b4 : (fr == to) = false := by rw [beq_eq_false_iff_ne]; exact a4
    obtain ⟨F, rfl⟩ := Int.eq_ofNat_of_zero_le (show 0 ≤ fr by omega)
    obtain ⟨O, rfl⟩ := Int.eq_ofNat_of_zero_le (show 0 ≤ to by omega)
    have HT := hidden (through_any h hp first n O hf (by omega) hn.2 (by omega) (by omega) hrd hr0 ht h0 hb0)
    have hlen := thr_to (M := M) (P := pg) (n := n) (to := (O : Int)) (first := first) (rd := rd) hp h.wfs (by omega) (by omega) hn.2
    have HXX : Hid (slR M pg first n F O rd = if (thr M pg n (pgN pg n) (pgN pg O).toNat first [] [] rd).1 = 0 then (0, ((thr M pg n (pgN pg n) (pgN pg O).toNat first [] [] rd).2.2.1.drop F).take (O - F), (thr M pg n (pgN pg n) (pgN pg O).toNat first [] [] rd).2.2.2)
      else ((thr M pg n (pgN pg n) (pgN pg O).toNat first [] [] rd).1, [], (thr M pg n (pgN pg n) (pgN pg O).toNat first [] [] rd).2.2.2)) := hidden (by
     unfold slR
     rw [if_neg (by simp [hn]), if_neg hr, if_neg a4, Int.toNat_natCast, show ((O : Int) - (F : Int)).toNat = O - F by omega])
    generalize thr M pg n (pgN pg n) (pgN pg O).toNat first [] [] rd = x at *
    have HLEN := hidden hlen
    have a8 : ¬ F = O := by omega
    have oI : (O : Int) ≤ 65536 := by omega
    have z3 : (F : Int) ≤ (O : Int) := by omega
    have z4 : F ≤ O := by omega
    clear h hp ht hlen hn hr
    go_enter Tryd.func14, Tryd.ntmps14
    go_wp2_with (first
     | (go_at_call 32; refine same_call HL.out ?_; rw [e1])
     | (go_at_call 35; refine HT.out.mono ?_; rintro e u ⟨ao, an, ac, bo, bn, bc, k, rfl, HQ⟩; refine Hid.out ?_))
    apply hidden
    clear HL HT
    by_cases hk : k = 0
    ·subst hk
     obtain ⟨q1, q2, q3, q4, q5, q6, q7⟩ := HQ.out
     obtain ⟨l1, l2, l3⟩ := HLEN.out q1
     have hsl : Sl u bo bn bc x.2.2.1 := by
      obtain ⟨ao', c', e, hs, _⟩ := q4.sl l3 (by omega)
      injection e with e1 e2 e3
      subst e1 e3
      rw [← q5] at hs
      exact hs
     obtain ⟨bb, boff, rfl, _, _⟩ : ∃ b off, bo = some ⟨b, off, none⟩ ∧ b < u.heap.size ∧ ∀ i, i < bn → u.cell? ⟨b, off + i, none⟩ = some (.int .u8 (x.2.2.1.getD i 0)) := by
      rcases hsl.hat with h | h
      ·omega
      ·exact h
     have hcap := hsl.hcap
     have HSC := hidden (hsl.cut9 F (O - F) (by omega))
     have HQQ := hidden (And.intro q1 (And.intro q6 q7))
     have HCL := hidden (clone_any ⟨bb, boff + F, none⟩ (O - F) (bc - F) _ u HSC.out)
     have z1 : (O : Int) ≤ (bc : Int) := by omega
     have z2 : O ≤ bc := by omega
     have z5 : ¬ bc = F := by omega
     have HLE : Hid (((x.2.2.1.drop F).take (O - F)).length = O - F) := hidden (by rw [List.length_take, List.length_drop]; omega)
     clear q1 q2 q3 q4 q5 q6 q7 l1 l2 l3 hsl HQ HLEN HSC
     go_wp2_with (first
      | (go_at_call 36; refine HCL.out.mono ?_; rintro e u2 ⟨g, c, rfl, HO, HB2⟩))
     go_ret2
     obtain ⟨q1, q6, q7⟩ := HQQ.out
     rw [HXX.out, if_pos q1]
     exact ⟨_, _, _, _, rfl, hidden ⟨rfl, HO.out.1.low q7.size, HLE.out.symm, q6.on HB2.out, q7.go (Cf.of_below HB2.out)⟩⟩
    ·have hk2 : (k == 0) = false := by rw [beq_eq_false_iff_ne]; exact hk
     clear HLEN
     go_wp2
     go_ret2
     obtain ⟨q1, q2, q3, q4, q5, q6, q7⟩ := HQ.out
     rw [HXX.out, if_neg (by rw [q1]; exact hk)]
     exact ⟨_, _, _, _, rfl, hidden ⟨q1, OwnB.nil _ _, rfl, q6, q7⟩⟩
 ·have e1 : decide (1 ≤ n ∧ n ≤ 65536) = false := by simpa using hn
  have HX : Hid (slR M pg first n fr to rd = (31, [], rd)) := hidden (by unfold slR; rw [if_pos hn])
  clear h hp ht hn
  go_enter Tryd.func14, Tryd.ntmps14
  go_wp2_with (first
   | (go_at_call 32; refine same_call HL.out ?_; rw [e1]))
  go_ret2
  rw [HX.out]
  exact ⟨_, _, _, _, rfl, hidden ⟨rfl, OwnB.nil _ _, rfl, HB.out, Cf.refl _ _⟩⟩
def frP (x : Int × List Int × List Int × Int) : List Int := if x.1 = 0 then x.2.1 else []
theorem thr_in {M : Int → Option Pf} {pg n all : Int} : ∀ (k : Nat) (a : Int) (ps d : List Int) (r : Int) (ps' d' : List Int) (r' : Int), thr M pg n all k a ps d r = (0, ps', d', r') → ps'.length = ps.length + k
 | 0, a, ps, d, r, ps', d', r', h => by
  simp only [thr, Prod.mk.injEq] at h
  rw [← h.2.1, Nat.add_zero]
 | k + 1, a, ps, d, r, ps', d', r', h => by
  simp only [thr] at h
  by_cases e1 : a ∈ ps
  ·rw [if_pos e1] at h
   simp at h
  rw [if_neg e1] at h
  cases e2 : ldM M pg a with
  | inl e =>
   rw [e2] at h
   simp only [Prod.mk.injEq] at h
   exact absurd h.1 (ldM_fault e2)
  | inr x =>
   rw [e2] at h
   simp only at h
   by_cases e3 : (x.2.length : Int) ≠ min (pg - 16) (n - d.length) ∨ decide (((ps.length + 1 : Nat) : Int) = all) ≠ decide (x.1 = 0)
   ·rw [if_pos e3] at h
    simp at h
   rw [if_neg e3] at h
   have := thr_in k _ _ _ _ _ _ _ h
   rw [this, List.length_append]
   simp only [List.length_cons, List.length_nil]
   omega
theorem rdR_ok {M : Int → Option Pf} {P first n rd : Int} (hp : pw P) (h : (rdR M P first n rd).1 = 0) : (rdR M P first n rd).2.1.Nodup ∧ (∀ p ∈ (rdR M P first n rd).2.1, (M p).isSome = true) ∧ (rdR M P first n rd).2.1.length ≤ 65536 := by
 unfold rdR at h ⊢
 by_cases hn : 1 ≤ n ∧ n ≤ 65536
 ·rw [if_pos hn] at h ⊢
  obtain ⟨⟨e, ps', d', r'⟩, hx⟩ : ∃ y, thr M P n (pgN P n) (pgN P n).toNat first [] [] rd = y := ⟨_, rfl⟩
  rw [hx] at h ⊢
  simp only at h
  subst h
  obtain ⟨g1, g2⟩ := thr_ok M P n _ _ first [] [] rd ps' d' r' hx List.nodup_nil (fun p hp => absurd hp List.not_mem_nil)
  have g3 := thr_in _ _ _ _ _ _ _ _ hx
  have g4 := (pgN_le hp hn.1 hn.2).2
  exact ⟨g1, g2, by simp only [List.length_nil] at g3; simp only; omega⟩
 ·rw [if_neg hn] at h
  simp at h
set_option maxHeartbeats 1000000 in
theorem free_g {w : World} {b m : Nat} {en pg ps rd : Int} {M : Int → Option Pf} {ct : Nat} (h : Bn w b m en pg ps rd M ct) (hp : pw pg) (T : Nat) (hT : T ≤ 65534) (hg : Gd9 M T ct) (first n : Int) (hf : (Lit.int .i64 first).wf = true) (hrd : rd < 2305843009213693952) (hr0 : 0 ≤ rd) (ht : Tab w) (h0 : 0 < w.heap.size) (hb0 : b ≠ 0) :
  Calls Tryd.prog 17 #[iB b, .int .i64 first, .int .i64 n] w fun e u => e = .returned (.int .i64 (rdR M pg first n rd).1) ∧ Hid (Bn u b m en pg ps (rdR M pg first n rd).2.2.2 (delL M (frP (rdR M pg first n rd))) (ct - (frP (rdR M pg first n rd)).length) ∧ Cf (fun k => k = b ∨ k = m) w u) := by
 by_cases hx : (rdR M pg first n rd).1 = 0
 ·obtain ⟨g1, g2, g3⟩ := rdR_ok hp hx
  have hn : 1 ≤ n ∧ n ≤ 65536 := by
   unfold rdR at hx
   by_cases hn : 1 ≤ n ∧ n ≤ 65536
   ·exact hn
   ·rw [if_neg hn] at hx
    simp at hx
  have hq : ∀ p ∈ (rdR M pg first n rd).2.1, 2 ≤ p ∧ p < 65536 ∨ p = first := fun p hp => .inl (by have := hg.in_ p (g2 p hp); omega)
  unfold frP
  rw [if_pos hx, hx]
  have e1 : rdR M pg first n rd = thr M pg n (pgN pg n) (pgN pg n).toNat first [] [] rd := by unfold rdR; rw [if_pos hn]
  rw [e1] at hx g3 hq ⊢
  obtain ⟨⟨e, ql, d, r⟩, hX⟩ : ∃ y, thr M pg n (pgN pg n) (pgN pg n).toNat first [] [] rd = y := ⟨_, rfl⟩
  rw [hX] at hx g3 hq ⊢
  simp only at hx g3 hq ⊢
  subst hx
  exact free_may h hp first n hf hn.1 hn.2 hrd hr0 ht h0 hb0 ql d r hX (by omega) hq
 ·have HL := hidden (list_g h hp first n hf hrd hr0 ht h0 hb0)
  have HF : Hid (frP (rdR M pg first n rd) = []) := hidden (by unfold frP; rw [if_neg hx])
  generalize rdR M pg first n rd = x at *
  have HX := hidden hx
  clear h hp ht hx hg
  go_enter Tryd.func17, Tryd.ntmps17
  go_wp2_with (first
   | (go_at_call 13; refine HL.out.mono ?_; rintro e w1 ⟨ao, an, ac, k, rfl, HQ⟩; refine Hid.out ?_))
  apply hidden
  clear HL
  have hk : ¬ k = 0 := fun e => HX.out (HQ.out.1.trans e)
  have hk2 : (k == 0) = false := by rw [beq_eq_false_iff_ne]; exact hk
  go_wp2
  go_ret
  obtain ⟨q1, q2, q3, q4, q5⟩ := HQ.out
  rw [HF.out, delL_nil]
  exact ⟨by rw [q1]; rfl, hidden ⟨q4, q5.wide fun k h => .inl h⟩⟩
end Go.Proofs.YtoejadhlkamcjaaDoor
