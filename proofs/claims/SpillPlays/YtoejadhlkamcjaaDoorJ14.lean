import Derived.Test.YtoejadhlkamcjaaDoorJ13
namespace Go.Proofs.YtoejadhlkamcjaaDoor
set_option maxRecDepth 100000
open Go.RowKit Go.Maps
def ReadTo (x : Int × List Int × List Int × Int) (w : World) (b m : Nat) (en pg ps : Int) (M : Int → Option Pf) (ct : Nat) (e : Ending) (u : World) : Prop :=
 ∃ bo bn bc k, e = .returned (.tuple #[.slice bo bn bc, .int .i64 k]) ∧ Hid (x.1 = k ∧ OwnB u w.heap.size (.slice bo bn bc) x.2.2.1 ∧ bn = x.2.2.1.length ∧ Bn u b m en pg ps x.2.2.2 M ct ∧ Cf (· = b) w u)
theorem read_may {w : World} {b m : Nat} {en pg ps rd : Int} {M : Int → Option Pf} {ct : Nat} (h : Bn w b m en pg ps rd M ct) (hp : pw pg) (first n : Int) (hf : (Lit.int .i64 first).wf = true) (hn : 1 ≤ n) (hn2 : n ≤ 65536) (hrd : rd < 2305843009213693952) (hr0 : 0 ≤ rd) (ht : Tab w) (h0 : 0 < w.heap.size) (hb0 : b ≠ 0) :
  Calls Tryd.prog 12 #[iB b, .int .i64 first, .int .i64 n] w fun e u => ReadTo (thr M pg n (pgN pg n) (pgN pg n).toNat first [] [] rd) w b m en pg ps M ct e u := by
 have HL := hidden (mayLie_any h hp n)
 have HT := hidden (through_any h hp first n n hf (by omega) hn2 (by omega) hn2 hrd hr0 ht h0 hb0)
 have e1 : decide (1 ≤ n ∧ n ≤ 65536) = true := by simp; omega
 clear h hp ht
 go_enter Tryd.func12, Tryd.ntmps12
 go_wp2_with (first
  | (go_at_call 32; refine same_call HL.out ?_; rw [e1])
  | (go_at_call 35; refine HT.out.mono ?_; rintro e u ⟨ao, an, ac, bo, bn, bc, k, rfl, HQ⟩))
 go_ret2
 obtain ⟨q1, q2, q3, q4, q5, q6, q7⟩ := HQ.out
 exact ⟨_, _, _, _, rfl, hidden ⟨q1, q4, q5, q6, q7⟩⟩
def ListTo (x : Int × List Int × List Int × Int) (w : World) (b m : Nat) (en pg ps : Int) (M : Int → Option Pf) (ct : Nat) (e : Ending) (u : World) : Prop :=
 ∃ ao an ac k, e = .returned (.tuple #[.slice ao an ac, .int .i64 k]) ∧ Hid (x.1 = k ∧ OwnJ u w.heap.size (.slice ao an ac) x.2.1 ∧ an = x.2.1.length ∧ Bn u b m en pg ps x.2.2.2 M ct ∧ Cf (· = b) w u)
theorem list_may {w : World} {b m : Nat} {en pg ps rd : Int} {M : Int → Option Pf} {ct : Nat} (h : Bn w b m en pg ps rd M ct) (hp : pw pg) (first n : Int) (hf : (Lit.int .i64 first).wf = true) (hn : 1 ≤ n) (hn2 : n ≤ 65536) (hrd : rd < 2305843009213693952) (hr0 : 0 ≤ rd) (ht : Tab w) (h0 : 0 < w.heap.size) (hb0 : b ≠ 0) :
  Calls Tryd.prog 13 #[iB b, .int .i64 first, .int .i64 n] w fun e u => ListTo (thr M pg n (pgN pg n) (pgN pg n).toNat first [] [] rd) w b m en pg ps M ct e u := by
 have HL := hidden (mayLie_any h hp n)
 have HT := hidden (through_any h hp first n n hf (by omega) hn2 (by omega) hn2 hrd hr0 ht h0 hb0)
 have e1 : decide (1 ≤ n ∧ n ≤ 65536) = true := by simp; omega
 clear h hp ht
 go_enter Tryd.func13, Tryd.ntmps13
 go_wp2_with (first
  | (go_at_call 32; refine same_call HL.out ?_; rw [e1])
  | (go_at_call 35; refine HT.out.mono ?_; rintro e u ⟨ao, an, ac, bo, bn, bc, k, rfl, HQ⟩))
 go_ret2
 obtain ⟨q1, q2, q3, q4, q5, q6, q7⟩ := HQ.out
 exact ⟨_, _, _, _, rfl, hidden ⟨q1, q2, q3, q6, q7⟩⟩
def SliceTo (x : Int × List Int × List Int × Int) (from_ to_ : Nat) (w : World) (b m : Nat) (en pg ps : Int) (M : Int → Option Pf) (ct : Nat) (e : Ending) (u : World) : Prop :=
 ∃ bo bn bc k, e = .returned (.tuple #[.slice bo bn bc, .int .i64 k]) ∧ Hid (x.1 = k ∧ (k ≠ 0 → bn = 0) ∧ (k = 0 → OwnB u w.heap.size (.slice bo bn bc) ((x.2.2.1.drop from_).take (to_ - from_)) ∧ bn = to_ - from_) ∧ Bn u b m en pg ps x.2.2.2 M ct ∧ Cf (· = b) w u)
set_option maxHeartbeats 1000000 in
theorem slice_may {w : World} {b m : Nat} {en pg ps rd : Int} {M : Int → Option Pf} {ct : Nat} (h : Bn w b m en pg ps rd M ct) (hp : pw pg) (first n : Int) (fr to : Nat) (hf : (Lit.int .i64 first).wf = true) (hn : 1 ≤ n) (hn2 : n ≤ 65536) (hft : fr < to) (htn : (to : Int) ≤ n)
  (hlen : (thr M pg n (pgN pg n) (pgN pg to).toNat first [] [] rd).1 = 0 → to ≤ (thr M pg n (pgN pg n) (pgN pg to).toNat first [] [] rd).2.2.1.length ∧ (thr M pg n (pgN pg n) (pgN pg to).toNat first [] [] rd).2.2.1.length ≤ 8589934592 ∧ Wf (thr M pg n (pgN pg n) (pgN pg to).toNat first [] [] rd).2.2.1) (hrd : rd < 2305843009213693952) (hr0 : 0 ≤ rd) (ht : Tab w) (h0 : 0 < w.heap.size) (hb0 : b ≠ 0) :
  Calls Tryd.prog 14 #[iB b, .int .i64 first, .int .i64 n, .int .i64 (fr : Int), .int .i64 (to : Int)] w fun e u => SliceTo (thr M pg n (pgN pg n) (pgN pg to).toNat first [] [] rd) fr to w b m en pg ps M ct e u := by
 have HL := hidden (mayLie_any h hp n)
 have HT := hidden (through_any h hp first n to hf (by omega) hn2 (by omega) (by omega) hrd hr0 ht h0 hb0)
 have e1 : decide (1 ≤ n ∧ n ≤ 65536) = true := by simp; omega
 have HB := hidden h
 generalize thr M pg n (pgN pg n) (pgN pg to).toNat first [] [] rd = x at *
 have HLEN := hidden hlen
 have a1 : decide ((fr : Int) < 0) = false := by simp
 have a2 : decide ((to : Int) < (fr : Int)) = false := by simp; omega
 have a3 : decide (n < (to : Int)) = false := by simp; omega
 have a4 : ((fr : Int) == (to : Int)) = false := by rw [beq_eq_false_iff_ne]; omega
 have a5 : ¬ (to : Int) < (fr : Int) := by omega
 have a6 : ¬ n < (to : Int) := by omega
 have a7 : ¬ (fr : Int) = (to : Int) := by omega
 have a8 : ¬ fr = to := by omega
 clear h hp ht hlen
 go_enter Tryd.func14, Tryd.ntmps14
 go_wp2_with (first
  | (go_at_call 32; refine same_call HL.out ?_; rw [e1])
  | (go_at_call 35; refine HT.out.mono ?_; rintro e u ⟨ao, an, ac, bo, bn, bc, k, rfl, HQ⟩; refine Hid.out ?_))
 apply hidden
 clear HL HT
 by_cases hk : k = 0
 ·subst hk
  obtain ⟨q1, q2, q3, q4, q5, q6, q7⟩ := HQ.out
  obtain ⟨l1, l2, l3⟩ := HLEN.out q1
  have hsl : Sl u bo bn bc x.2.2.1 := by
   obtain ⟨ao', c', e, hs, _⟩ := q4.sl l3 (by omega)
   injection e with e1 e2 e3
   subst e1 e3
   rw [← q5] at hs
   exact hs
  obtain ⟨bb, boff, rfl, _, _⟩ : ∃ b off, bo = some ⟨b, off, none⟩ ∧ b < u.heap.size ∧ ∀ i, i < bn → u.cell? ⟨b, off + i, none⟩ = some (.int .u8 (x.2.2.1.getD i 0)) := by
   rcases hsl.hat with h | h
   ·omega
   ·exact h
  have hcap := hsl.hcap
  have HSC := hidden (hsl.cut9 fr (to - fr) (by omega))
  have HQQ := hidden (And.intro q1 (And.intro q6 q7))
  have HCL := hidden (clone_any ⟨bb, boff + fr, none⟩ (to - fr) (bc - fr) _ u HSC.out)
  have z1 : (to : Int) ≤ (bc : Int) := by omega
  have z2 : to ≤ bc := by omega
  have z3 : (fr : Int) ≤ (to : Int) := by omega
  have z4 : fr ≤ to := by omega
  have z5 : ¬ bc = fr := by omega
  clear q1 q2 q3 q4 q5 q6 q7 l1 l2 l3 hsl HQ HLEN HSC
  go_wp2_with (first
   | (go_at_call 36; refine HCL.out.mono ?_; rintro e u2 ⟨g, c, rfl, HO, HB2⟩))
  go_ret2
  obtain ⟨q1, q6, q7⟩ := HQQ.out
  refine ⟨_, _, _, _, rfl, hidden ⟨q1, fun e => absurd rfl e, fun _ => ⟨HO.out.1.low q7.size, rfl⟩, q6.on HB2.out, q7.go (Cf.of_below HB2.out)⟩⟩
 ·have hk2 : (k == 0) = false := by rw [beq_eq_false_iff_ne]; exact hk
  clear HLEN
  go_wp2
  go_ret2
  obtain ⟨q1, q2, q3, q4, q5, q6, q7⟩ := HQ.out
  exact ⟨_, _, _, _, rfl, hidden ⟨q1, fun _ => rfl, fun e => absurd e hk, q6, q7⟩⟩
end Go.Proofs.YtoejadhlkamcjaaDoor

namespace Go.Proofs.YtoejadhlkamcjaaDoor
set_option maxRecDepth 100000
open Go.RowKit Go.Maps
theorem thr_ok (M : Int → Option Pf) (pg n all : Int) : ∀ (k : Nat) (a : Int) (ps d : List Int) (r : Int) (ps' d' : List Int) (r' : Int), thr M pg n all k a ps d r = (0, ps', d', r') → ps.Nodup → (∀ p ∈ ps, (M p).isSome = true) → ps'.Nodup ∧ ∀ p ∈ ps', (M p).isSome = true
 | 0, a, ps, d, r, ps', d', r', h, h1, h2 => by
  simp only [thr, Prod.mk.injEq] at h
  obtain ⟨_, rfl, _, _⟩ := h
  exact ⟨h1, h2⟩
 | k + 1, a, ps, d, r, ps', d', r', h, h1, h2 => by
  simp only [thr] at h
  split at h
  ·simp at h
  ·rename_i hni
   split at h
   ·rename_i e he
    simp only [Prod.mk.injEq] at h
    exact absurd h.1 (ldM_fault he)
   ·rename_i x hx
    split at h
    ·simp at h
    ·refine thr_ok M pg n all k _ _ _ _ ps' d' r' h ?_ ?_
     ·rw [List.nodup_append]
      refine ⟨h1, by simp, ?_⟩
      intro p hp q hq e
      simp only [List.mem_singleton] at hq
      subst hq e
      exact hni hp
     ·intro p hp
      rcases List.mem_append.1 hp with hp | hp
      ·exact h2 p hp
      ·simp only [List.mem_singleton] at hp
       subst hp
       unfold ldM at hx
       split at hx
       ·cases hx
       ·rename_i f hf
        rw [hf]
        rfl
theorem Cf.wide {F G : Nat → Prop} {a b : World} (h : Cf F a b) (hg : ∀ k, F k → G k) : Cf G a b := ⟨h.os, h.tape, h.output, h.size, fun k hk hf => h.block k hk (fun e => hf (hg k e))⟩
def delL (M : Int → Option Pf) (ps : List Int) : Int → Option Pf := fun k => if k ∈ ps then none else M k
theorem delL_nil (M : Int → Option Pf) : delL M [] = M := by
 funext k
 simp [delL]
theorem delL_snoc (M : Int → Option Pf) (ps : List Int) (p : Int) : delM (delL M ps) p = delL M (ps ++ [p]) := by
 funext k
 unfold delM delL
 by_cases h : k = p
 ·simp [h]
 ·rw [if_neg h]
  simp [h]
theorem take_snocI (l : List Int) (k : Nat) (h : k < l.length) : l.take (k + 1) = l.take k ++ [l.getD k 0] := by
 rw [List.take_add_one]
 simp [List.getElem?_eq_getElem h, List.getD]
set_option maxHeartbeats 1000000 in
theorem free_may {w : World} {b m : Nat} {en pg ps rd : Int} {M : Int → Option Pf} {ct : Nat} (h : Bn w b m en pg ps rd M ct) (hp : pw pg) (first n : Int) (hf : (Lit.int .i64 first).wf = true) (hn : 1 ≤ n) (hn2 : n ≤ 65536) (hrd : rd < 2305843009213693952) (hr0 : 0 ≤ rd) (ht : Tab w) (h0 : 0 < w.heap.size) (hb0 : b ≠ 0)
  (ql d : List Int) (r : Int) (hx : thr M pg n (pgN pg n) (pgN pg n).toNat first [] [] rd = (0, ql, d, r)) (hql : ql.length ≤ 65537) (hwf : ∀ p ∈ ql, 2 ≤ p ∧ p < 65536 ∨ p = first) :
  Calls Tryd.prog 17 #[iB b, .int .i64 first, .int .i64 n] w fun e u => e = .returned (.int .i64 0) ∧ Hid (Bn u b m en pg ps r (delL M ql) (ct - ql.length) ∧ Cf (fun k => k = b ∨ k = m) w u) := by
 have HL := hidden (list_may h hp first n hf hn hn2 hrd hr0 ht h0 hb0)
 rw [hx] at HL
 obtain ⟨hnd, hsm⟩ := thr_ok M pg n _ _ first [] [] rd ql d r hx List.nodup_nil (fun p hp => absurd hp List.not_mem_nil)
 have HBS := hidden (And.intro h.lt h.mlt)
 have HND := hidden hnd
 have HSM := hidden hsm
 have HWF := hidden hwf
 have HF := hidden hf
 clear h hp ht hx hnd hsm hwf hf
 go_enter Tryd.func17, Tryd.ntmps17
 go_wp2_with (first
  | (go_at_call 13; refine HL.out.mono ?_; rintro e w1 ⟨ao, an, ac, k, rfl, HQ⟩; refine Hid.out ?_))
 apply hidden
 clear HL
 obtain ⟨q1, q2, q3, q4, q5⟩ := HQ.out
 obtain rfl : k = 0 := q1.symm
 have HJ : Hid (OwnJ w1 w.heap.size (.slice ao an ac) ql) := hidden q2
 have HB1 : Hid (Bn w1 b m en pg ps r M ct) := hidden q4
 have HC1 : Hid (Cf (· = b) w w1) := hidden q5
 have hanq : an = ql.length := q3
 have HAN := hidden hanq
 have hanI : (an : Int) ≤ 65537 := by omega
 have HSJ : Hid (SlJ w1 ao an ac ql) := hidden (by
  obtain ⟨ao', c', e, hs⟩ := q2.sl
  injection e with e1 e2 e3
  subst e1 e3
  rw [← e2] at hs
  exact hs)
 clear q1 q2 q3 q4 q5 HQ hanq
 go_wp2_with fail
 go_loopw [24] (fun i wr => ∃ j : Nat, j ≤ an ∧ i = .int .i64 (j : Int) ∧ Hid (Bn wr b m en pg ps r (delL M (ql.take j)) (ct - j) ∧ Cf (· = m) w1 wr)) (fun i _ => an - (intOf i).toNat)
 case atStart => exact ⟨0, by omega, rfl, hidden ⟨by rw [List.take_zero, delL_nil]; exact HB1.out, Cf.refl _ _⟩⟩
 case round =>
  obtain ⟨j, hj, rfl, HR⟩ := hrel
  by_cases hlt : j < an
  ·have hltI : (j : Int) < (an : Int) := by omega
   obtain ⟨ab, rfl, hab, hcs⟩ : ∃ b, ao = some ⟨b, 0, none⟩ ∧ b < w1.heap.size ∧ ∀ i, i < an → w1.cell? ⟨b, i, none⟩ = some (.int .i64 (ql.getD i 0)) := by
    rcases HSJ.out.hat with h | h
    ·omega
    ·exact h
   have cj : wr.cell? ⟨ab, j, none⟩ = some (.int .i64 (ql.getD j 0)) := by
    rw [← hcs j hlt]
    exact World.cell?_of_block (HR.out.2.block ab hab (fun e => by
     have h1 := (HJ.out.lt (k := ab) rfl).1
     have h2 := HBS.out.2
     omega))
   have hjl : j < ql.length := by rw [← HAN.out]; exact hlt
   have hmem : ql.getD j 0 ∈ ql := by
    rw [show ql.getD j 0 = ql[j] from by simp [List.getD, hjl]]
    exact List.getElem_mem hjl
   have hnot : ¬ ql.getD j 0 ∈ ql.take j := by
    intro hm
    have h1 := HND.out
    rw [← List.take_append_drop j ql, List.nodup_append] at h1
    have h2 : ql.getD j 0 ∈ ql.drop j := by rw [drop_cons ql j hjl]; simp
    exact h1.2.2 _ hm _ h2 rfl
   have HSN := hidden (take_snocI ql j hjl)
   have hwy : (Lit.int .i64 (ql.getD j 0)).wf = true := by
    rcases HWF.out _ hmem with h | h
    ·exact wf64 _ (by omega) (by omega)
    ·rw [h]; exact HF.out
   have hso : ((delL M (ql.take j)) (ql.getD j 0)).isSome = true := by
    unfold delL
    rw [if_neg hnot]
    exact HSM.out _ hmem
   obtain ⟨y, hy⟩ : ∃ y, ql.getD j 0 = y := ⟨_, rfl⟩
   rw [hy] at cj hso HSN hwy
   have HFR := hidden (bfree_any HR.out.1 y hwy)
   have HSO := hidden hso
   clear hcs hmem hnot hy hso hwy
   go_wp2_with (first
    | (go_at_call 50; refine HFR.out.mono ?_; rintro e w2 ⟨k, rfl, HK⟩; refine Hid.out ?_))
   apply hidden
   clear HFR
   obtain ⟨rfl, hb2, hc2⟩ : k = 0 ∧ Bn w2 b m en pg ps r (delM (delL M (ql.take j)) y) (ct - j - 1) ∧ Cf (· = m) wr w2 := by
    rcases HK.out with ⟨h1, _⟩ | ⟨_, h1, h2, h3⟩
    ·have := HSO.out
     rw [h1] at this
     cases this
    ·exact ⟨h1, h2, h3⟩
   have HX : Hid (Bn w2 b m en pg ps r (delL M (ql.take (j + 1))) (ct - (j + 1)) ∧ Cf (· = m) w1 w2) := hidden (by
    rw [HSN.out, ← delL_snoc, ← Nat.sub_sub]
    exact ⟨hb2, HR.out.2.go hc2⟩)
   clear HK hb2 hc2
   go_wp2
   go_roundw
   case rel => exact ⟨j + 1, by omega, by go_num, HX⟩
   case measure => simp [intOf]; omega
  ·obtain rfl : j = an := by omega
   have hlI : ¬ (j : Int) < (j : Int) := by omega
   go_wp2
   go_ret
   refine ⟨rfl, hidden ?_⟩
   have h1 := HR.out.1
   rw [List.take_of_length_le (by rw [HAN.out]; exact Nat.le_refl _)] at h1
   rw [← HAN.out]
   exact ⟨h1, (HC1.out.wide (fun k h => .inl h)).go (HR.out.2.wide (fun k h => .inr h))⟩
end Go.Proofs.YtoejadhlkamcjaaDoor
