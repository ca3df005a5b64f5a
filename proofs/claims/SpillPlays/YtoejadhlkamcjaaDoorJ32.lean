import Derived.Test.YtoejadhlkamcjaaDoorJ31
namespace Go.Proofs.YtoejadhlkamcjaaDoor
set_option maxRecDepth 100000
open Go.RowKit Go.Maps
theorem rread_g {w : World} {b m : Nat} {en pg ps rd : Int} {M : Int → Option Pf} {ct : Nat} (h : Bn w b m en pg ps rd M ct) (hp : pw pg) (first n : Int) (hf : (Lit.int .i64 first).wf = true) (hrd : rd < 2305843009213693952) (hr0 : 0 ≤ rd) :
  Calls Tryd.prog 21 #[pB b, .int .i64 first, .int .i64 n] w fun e u => ReadTo (rdR M pg first n rd) w b m en pg ps M ct e u := by
 have HB := hidden h
 by_cases hn : 1 ≤ n ∧ n ≤ 65536
 ·have e1 : decide (n < 1) = false := by simp; omega
  have e2 : decide (65536 < n) = false := by simp; omega
  have e3 : ¬ n < 1 := by omega
  have e4 : ¬ 65536 < n := by omega
  have hpn := pgN_le hp hn.1 hn.2
  obtain ⟨T, hT⟩ : ∃ T : Nat, pgN pg n = (T : Int) := ⟨(pgN pg n).toNat, by omega⟩
  have HP := fun u => refPages_any pg n (by omega) u
  rw [hT] at HP
  have HS := hidden (size_any h)
  have HC := hidden (rchain_any h hp first n T hf hn.1 hn.2 (by omega) hrd hr0)
  have HX : Hid (rdR M pg first n rd = thr M pg n (pgN pg n) T first [] [] rd) := hidden (by unfold rdR; rw [if_pos hn, hT, Int.toNat_natCast])
  clear h hp hn hT hpn
  go_enter Tryd.func21, Tryd.ntmps21
  go_wp2_with (first
   | (go_at_call 49; refine same_call HS.out ?_)
   | (go_at_call 48; refine same_call (HP _) ?_)
   | (go_at_call 47; refine HC.out.mono ?_; rintro e u ⟨ao, an, ac, bo, bn, bc, k, rfl, HQ⟩))
  go_ret2
  obtain ⟨q1, q2, q3, q4, q5, q6, q7⟩ := HQ.out
  rw [HX.out]
  exact ⟨_, _, _, _, rfl, hidden ⟨q1, q4, q5, q6, q7⟩⟩
 ·have HX : Hid (rdR M pg first n rd = (31, [], [], rd)) := hidden (by unfold rdR; rw [if_neg hn])
  by_cases h1 : n < 1
  ·have e1 : decide (n < 1) = true := by simpa using h1
   clear h hp hn
   go_enter Tryd.func21, Tryd.ntmps21
   go_wp2
   go_ret2
   rw [HX.out]
   exact ⟨_, _, _, _, rfl, hidden ⟨rfl, OwnB.nil _ _, rfl, HB.out, Cf.refl _ _⟩⟩
  ·have e1 : decide (n < 1) = false := by simpa using h1
   have h2 : 65536 < n := by omega
   have e2 : decide (65536 < n) = true := by simpa using h2
   clear h hp hn
   go_enter Tryd.func21, Tryd.ntmps21
   go_wp2
   go_ret2
   rw [HX.out]
   exact ⟨_, _, _, _, rfl, hidden ⟨rfl, OwnB.nil _ _, rfl, HB.out, Cf.refl _ _⟩⟩
theorem rlist_g {w : World} {b m : Nat} {en pg ps rd : Int} {M : Int → Option Pf} {ct : Nat} (h : Bn w b m en pg ps rd M ct) (hp : pw pg) (first n : Int) (hf : (Lit.int .i64 first).wf = true) (hrd : rd < 2305843009213693952) (hr0 : 0 ≤ rd) :
  Calls Tryd.prog 24 #[pB b, .int .i64 first, .int .i64 n] w fun e u => ListTo (rdR M pg first n rd) w b m en pg ps M ct e u := by
 have HB := hidden h
 by_cases hn : 1 ≤ n ∧ n ≤ 65536
 ·have e1 : decide (n < 1) = false := by simp; omega
  have e2 : decide (65536 < n) = false := by simp; omega
  have e3 : ¬ n < 1 := by omega
  have e4 : ¬ 65536 < n := by omega
  have hpn := pgN_le hp hn.1 hn.2
  obtain ⟨T, hT⟩ : ∃ T : Nat, pgN pg n = (T : Int) := ⟨(pgN pg n).toNat, by omega⟩
  have HP := fun u => refPages_any pg n (by omega) u
  rw [hT] at HP
  have HS := hidden (size_any h)
  have HC := hidden (rchain_any h hp first n T hf hn.1 hn.2 (by omega) hrd hr0)
  have HX : Hid (rdR M pg first n rd = thr M pg n (pgN pg n) T first [] [] rd) := hidden (by unfold rdR; rw [if_pos hn, hT, Int.toNat_natCast])
  clear h hp hn hT hpn
  go_enter Tryd.func24, Tryd.ntmps24
  go_wp2_with (first
   | (go_at_call 49; refine same_call HS.out ?_)
   | (go_at_call 48; refine same_call (HP _) ?_)
   | (go_at_call 47; refine HC.out.mono ?_; rintro e u ⟨ao, an, ac, bo, bn, bc, k, rfl, HQ⟩))
  go_ret2
  obtain ⟨q1, q2, q3, q4, q5, q6, q7⟩ := HQ.out
  rw [HX.out]
  exact ⟨_, _, _, _, rfl, hidden ⟨q1, q2, q3, q6, q7⟩⟩
 ·have HX : Hid (rdR M pg first n rd = (31, [], [], rd)) := hidden (by unfold rdR; rw [if_neg hn])
  by_cases h1 : n < 1
  ·have e1 : decide (n < 1) = true := by simpa using h1
   clear h hp hn
   go_enter Tryd.func24, Tryd.ntmps24
   go_wp2
   go_ret2
   rw [HX.out]
   exact ⟨_, _, _, _, rfl, hidden ⟨rfl, OwnJ.nil _ _, rfl, HB.out, Cf.refl _ _⟩⟩
  ·have e1 : decide (n < 1) = false := by simpa using h1
   have h2 : 65536 < n := by omega
   have e2 : decide (65536 < n) = true := by simpa using h2
   clear h hp hn
   go_enter Tryd.func24, Tryd.ntmps24
   go_wp2
   go_ret2
   rw [HX.out]
   exact ⟨_, _, _, _, rfl, hidden ⟨rfl, OwnJ.nil _ _, rfl, HB.out, Cf.refl _ _⟩⟩
def RslTo (x : Int × List Int × Int) (w : World) (b m : Nat) (en pg ps : Int) (M : Int → Option Pf) (ct : Nat) (e : Ending) (u : World) : Prop :=
 ∃ bo bn bc k, e = .returned (.tuple #[.slice bo bn bc, .int .i64 k]) ∧ Hid (x.1 = k ∧ Sl u bo bn bc x.2.1 ∧ (∀ p, bo = some p → w.heap.size ≤ p.block) ∧ Bn u b m en pg ps x.2.2 M ct ∧ Cf (· = b) w u)
theorem Sl.none9 (u : World) : Sl u none 0 0 [] := ⟨rfl, Nat.le_refl _, by omega, Wf.nil, fun _ => rfl, .inl rfl⟩
theorem RslTo.no {k r : Int} {w : World} {b m : Nat} {en pg ps : Int} {M : Int → Option Pf} {ct : Nat} {u : World} (hb : Bn u b m en pg ps r M ct) (hc : Cf (· = b) w u) : RslTo (k, [], r) w b m en pg ps M ct (.returned (.tuple #[.slice none 0 0, .int .i64 k])) u :=
 ⟨_, _, _, _, rfl, hidden ⟨rfl, Sl.none9 _, fun p e => (by cases e), hb, hc⟩⟩
set_option maxHeartbeats 1000000 in
theorem rslice_g {w : World} {b m : Nat} {en pg ps rd : Int} {M : Int → Option Pf} {ct : Nat} (h : Bn w b m en pg ps rd M ct) (hp : pw pg) (first n fr to : Int) (hf : (Lit.int .i64 first).wf = true) (hrd : rd < 2305843009213693952) (hr0 : 0 ≤ rd) :
  Calls Tryd.prog 23 #[pB b, .int .i64 first, .int .i64 n, .int .i64 fr, .int .i64 to] w fun e u => RslTo (slR M pg first n fr to rd) w b m en pg ps M ct e u := by
 have HB := hidden h
 by_cases hn : 1 ≤ n ∧ n ≤ 65536
 ·have e1 : decide (n < 1) = false := by simp; omega
  have e2 : decide (65536 < n) = false := by simp; omega
  have e3 : ¬ n < 1 := by omega
  have e4 : ¬ 65536 < n := by omega
  by_cases hr : fr < 0 ∨ to < fr ∨ n < to
  ·have HX : Hid (slR M pg first n fr to rd = (1, [], rd)) := hidden (by unfold slR; rw [if_neg (by simp [hn]), if_pos hr])
   by_cases a1 : fr < 0
   ·have b1 : decide (fr < 0) = true := by simpa using a1
    clear h hp hn hr
    go_enter Tryd.func23, Tryd.ntmps23
    go_wp2
    go_ret2
    rw [HX.out]
    exact RslTo.no HB.out (Cf.refl _ _)
   ·have b1 : decide (fr < 0) = false := by simpa using a1
    by_cases a2 : to < fr
    ·have b2 : decide (to < fr) = true := by simpa using a2
     clear h hp hn hr
     go_enter Tryd.func23, Tryd.ntmps23
     go_wp2
     go_ret2
     rw [HX.out]
     exact RslTo.no HB.out (Cf.refl _ _)
    ·have b2 : decide (to < fr) = false := by simpa using a2
     have a3 : n < to := by omega
     have b3 : decide (n < to) = true := by simpa using a3
     clear h hp hn hr
     go_enter Tryd.func23, Tryd.ntmps23
     go_wp2
     go_ret2
     rw [HX.out]
     exact RslTo.no HB.out (Cf.refl _ _)
  ·have a1 : ¬ fr < 0 := by omega
   have a2 : ¬ to < fr := by omega
   have a3 : ¬ n < to := by omega
   have b1 : decide (fr < 0) = false := by simpa using a1
   have b2 : decide (to < fr) = false := by simpa using a2
   have b3 : decide (n < to) = false := by simpa using a3
   by_cases a4 : fr = to
   ·have HX : Hid (slR M pg first n fr to rd = (0, [], rd)) := hidden (by unfold slR; rw [if_neg (by simp [hn]), if_neg hr, if_pos a4])
    have b4 : (fr == to) = true := by simpa using a4
    clear h hp hn hr a4
    go_enter Tryd.func23, Tryd.ntmps23
    go_wp2
    go_ret2
    rw [HX.out]
    exact RslTo.no HB.out (Cf.refl _ _)
   ·have b4 : (fr == to) = false := by rw [beq_eq_false_iff_ne]; exact a4
    obtain ⟨F, rfl⟩ := Int.eq_ofNat_of_zero_le (show 0 ≤ fr by omega)
    obtain ⟨O, rfl⟩ := Int.eq_ofNat_of_zero_le (show 0 ≤ to by omega)
    have hpn := pgN_le hp (n := (O : Int)) (by omega) (by omega)
    have hpm := pg_mono hp (to := (O : Int)) (n := n) (by omega) (by omega)
    obtain ⟨T, hT⟩ : ∃ T : Nat, pgN pg O = (T : Int) := ⟨(pgN pg O).toNat, by omega⟩
    have HP := fun u => refPages_any pg (O : Int) (by omega) u
    have HS := hidden (size_any h)
    have HC := hidden (rchain_any h hp first n T hf hn.1 hn.2 (by omega) hrd hr0)
    have hlen := thr_to (M := M) (P := pg) (n := n) (to := (O : Int)) (first := first) (rd := rd) hp h.wfs (by omega) (by omega) hn.2
    have HXX : Hid (slR M pg first n F O rd = if (thr M pg n (pgN pg n) T first [] [] rd).1 = 0 then (0, ((thr M pg n (pgN pg n) T first [] [] rd).2.2.1.drop F).take (O - F), (thr M pg n (pgN pg n) T first [] [] rd).2.2.2)
      else ((thr M pg n (pgN pg n) T first [] [] rd).1, [], (thr M pg n (pgN pg n) T first [] [] rd).2.2.2)) := hidden (by
     unfold slR
     rw [if_neg (by simp [hn]), if_neg hr, if_neg a4, hT, Int.toNat_natCast, Int.toNat_natCast, show ((O : Int) - (F : Int)).toNat = O - F by omega])
    rw [hT] at HP hlen
    rw [Int.toNat_natCast] at hlen
    generalize thr M pg n (pgN pg n) T first [] [] rd = x at *
    have HLEN := hidden hlen
    have a8 : ¬ F = O := by omega
    have oI : (O : Int) ≤ 65536 := by omega
    have z3 : (F : Int) ≤ (O : Int) := by omega
    have z4 : F ≤ O := by omega
    clear h hp hlen hn hr hT hpn hpm
    go_enter Tryd.func23, Tryd.ntmps23
    go_wp2_with (first
     | (go_at_call 49; refine same_call HS.out ?_)
     | (go_at_call 48; refine same_call (HP _) ?_)
     | (go_at_call 47; refine HC.out.mono ?_; rintro e u ⟨ao, an, ac, bo, bn, bc, k, rfl, HQ⟩; refine Hid.out ?_))
    apply hidden
    clear HC HS HP
    by_cases hk : k = 0
    ·subst hk
     obtain ⟨q1, q2, q3, q4, q5, q6, q7⟩ := HQ.out
     obtain ⟨l1, l2, l3⟩ := HLEN.out q1
     obtain ⟨hsl, hlow⟩ : Sl u bo bn bc x.2.2.1 ∧ ∀ p, bo = some p → w.heap.size ≤ p.block := by
      obtain ⟨ao', c', e, hs, hl⟩ := q4.sl l3 (by omega)
      injection e with e1 e2 e3
      subst e1 e3
      rw [← q5] at hs
      exact ⟨hs, hl⟩
     obtain ⟨bb, boff, rfl, _, _⟩ : ∃ b off, bo = some ⟨b, off, none⟩ ∧ b < u.heap.size ∧ ∀ i, i < bn → u.cell? ⟨b, off + i, none⟩ = some (.int .u8 (x.2.2.1.getD i 0)) := by
      rcases hsl.hat with h | h
      ·omega
      ·exact h
     have hcap := hsl.hcap
     have HSC := hidden (hsl.cut9 F (O - F) (by omega))
     have HQQ := hidden (And.intro q1 (And.intro q6 q7))
     have HLW := hidden (hlow _ rfl)
     have z1 : (O : Int) ≤ (bc : Int) := by omega
     have z2 : O ≤ bc := by omega
     have z5 : ¬ bc = F := by omega
     clear q1 q2 q3 q4 q5 q6 q7 l1 l2 l3 hsl hlow HQ HLEN
     go_wp2
     go_ret2
     obtain ⟨q1, q6, q7⟩ := HQQ.out
     rw [HXX.out, if_pos q1]
     refine ⟨_, _, _, _, rfl, hidden ⟨rfl, HSC.out, fun p e => ?_, q6, q7⟩⟩
     cases e
     exact HLW.out
    ·have hk2 : (k == 0) = false := by rw [beq_eq_false_iff_ne]; exact hk
     clear HLEN
     go_wp2
     go_ret2
     obtain ⟨q1, q2, q3, q4, q5, q6, q7⟩ := HQ.out
     rw [HXX.out, if_neg (by rw [q1]; exact hk), q1]
     exact RslTo.no q6 q7
 ·have HX : Hid (slR M pg first n fr to rd = (31, [], rd)) := hidden (by unfold slR; rw [if_pos hn])
  by_cases h1 : n < 1
  ·have e1 : decide (n < 1) = true := by simpa using h1
   clear h hp hn
   go_enter Tryd.func23, Tryd.ntmps23
   go_wp2
   go_ret2
   rw [HX.out]
   exact RslTo.no HB.out (Cf.refl _ _)
  ·have e1 : decide (n < 1) = false := by simpa using h1
   have h2 : 65536 < n := by omega
   have e2 : decide (65536 < n) = true := by simpa using h2
   clear h hp hn
   go_enter Tryd.func23, Tryd.ntmps23
   go_wp2
   go_ret2
   rw [HX.out]
   exact RslTo.no HB.out (Cf.refl _ _)
set_option maxHeartbeats 1000000 in
theorem rfree_g {w : World} {b m : Nat} {en pg ps rd : Int} {M : Int → Option Pf} {ct : Nat} (h : Bn w b m en pg ps rd M ct) (hp : pw pg) (T : Nat) (hT : T ≤ 65534) (hg : Gd9 M T ct) (first n : Int) (hf : (Lit.int .i64 first).wf = true) (hrd : rd < 2305843009213693952) (hr0 : 0 ≤ rd) :
  Calls Tryd.prog 26 #[pB b, .int .i64 first, .int .i64 n] w fun e u => e = .returned (.int .i64 (rdR M pg first n rd).1) ∧ Hid (Bn u b m en pg ps (rdR M pg first n rd).2.2.2 (delL M (frP (rdR M pg first n rd))) (ct - (frP (rdR M pg first n rd)).length) ∧ Cf (fun k => k = b ∨ k = m) w u) := by
 have HL := hidden (rlist_g h hp first n hf hrd hr0)
 have HBS := hidden (And.intro h.lt h.mlt)
 have HOK := hidden (fun hx => rdR_ok (M := M) (P := pg) (first := first) (n := n) (rd := rd) hp hx)
 have HG := hidden hg
 obtain ⟨x, hxe⟩ : ∃ x, rdR M pg first n rd = x := ⟨_, rfl⟩
 rw [hxe] at HL HOK ⊢
 obtain ⟨k0, ql, d, r⟩ := x
 simp only at HOK ⊢
 clear h hp hg hxe
 by_cases hx : k0 = 0
 ·subst hx
  obtain ⟨hnd, hsm, hll⟩ := HOK.out rfl
  rw [show frP (0, ql, d, r) = ql from rfl]
  go_enter Tryd.func26, Tryd.ntmps26
  go_wp2_with (first
   | (go_at_call 24; refine HL.out.mono ?_; rintro e w1 ⟨ao, an, ac, k, rfl, HQ⟩; refine Hid.out ?_))
  apply hidden
  clear HL
  obtain ⟨q1, q2, q3, q4, q5⟩ := HQ.out
  obtain rfl : k = 0 := q1.symm
  have HJ : Hid (OwnJ w1 w.heap.size (.slice ao an ac) ql) := hidden q2
  have HB1 : Hid (Bn w1 b m en pg ps r M ct) := hidden q4
  have HC1 : Hid (Cf (· = b) w w1) := hidden q5
  have hanq : an = ql.length := q3
  have HAN := hidden hanq
  have hanI : (an : Int) ≤ 65537 := by omega
  have HND := hidden hnd
  have HSM := hidden hsm
  have HSJ : Hid (SlJ w1 ao an ac ql) := hidden (by
   obtain ⟨ao', c', e, hs⟩ := q2.sl
   injection e with e1 e2 e3
   subst e1 e3
   rw [← e2] at hs
   exact hs)
  clear q1 q2 q3 q4 q5 HQ hanq hnd hsm hll HOK
  go_wp2_with fail
  go_loopw [9] (fun i wr => ∃ j : Nat, j ≤ an ∧ i = .int .i64 (j : Int) ∧ Hid (Bn wr b m en pg ps r (delL M (ql.take j)) (ct - j) ∧ Cf (· = m) w1 wr)) (fun i _ => an - (intOf i).toNat)
  case atStart => exact ⟨0, by omega, rfl, hidden ⟨by rw [List.take_zero, delL_nil]; exact HB1.out, Cf.refl _ _⟩⟩
  case round =>
   obtain ⟨j, hj, rfl, HR⟩ := hrel
   by_cases hlt : j < an
   ·have hltI : (j : Int) < (an : Int) := by omega
    obtain ⟨ab, rfl, hab, hcs⟩ : ∃ b, ao = some ⟨b, 0, none⟩ ∧ b < w1.heap.size ∧ ∀ i, i < an → w1.cell? ⟨b, i, none⟩ = some (.int .i64 (ql.getD i 0)) := by
     rcases HSJ.out.hat with h | h
     ·omega
     ·exact h
    have cj : wr.cell? ⟨ab, j, none⟩ = some (.int .i64 (ql.getD j 0)) := by
     rw [← hcs j hlt]
     exact World.cell?_of_block (HR.out.2.block ab hab (fun e => by
      have h1 := (HJ.out.lt (k := ab) rfl).1
      have h2 := HBS.out.2
      omega))
    have hjl : j < ql.length := by rw [← HAN.out]; exact hlt
    have hmem : ql.getD j 0 ∈ ql := getD_mem hjl
    have hnot : ¬ ql.getD j 0 ∈ ql.take j := by
     intro hm
     have h1 := HND.out
     rw [← List.take_append_drop j ql, List.nodup_append] at h1
     have h2 : ql.getD j 0 ∈ ql.drop j := by rw [drop_cons ql j hjl]; simp
     exact h1.2.2 _ hm _ h2 rfl
    have HSN := hidden (take_snocI ql j hjl)
    have hin := HG.out.in_ _ (HSM.out _ hmem)
    have hwy : (Lit.int .i64 (ql.getD j 0)).wf = true := wf64 _ (by omega) (by omega)
    have hso : ((delL M (ql.take j)) (ql.getD j 0)).isSome = true := by
     unfold delL
     rw [if_neg hnot]
     exact HSM.out _ hmem
    obtain ⟨y, hy⟩ : ∃ y, ql.getD j 0 = y := ⟨_, rfl⟩
    rw [hy] at cj hso HSN hwy hin
    have HFR := hidden (bfree_any HR.out.1 y hwy)
    have HSO := hidden hso
    clear hcs hmem hnot hy hso hwy
    go_wp2_with (first
     | (go_at_call 50; refine HFR.out.mono ?_; rintro e w2 ⟨k, rfl, HK⟩; refine Hid.out ?_))
    apply hidden
    clear HFR
    obtain ⟨rfl, hb2, hc2⟩ : k = 0 ∧ Bn w2 b m en pg ps r (delM (delL M (ql.take j)) y) (ct - j - 1) ∧ Cf (· = m) wr w2 := by
     rcases HK.out with ⟨h1, _⟩ | ⟨_, h1, h2, h3⟩
     ·have := HSO.out
      rw [h1] at this
      cases this
     ·exact ⟨h1, h2, h3⟩
    have HX : Hid (Bn w2 b m en pg ps r (delL M (ql.take (j + 1))) (ct - (j + 1)) ∧ Cf (· = m) w1 w2) := hidden (by
     rw [HSN.out, ← delL_snoc, ← Nat.sub_sub]
     exact ⟨hb2, HR.out.2.go hc2⟩)
    clear HK hb2 hc2
    go_wp2
    go_roundw
    case rel => exact ⟨j + 1, by omega, by go_num, HX⟩
    case measure => simp [intOf]; omega
   ·obtain rfl : j = an := by omega
    have hlI : ¬ (j : Int) < (j : Int) := by omega
    go_wp2
    go_ret
    refine ⟨rfl, hidden ?_⟩
    have h1 := HR.out.1
    rw [List.take_of_length_le (by rw [HAN.out]; exact Nat.le_refl _)] at h1
    rw [← HAN.out]
    exact ⟨h1, (HC1.out.wide (fun k h => .inl h)).go (HR.out.2.wide (fun k h => .inr h))⟩
 ·have hfr : frP (k0, ql, d, r) = [] := by unfold frP; rw [if_neg hx]
  rw [hfr, delL_nil]
  have hk2 : (k0 == 0) = false := by rw [beq_eq_false_iff_ne]; exact hx
  clear hfr HOK
  go_enter Tryd.func26, Tryd.ntmps26
  go_wp2_with (first
   | (go_at_call 24; refine HL.out.mono ?_; rintro e w1 ⟨ao, an, ac, k, rfl, HQ⟩; refine Hid.out ?_))
  apply hidden
  clear HL
  obtain rfl : k = k0 := HQ.out.1.symm
  go_wp2
  go_ret
  obtain ⟨q1, q2, q3, q4, q5⟩ := HQ.out
  exact ⟨rfl, hidden ⟨q4, q5.wide fun k h => .inl h⟩⟩
end Go.Proofs.YtoejadhlkamcjaaDoor
