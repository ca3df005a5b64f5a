import Derived.Test.YtfgffajgfgifhaaGreatDoorJ36
namespace Go.Proofs.YtfgffajgfgifhaaGreatDoor
set_option maxRecDepth 100000
set_option maxHeartbeats 8000000
open Go.RowKit
def ordD (ds : List Cl) (i : Nat) (c : Cl) : Prop := (∀ t d, i = t + 1 → ds[t]? = some d → kl d.key c.key) ∧ (∀ d, ds[i + 1]? = some d → kl c.key d.key)
def RfR (k : Int) (n : Nat) (ds : List Cl) (i : Nat) (c : Cl) (code : Int) : Prop :=
 (¬ mayP k n c ∧ code = 62) ∨ (mayP k n c ∧ ¬ ordD ds i c ∧ code = 63) ∨ (mayP k n c ∧ ordD ds i c ∧ ¬ szQ k (shP k ds).length ds ≤ n ∧ code = 61) ∨ (mayP k n c ∧ ordD ds i c ∧ szQ k (shP k ds).length ds ≤ n ∧ code = 0)
theorem ordD_spl {cs : List Cl} {i j : Nat} {c : Cl} (hi : i ≤ cs.length) : ordD (spl cs i j c) i c ↔ zau cs i j c := by
 unfold ordD zau
 have h1 : ∀ t, i = t + 1 → (spl cs i j c)[t]? = cs[t]? := fun t e => by rw [zbq _ _ _ _ hi, if_pos (by omega)]
 have h2 : (spl cs i j c)[i + 1]? = cs[j]? := by rw [zbq _ _ _ _ hi, if_neg (by omega), if_neg (by omega)]; congr 1; omega
 constructor
 ·rintro ⟨a, b⟩
  refine ⟨fun t d e hd => ?_, fun d hd => ?_⟩
  ·have := a t d e (by rw [h1 t e]; exact hd)
   unfold kl at this
   omega
  ·have := b d (by rw [h2]; exact hd)
   have h3 := ordL_flip d.key c.key
   unfold kl at this
   omega
 ·rintro ⟨a, b⟩
  refine ⟨fun t d e hd => ?_, fun d hd => ?_⟩
  ·have := a t d e (by rw [← h1 t e]; exact hd)
   have h3 := zbt d.key c.key
   unfold kl
   omega
  ·have := b d (by rw [← h2]; exact hd)
   have h3 := ordL_flip c.key d.key
   have h4 := zbt c.key d.key
   unfold kl
   omega
theorem drefused_any (w : World) (r : Nat) (k : Int) (n : Nat) (lv sv : Value) (ws : Int) (h : QD w r k n lv sv ws) (hn : pw n) (ao : Option Addr) (m cap : Nat) (ds : List Cl) (hs : SlC w ao m cap ds) (hm : m ≤ 65536) (i : Nat) (c : Cl) (hi : ds[i]? = some c) (hf : ∀ (j : Nat) (d : Cl), ds[j]? = some d → ¬ j = i → d.fit) :
  Calls Tryz.prog 70 #[.pointer (some ⟨r, 0, none⟩), .slice ao m cap, .int .i64 (i : Int)] w fun e w' => ∃ code, e = .returned (.int .i64 code) ∧ Hid (RfR k n ds i c code) ∧ Hid (Below w.heap.size w w') := by
 have hn2 := zai hn
 have hil : i < m := by have := (zH.1 hi).1; have := hs.hlen; omega
 have HU : Hid (∀ u, Below w.heap.size w u → QD u r k n lv sv ws ∧ SlC u ao m cap ds) := zaa fun u hu => ⟨zaf h hu, hs.on hu⟩
 have HI := zaa hi
 have HF := zaa hf
 have HLN := zaa hs.hlen
 have hrm := hs.hroom
 obtain ⟨b, off, c', ka, kc, va, vc, rfl, hbl, hci, c0, c1, c2, c3, c4, hk, hv⟩ := hs.item i hil
 rw [hi] at hci
 injection hci with hci
 subst hci
 have hkr := hk.hroom
 have hvr := hv.hroom
 obtain ⟨t0, t1, t2, t3, t4⟩ := h.cells
 have HMY : Hid (∀ u, Below w.heap.size w u → Calls Tryz.prog 113 #[.int .i64 k, .agg #[.slice ka c.key.length kc, .int .i64 c.kd, .slice va c.val.length vc, .int .i64 c.pg, .int .i64 c.ct], .int .i64 (n : Int)] u fun e w' => e = .returned (.bool (decide (mayP k n c))) ∧ Hid (Below w.heap.size w w')) := zaa fun u hu => by
  refine (rmay_any k (n : Int) c ka va kc vc u (by omega) (by omega) hkr hvr).mono ?_
  rintro e w' ⟨rfl, hb⟩
  exact ⟨rfl, zaa (zab hu Lr hb)⟩
 obtain ⟨b1, hb1⟩ : ∃ b1, decide (mayP k n c) = b1 := ⟨_, rfl⟩
 rw [hb1] at HMY
 have HB1 := zaa hb1
 have iI : (i : Int) < (m : Int) := by omega
 have mI : (m : Int) ≤ 70000 := by omega
 have nI : (n : Int) ≤ 65536 := by omega
 have HPW := zaa hn
 clear h hs hi hf hk hv hb1 hn hn2 hkr hvr hbl hrm
 go_enter Tryz.func70, Tryz.ntmps70
 go_upto_region 1 with fail
 go_cut [7] from 11 to 23 (fun v u => v = .bool b1 ∧ Hid (Below w.heap.size w u))
 case first =>
  go_wp2_with fail
  go_region_with (first | (go_at_call 113; refine (HMY.out _ (by first | exact Br | exact Br.drew | exact zad Br _)).mono ?_; rintro e w2 ⟨rfl, HB2⟩))
  all_goals (try go_wp2_with fail)
  all_goals go_meet
  all_goals exact ⟨rfl, by first | exact HB2 | exact zaa HB2.out.drew | exact zaa (zad HB2.out _)⟩
 obtain ⟨rfl, HB2⟩ := hcut
 obtain ⟨w2, hw2⟩ : ∃ w2, w2 = wc := ⟨_, rfl⟩
 subst hw2
 clear c0 c1 c2 c3 c4 t0 t1 t2 t3 t4 HMY
 cases b1 with
 | false =>
  have HNM : Hid (¬ mayP k n c) := zaa (of_decide_eq_false HB1.out)
  go_wp2
  go_ret
  exact ⟨62, rfl, zaa (.inl ⟨HNM.out, rfl⟩), HB2⟩
 | true =>
  have HM : Hid (mayP k n c) := zaa (of_decide_eq_true HB1.out)
  obtain ⟨Z, hZ0⟩ : ∃ Z, szQ k (shP k ds).length ds = Z := ⟨_, rfl⟩
  have HZ := zaa hZ0
  clear hZ0
  have HFA : Hid (∀ d ∈ ds, d.fit) := zaa fun d hd => by
   obtain ⟨j, hj⟩ := List.getElem?_of_mem hd
   by_cases e : j = i
   ·subst e
    rw [HI.out] at hj
    injection hj with hj
    subst hj
    exact HM.out.fit (by have := zai HPW.out; omega)
   ·exact HF.out j d hj e
  have HBW := HB2
  by_cases hi0 : i = 0
  ·have hi0I : ¬ 0 < (i : Int) := by omega
   have hi0N : ¬ 0 < i := by omega
   have hi0B : decide (0 < i) = false := decide_eq_false hi0N
   have HLO : Hid (∀ t d, i = t + 1 → ds[t]? = some d → kl d.key c.key) := zaa fun t d e => by omega
   clear hi0
   by_cases hnx : i + 1 < m
   ·have hnxI : (i : Int) + 1 < (m : Int) := by omega
    obtain ⟨b', off', d2, ka2, kc2, va2, vc2, e2, _, hc2, c0, c1, c2, c3, c4, hk2, hv2⟩ := (HU.out w2 HBW.out).2.item (i + 1) hnx
    injection e2 with e2
    injection e2 with e2 e3
    subst e2 e3
    obtain ⟨b'', off'', d3, ka3, kc3, va3, vc3, e3, _, hc3, f0, f1, f2, f3, f4, hk3, hv3⟩ := (HU.out w2 HBW.out).2.item i (by omega)
    injection e3 with e3
    injection e3 with e3 e4
    subst e3 e4
    rw [HI.out] at hc3
    injection hc3 with hc3
    subst hc3
    have HAH : Hid (∀ u, Below w2.heap.size w2 u → Calls Tryz.prog 114 #[.slice ka3 c.key.length kc3, .slice ka2 d2.key.length kc2] u fun e w' => e = .returned (.bool (decide (kl c.key d2.key))) ∧ Hid (Below w2.heap.size w2 w')) := zaa fun u hu => by
     refine (rahead_any ka3 ka2 _ _ kc3 kc2 c.key d2.key u (hk3.on Lr hu) (hk2.on Lr hu)).mono ?_
     rintro e w' ⟨rfl, q, rfl⟩
     exact ⟨rfl, zaa (zad hu q)⟩
    obtain ⟨b3, hb3⟩ : ∃ b3, decide (kl c.key d2.key) = b3 := ⟨_, rfl⟩
    rw [hb3] at HAH
    have HB3 := zaa hb3
    have HC2 := zaa hc2
    obtain ⟨i1, hi1⟩ : ∃ i1, i + 1 = i1 := ⟨_, rfl⟩
    rw [hi1] at c0 c1 c2 c3 c4 hnx HC2
    have hi1I : (i : Int) + 1 = (i1 : Int) := by omega
    have hi1m : (i1 : Int) < (m : Int) := by omega
    have HI1 := zaa hi1
    have hw1 : IntKind.i64.wrap ((i : Int) + 1) = (i1 : Int) := by rw [IntKind.wrap_i64]; omega
    have hw2 : IntKind.i64.wrap (i1 : Int) = (i1 : Int) := by rw [IntKind.wrap_i64]; omega
    clear hk2 hk3 hv2 hv3 hc2 hb3 hi1 hnx
    go_upto_region 9 with fail
    go_cut [9] from 47 to 58 (fun v u => v = .bool b3 ∧ Hid (Below w2.heap.size w2 u))
    case first =>
     go_wp2_with fail
     go_region_with (first | (go_at_call 114; refine (HAH.out _ (by first | exact Br | exact Br.drew | exact zad Br _)).mono ?_; rintro e w4 ⟨rfl, HB4⟩))
     all_goals (try go_wp2_with fail)
     all_goals go_meet
     all_goals exact ⟨rfl, by first | exact HB4 | exact zaa HB4.out.drew | exact zaa (zad HB4.out _)⟩
    obtain ⟨rfl, HB4⟩ := hcut
    obtain ⟨w4, hw4⟩ : ∃ w4, w4 = wc := ⟨_, rfl⟩
    subst hw4
    have HBW := zaa (zab HBW.out Lr HB4.out)
    clear c0 c1 c2 c3 c4 f0 f1 f2 f3 f4 HAH
    cases b3 with
    | false =>
     go_wp2
     go_ret
     exact ⟨63, rfl, zaa (.inr (.inl ⟨HM.out, (fun e => (of_decide_eq_false HB3.out) (e.2 d2 (by rw [HI1.out]; exact HC2.out))), rfl⟩)), HBW⟩
    | true =>
     have HHI : Hid (∀ d, ds[i + 1]? = some d → kl c.key d.key) := zaa fun d hd => by
      rw [HI1.out, HC2.out] at hd
      injection hd with hd
      subst hd
      exact of_decide_eq_true HB3.out
     have HSZ : Hid (Calls Tryz.prog 75 #[.int .i64 k, .slice (some ⟨b, off, none⟩) m cap] w4 fun e w' => e = .returned (.int .i64 (Z : Int)) ∧ w'.cell? ⟨r, 1, none⟩ = some (.int .i64 (n : Int)) ∧ Hid (Below w.heap.size w w')) := zaa (by
      have h1 := zdb k _ m cap ds w4 (HU.out w4 HBW.out).2 (by omega) (fun d hd => by have := (HFA.out d hd).key; have := (HFA.out d hd).val; omega) (szQ_big k ds HFA.out (by have := HLN.out; omega))
      rw [HZ.out] at h1
      refine h1.mono ?_
      rintro e w' ⟨rfl, HB⟩
      have hb := zab HBW.out Lr HB.out
      exact ⟨rfl, (HU.out w' hb).1.cells.2.1, zaa hb⟩)
     obtain ⟨t0, t1, t2, t3, t4⟩ := (HU.out w4 HBW.out).1.cells
     by_cases hZ : Z ≤ n
     ·have hZI : ¬ (n : Int) < (Z : Int) := by omega
      have HZN := zaa hZ
      clear hZ
      go_wp2_with (go_at_call 75; refine HSZ.out.mono ?_; rintro e w5 ⟨rfl, y1, HB5⟩)
      go_ret
      exact ⟨0, rfl, zaa (.inr (.inr (.inr ⟨HM.out, ⟨HLO.out, HHI.out⟩, by rw [HZ.out]; exact HZN.out, rfl⟩))), HB5⟩
     ·have hZI : (n : Int) < (Z : Int) := by omega
      have HZN := zaa hZ
      clear hZ
      go_wp2_with (go_at_call 75; refine HSZ.out.mono ?_; rintro e w5 ⟨rfl, y1, HB5⟩)
      go_ret
      exact ⟨61, rfl, zaa (.inr (.inr (.inl ⟨HM.out, ⟨HLO.out, HHI.out⟩, by rw [HZ.out]; exact HZN.out, rfl⟩))), HB5⟩
   ·have hnxI : ¬ (i : Int) + 1 < (m : Int) := by omega
    have HHI : Hid (∀ d, ds[i + 1]? = some d → kl c.key d.key) := zaa fun d hd => by
     have h1 := (zH.1 hd).1
     have h2 := HLN.out
     omega
    have HSZ : Hid (Calls Tryz.prog 75 #[.int .i64 k, .slice (some ⟨b, off, none⟩) m cap] w2 fun e w' => e = .returned (.int .i64 (Z : Int)) ∧ w'.cell? ⟨r, 1, none⟩ = some (.int .i64 (n : Int)) ∧ Hid (Below w.heap.size w w')) := zaa (by
     have h1 := zdb k _ m cap ds w2 (HU.out w2 HBW.out).2 (by omega) (fun d hd => by have := (HFA.out d hd).key; have := (HFA.out d hd).val; omega) (szQ_big k ds HFA.out (by have := HLN.out; omega))
     rw [HZ.out] at h1
     refine h1.mono ?_
     rintro e w' ⟨rfl, HB⟩
     have hb := zab HBW.out Lr HB.out
     exact ⟨rfl, (HU.out w' hb).1.cells.2.1, zaa hb⟩)
    obtain ⟨t0, t1, t2, t3, t4⟩ := (HU.out w2 HBW.out).1.cells
    by_cases hZ : Z ≤ n
    ·have hZI : ¬ (n : Int) < (Z : Int) := by omega
     have HZN := zaa hZ
     clear hZ
     go_wp2_with (go_at_call 75; refine HSZ.out.mono ?_; rintro e w5 ⟨rfl, y1, HB5⟩)
     go_ret
     exact ⟨0, rfl, zaa (.inr (.inr (.inr ⟨HM.out, ⟨HLO.out, HHI.out⟩, by rw [HZ.out]; exact HZN.out, rfl⟩))), HB5⟩
    ·have hZI : (n : Int) < (Z : Int) := by omega
     have HZN := zaa hZ
     clear hZ
     go_wp2_with (go_at_call 75; refine HSZ.out.mono ?_; rintro e w5 ⟨rfl, y1, HB5⟩)
     go_ret
     exact ⟨61, rfl, zaa (.inr (.inr (.inl ⟨HM.out, ⟨HLO.out, HHI.out⟩, by rw [HZ.out]; exact HZN.out, rfl⟩))), HB5⟩
  ·have hi0I : 0 < (i : Int) := by omega
   have hi0N : 0 < i := by omega
   have hi0B : decide (0 < i) = true := decide_eq_true hi0N
   obtain ⟨t, ht⟩ : ∃ t, i = t + 1 := ⟨i - 1, by omega⟩
   have htI : (i : Int) - 1 = (t : Int) := by omega
   have htm : (t : Int) < (m : Int) := by omega
   obtain ⟨b', off', d2, ka2, kc2, va2, vc2, e2, _, hc2, c0, c1, c2, c3, c4, hk2, hv2⟩ := (HU.out w2 HBW.out).2.item t (by omega)
   injection e2 with e2
   injection e2 with e2 e3
   subst e2 e3
   obtain ⟨b'', off'', d3, ka3, kc3, va3, vc3, e3, _, hc3, f0, f1, f2, f3, f4, hk3, hv3⟩ := (HU.out w2 HBW.out).2.item i (by omega)
   injection e3 with e3
   injection e3 with e3 e4
   subst e3 e4
   rw [HI.out] at hc3
   injection hc3 with hc3
   subst hc3
   have HAH : Hid (∀ u, Below w2.heap.size w2 u → Calls Tryz.prog 114 #[.slice ka2 d2.key.length kc2, .slice ka3 c.key.length kc3] u fun e w' => e = .returned (.bool (decide (kl d2.key c.key))) ∧ Hid (Below w2.heap.size w2 w')) := zaa fun u hu => by
    refine (rahead_any ka2 ka3 _ _ kc2 kc3 d2.key c.key u (hk2.on Lr hu) (hk3.on Lr hu)).mono ?_
    rintro e w' ⟨rfl, q, rfl⟩
    exact ⟨rfl, zaa (zad hu q)⟩
   obtain ⟨b2, hb2⟩ : ∃ b2, decide (kl d2.key c.key) = b2 := ⟨_, rfl⟩
   rw [hb2] at HAH
   have HBD := zaa hb2
   have HC2 := zaa hc2
   have HTT := zaa ht
   have hw1 : IntKind.i64.wrap ((i : Int) - 1) = (t : Int) := by rw [IntKind.wrap_i64]; omega
   have hw2' : IntKind.i64.wrap (t : Int) = (t : Int) := by rw [IntKind.wrap_i64]; omega
   clear hk2 hk3 hv2 hv3 hc2 hb2 ht hi0
   go_upto_region 5 with fail
   go_cut [8] from 28 to 39 (fun v u => v = .bool b2 ∧ Hid (Below w2.heap.size w2 u))
   case first =>
    go_wp2_with fail
    go_region_with (first | (go_at_call 114; refine (HAH.out _ (by first | exact Br | exact Br.drew | exact zad Br _)).mono ?_; rintro e w4 ⟨rfl, HB4⟩))
    all_goals (try go_wp2_with fail)
    all_goals go_meet
    all_goals exact ⟨rfl, by first | exact HB4 | exact zaa HB4.out.drew | exact zaa (zad HB4.out _)⟩
   obtain ⟨rfl, HB4⟩ := hcut
   obtain ⟨w3, hw3⟩ : ∃ w3, w3 = wc := ⟨_, rfl⟩
   subst hw3
   have HBW := zaa (zab HBW.out Lr HB4.out)
   clear c0 c1 c2 c3 c4 f0 f1 f2 f3 f4 HAH
   cases b2 with
   | false =>
    go_wp2
    go_ret
    exact ⟨63, rfl, zaa (.inr (.inl ⟨HM.out, (fun e => (of_decide_eq_false HBD.out) (e.1 t d2 HTT.out HC2.out)), rfl⟩)), HBW⟩
   | true =>
    have HLO : Hid (∀ t d, i = t + 1 → ds[t]? = some d → kl d.key c.key) := zaa fun t' d e hd => by
     obtain rfl : t' = t := by have := HTT.out; omega
     rw [HC2.out] at hd
     injection hd with hd
     subst hd
     exact of_decide_eq_true HBD.out
    by_cases hnx : i + 1 < m
    ·have hnxI : (i : Int) + 1 < (m : Int) := by omega
     obtain ⟨b', off', d2, ka2, kc2, va2, vc2, e2, _, hc2, c0, c1, c2, c3, c4, hk2, hv2⟩ := (HU.out w3 HBW.out).2.item (i + 1) hnx
     injection e2 with e2
     injection e2 with e2 e3
     subst e2 e3
     obtain ⟨b'', off'', d3, ka3, kc3, va3, vc3, e3, _, hc3, f0, f1, f2, f3, f4, hk3, hv3⟩ := (HU.out w3 HBW.out).2.item i (by omega)
     injection e3 with e3
     injection e3 with e3 e4
     subst e3 e4
     rw [HI.out] at hc3
     injection hc3 with hc3
     subst hc3
     have HAH : Hid (∀ u, Below w3.heap.size w3 u → Calls Tryz.prog 114 #[.slice ka3 c.key.length kc3, .slice ka2 d2.key.length kc2] u fun e w' => e = .returned (.bool (decide (kl c.key d2.key))) ∧ Hid (Below w3.heap.size w3 w')) := zaa fun u hu => by
      refine (rahead_any ka3 ka2 _ _ kc3 kc2 c.key d2.key u (hk3.on Lr hu) (hk2.on Lr hu)).mono ?_
      rintro e w' ⟨rfl, q, rfl⟩
      exact ⟨rfl, zaa (zad hu q)⟩
     obtain ⟨b3, hb3⟩ : ∃ b3, decide (kl c.key d2.key) = b3 := ⟨_, rfl⟩
     rw [hb3] at HAH
     have HB3 := zaa hb3
     have HC2 := zaa hc2
     obtain ⟨i1, hi1⟩ : ∃ i1, i + 1 = i1 := ⟨_, rfl⟩
     rw [hi1] at c0 c1 c2 c3 c4 hnx HC2
     have hi1I : (i : Int) + 1 = (i1 : Int) := by omega
     have hi1m : (i1 : Int) < (m : Int) := by omega
     have HI1 := zaa hi1
     have hw1 : IntKind.i64.wrap ((i : Int) + 1) = (i1 : Int) := by rw [IntKind.wrap_i64]; omega
     have hw2 : IntKind.i64.wrap (i1 : Int) = (i1 : Int) := by rw [IntKind.wrap_i64]; omega
     clear hk2 hk3 hv2 hv3 hc2 hb3 hi1 hnx
     go_upto_region 9 with fail
     go_cut [9] from 47 to 58 (fun v u => v = .bool b3 ∧ Hid (Below w3.heap.size w3 u))
     case first =>
      go_wp2_with fail
      go_region_with (first | (go_at_call 114; refine (HAH.out _ (by first | exact Br | exact Br.drew | exact zad Br _)).mono ?_; rintro e w4 ⟨rfl, HB4⟩))
      all_goals (try go_wp2_with fail)
      all_goals go_meet
      all_goals exact ⟨rfl, by first | exact HB4 | exact zaa HB4.out.drew | exact zaa (zad HB4.out _)⟩
     obtain ⟨rfl, HB4⟩ := hcut
     obtain ⟨w4, hw4⟩ : ∃ w4, w4 = wc := ⟨_, rfl⟩
     subst hw4
     have HBW := zaa (zab HBW.out Lr HB4.out)
     clear c0 c1 c2 c3 c4 f0 f1 f2 f3 f4 HAH
     cases b3 with
     | false =>
      go_wp2
      go_ret
      exact ⟨63, rfl, zaa (.inr (.inl ⟨HM.out, (fun e => (of_decide_eq_false HB3.out) (e.2 d2 (by rw [HI1.out]; exact HC2.out))), rfl⟩)), HBW⟩
     | true =>
      have HHI : Hid (∀ d, ds[i + 1]? = some d → kl c.key d.key) := zaa fun d hd => by
       rw [HI1.out, HC2.out] at hd
       injection hd with hd
       subst hd
       exact of_decide_eq_true HB3.out
      have HSZ : Hid (Calls Tryz.prog 75 #[.int .i64 k, .slice (some ⟨b, off, none⟩) m cap] w4 fun e w' => e = .returned (.int .i64 (Z : Int)) ∧ w'.cell? ⟨r, 1, none⟩ = some (.int .i64 (n : Int)) ∧ Hid (Below w.heap.size w w')) := zaa (by
       have h1 := zdb k _ m cap ds w4 (HU.out w4 HBW.out).2 (by omega) (fun d hd => by have := (HFA.out d hd).key; have := (HFA.out d hd).val; omega) (szQ_big k ds HFA.out (by have := HLN.out; omega))
       rw [HZ.out] at h1
       refine h1.mono ?_
       rintro e w' ⟨rfl, HB⟩
       have hb := zab HBW.out Lr HB.out
       exact ⟨rfl, (HU.out w' hb).1.cells.2.1, zaa hb⟩)
      obtain ⟨t0, t1, t2, t3, t4⟩ := (HU.out w4 HBW.out).1.cells
      by_cases hZ : Z ≤ n
      ·have hZI : ¬ (n : Int) < (Z : Int) := by omega
       have HZN := zaa hZ
       clear hZ
       go_wp2_with (go_at_call 75; refine HSZ.out.mono ?_; rintro e w5 ⟨rfl, y1, HB5⟩)
       go_ret
       exact ⟨0, rfl, zaa (.inr (.inr (.inr ⟨HM.out, ⟨HLO.out, HHI.out⟩, by rw [HZ.out]; exact HZN.out, rfl⟩))), HB5⟩
      ·have hZI : (n : Int) < (Z : Int) := by omega
       have HZN := zaa hZ
       clear hZ
       go_wp2_with (go_at_call 75; refine HSZ.out.mono ?_; rintro e w5 ⟨rfl, y1, HB5⟩)
       go_ret
       exact ⟨61, rfl, zaa (.inr (.inr (.inl ⟨HM.out, ⟨HLO.out, HHI.out⟩, by rw [HZ.out]; exact HZN.out, rfl⟩))), HB5⟩
    ·have hnxI : ¬ (i : Int) + 1 < (m : Int) := by omega
     have HHI : Hid (∀ d, ds[i + 1]? = some d → kl c.key d.key) := zaa fun d hd => by
      have h1 := (zH.1 hd).1
      have h2 := HLN.out
      omega
     have HSZ : Hid (Calls Tryz.prog 75 #[.int .i64 k, .slice (some ⟨b, off, none⟩) m cap] w3 fun e w' => e = .returned (.int .i64 (Z : Int)) ∧ w'.cell? ⟨r, 1, none⟩ = some (.int .i64 (n : Int)) ∧ Hid (Below w.heap.size w w')) := zaa (by
      have h1 := zdb k _ m cap ds w3 (HU.out w3 HBW.out).2 (by omega) (fun d hd => by have := (HFA.out d hd).key; have := (HFA.out d hd).val; omega) (szQ_big k ds HFA.out (by have := HLN.out; omega))
      rw [HZ.out] at h1
      refine h1.mono ?_
      rintro e w' ⟨rfl, HB⟩
      have hb := zab HBW.out Lr HB.out
      exact ⟨rfl, (HU.out w' hb).1.cells.2.1, zaa hb⟩)
     obtain ⟨t0, t1, t2, t3, t4⟩ := (HU.out w3 HBW.out).1.cells
     by_cases hZ : Z ≤ n
     ·have hZI : ¬ (n : Int) < (Z : Int) := by omega
      have HZN := zaa hZ
      clear hZ
      go_wp2_with (go_at_call 75; refine HSZ.out.mono ?_; rintro e w5 ⟨rfl, y1, HB5⟩)
      go_ret
      exact ⟨0, rfl, zaa (.inr (.inr (.inr ⟨HM.out, ⟨HLO.out, HHI.out⟩, by rw [HZ.out]; exact HZN.out, rfl⟩))), HB5⟩
     ·have hZI : (n : Int) < (Z : Int) := by omega
      have HZN := zaa hZ
      clear hZ
      go_wp2_with (go_at_call 75; refine HSZ.out.mono ?_; rintro e w5 ⟨rfl, y1, HB5⟩)
      go_ret
      exact ⟨61, rfl, zaa (.inr (.inr (.inl ⟨HM.out, ⟨HLO.out, HHI.out⟩, by rw [HZ.out]; exact HZN.out, rfl⟩))), HB5⟩
structure DmA (w : World) (K : Nat → Prop) (r : Nat) (k : Int) (n : Nat) (s : Qs) (lo : Option Addr) (N lc : Nat) (vs : List Value) (so : Option Addr) (sn sc : Nat) : Prop where
 row : QD w r k n (.slice lo N lc) (.slice so sn sc) (s.ws : Int)
 cells : RwK w K lo N lc vs s.cs
 pre : ∀ u, Agr K w u → Sl u so sn sc s.P
 ok : Qok k n s
 nr : ¬ K r
 kl : ∀ b, K b → b < w.heap.size
def Dm (w : World) (K : Nat → Prop) (r : Nat) (k : Int) (n : Nat) (s : Qs) : Prop := ∃ lo N lc vs so sn sc, DmA w K r k n s lo N lc vs so sn sc
theorem DmA.rl {w : World} {K : Nat → Prop} {r : Nat} {k : Int} {n : Nat} {s : Qs} {lo : Option Addr} {N lc : Nat} {vs : List Value} {so : Option Addr} {sn sc : Nat} (h : DmA w K r k n s lo N lc vs so sn sc) : r < w.heap.size := zag h.row
theorem DmA.keep {w w' : World} {K : Nat → Prop} {r : Nat} {k : Int} {n : Nat} {s : Qs} {lo : Option Addr} {N lc : Nat} {vs : List Value} {so : Option Addr} {sn sc : Nat} (h : DmA w K r k n s lo N lc vs so sn sc) (ha : Agr K w w') (hr : w'.heap[r]? = w.heap[r]?) (hs : w.heap.size ≤ w'.heap.size) : DmA w' K r k n s lo N lc vs so sn sc :=
 ⟨hr.trans h.row, h.cells.keep ha, fun u hu => h.pre u (ha.trans hu), h.ok, h.nr, fun b e => zO (h.kl b e) hs⟩
theorem DmA.lens {w : World} {K : Nat → Prop} {r : Nat} {k : Int} {n : Nat} {s : Qs} {lo : Option Addr} {N lc : Nat} {vs : List Value} {so : Option Addr} {sn sc : Nat} (h : DmA w K r k n s lo N lc vs so sn sc) (hn : pw n) : s.cs.length = N ∧ s.P.length = sn ∧ N ≤ 65000 ∧ sn ≤ 65536 ∧ s.ws ≤ 65536 := by
 have h1 := h.ok.fit
 have h2 := zal k s.P.length s.cs
 have h3 := zca k s
 have h4 := zai hn
 have h5 := h.cells.len
 have h6 := (h.pre w (Agr.refl _ _)).hlen
 exact ⟨h5, h6, by omega, by omega, by omega⟩
theorem Dm.keep {w w' : World} {K : Nat → Prop} {r : Nat} {k : Int} {n : Nat} {s : Qs} (h : Dm w K r k n s) (ha : Agr K w w') (hr : w'.heap[r]? = w.heap[r]?) (hs : w.heap.size ≤ w'.heap.size) : Dm w' K r k n s := by
 obtain ⟨lo, N, lc, vs, so, sn, sc, h⟩ := h
 exact ⟨lo, N, lc, vs, so, sn, sc, h.keep ha hr hs⟩
theorem Dm.kl {w : World} {K : Nat → Prop} {r : Nat} {k : Int} {n : Nat} {s : Qs} (h : Dm w K r k n s) : ∀ b, K b → b < w.heap.size := by
 obtain ⟨lo, N, lc, vs, so, sn, sc, h⟩ := h
 exact h.kl
theorem Dm.rl {w : World} {K : Nat → Prop} {r : Nat} {k : Int} {n : Nat} {s : Qs} (h : Dm w K r k n s) : r < w.heap.size := by
 obtain ⟨lo, N, lc, vs, so, sn, sc, h⟩ := h
 exact h.rl
theorem Dm.ok {w : World} {K : Nat → Prop} {r : Nat} {k : Int} {n : Nat} {s : Qs} (h : Dm w K r k n s) : Qok k n s := by
 obtain ⟨lo, N, lc, vs, so, sn, sc, h⟩ := h
 exact h.ok
theorem Dm.go {w w' : World} {K : Nat → Prop} {r : Nat} {k : Int} {n : Nat} {s : Qs} (h : Dm w K r k n s) (hb : Below w.heap.size w w') : Dm w' K r k n s := h.keep (Agr.below h.kl hb) (hb.block r h.rl) hb.size
theorem Zk.nr {K : Nat → Prop} {w0 w : World} {r : Nat} (h : ¬ K r) (hr : r < w0.heap.size) : ¬ Zk K w0 w r := by
 rintro (e | e)
 ·exact h e
 ·omega
theorem dbegins_any (w : World) (r : Nat) (k : Int) (n : Nat) (lv : Value) (so : Option Addr) (sn sc : Nat) (ws : Int) (P : List Int) (h : QD w r k n lv (.slice so sn sc) ws) (hp : Sl w so sn sc P) (ka : Option Addr) (kn kc : Nat) (key : List Int) (hk : Sl w ka kn kc key) :
  Calls Tryz.prog 71 #[.pointer (some ⟨r, 0, none⟩), .slice ka kn kc] w fun e w' => e = .returned (.bool (decide (key.take P.length = P))) ∧ Hid (Below w.heap.size w w') := by
 obtain ⟨c0, c1, c2, c3, c4⟩ := h.cells
 have hpl := hp.hlen
 have hkl := hk.hlen
 have hpr := hp.hroom
 have hkr := hk.hroom
 by_cases hle : sn ≤ kn
 ·have hleI : (sn : Int) ≤ (kn : Int) := by omega
  have hleB : decide ((sn : Int) ≤ (kn : Int)) = true := decide_eq_true hleI
  have hleN : decide (sn ≤ kn) = true := decide_eq_true hle
  have hkc := hk.hcap
  have hkc2 : sn ≤ kc := by omega
  have hkc3 : (sn : Int) ≤ (kc : Int) := by omega
  have hks := hk.take sn hle
  have k1 : ∀ q, (convert 37 9 (.slice ka sn kc)).run Tryz.prog (w.drewN q) = .ok (.string (strOfNums (key.take sn))) (w.drewN q) := fun q => zav (hks.drewN q)
  have k2 : ∀ q, (convert 37 9 (.slice so sn sc)).run Tryz.prog (w.drewN q) = .ok (.string (strOfNums P)) (w.drewN q) := fun q => zav (hp.drewN q)
  have k3 := str_beq hks.wf hp.wf
  obtain ⟨b, hb⟩ : ∃ b, decide (key.take sn = P) = b := ⟨_, rfl⟩
  rw [hb] at k3
  have HBQ : Hid (decide (key.take P.length = P) = b) := zaa (by rw [hpl, ← hb])
  clear hks hb hp hk h
  go_enter Tryz.func71, Tryz.ntmps71
  go_wp2_with fail
  go_quiet (fail)
  go_wp2
  go_ret
  exact ⟨(congrArg (fun b => Ending.returned (.bool b)) HBQ.out).symm, zaa (zad Br _)⟩
 ·have hleI : ¬ (sn : Int) ≤ (kn : Int) := by omega
  have hleB : decide ((sn : Int) ≤ (kn : Int)) = false := decide_eq_false hleI
  have hleC : decide (sn ≤ kn) = false := decide_eq_false hle
  have HBQ : Hid (decide (key.take P.length = P) = false) := zaa (decide_eq_false fun e => by
   have := congrArg List.length e
   rw [zJ] at this
   omega)
  clear hp hk h
  go_enter Tryz.func71, Tryz.ntmps71
  go_wp2_with fail
  go_quiet (fail)
  go_wp2
  go_ret
  exact ⟨(congrArg (fun b => Ending.returned (.bool b)) HBQ.out).symm, zaa (zad Br _)⟩
theorem tidy_cut {w w2 : World} {r : Nat} {k : Int} {n : Nat} {lv sv v : Value} {ws : Int} {P : List Int} (hq : QD w2 r k n lv sv ws) (ho : OwnB w2 w.heap.size v P) (hb : Below w.heap.size w w2) (hr : r < w.heap.size) :
  QD (w2.setCell ⟨r, 3, none⟩ v) r k n lv v ws ∧ OwnB (w2.setCell ⟨r, 3, none⟩ v) w.heap.size v P ∧ Cf (· = r) w (w2.setCell ⟨r, 3, none⟩ v) := by
 refine ⟨hq.set3 v, ho.cfX (Cf.set w2 r 3 v) (fun g hg e => ?_), (Cf.of_below hb).trans (Cf.set w2 r 3 v) (fun _ _ e => e)⟩
 have := (ho.blk hg).1
 omega
theorem dtidy_raw (w : World) (r : Nat) (k : Int) (n : Nat) (lo : Option Addr) (N lc : Nat) (sv : Value) (ws : Int) (cs : List Cl) (h : QD w r k n (.slice lo N lc) sv ws) (hs : SlC w lo N lc cs) (hN : N ≤ 70000) :
  Calls Tryz.prog 35 #[.pointer (some ⟨r, 0, none⟩)] w fun e w' => e = .returned (.tuple #[]) ∧ Hid (∃ v, QD w' r k n (.slice lo N lc) v 0 ∧ OwnB w' w.heap.size v (shP k cs) ∧ Cf (· = r) w w') := by
 obtain ⟨c0, c1, c2, c3, c4⟩ := h.cells
 obtain ⟨sn, hsn⟩ : ∃ sn, (shP k cs).length = sn := ⟨_, rfl⟩
 have HT : Hid (∀ u, Below w.heap.size w u → Calls Tryz.prog 76 #[.int .i64 k, .slice lo N lc] u fun e w' => ∃ so sc, e = .returned (.slice so sn sc) ∧ w'.cell? ⟨r, 3, none⟩ = some sv ∧ w'.frozen? ⟨r, 3, none⟩ = false ∧ Hid (QD w' r k n (.slice lo N lc) sv ws ∧ OwnB w' w.heap.size (.slice so sn sc) (shP k cs) ∧ Below w.heap.size w w')) := zaa fun u hu => by
  refine (rshared_any k lo N lc cs u (hs.on hu) (by omega)).mono ?_
  rintro e w' ⟨v, rfl, HO, HB⟩
  have hb := zab hu Lr HB.out
  have hq : QD w' r k n (.slice lo N lc) sv ws := zaf h hb
  obtain ⟨so, sc, rfl⟩ := HO.out.shape
  rw [hsn] at HO ⊢
  exact ⟨so, sc, rfl, hq.cells.2.2.2.1, hq.free 3, zaa ⟨hq, HO.out.low hu.size, hb⟩⟩
 have HRL := zaa (zag h)
 clear h hs
 go_enter Tryz.func35, Tryz.ntmps35
 go_upto_region 0 with fail
 go_cut [] from 2 to 13 (fun u => Hid (∃ v, QD u r k n (.slice lo N lc) v ws ∧ OwnB u w.heap.size v (shP k cs) ∧ Cf (· = r) w u))
 case first =>
  go_wp2_with fail
  go_region_with (first | (go_at_call 76; refine (HT.out _ (by first | exact Br | exact Br.drew | exact zad Br _)).mono ?_; rintro e w2 ⟨so, sc, rfl, y3, y4, HB2⟩))
  all_goals (try go_wp2_with fail)
  all_goals go_meet
  all_goals exact zaa ⟨_, tidy_cut HB2.out.1 HB2.out.2.1 HB2.out.2.2 HRL.out⟩
 obtain ⟨w2, hw2⟩ : ∃ w2, w2 = wc := ⟨_, rfl⟩
 subst hw2
 obtain ⟨v, hq, ho, hc⟩ := hcut.out
 obtain ⟨d0, d1, d2, d3, d4⟩ := hq.cells
 have d5 := hq.free 4
 have HH := hcut
 go_wp2
 refine bodyPost_end (v := .tuple #[]) (by simp [results, Tryz.results35, go_sem]) rfl ?_
 refine ⟨rfl, zaa ⟨v, hq.set4 0, ho.cfX (Cf.set w2 r 4 _) (fun g hg e => ?_), hc.trans (Cf.set w2 r 4 _) (fun _ _ e => e)⟩⟩
 have h1 := (ho.blk hg).1
 have h2 := HRL.out
 omega
end Go.Proofs.YtfgffajgfgifhaaGreatDoor
