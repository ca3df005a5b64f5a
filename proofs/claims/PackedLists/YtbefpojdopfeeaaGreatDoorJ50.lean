/- The walk of the law PackedLists (made by mkpl7.py). -/
import Derived.Test.YtbefpojdopfeeaaGreatDoorJ49
namespace Go.Proofs.YtbefpojdopfeeaaGreatDoor
open Go.RowKit

set_option maxRecDepth 100000 in
set_option maxHeartbeats 16000000 in
theorem walk_PackedLists (kd pg : Int) (so : Option Addr) (sn sc : Nat) (os : List Op7) (w : World) (ht : Tab w) (h0 : 0 < w.heap.size) (hs : SlO7 w so sn sc os) (hsn : sn ≤ 140737488355328) :
    Calls Tryz.prog 4 #[.int .i64 kd, .int .i64 pg, .slice so sn sc] w fun e w' => e = .returned (.bool true) ∧ Below w.heap.size w w' := by
  have HS := hidden hs
  have HT := hidden ht
  have HL := hidden (live_any w ht h0)
  clear hs ht
  go_enter Tryz.func4, Tryz.ntmps4
  go_wp2_with (first
    | (go_at_call 5; refine HL.out.mono ?_; rintro e w1 ⟨rfl, hb1⟩; have HB1 := hidden hb1; clear hb1)
    | (go_at_call 6; refine (newQ7_any kd pg _).mono ?_; rintro e w2 ⟨po, cd, rfl, HB2, HQ2⟩; refine Hid.out ?_))
  apply hidden
  clear HL
  rcases HQ2.out with ⟨rfl, rfl, hno⟩ | ⟨rfl, rfl, hkd, hpw, hrow⟩
  · clear HQ2 hno
    go_wp2
    go_ret
    exact ⟨rfl, bl_go HB1.out (Nat.le_refl _) HB2.out⟩
  obtain ⟨n, rfl⟩ := pw_cast hpw
  have hn2 := pw_nat hpw
  have HKD := hidden hkd
  have HPW := hidden hpw
  have HLS : Hid (Ls w w2 (fun b => w.heap.size ≤ b ∧ b < w2.heap.size) w1.heap.size kd n ⟨[], [], 0⟩ (.slice none 0 0)) := hidden ⟨Pk.new hpw hrow _ HB1.out.size, OwK.nil _ _ _, (fun g e => by cases e), (fun b e => e.1), bl_go HB1.out (Nat.le_refl _) HB2.out⟩
  have nI : (n : Int) ≤ 65536 := by omega
  clear hkd hpw hrow hn2 HQ2
  go_wp2_with fail
  go_loopw [8, 10, 11] (fun pv lv iv wr => ∃ (j a : Nat) (v : Value) (s : Qs) (K : Nat → Prop), pv = .pointer (some ⟨a, 0, none⟩) ∧ v = lv ∧ iv = .int .i64 (j : Int) ∧ j ≤ sn ∧ Hid (Ls w wr K a kd n s v)) (fun _ _ iv _ => sn - (intOf iv).toNat)
  case atStart => exact ⟨0, _, _, _, _, rfl, rfl, rfl, by omega, HLS⟩
  case round =>
    clear HLS
    obtain ⟨j, a, v, s, K, rfl, rfl, rfl, hj, HLS⟩ := hrel
    obtain ⟨lo, lc, rfl, _, _⟩ := HLS.out.ow.src
    obtain ⟨N, hN⟩ : ∃ N, s.cs.length = N := ⟨_, rfl⟩
    rw [hN] at HLS ⊢
    clear hN
    have jI : (j : Int) ≤ 140737488355328 := by omega
    have NI : (N : Int) ≤ 65000 := by have := (HLS.out.few HPW.out).2.1; omega
    by_cases hlt : j < sn
    · have hltI : (j : Int) < (sn : Int) := by omega
      obtain ⟨b, off, q, x, c, ka, kc, va, vc, qa, qn, qc, rfl, c0, c1, c2, c3, c4, c5, c6, c7, hk, hv⟩ := HS.out.item HLS.out.be j hlt
      obtain ⟨z, hz⟩ : ∃ z, wr.alloc (.cells #[.int .i64 q, .int .i64 x, .slice ka c.key.length kc, .int .i64 c.kd, .slice va c.val.length vc, .int .i64 c.pg, .int .i64 c.ct, .slice qa qn qc] 41) = z := ⟨_, rfl⟩
      have hbz : Below wr.heap.size wr z := by rw [← hz]; exact bl_al (Below.refl _ _) (Nat.le_refl _) _
      have HLZ : Hid (Ls w z K a kd n s (.slice lo N lc)) := hidden (HLS.out.go hbz)
      obtain ⟨g, hg⟩ : ∃ g, wr.heap.size = g := ⟨_, rfl⟩
      have HO : Hid (O8 z g (.int .i64 q) (.int .i64 x) (.slice ka c.key.length kc) (.int .i64 c.kd) (.slice va c.val.length vc) (.int .i64 c.pg) (.int .i64 c.ct) (.slice qa qn qc) ∧ ¬ K g ∧ g < z.heap.size) := hidden (by
        have h1 := O8.box wr (.int .i64 q) (.int .i64 x) (.slice ka c.key.length kc) (.int .i64 c.kd) (.slice va c.val.length vc) (.int .i64 c.pg) (.int .i64 c.ct) (.slice qa qn qc)
        rw [hz, hg] at h1
        exact ⟨h1, fun e => by have := HLS.out.pk.kl g e; omega, lt_some h1⟩)
      have HKV : Hid (Sl w ka c.key.length kc c.key ∧ Sl w va c.val.length vc c.val) := hidden ⟨hk, hv⟩
      clear hk hv hbz HLS
      go_upto_region 11 with fail
      clear hz hg c0 c1 c2 c3 c4 c5 c6 c7
      obtain ⟨z0, z1, z2, z3, z4, z5, z6, z7⟩ := HO.out.1.cells
      by_cases h1 : q = 1
      · as_aux_lemma =>
          subst h1
          have HIN := hidden (insertQ_any z K a kd n s HLZ.out.pk x HPW.out c ka va kc vc (HKV.out.1.on (Nat.le_refl _) HLZ.out.be) (HKV.out.2.on (Nat.le_refl _) HLZ.out.be) (HKV.out.1.outk HLZ.out.low HLZ.out.be) (HKV.out.2.outk HLZ.out.low HLZ.out.be))
          go_wp2_with (first | (go_at_call 10; refine HIN.out.mono ?_; rintro e w3 ⟨code, t, rfl, HR, HP, HC⟩; refine Hid.out ?_))
          apply hidden
          clear HIN
          have HO3 : Hid (O8 w3 g (.int .i64 1) (.int .i64 x) (.slice ka c.key.length kc) (.int .i64 c.kd) (.slice va c.val.length vc) (.int .i64 c.pg) (.int .i64 c.ct) (.slice qa qn qc) ∧ g < w3.heap.size) := hidden ⟨HO.out.1.cf HC.out HO.out.2.1, Nat.lt_of_lt_of_le HO.out.2.2 HC.out.size⟩
          clear z0 z1 z2 z3 z4 z5 z6 z7
          obtain ⟨z0, z1, z2, z3, z4, z5, z6, z7⟩ := HO3.out.1.cells
          rcases HR.out.ok with ⟨rfl, i, rfl, hi, htc⟩ | ⟨hcd, rfl⟩
          · have hf := HLZ.out.few HPW.out
            have iI : (i : Int) ≤ (N : Int) := by omega
            have iJ : (i : Int) ≤ 65000 := by omega
            obtain ⟨p1, p2, p3, p4, p5⟩ := HLZ.out.ch HP.out HC.out
            have HPT := hidden (lput0_any w w3 lo N lc s.cs (by
              obtain ⟨ao, cap, e, hsr, _⟩ := p2.src
              injection e with e1 e2 e3
              subst e1 e3
              rw [e2]
              exact hsr) (by omega) i (by omega) c ka va kc vc HKV.out.1 HKV.out.2)
            have HT3 := hidden (And.intro htc (And.intro p1 (And.intro p4 p5)))
            clear hf htc p1 p2 p3 p4 p5 hi HR
            go_wp2_with (first | (go_at_call 11; refine HPT.out.mono ?_; rintro e w4 ⟨v4, rfl, HO4, HB4⟩; refine Hid.out ?_))
            apply hidden
            have HLX : Hid (Ls w w4 (Zk K z w3) a kd n t v4) := hidden (Ls.both HT3.out.2.1 HT3.out.2.2.1 HT3.out.2.2.2 HB4.out (Nat.le_refl _) (by rw [HT3.out.1]; exact HO4.out))
            have z1' : w4.cell? ⟨g, 1, none⟩ = some (.int .i64 (i : Int)) := (HB4.out.cell (p := ⟨g, 1, none⟩) HO3.out.2).trans z1
            clear z0 z1 z2 z3 z4 z5 z6 z7 HPT
            obtain ⟨lo4, lc4, rfl, _, _⟩ := HLX.out.ow.src
            obtain ⟨M, hM⟩ : ∃ M, t.cs.length = M := ⟨_, rfl⟩
            rw [hM] at HLX ⊢
            clear hM
            have MI : (M : Int) ≤ 65000 := by have := (HLX.out.few HPW.out).2.1; omega
            obtain ⟨U, V, huv, htl⟩ := HLX.out.tl HPW.out (i : Int)
            have HTL := hidden htl
            have UI : (U : Int) + (V : Int) ≤ (n : Int) := by omega
            clear htl huv
            go_wp2_with (first
              | (go_at_call 20; refine HTL.out.held.mono ?_; rintro e w5 ⟨rfl, HB5⟩)
              | (go_at_call 17; refine (HTL.out.used _ HB5.out).mono ?_; rintro e w6 ⟨rfl, HB6⟩)
              | (go_at_call 16; refine same_call (HTL.out.waste _ HB6.out) ?_)
              | (go_at_call 21; refine same_call (HTL.out.kind _ HB6.out) ?_))
            go_roundw
            case rel => exact ⟨j + 1, a, _, _, _, rfl, rfl, by go_num, by omega, hidden (HLX.out.go HB6.out)⟩
            case measure => simp [intOf]; omega
          · have HLX : Hid (Ls w w3 (Zk K z w3) a kd n t (.slice lo N lc)) := hidden (HLZ.out.same HP.out HC.out rfl)
            clear HR
            obtain ⟨U, V, huv, htl⟩ := HLX.out.tl HPW.out x
            have HTL := hidden htl
            have UI : (U : Int) + (V : Int) ≤ (n : Int) := by omega
            clear htl huv
            go_wp2_with (first
              | (go_at_call 20; refine HTL.out.held.mono ?_; rintro e w5 ⟨rfl, HB5⟩)
              | (go_at_call 17; refine (HTL.out.used _ HB5.out).mono ?_; rintro e w6 ⟨rfl, HB6⟩)
              | (go_at_call 16; refine same_call (HTL.out.waste _ HB6.out) ?_)
              | (go_at_call 21; refine same_call (HTL.out.kind _ HB6.out) ?_))
            go_roundw
            case rel => exact ⟨j + 1, a, _, _, _, rfl, rfl, by go_num, by omega, hidden (HLX.out.go HB6.out)⟩
            case measure => simp [intOf]; omega
      by_cases h2 : q = 2
      · as_aux_lemma =>
          subst h2
          have HIN := hidden (setQ_any z K a kd n s HLZ.out.pk x HPW.out c ka va kc vc (HKV.out.1.on (Nat.le_refl _) HLZ.out.be) (HKV.out.2.on (Nat.le_refl _) HLZ.out.be) (HKV.out.1.outk HLZ.out.low HLZ.out.be) (HKV.out.2.outk HLZ.out.low HLZ.out.be))
          go_wp2_with (first | (go_at_call 12; refine HIN.out.mono ?_; rintro e w3 ⟨code, t, rfl, HR, HP, HC⟩; refine Hid.out ?_))
          apply hidden
          clear HIN
          have HO3 : Hid (O8 w3 g (.int .i64 2) (.int .i64 x) (.slice ka c.key.length kc) (.int .i64 c.kd) (.slice va c.val.length vc) (.int .i64 c.pg) (.int .i64 c.ct) (.slice qa qn qc) ∧ g < w3.heap.size) := hidden ⟨HO.out.1.cf HC.out HO.out.2.1, Nat.lt_of_lt_of_le HO.out.2.2 HC.out.size⟩
          clear z0 z1 z2 z3 z4 z5 z6 z7
          obtain ⟨z0, z1, z2, z3, z4, z5, z6, z7⟩ := HO3.out.1.cells
          rcases HR.out.ok with ⟨rfl, i, rfl, hi, htc⟩ | ⟨hcd, rfl⟩
          · have hf := HLZ.out.few HPW.out
            have iI : (i : Int) < (N : Int) := by omega
            have iJ : (i : Int) ≤ 65000 := by omega
            obtain ⟨p1, p2, p3, p4, p5⟩ := HLZ.out.ch HP.out HC.out
            have HPT := hidden (lput1_any w w3 lo N lc s.cs (by
              obtain ⟨ao, cap, e, hsr, _⟩ := p2.src
              injection e with e1 e2 e3
              subst e1 e3
              rw [e2]
              exact hsr) (by omega) i (by omega) c ka va kc vc HKV.out.1 HKV.out.2)
            have HT3 := hidden (And.intro htc (And.intro p1 (And.intro p4 p5)))
            clear hf htc p1 p2 p3 p4 p5 hi HR
            go_wp2_with (first | (go_at_call 11; refine HPT.out.mono ?_; rintro e w4 ⟨v4, rfl, HO4, HB4⟩; refine Hid.out ?_))
            apply hidden
            have HLX : Hid (Ls w w4 (Zk K z w3) a kd n t v4) := hidden (Ls.both HT3.out.2.1 HT3.out.2.2.1 HT3.out.2.2.2 HB4.out (Nat.le_refl _) (by rw [HT3.out.1]; exact HO4.out))
            have z1' : w4.cell? ⟨g, 1, none⟩ = some (.int .i64 (i : Int)) := (HB4.out.cell (p := ⟨g, 1, none⟩) HO3.out.2).trans z1
            clear z0 z1 z2 z3 z4 z5 z6 z7 HPT
            obtain ⟨lo4, lc4, rfl, _, _⟩ := HLX.out.ow.src
            obtain ⟨M, hM⟩ : ∃ M, t.cs.length = M := ⟨_, rfl⟩
            rw [hM] at HLX ⊢
            clear hM
            have MI : (M : Int) ≤ 65000 := by have := (HLX.out.few HPW.out).2.1; omega
            obtain ⟨U, V, huv, htl⟩ := HLX.out.tl HPW.out (i : Int)
            have HTL := hidden htl
            have UI : (U : Int) + (V : Int) ≤ (n : Int) := by omega
            clear htl huv
            go_wp2_with (first
              | (go_at_call 20; refine HTL.out.held.mono ?_; rintro e w5 ⟨rfl, HB5⟩)
              | (go_at_call 17; refine (HTL.out.used _ HB5.out).mono ?_; rintro e w6 ⟨rfl, HB6⟩)
              | (go_at_call 16; refine same_call (HTL.out.waste _ HB6.out) ?_)
              | (go_at_call 21; refine same_call (HTL.out.kind _ HB6.out) ?_))
            go_roundw
            case rel => exact ⟨j + 1, a, _, _, _, rfl, rfl, by go_num, by omega, hidden (HLX.out.go HB6.out)⟩
            case measure => simp [intOf]; omega
          · have HLX : Hid (Ls w w3 (Zk K z w3) a kd n t (.slice lo N lc)) := hidden (HLZ.out.same HP.out HC.out rfl)
            clear HR
            obtain ⟨U, V, huv, htl⟩ := HLX.out.tl HPW.out x
            have HTL := hidden htl
            have UI : (U : Int) + (V : Int) ≤ (n : Int) := by omega
            clear htl huv
            go_wp2_with (first
              | (go_at_call 20; refine HTL.out.held.mono ?_; rintro e w5 ⟨rfl, HB5⟩)
              | (go_at_call 17; refine (HTL.out.used _ HB5.out).mono ?_; rintro e w6 ⟨rfl, HB6⟩)
              | (go_at_call 16; refine same_call (HTL.out.waste _ HB6.out) ?_)
              | (go_at_call 21; refine same_call (HTL.out.kind _ HB6.out) ?_))
            go_roundw
            case rel => exact ⟨j + 1, a, _, _, _, rfl, rfl, by go_num, by omega, hidden (HLX.out.go HB6.out)⟩
            case measure => simp [intOf]; omega
      by_cases h3 : q = 3
      · as_aux_lemma =>
          subst h3
          have HRM := hidden (removeQ_any z K a kd n s HLZ.out.pk x HPW.out)
          go_wp2_with (first | (go_at_call 13; refine HRM.out.mono ?_; rintro e w3 ⟨code, t, rfl, HR, HP, HC⟩; refine Hid.out ?_))
          apply hidden
          clear HRM
          have HO3 : Hid (O8 w3 g (.int .i64 3) (.int .i64 x) (.slice ka c.key.length kc) (.int .i64 c.kd) (.slice va c.val.length vc) (.int .i64 c.pg) (.int .i64 c.ct) (.slice qa qn qc) ∧ g < w3.heap.size) := hidden ⟨HO.out.1.cf HC.out HO.out.2.1, Nat.lt_of_lt_of_le HO.out.2.2 HC.out.size⟩
          clear z0 z1 z2 z3 z4 z5 z6 z7
          obtain ⟨z0, z1, z2, z3, z4, z5, z6, z7⟩ := HO3.out.1.cells
          have hf := HLZ.out.few HPW.out
          rcases HR.out.ok (by have := pw_nat HPW.out; omega) with ⟨rfl, i, rfl, hi, htc⟩ | ⟨rfl, hno, rfl⟩ | ⟨rfl, rfl, rfl, hlen, hbig, rfl⟩
          · have iI : (i : Int) < (N : Int) := by omega
            have iJ : (i : Int) ≤ 65000 := by omega
            obtain ⟨p1, p2, p3, p4, p5⟩ := HLZ.out.ch HP.out HC.out
            obtain ⟨g5, rfl⟩ : ∃ g5, lo = some ⟨g5, 0, none⟩ := by
              obtain ⟨ao, cap, e, _, hg5⟩ := p2.src
              injection e with e1 e2 e3
              subst e1
              exact hg5 (by omega)
            have HSR : Hid (SrK w w3 (some ⟨g5, 0, none⟩) N lc s.cs ∧ N ≤ lc) := hidden (by
              obtain ⟨ao, cap, e, hsr, _⟩ := p2.src
              injection e with e1 e2 e3
              subst e1 e3
              rw [e2]
              exact ⟨hsr, hsr.hcap⟩)
            have HPT : Hid (∀ u, Below w3.heap.size w3 u → Calls Tryz.prog 11 #[.slice (some ⟨g5, 0, none⟩) i lc, .int .i64 (i : Int), .agg #[.slice none 0 0, .int .i64 0, .slice none 0 0, .int .i64 0, .int .i64 0], .int .i64 0] u fun e w' => ∃ v, e = .returned v ∧ Hid (OwK w w3.heap.size w' v (spl (s.cs.take i) i i ⟨[], 0, [], 0, 0⟩)) ∧ Hid (Below w3.heap.size w3 w')) := hidden fun u hu => by
              refine (lput0_any w u (some ⟨g5, 0, none⟩) i lc (s.cs.take i) ((HSR.out.1.take i (by omega)).on hu) (by omega) i (Nat.le_refl _) ⟨[], 0, [], 0, 0⟩ none none 0 0 (Sl.nil_any _ _ _ fun _ => rfl) (Sl.nil_any _ _ _ fun _ => rfl)).mono ?_
              rintro e w' ⟨v, rfl, HO, HB⟩
              exact ⟨v, rfl, hidden (HO.out.low hu.size), hidden (bl_go hu (Nat.le_refl _) HB.out)⟩
            have HT3 := hidden (And.intro htc (And.intro p1 (And.intro p4 p5)))
            have HNL : Hid (s.cs.length = N ∧ i < N) := hidden ⟨hf.1, by omega⟩
            have hil : i ≤ lc := by have := HSR.out.2; omega
            have hilI : (i : Int) ≤ (lc : Int) := by omega
            clear hf htc p1 p2 p3 p4 p5 hi HR
            go_upto_region 33 with fail
            go_cut [15] from 161 to 168 (fun v u => ∃ rv, v = rv ∧ Hid (OwK w w3.heap.size u rv (spl (s.cs.take i) i i ⟨[], 0, [], 0, 0⟩)) ∧ Hid (Below w3.heap.size w3 u))
            case first =>
              go_wp2_with fail
              go_region_with (first | (go_at_call 11; refine (HPT.out _ (by first | exact Below.refl _ _ | exact (Below.refl _ _).drew | exact bl_dr (Below.refl _ _) _)).mono ?_; rintro e w4 ⟨v4, rfl, HO4, HB4⟩))
              all_goals (try go_wp2_with fail)
              all_goals go_meet
              all_goals exact ⟨v4, rfl, by first | exact HO4 | exact hidden (HO4.out.go (Below.refl _ _).drew) | exact hidden (HO4.out.go (bl_dr (Below.refl _ _) _)), by first | exact HB4 | exact hidden HB4.out.drew | exact hidden (bl_dr HB4.out _)⟩
            obtain ⟨v4, rfl, HO4, HB4⟩ := hcut
            obtain ⟨w4, hw4⟩ : ∃ w4, w4 = wc := ⟨_, rfl⟩
            subst hw4
            have hsl : (spl (s.cs.take i) i i (⟨[], 0, [], 0, 0⟩ : Cl)).length = i + 1 := by
              rw [spl_length _ _ _ _ (by rw [List.length_take]; have := HNL.out; omega), List.length_take]
              have := HNL.out
              omega
            obtain ⟨ro, rc, rfl, _, hr0⟩ := HO4.out.src
            obtain ⟨g6, rfl⟩ := hr0 (by omega)
            have hstk : (spl (s.cs.take i) i i (⟨[], 0, [], 0, 0⟩ : Cl)).take i = s.cs.take i := by
              unfold spl
              rw [List.append_assoc, List.take_append_of_le_length (by rw [List.length_take, List.length_take]; have := HNL.out; omega), List.take_take, List.take_take]
              congr 1
              omega
            have HR4 : Hid (OwK w w3.heap.size w4 (.slice (some ⟨g6, 0, none⟩) i rc) (s.cs.take i)) := hidden (by
              have h1 := HO4.out
              rw [hsl] at h1
              have h2 := h1.take i (by omega)
              rw [hstk] at h2
              exact h2)
            have hrc : i + 1 ≤ rc := by
              obtain ⟨ao, cap, e, hsr, _⟩ := HO4.out.src
              injection e with e1 e2 e3
              subst e3
              have := hsr.hcap
              omega
            rw [hsl]
            have hrcI : (i : Int) + 1 ≤ (rc : Int) := by omega
            have z1' : w4.cell? ⟨g, 1, none⟩ = some (.int .i64 (i : Int)) := (HB4.out.cell (p := ⟨g, 1, none⟩) HO3.out.2).trans z1
            obtain ⟨i1, hi1⟩ : ∃ i1, i + 1 = i1 := ⟨_, rfl⟩
            have i1I : (i : Int) + 1 = (i1 : Int) := by omega
            have i1J : (i1 : Int) ≤ 65001 := by omega
            have HI1 := hidden hi1
            have hirc : i ≤ rc := by omega
            clear z0 z1 z2 z3 z4 z5 z6 z7 HPT hsl hstk HO4 hi1
            go_wp2_with fail
            go_loopw [15, 16] (fun rv kv u => ∃ (p : Nat) (ov : Value), ov = rv ∧ i1 ≤ p ∧ p ≤ N ∧ kv = .int .i64 (p : Int) ∧ Hid (OwK w w3.heap.size u ov (s.cs.take i ++ (s.cs.drop i1).take (p - i1))) ∧ Hid (Below w3.heap.size w3 u)) (fun _ kv _ => N - (intOf kv).toNat)
            case atStart => exact ⟨i1, _, rfl, Nat.le_refl _, by have := HNL.out; have := HI1.out; omega, rfl, by rw [Nat.sub_self, List.take_zero, List.append_nil]; exact HR4, HB4⟩
            case round =>
              clear HR4 z1'
              obtain ⟨p, ov, rfl, hp1, hp2, rfl, HO, HB⟩ := hrel
              have pI : (p : Int) ≤ 65001 := by omega
              by_cases hpl : p < N
              · have hplI : (p : Int) < (N : Int) := by omega
                obtain ⟨b', off', e, ka', kc', va', vc', e5, hb', hci, d0, d1, d2, d3, d4, hk', hv'⟩ := (HSR.out.1.on HB.out).item p hpl
                injection e5 with e5
                injection e5 with e5 e6
                subst e5 e6
                simp only [Nat.zero_add] at d0 d1 d2 d3 d4
                have HRO : Hid (Row5 w [.slice ka' e.key.length kc', .int .i64 e.kd, .slice va' e.val.length vc', .int .i64 e.pg, .int .i64 e.ct] [e]) := hidden ⟨ka', kc', va', vc', [], rfl, hk', hv', rfl⟩
                have HCI : Hid (s.cs.take i ++ (s.cs.drop i1).take (p + 1 - i1) = s.cs.take i ++ (s.cs.drop i1).take (p - i1) ++ [e]) := hidden (by
                  rw [show p + 1 - i1 = p - i1 + 1 by omega, take_snocC (s.cs.drop i1) (p - i1) e (by rw [List.getElem?_drop, show i1 + (p - i1) = p by omega]; exact hci), List.append_assoc])
                obtain ⟨kn, hkn⟩ : ∃ kn, e.key.length = kn := ⟨_, rfl⟩
                obtain ⟨vn, hvn⟩ : ∃ vn, e.val.length = vn := ⟨_, rfl⟩
                obtain ⟨kd', hkd⟩ : ∃ kd', e.kd = kd' := ⟨_, rfl⟩
                obtain ⟨pg', hpg⟩ : ∃ pg', e.pg = pg' := ⟨_, rfl⟩
                obtain ⟨ct', hct⟩ : ∃ ct', e.ct = ct' := ⟨_, rfl⟩
                rw [hkn] at d0 HRO
                rw [hkd] at d1 HRO
                rw [hvn] at d2 HRO
                rw [hpg] at d3 HRO
                rw [hct] at d4 HRO
                obtain ⟨y, hy⟩ : ∃ y, wr.alloc (.cells #[.slice ka' kn kc', .int .i64 kd', .slice va' vn vc', .int .i64 pg', .int .i64 ct'] 39) = y := ⟨_, rfl⟩
                have hby : Below wr.heap.size wr y := by rw [← hy]; exact bl_al (Below.refl _ _) (Nat.le_refl _) _
                have HOY : Hid (OwK w w3.heap.size y ov (s.cs.take i ++ (s.cs.drop i1).take (p - i1))) := hidden (HO.out.go hby)
                have HBY : Hid (Below w3.heap.size w3 y) := hidden (bl_go HB.out (Nat.le_refl _) hby)
                have HXY := hidden (five_at hy)
                have HLL : Hid ((s.cs.take i ++ (s.cs.drop i1).take (p - i1)).length + 1 ≤ 1000000) := hidden (by
                  simp only [List.length_append, List.length_take, List.length_drop]
                  have := HNL.out
                  omega)
                clear hby HO HB hk' hv' hci hkn hvn hkd hpg hct hb'
                go_wp2_with (at_builtin; refine app_k w _ w3.heap.size rfl _ _ rfl (s.cs.take i ++ (s.cs.drop i1).take (p - i1)) e ov wr.heap.size _ rfl rfl HOY.out HRO.out HXY.out HLL.out HBY.out.size ?_; intro v2 u2 HO2 HBU2; refine Hid.out ?_)
                apply hidden
                have HBU : Hid (Below w3.heap.size w3 u2) := hidden (HBY.out.trans HBU2.out)
                rw [← HCI.out] at HO2
                clear HOY HBY HXY HRO hy d0 d1 d2 d3 d4 HBU2 HLL
                go_wp2
                go_roundw
                case rel => exact ⟨p + 1, _, rfl, by omega, by omega, by go_num, HO2, HBU⟩
                case measure => simp [intOf]; omega
              · have hplI : ¬ (p : Int) < (N : Int) := by omega
                have HLX : Hid (Ls w wr (Zk K z w3) a kd n t ov) := hidden (Ls.both HT3.out.2.1 HT3.out.2.2.1 HT3.out.2.2.2 HB.out (Nat.le_refl _) (by
                  have h1 := HO.out
                  have e1 : (s.cs.drop i1).take (p - i1) = s.cs.drop i1 := List.take_of_length_le (by rw [List.length_drop]; have := HNL.out; omega)
                  rw [e1, ← HI1.out, ← HT3.out.1] at h1
                  exact h1))
                have z1'' : wr.cell? ⟨g, 1, none⟩ = some (.int .i64 (i : Int)) := by
                  obtain ⟨_, y1, _⟩ := HO3.out.1.cells
                  exact (HB.out.cell (p := ⟨g, 1, none⟩) HO3.out.2).trans y1
                obtain ⟨lo4, lc4, rfl, _, _⟩ := HLX.out.ow.src
                obtain ⟨M, hM⟩ : ∃ M, t.cs.length = M := ⟨_, rfl⟩
                rw [hM] at HLX ⊢
                clear hM
                have MI : (M : Int) ≤ 65000 := by have := (HLX.out.few HPW.out).2.1; omega
                obtain ⟨U, V, huv, htl⟩ := HLX.out.tl HPW.out (i : Int)
                have HTL := hidden htl
                have UI : (U : Int) + (V : Int) ≤ (n : Int) := by omega
                clear htl huv
                go_wp2_with (first
                  | (go_at_call 20; refine HTL.out.held.mono ?_; rintro e w5 ⟨rfl, HB5⟩)
                  | (go_at_call 17; refine (HTL.out.used _ HB5.out).mono ?_; rintro e w6 ⟨rfl, HB6⟩)
                  | (go_at_call 16; refine same_call (HTL.out.waste _ HB6.out) ?_)
                  | (go_at_call 21; refine same_call (HTL.out.kind _ HB6.out) ?_))
                go_roundw
                case rel => exact ⟨j + 1, a, _, _, _, rfl, rfl, by go_num, by omega, hidden (HLX.out.go HB6.out)⟩
                case measure => simp [intOf]; omega
          · have HLX : Hid (Ls w w3 (Zk K z w3) a kd n t (.slice lo N lc)) := hidden (HLZ.out.same HP.out HC.out rfl)
            rw [hf.1] at hno
            clear HR hf
            by_cases hx0 : 0 ≤ x
            · have hxN : ¬ x < (N : Int) := fun e => hno ⟨hx0, e⟩
              clear hno
              obtain ⟨U, V, huv, htl⟩ := HLX.out.tl HPW.out x
              have HTL := hidden htl
              have UI : (U : Int) + (V : Int) ≤ (n : Int) := by omega
              clear htl huv
              go_wp2_with (first
                | (go_at_call 20; refine HTL.out.held.mono ?_; rintro e w5 ⟨rfl, HB5⟩)
                | (go_at_call 17; refine (HTL.out.used _ HB5.out).mono ?_; rintro e w6 ⟨rfl, HB6⟩)
                | (go_at_call 16; refine same_call (HTL.out.waste _ HB6.out) ?_)
                | (go_at_call 21; refine same_call (HTL.out.kind _ HB6.out) ?_))
              go_roundw
              case rel => exact ⟨j + 1, a, _, _, _, rfl, rfl, by go_num, by omega, hidden (HLX.out.go HB6.out)⟩
              case measure => simp [intOf]; omega
            · clear hno
              obtain ⟨U, V, huv, htl⟩ := HLX.out.tl HPW.out x
              have HTL := hidden htl
              have UI : (U : Int) + (V : Int) ≤ (n : Int) := by omega
              clear htl huv
              go_wp2_with (first
                | (go_at_call 20; refine HTL.out.held.mono ?_; rintro e w5 ⟨rfl, HB5⟩)
                | (go_at_call 17; refine (HTL.out.used _ HB5.out).mono ?_; rintro e w6 ⟨rfl, HB6⟩)
                | (go_at_call 16; refine same_call (HTL.out.waste _ HB6.out) ?_)
                | (go_at_call 21; refine same_call (HTL.out.kind _ HB6.out) ?_))
              go_roundw
              case rel => exact ⟨j + 1, a, _, _, _, rfl, rfl, by go_num, by omega, hidden (HLX.out.go HB6.out)⟩
              case measure => simp [intOf]; omega
          · have HLX : Hid (Ls w w3 (Zk K z w3) a 3 n t (.slice lo N lc)) := hidden (HLZ.out.same HP.out HC.out rfl)
            obtain ⟨g5, rfl⟩ : ∃ g5, lo = some ⟨g5, 0, none⟩ := by
              obtain ⟨ao, cap, e, _, hg5⟩ := HLX.out.ow.src
              injection e with e1 e2 e3
              subst e1
              exact hg5 (by omega)
            obtain ⟨hf1, hf2, hf3, hf4⟩ := HLX.out.few HPW.out
            have N1 : 1 < N := by omega
            have N2 : (1 : Int) < (N : Int) := by omega
            have hcap := hf4.hcap
            have L1 : 1 ≤ lc := by omega
            have L2 : ¬ lc = 1 := by omega
            have L3 : (1 : Int) ≤ (lc : Int) := by omega
            obtain ⟨Z, hZ⟩ : ∃ Z, szQ 3 (shP 3 (t.cs.drop 1)).length (t.cs.drop 1) = Z := ⟨_, rfl⟩
            have HSZ : Hid (Calls Tryz.prog 14 #[.int .i64 3, .slice (some ⟨g5, 5, none⟩) (N - 1) (lc - 1)] w3 fun e w' => e = .returned (.int .i64 (Z : Int)) ∧ Hid (Below w3.heap.size w3 w')) := hidden (by
              have hn2 := pw_nat HPW.out
              have h1 := hf4.piece 1 (N - 1) (lc - 1) (by omega) (by omega)
              have e1 : (t.cs.drop 1).take (N - 1) = t.cs.drop 1 := List.take_of_length_le (by rw [List.length_drop]; omega)
              rw [e1] at h1
              have h2 := psize_any 3 _ (N - 1) (lc - 1) (t.cs.drop 1) w3 h1 (szQ_big 3 _ (fun c hc => (HLX.out.pk.ok.may c (List.mem_of_mem_drop hc)).fit (by omega)) (by rw [List.length_drop]; omega))
              rw [hZ] at h2
              exact h2)
            have ZI : ¬ (Z : Int) ≤ (n : Int) := by omega
            clear hf hf1 hf2 hf3 hf4 hcap hbig hlen hZ HR
            go_wp2_with (first | (go_at_call 14; refine HSZ.out.mono ?_; rintro e w4 ⟨rfl, HB4⟩; refine Hid.out ?_))
            apply hidden
            have HLX := hidden (HLX.out.go HB4.out)
            have z1' : w4.cell? ⟨g, 1, none⟩ = some (.int .i64 0) := (HB4.out.cell (p := ⟨g, 1, none⟩) HO3.out.2).trans z1
            clear z0 z1 z2 z3 z4 z5 z6 z7 HSZ
            obtain ⟨U, V, huv, htl⟩ := HLX.out.tl HPW.out 0
            have HTL := hidden htl
            have UI : (U : Int) + (V : Int) ≤ (n : Int) := by omega
            clear htl huv
            go_wp2_with (first
              | (go_at_call 20; refine HTL.out.held.mono ?_; rintro e w5 ⟨rfl, HB5⟩)
              | (go_at_call 17; refine (HTL.out.used _ HB5.out).mono ?_; rintro e w6 ⟨rfl, HB6⟩)
              | (go_at_call 16; refine same_call (HTL.out.waste _ HB6.out) ?_)
              | (go_at_call 21; refine same_call (HTL.out.kind _ HB6.out) ?_))
            go_roundw
            case rel => exact ⟨j + 1, a, _, _, _, rfl, rfl, by go_num, by omega, hidden (HLX.out.go HB6.out)⟩
            case measure => simp [intOf]; omega
      by_cases h4 : q = 4
      · as_aux_lemma =>
          subst h4
          have HTI := hidden (tidyQ_any z K a kd n s HLZ.out.pk HPW.out)
          go_wp2_with (first | (go_at_call 15; refine HTI.out.mono ?_; rintro e w3 ⟨rfl, HP, HC⟩; refine Hid.out ?_))
          apply hidden
          clear HTI
          have HO3 : Hid (O8 w3 g (.int .i64 4) (.int .i64 x) (.slice ka c.key.length kc) (.int .i64 c.kd) (.slice va c.val.length vc) (.int .i64 c.pg) (.int .i64 c.ct) (.slice qa qn qc) ∧ g < w3.heap.size) := hidden ⟨HO.out.1.cf HC.out HO.out.2.1, Nat.lt_of_lt_of_le HO.out.2.2 HC.out.size⟩
          clear z0 z1 z2 z3 z4 z5 z6 z7
          obtain ⟨z0, z1, z2, z3, z4, z5, z6, z7⟩ := HO3.out.1.cells
          have HLY : Hid (Ls w w3 (Zk K z w3) a kd n ⟨shP kd s.cs, s.cs, 0⟩ (.slice lo N lc)) := hidden (HLZ.out.same HP.out HC.out rfl)
          obtain ⟨Z, hZ⟩ : ∃ Z, szQ kd (shP kd s.cs).length s.cs = Z := ⟨_, rfl⟩
          have HSZ := hidden (HLY.out.size HPW.out w3 (Below.refl _ _))
          have HUS : Hid (∀ u, Below w3.heap.size w3 u → Calls Tryz.prog 17 #[.pointer (some ⟨a, 0, none⟩)] u fun e w' => e = .returned (.int .i64 (Z : Int)) ∧ Hid (Below u.heap.size u w')) := hidden fun u hu => by
            have h1 := ((HLY.out.pk.go hu).asks HPW.out).used
            rw [hZ] at h1
            exact h1
          have HWA : Hid (∀ u, Below w3.heap.size w3 u → Calls Tryz.prog 16 #[.pointer (some ⟨a, 0, none⟩)] u fun e w' => e = .returned (.int .i64 0) ∧ w' = u) := hidden fun u hu => ((HLY.out.pk.go hu).asks HPW.out).waste
          rw [hZ] at HSZ
          clear hZ
          go_wp2_with (first
            | (go_at_call 14; refine HSZ.out.mono ?_; rintro e w4 ⟨rfl, HB4⟩)
            | (go_at_call 16; refine same_call (HWA.out _ HB4.out) ?_)
            | (go_at_call 17; refine (HUS.out _ HB4.out).mono ?_; rintro e w4' ⟨rfl, HB4'⟩; refine Hid.out ?_))
          apply hidden
          have HLX : Hid (Ls w w4' (Zk K z w3) a kd n ⟨shP kd s.cs, s.cs, 0⟩ (.slice lo N lc)) := hidden ((HLY.out.go HB4.out).go HB4'.out)
          have z1' : w4'.cell? ⟨g, 1, none⟩ = some (.int .i64 x) := ((bl_go HB4.out (Nat.le_refl _) HB4'.out).cell (p := ⟨g, 1, none⟩) HO3.out.2).trans z1
          clear z0 z1 z2 z3 z4 z5 z6 z7 HSZ HUS HWA
          obtain ⟨U, V, huv, htl⟩ := HLX.out.tl HPW.out x
          have HTL := hidden htl
          have UI : (U : Int) + (V : Int) ≤ (n : Int) := by omega
          clear htl huv
          go_wp2_with (first
            | (go_at_call 20; refine HTL.out.held.mono ?_; rintro e w5 ⟨rfl, HB5⟩)
            | (go_at_call 17; refine (HTL.out.used _ HB5.out).mono ?_; rintro e w6 ⟨rfl, HB6⟩)
            | (go_at_call 16; refine same_call (HTL.out.waste _ HB6.out) ?_)
            | (go_at_call 21; refine same_call (HTL.out.kind _ HB6.out) ?_))
          go_roundw
          case rel => exact ⟨j + 1, a, _, _, _, rfl, rfl, by go_num, by omega, hidden (HLX.out.go HB6.out)⟩
          case measure => simp [intOf]; omega
      by_cases h9 : q = 9
      · as_aux_lemma =>
          subst h9
          have HBY := hidden (HLZ.out.pk.bytes HPW.out HKD.out (HT.out.on HLZ.out.be h0) (Nat.lt_of_lt_of_le h0 HLZ.out.be.size))
          go_wp2_with (first | (go_at_call 18; refine HBY.out.mono ?_; rintro e w3 ⟨g1, rfl, HK3, HB3⟩; refine Hid.out ?_))
          apply hidden
          have HL3 : Hid (Ls w w3 K a kd n s (.slice lo N lc)) := hidden (HLZ.out.go HB3.out)
          have HOP : Hid (Calls Tryz.prog 19 #[.slice (some ⟨g1, 0, none⟩) n n] w3 fun e w' => ∃ a', e = .returned (.tuple #[.pointer (some ⟨a', 0, none⟩), .int .i64 0]) ∧ Hid (Pk w' (Kn w3 w') a' kd n ⟨shP kd s.cs, s.cs, 0⟩) ∧ Hid (Below w3.heap.size w3 w')) := hidden (by
            have h1 := HLZ.out.pk.ok.pkwf HPW.out HKD.out
            exact Pk.opened HLZ.out.pk.ok HPW.out HKD.out _ _ (HK3.out.2.sl h1.2 h1.1 (by have := pw_nat HPW.out; omega)) (HT.out.on HL3.out.be h0) (Nat.lt_of_lt_of_le h0 HL3.out.be.size))
          have HWA : Hid (∀ u, Below w3.heap.size w3 u → Calls Tryz.prog 16 #[.pointer (some ⟨a, 0, none⟩)] u fun e w' => e = .returned (.int .i64 (s.ws : Int)) ∧ w' = u) := hidden fun u hu => ((HL3.out.pk.go hu).asks HPW.out).waste
          obtain ⟨V0, hV0⟩ : ∃ V0, s.ws = V0 := ⟨_, rfl⟩
          rw [hV0] at HWA
          clear hV0 HBY
          go_wp2_with (first
            | (go_at_call 19; refine HOP.out.mono ?_; rintro e w4 ⟨a4, rfl, HP4, HB4⟩)
            | (go_at_call 16; refine same_call (HWA.out _ HB4.out) ?_; refine Hid.out ?_))
          apply hidden
          have HLX : Hid (Ls w w4 (Kn w3 w4) a4 kd n ⟨shP kd s.cs, s.cs, 0⟩ (.slice lo N lc)) := hidden ⟨HP4.out, HL3.out.ow.go HB4.out, (fun g e h1 => by
            have h2 := (HL3.out.ow.blk e).2
            have h3 := h1.1
            omega), (fun b h1 => Nat.le_trans HL3.out.be.size h1.1), bl_go HL3.out.be (Nat.le_refl _) HB4.out⟩
          have z1' : w4.cell? ⟨g, 1, none⟩ = some (.int .i64 x) := ((bl_go HB3.out (Nat.le_refl _) HB4.out).cell (p := ⟨g, 1, none⟩) HO.out.2.2).trans z1
          clear z0 z1 z2 z3 z4 z5 z6 z7 HOP HWA
          obtain ⟨U, V, huv, htl⟩ := HLX.out.tl HPW.out x
          have HTL := hidden htl
          have UI : (U : Int) + (V : Int) ≤ (n : Int) := by omega
          clear htl huv
          go_wp2_with (first
            | (go_at_call 20; refine HTL.out.held.mono ?_; rintro e w5 ⟨rfl, HB5⟩)
            | (go_at_call 17; refine (HTL.out.used _ HB5.out).mono ?_; rintro e w6 ⟨rfl, HB6⟩)
            | (go_at_call 16; refine same_call (HTL.out.waste _ HB6.out) ?_)
            | (go_at_call 21; refine same_call (HTL.out.kind _ HB6.out) ?_))
          go_roundw
          case rel => exact ⟨j + 1, a4, _, _, _, rfl, rfl, by go_num, by omega, hidden (HLX.out.go HB6.out)⟩
          case measure => simp [intOf]; omega
      as_aux_lemma =>
        have HLX := HLZ
        obtain ⟨U, V, huv, htl⟩ := HLX.out.tl HPW.out x
        have HTL := hidden htl
        have UI : (U : Int) + (V : Int) ≤ (n : Int) := by omega
        clear htl huv
        go_wp2_with (first
          | (go_at_call 20; refine HTL.out.held.mono ?_; rintro e w5 ⟨rfl, HB5⟩)
          | (go_at_call 17; refine (HTL.out.used _ HB5.out).mono ?_; rintro e w6 ⟨rfl, HB6⟩)
          | (go_at_call 16; refine same_call (HTL.out.waste _ HB6.out) ?_)
          | (go_at_call 21; refine same_call (HTL.out.kind _ HB6.out) ?_))
        go_roundw
        case rel => exact ⟨j + 1, a, _, _, _, rfl, rfl, by go_num, by omega, hidden (HLX.out.go HB6.out)⟩
        case measure => simp [intOf]; omega
    · obtain rfl : j = sn := by omega
      have hltI : ¬ (j : Int) < (j : Int) := by omega
      have HBY := hidden (HLS.out.pk.bytes HPW.out HKD.out (HT.out.on HLS.out.be h0) (Nat.lt_of_lt_of_le h0 HLS.out.be.size))
      go_wp2_with (first | (go_at_call 18; refine HBY.out.mono ?_; rintro e w3 ⟨g1, rfl, HK3, HB3⟩; refine Hid.out ?_))
      apply hidden
      have HL3 : Hid (Ls w w3 K a kd n s (.slice lo N lc)) := hidden (HLS.out.go HB3.out)
      have HDE : Hid (Calls Tryz.prog 22 #[.slice (some ⟨g1, 0, none⟩) n n] w3 fun e w' => ∃ ao cap, e = .returned (.tuple #[.int .i64 kd, .slice ao N cap, .int .i64 0]) ∧ Hid (SlC w' ao N cap s.cs) ∧ Hid (Below w3.heap.size w3 w')) := hidden (by
        have hn2 := pw_nat HPW.out
        have hok := HLS.out.pk.ok
        have h1 := hok.pkwf HPW.out HKD.out
        have hi := hok.isq HPW.out HKD.out
        have hfw := HLS.out.few HPW.out
        obtain ⟨_, r2, r3⟩ := readQ_of hi
        refine (decodeQ_any _ n n _ w3 (HK3.out.2.sl h1.2 h1.1 (by omega)) (HT.out.on HL3.out.be h0) (Nat.lt_of_lt_of_le h0 HL3.out.be.size)).mono ?_
        rintro e w' ⟨k', ao, n', cap, c', rfl, HB, HQ⟩
        rcases HQ.out with ⟨_, _, _, _, _, hno⟩ | ⟨cs, g2, rfl, hk', rfl, rfl, rfl, his, hwf, _, hrc, hka⟩
        · exact absurd ⟨s.cs, hi.at⟩ hno
        · obtain ⟨_, _, rfl⟩ := hi.one his
          have hsl := decQ_slc hrc hka hwf (fun c hc => (hok.may c hc).fit (by omega)) (by omega)
          rw [hk', r3, ← hfw.1]
          exact ⟨_, _, rfl, hidden hsl, HB⟩)
      clear HBY
      go_wp2_with (first | (go_at_call 22; refine HDE.out.mono ?_; rintro e w4 ⟨ao4, cap4, rfl, HS4, HB4⟩; refine Hid.out ?_))
      apply hidden
      have HSA := hidden (sameAll_self ao4 lo N cap4 lc s.cs w4 HS4.out ((HL3.out.go HB4.out).few HPW.out).2.2.2)
      clear HDE
      go_wp2_with (first | (go_at_call 23; refine HSA.out.mono ?_; rintro e w5 ⟨rfl, HB5⟩))
      go_ret
      exact ⟨by first | rfl | simp, (bl_go (HL3.out.go HB4.out).be (Nat.le_refl _) HB5.out)⟩
end Go.Proofs.YtbefpojdopfeeaaGreatDoor
