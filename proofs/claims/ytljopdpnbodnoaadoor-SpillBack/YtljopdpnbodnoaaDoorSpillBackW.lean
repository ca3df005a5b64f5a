/- The walk of the law SpillBack. -/
import Derived.Test.YtljopdpnbodnoaaDoorLw
namespace Go.Proofs.YtljopdpnbodnoaaDoor
open Go.RowKit Go.Maps

set_option maxRecDepth 100000 in
set_option maxHeartbeats 16000000 in
theorem walk_SpillBack (pg : Int) (ao : Option Addr) (an ac : Nat) (la : List Int) (bo : Option Addr) (bn bc : Nat) (lb : List Int) (fr to : Int) (w : World) (ht : Tab w) (h0 : 0 < w.heap.size) (sa : Sl w ao an ac la) (sb : Sl w bo bn bc lb) (hfr : -9223372036854775808 ≤ fr ∧ fr ≤ 9223372036854775807) (hto : -9223372036854775808 ≤ to ∧ to ≤ 9223372036854775807) :
    Calls Tryd.prog 8 #[.int .i64 pg, .slice ao an ac, .agg #[.slice bo bn bc, .int .i64 fr, .int .i64 to]] w fun e w' => e = .returned (.bool true) ∧ Below w.heap.size w w' := by
  obtain ⟨x, hx⟩ : ∃ x, w.alloc (.cells #[.slice bo bn bc, .int .i64 fr, .int .i64 to] 55) = x := ⟨_, rfl⟩
  have hbx : Below w.heap.size w x := by rw [← hx]; exact bl_al (Below.refl _ _) (Nat.le_refl _) _
  have h0x : 0 < x.heap.size := Nat.lt_of_lt_of_le h0 hbx.size
  have x0 : x.cell? ⟨w.heap.size, 0, none⟩ = some (.slice bo bn bc) := by rw [← hx]; simp
  have x1 : x.cell? ⟨w.heap.size, 1, none⟩ = some (.int .i64 fr) := by rw [← hx]; simp
  have x2 : x.cell? ⟨w.heap.size, 2, none⟩ = some (.int .i64 to) := by rw [← hx]; simp
  have HAW := hidden (awake_any x (ht.on hbx h0) h0x)
  have ra := sa.hroom
  have rb := sb.hroom
  have raI : (an : Int) ≤ 140737488355328 := by omega
  have rbI : (bn : Int) ≤ 140737488355328 := by omega
  have HSA := hidden sa
  have HSB := hidden sb
  have HT := hidden ht
  have HBX := hidden hbx
  clear ht hbx sa sb
  go_enter Tryd.func8, Tryd.ntmps8
  go_wp2_with (first
    | (go_at_call 9; refine HAW.out.mono ?_; rintro e w1 ⟨rfl, HB1⟩; refine Hid.out ?_))
  apply hidden
  clear HAW hx x0 x1 x2
  have HBW1 : Hid (Below w.heap.size w w1) := hidden (bl_go HBX.out (Nat.le_refl _) HB1.out)
  by_cases hp : pw pg
  · obtain ⟨P, rfl⟩ : ∃ P : Nat, pg = P := ⟨pg.toNat, by have := pw_le hp; omega⟩
    have HNB := hidden (newBench_yes w1 1 P 65536 (.inl rfl) hp (by omega) (by omega))
    have HP := hidden hp
    have hpl := pw_le hp
    clear hp
    by_cases hlen : (1 ≤ an ∧ an ≤ 65536) ∧ (1 ≤ bn ∧ bn ≤ 65536)
    · have l1 : decide ((an : Int) < 1) = false := by simp; omega
      have l2 : decide (65536 < (an : Int)) = false := by simp; omega
      have l3 : decide ((bn : Int) < 1) = false := by simp; omega
      have l4 : decide (65536 < (bn : Int)) = false := by simp; omega
      have l5 : ¬ (an : Int) < 1 := by omega
      have l6 : ¬ 65536 < (an : Int) := by omega
      have l7 : ¬ (bn : Int) < 1 := by omega
      have l8 : ¬ 65536 < (bn : Int) := by omega
      obtain ⟨C1, hC1, c11, c12, c13, c14⟩ := pgN_nat HP.out hlen.1.1 hlen.1.2
      obtain ⟨C2, hC2, c21, c22, c23, c24⟩ := pgN_nat HP.out hlen.2.1 hlen.2.2
      have hC1b : C1 ≤ 134 := by
        have hq : 496 * (C1 - 1) ≤ (P - 16) * (C1 - 1) := Nat.mul_le_mul_right _ (by omega)
        omega
      have hC2b : C2 ≤ 134 := by
        have hq : 496 * (C2 - 1) ≤ (P - 16) * (C2 - 1) := Nat.mul_le_mul_right _ (by omega)
        omega
      have HC1 := hidden (And.intro hC1 (And.intro c13 c14))
      have HC2 := hidden (And.intro hC2 (And.intro c23 c24))
      clear hC1 hC2 c13 c14 c23 c24
      go_wp2_with (first
        | (go_at_call 21; refine HNB.out.mono ?_; rintro e w2 ⟨b, m, rfl, HN⟩; refine Hid.out ?_))
      apply hidden
      clear HNB
      obtain ⟨hbl, hml, hbn, hb2⟩ := HN.out
      have HLO : Hid (w.heap.size ≤ b ∧ w.heap.size ≤ m) := hidden ⟨Nat.le_trans HBW1.out.size hbl, Nat.le_trans HBW1.out.size hml⟩
      have HBW2 : Hid (Below w.heap.size w w2) := hidden (bl_go HBW1.out (Nat.le_refl _) hb2)
      have HA2 : Hid (Aw w2 b m 1 P 65536 0 (fun _ => none) 0) := hidden ⟨hbn, HT.out.on HBW2.out h0, Nat.lt_of_lt_of_le h0 HBW2.out.size, by have := HLO.out; omega, by have := HLO.out; omega⟩
      have HSA2 : Hid (Sl w2 ao an ac la) := hidden (HSA.out.on (Nat.le_refl _) HBW2.out)
      have HSB2 : Hid (Sl w2 bo bn bc lb) := hidden (HSB.out.on (Nat.le_refl _) HBW2.out)
      have HWR := hidden (write_ly HA2.out HP.out 2 C1 (by omega) (fun k => by simp) rfl (by omega) ao an ac la HSA2.out hlen.1.1 hlen.1.2 HC1.out.1 c11 HC1.out.2.1 HC1.out.2.2)
      clear hbl hml hbn hb2 HN HSA HSB HB1 HBX HBW1
      go_wp2_with (first
        | (go_at_call 27; refine HWR.out.mono ?_; rintro e w3 ⟨rfl, HQ⟩; refine Hid.out ?_))
      apply hidden
      obtain ⟨M1, ha3, hpre3, hly3, _, hc3⟩ := HQ.out
      have HA3 := hidden ha3
      have HPR3 := hidden hpre3
      have HLY3 := hidden hly3
      have HSA3 : Hid (Sl w3 ao an ac la) := hidden (HA2.out.sl hc3 HSA2.out)
      have HSB3 : Hid (Sl w3 bo bn bc lb) := hidden (HA2.out.sl hc3 HSB2.out)
      have HC3 := hidden hc3
      have HTK := hidden (taken_pre ha3.bn hpre3 (by omega))
      have HBM := hidden (And.intro ha3.bn.lt ha3.bn.mlt)
      clear ha3 hpre3 hly3 hc3 HQ HWR HA2 HSA2 HSB2
      go_wp2_with (first
        | (go_at_call 24; refine HTK.out.mono ?_; rintro e w4 ⟨to1, tc1, rfl, HJ, HB4⟩; refine Hid.out ?_))
      apply hidden
      have hcw : Cf (fun k => k = b ∨ k = m) w3 w4 := Cf.of_below HB4.out
      have HA4 : Hid (Aw w4 b m 1 P 65536 0 M1 (0 + C1)) := hidden (HA3.out.next (HA3.out.bn.on HB4.out) hcw)
      have HSA4 : Hid (Sl w4 ao an ac la) := hidden (HA3.out.sl hcw HSA3.out)
      have HSB4 : Hid (Sl w4 bo bn bc lb) := hidden (HA3.out.sl hcw HSB3.out)
      have HC4 : Hid (Cf (fun k => k = b ∨ k = m) w2 w4) := hidden (HC3.out.go hcw)
      obtain ⟨t, hte⟩ : ∃ t, 2 + C1 = t := ⟨_, rfl⟩
      rw [hte] at HPR3
      have HWR := hidden (write_ly HA4.out HP.out t C2 (by omega) HPR3.out (by omega) (by omega) bo bn bc lb HSB4.out hlen.2.1 hlen.2.2 HC2.out.1 c21 HC2.out.2.1 HC2.out.2.2)
      clear hcw HTK HB4 HA3 HSA3 HSB3 HC3
      go_wp2_with (first
        | (go_at_call 27; refine HWR.out.mono ?_; rintro e w5 ⟨rfl, HQ⟩; refine Hid.out ?_))
      apply hidden
      obtain ⟨M2, ha5, hpre5, hly5, hold5, hc5⟩ := HQ.out
      have HA5 := hidden ha5
      have HPR5 := hidden hpre5
      have HLB := hidden hly5
      have HLA : Hid (Ly M2 P 2 C1 an la) := hidden (HLY3.out.keep (fun k _ h2 => hold5 k (by omega)))
      have HSA5 : Hid (Sl w5 ao an ac la) := hidden (HA4.out.sl hc5 HSA4.out)
      have HSB5 : Hid (Sl w5 bo bn bc lb) := hidden (HA4.out.sl hc5 HSB4.out)
      have HJ5 := hidden (HA4.out.oj hc5 HJ.out HBM.out.1 HBM.out.2)
      have HC5 : Hid (Cf (fun k => k = b ∨ k = m) w2 w5) := hidden (HC4.out.go hc5)
      have HRD : Hid (Calls Tryd.prog 28 #[iB b, .int .i64 2, .int .i64 (an : Int)] w5 fun e u => ReadTo (0, rng 2 C1, la, 0 + (C1 : Int)) w5 b m 1 P 65536 M2 (0 + C1 + C2) e u) := hidden (by
        have hq := read_may ha5.bn HP.out ((2 : Nat) : Int) an (wf64 _ (by omega) (by omega)) (by omega) (by omega) (by omega) (by omega) ha5.tab ha5.pos ha5.b0
        rw [HLA.out.whole] at hq
        exact hq)
      clear ha5 hpre5 hly5 hold5 hc5 HQ HWR HA4 HSA4 HSB4 HC4 HJ HLY3 HPR3
      go_wp2_with (first
        | (go_at_call 28; refine HRD.out.mono ?_; rintro e w6 ⟨ro, rn, rc, k6, rfl, HQ⟩; refine Hid.out ?_))
      apply hidden
      obtain ⟨rfl, ho6, hrn, hb6, hc6⟩ := HQ.out
      have hcw : Cf (fun k => k = b ∨ k = m) w5 w6 := hc6.wide (fun k h => .inl h)
      have HA6 : Hid (Aw w6 b m 1 P 65536 (0 + (C1 : Int)) M2 (0 + C1 + C2)) := hidden (HA5.out.next hb6 hcw)
      have HSA6 : Hid (Sl w6 ao an ac la) := hidden (HA5.out.sl hcw HSA5.out)
      have HSB6 : Hid (Sl w6 bo bn bc lb) := hidden (HA5.out.sl hcw HSB5.out)
      have HR6 : Hid (Sl w6 ro rn rc la) := hidden (ho6.sl2 HSA5.out.wf (by rw [HSA5.out.hlen]; exact ra))
      have HJ6 := hidden (HA5.out.oj hcw HJ5.out HBM.out.1 HBM.out.2)
      have HC6 : Hid (Cf (fun k => k = b ∨ k = m) w2 w6) := hidden (HC5.out.go hcw)
      have HSI := hidden (slice_all HA6.out.bn HLB.out fr to (by omega) (by omega) HA6.out.tab HA6.out.pos HA6.out.b0)
      clear ho6 hb6 hc6 hcw HQ HRD HA5 HSA5 HSB5 HC5 HJ5 hrn
      go_wp2_with (first
        | (go_at_call 29; refine HSI.out.mono ?_; rintro e w7 ⟨so, sn, sc, k7, rfl, HQ⟩; refine Hid.out ?_))
      apply hidden
      obtain ⟨⟨r7, hb7, r70, r71⟩, hc7, hcase⟩ := HQ.out
      have hcw : Cf (fun k => k = b ∨ k = m) w6 w7 := hc7.wide (fun k h => .inl h)
      have HA7 : Hid (Aw w7 b m 1 P 65536 r7 M2 (0 + C1 + C2)) := hidden (HA6.out.next hb7 hcw)
      have HSA7 : Hid (Sl w7 ao an ac la) := hidden (HA6.out.sl hcw HSA6.out)
      have HSB7 : Hid (Sl w7 bo bn bc lb) := hidden (HA6.out.sl hcw HSB6.out)
      have HR7 : Hid (Sl w7 ro rn rc la) := hidden (HA6.out.sl hcw HR6.out)
      have HJ7 := hidden (HA6.out.oj hcw HJ6.out HBM.out.1 HBM.out.2)
      have HC7 : Hid (Cf (fun k => k = b ∨ k = m) w2 w7) := hidden (HC6.out.go hcw)
      have r72 : r7 ≤ 1000000 := by omega
      have HFR := hidden (free_may HA7.out.bn HP.out (t : Int) bn (wf64 _ (by omega) (by omega)) (by omega) (by omega) (by omega) r70 HA7.out.tab HA7.out.pos HA7.out.b0 _ _ _ (HLB.out.whole r7) (by rw [rng_length]; omega) (by intro p hp; have := rng_mem hp; omega))
      have HCS := hidden hcase
      obtain ⟨sA, hsA⟩ : ∃ sA, strOfNums la = sA := ⟨_, rfl⟩
      have kA : ∀ q, (convert 25 9 (.slice ao an ac)).run Tryd.prog (w7.drewN q) = .ok (.string sA) (w7.drewN q) := fun q => by rw [← hsA]; exact conv_sl (HSA7.out.on (Nat.le_refl _) (bl_dr (Below.refl _ _) q))
      have kR : ∀ q, (convert 25 9 (.slice ro rn rc)).run Tryd.prog (w7.drewN q) = .ok (.string sA) (w7.drewN q) := fun q => by rw [← hsA]; exact conv_sl (HR7.out.on (Nat.le_refl _) (bl_dr (Below.refl _ _) q))
      clear hb7 hc7 hcw HQ HSI HA6 HSA6 HSB6 HR6 HC6 HJ6 hcase r71
      have HGO : Hid (∀ q, Below w7.heap.size w7 (w7.drewN q)) := hidden (fun q => bl_dr (Below.refl _ _) q)
      rcases HCS.out with ⟨hmay, rfl, hs7⟩ | ⟨hno, rfl⟩
      · obtain ⟨F, rfl⟩ : ∃ F : Nat, fr = F := ⟨fr.toNat, by omega⟩
        obtain ⟨T, rfl⟩ : ∃ T : Nat, to = T := ⟨to.toNat, by omega⟩
        rw [Int.toNat_natCast, Int.toNat_natCast] at hs7
        obtain ⟨_, m2, m3⟩ := hmay
        have m4 : F ≤ T := by omega
        have m5 : T ≤ bn := by omega
        have m6 : T ≤ bc := by have := HSB7.out.hcap; omega
        have m7 : (T : Int) ≤ (bc : Int) := by omega
        have m8 : decide ((F : Int) ≤ (T : Int)) = true := by simpa using m2
        have m9 : decide ((T : Int) ≤ (bn : Int)) = true := by simpa using m3
        obtain ⟨bb, boff, rfl, _, _⟩ : ∃ b off, bo = some ⟨b, off, none⟩ ∧ b < w7.heap.size ∧ ∀ i, i < bn → w7.cell? ⟨b, off + i, none⟩ = some (.int .u8 (lb.getD i 0)) := by
          rcases HSB7.out.hat with h | h
          · omega
          · exact h
        obtain ⟨sP, hsP⟩ : ∃ sP, strOfNums ((lb.drop F).take (T - F)) = sP := ⟨_, rfl⟩
        have kS : ∀ q, (convert 25 9 (.slice so sn sc)).run Tryd.prog (w7.drewN q) = .ok (.string sP) (w7.drewN q) := fun q => by rw [← hsP]; exact conv_sl (hs7.on (Nat.le_refl _) (bl_dr (Below.refl _ _) q))
        by_cases hcf : bc = F
        · have hTF : T - F = 0 := by omega
          have kB : ∀ q (c : Nat), (convert 25 9 (.slice (some ⟨bb, boff, none⟩) 0 c)).run Tryd.prog (w7.drewN q) = .ok (.string sP) (w7.drewN q) := fun q c => by
            have e : ((lb.drop F).take (T - F)) = [] := by rw [hTF, List.take_zero]
            rw [← hsP, e]
            exact conv_sl ⟨rfl, Nat.zero_le _, by omega, Wf.nil, (by intro h; cases h), .inl rfl⟩
          clear hs7 hsP hsA HCS
          clear HFR
          go_wp2_with fail
          go_quiet (fail)
          clear kA kR kS kB
          obtain ⟨w8, hw8⟩ : ∃ w8, w7.drewN nq = w8 := ⟨_, rfl⟩
          have hb8 : Below w7.heap.size w7 w8 := by rw [← hw8]; exact HGO.out nq
          rw [hw8]
          have hcw : Cf (fun k => k = b ∨ k = m) w7 w8 := Cf.of_below hb8
          have HA8 : Hid (Aw w8 b m 1 P 65536 r7 M2 (0 + C1 + C2)) := hidden (HA7.out.next (HA7.out.bn.on hb8) hcw)
          have HSA8 : Hid (Sl w8 ao an ac la) := hidden (HA7.out.sl hcw HSA7.out)
          have HJ8 := hidden (HA7.out.oj hcw HJ7.out HBM.out.1 HBM.out.2)
          have HC8 : Hid (Cf (fun k => k = b ∨ k = m) w2 w8) := hidden (HC7.out.go hcw)
          have HFR := hidden (free_may HA8.out.bn HP.out (t : Int) bn (wf64 _ (by omega) (by omega)) (by omega) (by omega) (by omega) r70 HA8.out.tab HA8.out.pos HA8.out.b0 _ _ _ (HLB.out.whole r7) (by rw [rng_length]; omega) (by intro p hp; have := rng_mem hp; omega))
          clear hw8 hb8 hcw HA7 HSA7 HJ7 HC7 HGO HSB7 HR7
          go_wp2_with (first
            | (go_at_call 30; refine HFR.out.mono ?_; rintro e w9 ⟨rfl, HQ⟩; refine Hid.out ?_))
          apply hidden
          obtain ⟨hb9, hcw⟩ := HQ.out
          obtain ⟨M3, hM3⟩ : ∃ M3, delL M2 (rng t C2) = M3 := ⟨_, rfl⟩
          obtain ⟨ct3, hct3⟩ : ∃ ct3, 0 + C1 + C2 - (rng t C2).length = ct3 := ⟨_, rfl⟩
          rw [hM3, hct3] at hb9
          have hpre9 : Pre M3 (2 + C1) := by rw [← hM3, hte]; exact HPR5.out.del
          have HLA9 : Hid (Ly M3 P 2 C1 an la) := hidden (HLA.out.keep (fun k h1 h2 => by
            rw [← hM3]
            unfold delL
            rw [if_neg (fun e => by have := rng_mem e; omega)]))
          have HA9 : Hid (Aw w9 b m 1 P 65536 (r7 + (C2 : Int)) M3 ct3) := hidden (HA8.out.next hb9 hcw)
          have HSA9 : Hid (Sl w9 ao an ac la) := hidden (HA8.out.sl hcw HSA8.out)
          have HJ9 := hidden (HA8.out.oj hcw HJ8.out HBM.out.1 HBM.out.2)
          have HC9 : Hid (Cf (fun k => k = b ∨ k = m) w2 w9) := hidden (HC8.out.go hcw)
          have HPR9 := hidden hpre9
          have HTK := hidden (taken_pre HA9.out.bn hpre9 (by omega))
          have HBM9 := hidden (And.intro HA9.out.bn.lt HA9.out.bn.mlt)
          clear hb9 hcw hM3 hct3 hpre9 HQ HFR HA8 HSA8 HJ8 HC8
          go_wp2_with (first
            | (go_at_call 24; refine HTK.out.mono ?_; rintro e w10 ⟨to2, tc2, rfl, HJB, HB10⟩; refine Hid.out ?_))
          apply hidden
          have hcw : Cf (fun k => k = b ∨ k = m) w9 w10 := Cf.of_below HB10.out
          have HA10 : Hid (Aw w10 b m 1 P 65536 (r7 + (C2 : Int)) M3 ct3) := hidden (HA9.out.next (HA9.out.bn.on HB10.out) hcw)
          have HSA10 : Hid (Sl w10 ao an ac la) := hidden (HA9.out.sl hcw HSA9.out)
          have HJ10 := hidden (HA9.out.oj hcw HJ9.out HBM.out.1 HBM.out.2)
          have HC10 : Hid (Cf (fun k => k = b ∨ k = m) w2 w10) := hidden (HC9.out.go hcw)
          have HLI : Hid (Calls Tryd.prog 31 #[iB b, .int .i64 2, .int .i64 (an : Int)] w10 fun e u => ListTo (0, rng 2 C1, la, r7 + (C2 : Int) + (C1 : Int)) w10 b m 1 P 65536 M3 ct3 e u) := hidden (by
            have hq := list_may HA10.out.bn HP.out ((2 : Nat) : Int) an (wf64 _ (by omega) (by omega)) (by omega) (by omega) (by omega) (by omega) HA10.out.tab HA10.out.pos HA10.out.b0
            rw [HLA9.out.whole] at hq
            exact hq)
          clear hcw HTK HB10 HA9 HSA9 HJ9 HC9
          go_wp2_with (first
            | (go_at_call 31; refine HLI.out.mono ?_; rintro e w11 ⟨lo, ln, lc, k11, rfl, HQ⟩; refine Hid.out ?_))
          apply hidden
          obtain ⟨rfl, _, hln, hb11, hc11⟩ := HQ.out
          have hln2 : ln = C1 := hln.trans (rng_length 2 C1)
          rw [hln2]
          have hcw : Cf (fun k => k = b ∨ k = m) w10 w11 := hc11.wide (fun k h => .inl h)
          have HA11 : Hid (Aw w11 b m 1 P 65536 (r7 + (C2 : Int) + (C1 : Int)) M3 ct3) := hidden (HA10.out.next hb11 hcw)
          have HSA11 : Hid (Sl w11 ao an ac la) := hidden (HA10.out.sl hcw HSA10.out)
          have HJ11 := hidden (HA10.out.oj hcw HJ10.out HBM.out.1 HBM.out.2)
          have HJB11 := hidden (HA10.out.oj hcw HJB.out HBM9.out.1 HBM9.out.2)
          have HC11 : Hid (Cf (fun k => k = b ∨ k = m) w2 w11) := hidden (HC10.out.go hcw)
          have HRD : Hid (Calls Tryd.prog 28 #[iB b, .int .i64 2, .int .i64 (an : Int)] w11 fun e u => ReadTo (0, rng 2 C1, la, r7 + (C2 : Int) + (C1 : Int) + (C1 : Int)) w11 b m 1 P 65536 M3 ct3 e u) := hidden (by
            have hq := read_may HA11.out.bn HP.out ((2 : Nat) : Int) an (wf64 _ (by omega) (by omega)) (by omega) (by omega) (by omega) (by omega) HA11.out.tab HA11.out.pos HA11.out.b0
            rw [HLA9.out.whole] at hq
            exact hq)
          clear hln hln2 hb11 hc11 hcw HQ HLI HA10 HSA10 HJ10 HJB HC10
          go_wp2_with (first
            | (go_at_call 28; refine HRD.out.mono ?_; rintro e w12 ⟨zo, zn, zc, k12, rfl, HQ⟩; refine Hid.out ?_))
          apply hidden
          obtain ⟨rfl, ho12, hzn, hb12, hc12⟩ := HQ.out
          have hcw : Cf (fun k => k = b ∨ k = m) w11 w12 := hc12.wide (fun k h => .inl h)
          have HA12 : Hid (Aw w12 b m 1 P 65536 (r7 + (C2 : Int) + (C1 : Int) + (C1 : Int)) M3 ct3) := hidden (HA11.out.next hb12 hcw)
          have HSA12 : Hid (Sl w12 ao an ac la) := hidden (HA11.out.sl hcw HSA11.out)
          have HZ12 : Hid (Sl w12 zo zn zc la) := hidden (ho12.sl2 HSA11.out.wf (by rw [HSA11.out.hlen]; exact ra))
          have HJ12 := hidden (HA11.out.oj hcw HJ11.out HBM.out.1 HBM.out.2)
          have HJB12 := hidden (HA11.out.oj hcw HJB11.out HBM9.out.1 HBM9.out.2)
          have HC12 : Hid (Cf (fun k => k = b ∨ k = m) w2 w12) := hidden (HC11.out.go hcw)
          have HFR : Hid (Calls Tryd.prog 30 #[iB b, .int .i64 2, .int .i64 (an : Int)] w12 fun e u => e = .returned (.int .i64 0) ∧ Hid (Bn u b m 1 P 65536 (r7 + (C2 : Int) + (C1 : Int) + (C1 : Int) + (C1 : Int)) (delL M3 (rng 2 C1)) (ct3 - (rng 2 C1).length) ∧ Cf (fun k => k = b ∨ k = m) w12 u)) :=
            hidden (free_may HA12.out.bn HP.out ((2 : Nat) : Int) an (wf64 _ (by omega) (by omega)) (by omega) (by omega) (by omega) (by omega) HA12.out.tab HA12.out.pos HA12.out.b0 _ _ _ (HLA9.out.whole _) (by rw [rng_length]; omega) (by intro p hp; have := rng_mem hp; omega))
          clear ho12 hzn hb12 hc12 hcw HQ HRD HA11 HSA11 HJ11 HJB11 HC11
          go_wp2_with (first
            | (go_at_call 30; refine HFR.out.mono ?_; rintro e w13 ⟨rfl, HQ⟩; refine Hid.out ?_))
          apply hidden
          obtain ⟨hb13, hcw⟩ := HQ.out
          have HA13 := hidden (HA12.out.next hb13 hcw)
          have HSA13 : Hid (Sl w13 ao an ac la) := hidden (HA12.out.sl hcw HSA12.out)
          have HZ13 : Hid (Sl w13 zo zn zc la) := hidden (HA12.out.sl hcw HZ12.out)
          have HJ13 := hidden (HA12.out.oj hcw HJ12.out HBM.out.1 HBM.out.2)
          have HJB13 := hidden (HA12.out.oj hcw HJB12.out HBM9.out.1 HBM9.out.2)
          have HC13 : Hid (Cf (fun k => k = b ∨ k = m) w2 w13) := hidden (HC12.out.go hcw)
          have HTK : Hid (Calls Tryd.prog 24 #[pB b] w13 fun e u => ∃ ao c, e = .returned (.slice ao 0 c) ∧ Hid (Below w13.heap.size w13 u)) := hidden (by
            refine (taken_pre (C := 0) HA13.out.bn (HPR9.out.del) (by omega)).mono ?_
            rintro e u ⟨ao, c, rfl, _, hb⟩
            exact ⟨ao, c, rfl, hb⟩)
          obtain ⟨sZ, hsZ⟩ : ∃ sZ, strOfNums la = sZ := ⟨_, rfl⟩
          have HPC := fun z => pages_any P an (by omega) z
          rw [HC1.out.1] at HPC
          have HFIN : Hid (∀ z, Hid (Below w13.heap.size w13 z) → (∀ q, Below w.heap.size w (z.drewN q)) ∧ (convert 25 9 (.slice ao an ac)).run Tryd.prog z = .ok (.string sZ) z ∧ (convert 25 9 (.slice zo zn zc)).run Tryd.prog z = .ok (.string sZ) z ∧ Hid (Calls Tryd.prog 32 #[.slice to1 C1 tc1, .slice to2 C1 tc2] z fun e u => e = .returned (.bool true) ∧ ∃ q, u = z.drewN q)) := hidden (by
            intro z hz
            have k1 := conv_sl (HSA13.out.on (Nat.le_refl _) hz.out)
            have k2 := conv_sl (HZ13.out.on (Nat.le_refl _) hz.out)
            rw [hsZ] at k1 k2
            refine ⟨fun q => ?_, k1, k2, hidden (sameInts_same z _ _ C1 _ _ (rng 2 C1) (HJ13.out.below hz.out).slj (HJB13.out.below hz.out).slj (by omega))⟩
            have h1 := HC13.out.below (B := w.heap.size) HBW2.out.size (by
              rintro k hk (e | e)
              · have := HLO.out.1; omega
              · have := HLO.out.2; omega)
            exact bl_dr (bl_go (HBW2.out.trans h1) (Nat.le_refl _) hz.out) q)
          clear hb13 hcw HQ HFR HA12 HSA12 HZ12 HJ12 HJB12 HC12 HA13 HSA13 HZ13 HJ13 HJB13 HC13 hsZ
          go_wp2_with (first
            | (go_at_call 24; refine HTK.out.mono ?_; rintro e z ⟨to3, tc3, rfl, HZ⟩; obtain ⟨hbz, z1, z2, HSAME⟩ := HFIN.out z HZ; have HBZ := hidden hbz; clear hbz HTK HFIN)
            | (go_at_call 32; refine HSAME.out.mono ?_; rintro e zz ⟨rfl, q, rfl⟩)
            | (go_at_call 10; refine same_call (HPC _) ?_))
          go_ret
          exact ⟨rfl, HBZ.out _⟩
        · have kB : ∀ q, (convert 25 9 (.slice (some ⟨bb, boff + F, none⟩) (T - F) (bc - F))).run Tryd.prog (w7.drewN q) = .ok (.string sP) (w7.drewN q) := fun q => by
            rw [← hsP]
            exact conv_sl ((HSB7.out.cut9 F (T - F) (by omega)).on (Nat.le_refl _) (bl_dr (Below.refl _ _) q))
          clear hs7 hsP hsA HCS
          clear HFR
          go_wp2_with fail
          go_quiet (fail)
          clear kA kR kS kB
          obtain ⟨w8, hw8⟩ : ∃ w8, w7.drewN nq = w8 := ⟨_, rfl⟩
          have hb8 : Below w7.heap.size w7 w8 := by rw [← hw8]; exact HGO.out nq
          rw [hw8]
          have hcw : Cf (fun k => k = b ∨ k = m) w7 w8 := Cf.of_below hb8
          have HA8 : Hid (Aw w8 b m 1 P 65536 r7 M2 (0 + C1 + C2)) := hidden (HA7.out.next (HA7.out.bn.on hb8) hcw)
          have HSA8 : Hid (Sl w8 ao an ac la) := hidden (HA7.out.sl hcw HSA7.out)
          have HJ8 := hidden (HA7.out.oj hcw HJ7.out HBM.out.1 HBM.out.2)
          have HC8 : Hid (Cf (fun k => k = b ∨ k = m) w2 w8) := hidden (HC7.out.go hcw)
          have HFR := hidden (free_may HA8.out.bn HP.out (t : Int) bn (wf64 _ (by omega) (by omega)) (by omega) (by omega) (by omega) r70 HA8.out.tab HA8.out.pos HA8.out.b0 _ _ _ (HLB.out.whole r7) (by rw [rng_length]; omega) (by intro p hp; have := rng_mem hp; omega))
          clear hw8 hb8 hcw HA7 HSA7 HJ7 HC7 HGO HSB7 HR7
          go_wp2_with (first
            | (go_at_call 30; refine HFR.out.mono ?_; rintro e w9 ⟨rfl, HQ⟩; refine Hid.out ?_))
          apply hidden
          obtain ⟨hb9, hcw⟩ := HQ.out
          obtain ⟨M3, hM3⟩ : ∃ M3, delL M2 (rng t C2) = M3 := ⟨_, rfl⟩
          obtain ⟨ct3, hct3⟩ : ∃ ct3, 0 + C1 + C2 - (rng t C2).length = ct3 := ⟨_, rfl⟩
          rw [hM3, hct3] at hb9
          have hpre9 : Pre M3 (2 + C1) := by rw [← hM3, hte]; exact HPR5.out.del
          have HLA9 : Hid (Ly M3 P 2 C1 an la) := hidden (HLA.out.keep (fun k h1 h2 => by
            rw [← hM3]
            unfold delL
            rw [if_neg (fun e => by have := rng_mem e; omega)]))
          have HA9 : Hid (Aw w9 b m 1 P 65536 (r7 + (C2 : Int)) M3 ct3) := hidden (HA8.out.next hb9 hcw)
          have HSA9 : Hid (Sl w9 ao an ac la) := hidden (HA8.out.sl hcw HSA8.out)
          have HJ9 := hidden (HA8.out.oj hcw HJ8.out HBM.out.1 HBM.out.2)
          have HC9 : Hid (Cf (fun k => k = b ∨ k = m) w2 w9) := hidden (HC8.out.go hcw)
          have HPR9 := hidden hpre9
          have HTK := hidden (taken_pre HA9.out.bn hpre9 (by omega))
          have HBM9 := hidden (And.intro HA9.out.bn.lt HA9.out.bn.mlt)
          clear hb9 hcw hM3 hct3 hpre9 HQ HFR HA8 HSA8 HJ8 HC8
          go_wp2_with (first
            | (go_at_call 24; refine HTK.out.mono ?_; rintro e w10 ⟨to2, tc2, rfl, HJB, HB10⟩; refine Hid.out ?_))
          apply hidden
          have hcw : Cf (fun k => k = b ∨ k = m) w9 w10 := Cf.of_below HB10.out
          have HA10 : Hid (Aw w10 b m 1 P 65536 (r7 + (C2 : Int)) M3 ct3) := hidden (HA9.out.next (HA9.out.bn.on HB10.out) hcw)
          have HSA10 : Hid (Sl w10 ao an ac la) := hidden (HA9.out.sl hcw HSA9.out)
          have HJ10 := hidden (HA9.out.oj hcw HJ9.out HBM.out.1 HBM.out.2)
          have HC10 : Hid (Cf (fun k => k = b ∨ k = m) w2 w10) := hidden (HC9.out.go hcw)
          have HLI : Hid (Calls Tryd.prog 31 #[iB b, .int .i64 2, .int .i64 (an : Int)] w10 fun e u => ListTo (0, rng 2 C1, la, r7 + (C2 : Int) + (C1 : Int)) w10 b m 1 P 65536 M3 ct3 e u) := hidden (by
            have hq := list_may HA10.out.bn HP.out ((2 : Nat) : Int) an (wf64 _ (by omega) (by omega)) (by omega) (by omega) (by omega) (by omega) HA10.out.tab HA10.out.pos HA10.out.b0
            rw [HLA9.out.whole] at hq
            exact hq)
          clear hcw HTK HB10 HA9 HSA9 HJ9 HC9
          go_wp2_with (first
            | (go_at_call 31; refine HLI.out.mono ?_; rintro e w11 ⟨lo, ln, lc, k11, rfl, HQ⟩; refine Hid.out ?_))
          apply hidden
          obtain ⟨rfl, _, hln, hb11, hc11⟩ := HQ.out
          have hln2 : ln = C1 := hln.trans (rng_length 2 C1)
          rw [hln2]
          have hcw : Cf (fun k => k = b ∨ k = m) w10 w11 := hc11.wide (fun k h => .inl h)
          have HA11 : Hid (Aw w11 b m 1 P 65536 (r7 + (C2 : Int) + (C1 : Int)) M3 ct3) := hidden (HA10.out.next hb11 hcw)
          have HSA11 : Hid (Sl w11 ao an ac la) := hidden (HA10.out.sl hcw HSA10.out)
          have HJ11 := hidden (HA10.out.oj hcw HJ10.out HBM.out.1 HBM.out.2)
          have HJB11 := hidden (HA10.out.oj hcw HJB.out HBM9.out.1 HBM9.out.2)
          have HC11 : Hid (Cf (fun k => k = b ∨ k = m) w2 w11) := hidden (HC10.out.go hcw)
          have HRD : Hid (Calls Tryd.prog 28 #[iB b, .int .i64 2, .int .i64 (an : Int)] w11 fun e u => ReadTo (0, rng 2 C1, la, r7 + (C2 : Int) + (C1 : Int) + (C1 : Int)) w11 b m 1 P 65536 M3 ct3 e u) := hidden (by
            have hq := read_may HA11.out.bn HP.out ((2 : Nat) : Int) an (wf64 _ (by omega) (by omega)) (by omega) (by omega) (by omega) (by omega) HA11.out.tab HA11.out.pos HA11.out.b0
            rw [HLA9.out.whole] at hq
            exact hq)
          clear hln hln2 hb11 hc11 hcw HQ HLI HA10 HSA10 HJ10 HJB HC10
          go_wp2_with (first
            | (go_at_call 28; refine HRD.out.mono ?_; rintro e w12 ⟨zo, zn, zc, k12, rfl, HQ⟩; refine Hid.out ?_))
          apply hidden
          obtain ⟨rfl, ho12, hzn, hb12, hc12⟩ := HQ.out
          have hcw : Cf (fun k => k = b ∨ k = m) w11 w12 := hc12.wide (fun k h => .inl h)
          have HA12 : Hid (Aw w12 b m 1 P 65536 (r7 + (C2 : Int) + (C1 : Int) + (C1 : Int)) M3 ct3) := hidden (HA11.out.next hb12 hcw)
          have HSA12 : Hid (Sl w12 ao an ac la) := hidden (HA11.out.sl hcw HSA11.out)
          have HZ12 : Hid (Sl w12 zo zn zc la) := hidden (ho12.sl2 HSA11.out.wf (by rw [HSA11.out.hlen]; exact ra))
          have HJ12 := hidden (HA11.out.oj hcw HJ11.out HBM.out.1 HBM.out.2)
          have HJB12 := hidden (HA11.out.oj hcw HJB11.out HBM9.out.1 HBM9.out.2)
          have HC12 : Hid (Cf (fun k => k = b ∨ k = m) w2 w12) := hidden (HC11.out.go hcw)
          have HFR : Hid (Calls Tryd.prog 30 #[iB b, .int .i64 2, .int .i64 (an : Int)] w12 fun e u => e = .returned (.int .i64 0) ∧ Hid (Bn u b m 1 P 65536 (r7 + (C2 : Int) + (C1 : Int) + (C1 : Int) + (C1 : Int)) (delL M3 (rng 2 C1)) (ct3 - (rng 2 C1).length) ∧ Cf (fun k => k = b ∨ k = m) w12 u)) :=
            hidden (free_may HA12.out.bn HP.out ((2 : Nat) : Int) an (wf64 _ (by omega) (by omega)) (by omega) (by omega) (by omega) (by omega) HA12.out.tab HA12.out.pos HA12.out.b0 _ _ _ (HLA9.out.whole _) (by rw [rng_length]; omega) (by intro p hp; have := rng_mem hp; omega))
          clear ho12 hzn hb12 hc12 hcw HQ HRD HA11 HSA11 HJ11 HJB11 HC11
          go_wp2_with (first
            | (go_at_call 30; refine HFR.out.mono ?_; rintro e w13 ⟨rfl, HQ⟩; refine Hid.out ?_))
          apply hidden
          obtain ⟨hb13, hcw⟩ := HQ.out
          have HA13 := hidden (HA12.out.next hb13 hcw)
          have HSA13 : Hid (Sl w13 ao an ac la) := hidden (HA12.out.sl hcw HSA12.out)
          have HZ13 : Hid (Sl w13 zo zn zc la) := hidden (HA12.out.sl hcw HZ12.out)
          have HJ13 := hidden (HA12.out.oj hcw HJ12.out HBM.out.1 HBM.out.2)
          have HJB13 := hidden (HA12.out.oj hcw HJB12.out HBM9.out.1 HBM9.out.2)
          have HC13 : Hid (Cf (fun k => k = b ∨ k = m) w2 w13) := hidden (HC12.out.go hcw)
          have HTK : Hid (Calls Tryd.prog 24 #[pB b] w13 fun e u => ∃ ao c, e = .returned (.slice ao 0 c) ∧ Hid (Below w13.heap.size w13 u)) := hidden (by
            refine (taken_pre (C := 0) HA13.out.bn (HPR9.out.del) (by omega)).mono ?_
            rintro e u ⟨ao, c, rfl, _, hb⟩
            exact ⟨ao, c, rfl, hb⟩)
          obtain ⟨sZ, hsZ⟩ : ∃ sZ, strOfNums la = sZ := ⟨_, rfl⟩
          have HPC := fun z => pages_any P an (by omega) z
          rw [HC1.out.1] at HPC
          have HFIN : Hid (∀ z, Hid (Below w13.heap.size w13 z) → (∀ q, Below w.heap.size w (z.drewN q)) ∧ (convert 25 9 (.slice ao an ac)).run Tryd.prog z = .ok (.string sZ) z ∧ (convert 25 9 (.slice zo zn zc)).run Tryd.prog z = .ok (.string sZ) z ∧ Hid (Calls Tryd.prog 32 #[.slice to1 C1 tc1, .slice to2 C1 tc2] z fun e u => e = .returned (.bool true) ∧ ∃ q, u = z.drewN q)) := hidden (by
            intro z hz
            have k1 := conv_sl (HSA13.out.on (Nat.le_refl _) hz.out)
            have k2 := conv_sl (HZ13.out.on (Nat.le_refl _) hz.out)
            rw [hsZ] at k1 k2
            refine ⟨fun q => ?_, k1, k2, hidden (sameInts_same z _ _ C1 _ _ (rng 2 C1) (HJ13.out.below hz.out).slj (HJB13.out.below hz.out).slj (by omega))⟩
            have h1 := HC13.out.below (B := w.heap.size) HBW2.out.size (by
              rintro k hk (e | e)
              · have := HLO.out.1; omega
              · have := HLO.out.2; omega)
            exact bl_dr (bl_go (HBW2.out.trans h1) (Nat.le_refl _) hz.out) q)
          clear hb13 hcw HQ HFR HA12 HSA12 HZ12 HJ12 HJB12 HC12 HA13 HSA13 HZ13 HJ13 HJB13 HC13 hsZ
          go_wp2_with (first
            | (go_at_call 24; refine HTK.out.mono ?_; rintro e z ⟨to3, tc3, rfl, HZ⟩; obtain ⟨hbz, z1, z2, HSAME⟩ := HFIN.out z HZ; have HBZ := hidden hbz; clear hbz HTK HFIN)
            | (go_at_call 32; refine HSAME.out.mono ?_; rintro e zz ⟨rfl, q, rfl⟩)
            | (go_at_call 10; refine same_call (HPC _) ?_))
          go_ret
          exact ⟨rfl, HBZ.out _⟩
      · clear HCS hsA HFR
        by_cases g1 : 0 ≤ fr
        · have d1 : decide (0 ≤ fr) = true := by simpa using g1
          by_cases g2 : fr ≤ to
          · have d2 : decide (fr ≤ to) = true := by simpa using g2
            have g3 : ¬ to ≤ (bn : Int) := by omega
            have d3 : decide (to ≤ (bn : Int)) = false := by simpa using g3
            clear hno
            go_wp2_with fail
            go_quiet (fail)
            clear kA kR
            obtain ⟨w8, hw8⟩ : ∃ w8, w7.drewN nq = w8 := ⟨_, rfl⟩
            have hb8 : Below w7.heap.size w7 w8 := by rw [← hw8]; exact HGO.out nq
            rw [hw8]
            have hcw : Cf (fun k => k = b ∨ k = m) w7 w8 := Cf.of_below hb8
            have HA8 : Hid (Aw w8 b m 1 P 65536 r7 M2 (0 + C1 + C2)) := hidden (HA7.out.next (HA7.out.bn.on hb8) hcw)
            have HSA8 : Hid (Sl w8 ao an ac la) := hidden (HA7.out.sl hcw HSA7.out)
            have HJ8 := hidden (HA7.out.oj hcw HJ7.out HBM.out.1 HBM.out.2)
            have HC8 : Hid (Cf (fun k => k = b ∨ k = m) w2 w8) := hidden (HC7.out.go hcw)
            have HFR := hidden (free_may HA8.out.bn HP.out (t : Int) bn (wf64 _ (by omega) (by omega)) (by omega) (by omega) (by omega) r70 HA8.out.tab HA8.out.pos HA8.out.b0 _ _ _ (HLB.out.whole r7) (by rw [rng_length]; omega) (by intro p hp; have := rng_mem hp; omega))
            clear hw8 hb8 hcw HA7 HSA7 HJ7 HC7 HGO HSB7 HR7
            go_wp2_with (first
              | (go_at_call 30; refine HFR.out.mono ?_; rintro e w9 ⟨rfl, HQ⟩; refine Hid.out ?_))
            apply hidden
            obtain ⟨hb9, hcw⟩ := HQ.out
            obtain ⟨M3, hM3⟩ : ∃ M3, delL M2 (rng t C2) = M3 := ⟨_, rfl⟩
            obtain ⟨ct3, hct3⟩ : ∃ ct3, 0 + C1 + C2 - (rng t C2).length = ct3 := ⟨_, rfl⟩
            rw [hM3, hct3] at hb9
            have hpre9 : Pre M3 (2 + C1) := by rw [← hM3, hte]; exact HPR5.out.del
            have HLA9 : Hid (Ly M3 P 2 C1 an la) := hidden (HLA.out.keep (fun k h1 h2 => by
              rw [← hM3]
              unfold delL
              rw [if_neg (fun e => by have := rng_mem e; omega)]))
            have HA9 : Hid (Aw w9 b m 1 P 65536 (r7 + (C2 : Int)) M3 ct3) := hidden (HA8.out.next hb9 hcw)
            have HSA9 : Hid (Sl w9 ao an ac la) := hidden (HA8.out.sl hcw HSA8.out)
            have HJ9 := hidden (HA8.out.oj hcw HJ8.out HBM.out.1 HBM.out.2)
            have HC9 : Hid (Cf (fun k => k = b ∨ k = m) w2 w9) := hidden (HC8.out.go hcw)
            have HPR9 := hidden hpre9
            have HTK := hidden (taken_pre HA9.out.bn hpre9 (by omega))
            have HBM9 := hidden (And.intro HA9.out.bn.lt HA9.out.bn.mlt)
            clear hb9 hcw hM3 hct3 hpre9 HQ HFR HA8 HSA8 HJ8 HC8
            go_wp2_with (first
              | (go_at_call 24; refine HTK.out.mono ?_; rintro e w10 ⟨to2, tc2, rfl, HJB, HB10⟩; refine Hid.out ?_))
            apply hidden
            have hcw : Cf (fun k => k = b ∨ k = m) w9 w10 := Cf.of_below HB10.out
            have HA10 : Hid (Aw w10 b m 1 P 65536 (r7 + (C2 : Int)) M3 ct3) := hidden (HA9.out.next (HA9.out.bn.on HB10.out) hcw)
            have HSA10 : Hid (Sl w10 ao an ac la) := hidden (HA9.out.sl hcw HSA9.out)
            have HJ10 := hidden (HA9.out.oj hcw HJ9.out HBM.out.1 HBM.out.2)
            have HC10 : Hid (Cf (fun k => k = b ∨ k = m) w2 w10) := hidden (HC9.out.go hcw)
            have HLI : Hid (Calls Tryd.prog 31 #[iB b, .int .i64 2, .int .i64 (an : Int)] w10 fun e u => ListTo (0, rng 2 C1, la, r7 + (C2 : Int) + (C1 : Int)) w10 b m 1 P 65536 M3 ct3 e u) := hidden (by
              have hq := list_may HA10.out.bn HP.out ((2 : Nat) : Int) an (wf64 _ (by omega) (by omega)) (by omega) (by omega) (by omega) (by omega) HA10.out.tab HA10.out.pos HA10.out.b0
              rw [HLA9.out.whole] at hq
              exact hq)
            clear hcw HTK HB10 HA9 HSA9 HJ9 HC9
            go_wp2_with (first
              | (go_at_call 31; refine HLI.out.mono ?_; rintro e w11 ⟨lo, ln, lc, k11, rfl, HQ⟩; refine Hid.out ?_))
            apply hidden
            obtain ⟨rfl, _, hln, hb11, hc11⟩ := HQ.out
            have hln2 : ln = C1 := hln.trans (rng_length 2 C1)
            rw [hln2]
            have hcw : Cf (fun k => k = b ∨ k = m) w10 w11 := hc11.wide (fun k h => .inl h)
            have HA11 : Hid (Aw w11 b m 1 P 65536 (r7 + (C2 : Int) + (C1 : Int)) M3 ct3) := hidden (HA10.out.next hb11 hcw)
            have HSA11 : Hid (Sl w11 ao an ac la) := hidden (HA10.out.sl hcw HSA10.out)
            have HJ11 := hidden (HA10.out.oj hcw HJ10.out HBM.out.1 HBM.out.2)
            have HJB11 := hidden (HA10.out.oj hcw HJB.out HBM9.out.1 HBM9.out.2)
            have HC11 : Hid (Cf (fun k => k = b ∨ k = m) w2 w11) := hidden (HC10.out.go hcw)
            have HRD : Hid (Calls Tryd.prog 28 #[iB b, .int .i64 2, .int .i64 (an : Int)] w11 fun e u => ReadTo (0, rng 2 C1, la, r7 + (C2 : Int) + (C1 : Int) + (C1 : Int)) w11 b m 1 P 65536 M3 ct3 e u) := hidden (by
              have hq := read_may HA11.out.bn HP.out ((2 : Nat) : Int) an (wf64 _ (by omega) (by omega)) (by omega) (by omega) (by omega) (by omega) HA11.out.tab HA11.out.pos HA11.out.b0
              rw [HLA9.out.whole] at hq
              exact hq)
            clear hln hln2 hb11 hc11 hcw HQ HLI HA10 HSA10 HJ10 HJB HC10
            go_wp2_with (first
              | (go_at_call 28; refine HRD.out.mono ?_; rintro e w12 ⟨zo, zn, zc, k12, rfl, HQ⟩; refine Hid.out ?_))
            apply hidden
            obtain ⟨rfl, ho12, hzn, hb12, hc12⟩ := HQ.out
            have hcw : Cf (fun k => k = b ∨ k = m) w11 w12 := hc12.wide (fun k h => .inl h)
            have HA12 : Hid (Aw w12 b m 1 P 65536 (r7 + (C2 : Int) + (C1 : Int) + (C1 : Int)) M3 ct3) := hidden (HA11.out.next hb12 hcw)
            have HSA12 : Hid (Sl w12 ao an ac la) := hidden (HA11.out.sl hcw HSA11.out)
            have HZ12 : Hid (Sl w12 zo zn zc la) := hidden (ho12.sl2 HSA11.out.wf (by rw [HSA11.out.hlen]; exact ra))
            have HJ12 := hidden (HA11.out.oj hcw HJ11.out HBM.out.1 HBM.out.2)
            have HJB12 := hidden (HA11.out.oj hcw HJB11.out HBM9.out.1 HBM9.out.2)
            have HC12 : Hid (Cf (fun k => k = b ∨ k = m) w2 w12) := hidden (HC11.out.go hcw)
            have HFR : Hid (Calls Tryd.prog 30 #[iB b, .int .i64 2, .int .i64 (an : Int)] w12 fun e u => e = .returned (.int .i64 0) ∧ Hid (Bn u b m 1 P 65536 (r7 + (C2 : Int) + (C1 : Int) + (C1 : Int) + (C1 : Int)) (delL M3 (rng 2 C1)) (ct3 - (rng 2 C1).length) ∧ Cf (fun k => k = b ∨ k = m) w12 u)) :=
              hidden (free_may HA12.out.bn HP.out ((2 : Nat) : Int) an (wf64 _ (by omega) (by omega)) (by omega) (by omega) (by omega) (by omega) HA12.out.tab HA12.out.pos HA12.out.b0 _ _ _ (HLA9.out.whole _) (by rw [rng_length]; omega) (by intro p hp; have := rng_mem hp; omega))
            clear ho12 hzn hb12 hc12 hcw HQ HRD HA11 HSA11 HJ11 HJB11 HC11
            go_wp2_with (first
              | (go_at_call 30; refine HFR.out.mono ?_; rintro e w13 ⟨rfl, HQ⟩; refine Hid.out ?_))
            apply hidden
            obtain ⟨hb13, hcw⟩ := HQ.out
            have HA13 := hidden (HA12.out.next hb13 hcw)
            have HSA13 : Hid (Sl w13 ao an ac la) := hidden (HA12.out.sl hcw HSA12.out)
            have HZ13 : Hid (Sl w13 zo zn zc la) := hidden (HA12.out.sl hcw HZ12.out)
            have HJ13 := hidden (HA12.out.oj hcw HJ12.out HBM.out.1 HBM.out.2)
            have HJB13 := hidden (HA12.out.oj hcw HJB12.out HBM9.out.1 HBM9.out.2)
            have HC13 : Hid (Cf (fun k => k = b ∨ k = m) w2 w13) := hidden (HC12.out.go hcw)
            have HTK : Hid (Calls Tryd.prog 24 #[pB b] w13 fun e u => ∃ ao c, e = .returned (.slice ao 0 c) ∧ Hid (Below w13.heap.size w13 u)) := hidden (by
              refine (taken_pre (C := 0) HA13.out.bn (HPR9.out.del) (by omega)).mono ?_
              rintro e u ⟨ao, c, rfl, _, hb⟩
              exact ⟨ao, c, rfl, hb⟩)
            obtain ⟨sZ, hsZ⟩ : ∃ sZ, strOfNums la = sZ := ⟨_, rfl⟩
            have HPC := fun z => pages_any P an (by omega) z
            rw [HC1.out.1] at HPC
            have HFIN : Hid (∀ z, Hid (Below w13.heap.size w13 z) → (∀ q, Below w.heap.size w (z.drewN q)) ∧ (convert 25 9 (.slice ao an ac)).run Tryd.prog z = .ok (.string sZ) z ∧ (convert 25 9 (.slice zo zn zc)).run Tryd.prog z = .ok (.string sZ) z ∧ Hid (Calls Tryd.prog 32 #[.slice to1 C1 tc1, .slice to2 C1 tc2] z fun e u => e = .returned (.bool true) ∧ ∃ q, u = z.drewN q)) := hidden (by
              intro z hz
              have k1 := conv_sl (HSA13.out.on (Nat.le_refl _) hz.out)
              have k2 := conv_sl (HZ13.out.on (Nat.le_refl _) hz.out)
              rw [hsZ] at k1 k2
              refine ⟨fun q => ?_, k1, k2, hidden (sameInts_same z _ _ C1 _ _ (rng 2 C1) (HJ13.out.below hz.out).slj (HJB13.out.below hz.out).slj (by omega))⟩
              have h1 := HC13.out.below (B := w.heap.size) HBW2.out.size (by
                rintro k hk (e | e)
                · have := HLO.out.1; omega
                · have := HLO.out.2; omega)
              exact bl_dr (bl_go (HBW2.out.trans h1) (Nat.le_refl _) hz.out) q)
            clear hb13 hcw HQ HFR HA12 HSA12 HZ12 HJ12 HJB12 HC12 HA13 HSA13 HZ13 HJ13 HJB13 HC13 hsZ
            go_wp2_with (first
              | (go_at_call 24; refine HTK.out.mono ?_; rintro e z ⟨to3, tc3, rfl, HZ⟩; obtain ⟨hbz, z1, z2, HSAME⟩ := HFIN.out z HZ; have HBZ := hidden hbz; clear hbz HTK HFIN)
              | (go_at_call 32; refine HSAME.out.mono ?_; rintro e zz ⟨rfl, q, rfl⟩)
              | (go_at_call 10; refine same_call (HPC _) ?_))
            go_ret
            exact ⟨rfl, HBZ.out _⟩
          · have d2 : decide (fr ≤ to) = false := by simpa using g2
            clear hno
            go_wp2_with fail
            go_quiet (fail)
            clear kA kR
            obtain ⟨w8, hw8⟩ : ∃ w8, w7.drewN nq = w8 := ⟨_, rfl⟩
            have hb8 : Below w7.heap.size w7 w8 := by rw [← hw8]; exact HGO.out nq
            rw [hw8]
            have hcw : Cf (fun k => k = b ∨ k = m) w7 w8 := Cf.of_below hb8
            have HA8 : Hid (Aw w8 b m 1 P 65536 r7 M2 (0 + C1 + C2)) := hidden (HA7.out.next (HA7.out.bn.on hb8) hcw)
            have HSA8 : Hid (Sl w8 ao an ac la) := hidden (HA7.out.sl hcw HSA7.out)
            have HJ8 := hidden (HA7.out.oj hcw HJ7.out HBM.out.1 HBM.out.2)
            have HC8 : Hid (Cf (fun k => k = b ∨ k = m) w2 w8) := hidden (HC7.out.go hcw)
            have HFR := hidden (free_may HA8.out.bn HP.out (t : Int) bn (wf64 _ (by omega) (by omega)) (by omega) (by omega) (by omega) r70 HA8.out.tab HA8.out.pos HA8.out.b0 _ _ _ (HLB.out.whole r7) (by rw [rng_length]; omega) (by intro p hp; have := rng_mem hp; omega))
            clear hw8 hb8 hcw HA7 HSA7 HJ7 HC7 HGO HSB7 HR7
            go_wp2_with (first
              | (go_at_call 30; refine HFR.out.mono ?_; rintro e w9 ⟨rfl, HQ⟩; refine Hid.out ?_))
            apply hidden
            obtain ⟨hb9, hcw⟩ := HQ.out
            obtain ⟨M3, hM3⟩ : ∃ M3, delL M2 (rng t C2) = M3 := ⟨_, rfl⟩
            obtain ⟨ct3, hct3⟩ : ∃ ct3, 0 + C1 + C2 - (rng t C2).length = ct3 := ⟨_, rfl⟩
            rw [hM3, hct3] at hb9
            have hpre9 : Pre M3 (2 + C1) := by rw [← hM3, hte]; exact HPR5.out.del
            have HLA9 : Hid (Ly M3 P 2 C1 an la) := hidden (HLA.out.keep (fun k h1 h2 => by
              rw [← hM3]
              unfold delL
              rw [if_neg (fun e => by have := rng_mem e; omega)]))
            have HA9 : Hid (Aw w9 b m 1 P 65536 (r7 + (C2 : Int)) M3 ct3) := hidden (HA8.out.next hb9 hcw)
            have HSA9 : Hid (Sl w9 ao an ac la) := hidden (HA8.out.sl hcw HSA8.out)
            have HJ9 := hidden (HA8.out.oj hcw HJ8.out HBM.out.1 HBM.out.2)
            have HC9 : Hid (Cf (fun k => k = b ∨ k = m) w2 w9) := hidden (HC8.out.go hcw)
            have HPR9 := hidden hpre9
            have HTK := hidden (taken_pre HA9.out.bn hpre9 (by omega))
            have HBM9 := hidden (And.intro HA9.out.bn.lt HA9.out.bn.mlt)
            clear hb9 hcw hM3 hct3 hpre9 HQ HFR HA8 HSA8 HJ8 HC8
            go_wp2_with (first
              | (go_at_call 24; refine HTK.out.mono ?_; rintro e w10 ⟨to2, tc2, rfl, HJB, HB10⟩; refine Hid.out ?_))
            apply hidden
            have hcw : Cf (fun k => k = b ∨ k = m) w9 w10 := Cf.of_below HB10.out
            have HA10 : Hid (Aw w10 b m 1 P 65536 (r7 + (C2 : Int)) M3 ct3) := hidden (HA9.out.next (HA9.out.bn.on HB10.out) hcw)
            have HSA10 : Hid (Sl w10 ao an ac la) := hidden (HA9.out.sl hcw HSA9.out)
            have HJ10 := hidden (HA9.out.oj hcw HJ9.out HBM.out.1 HBM.out.2)
            have HC10 : Hid (Cf (fun k => k = b ∨ k = m) w2 w10) := hidden (HC9.out.go hcw)
            have HLI : Hid (Calls Tryd.prog 31 #[iB b, .int .i64 2, .int .i64 (an : Int)] w10 fun e u => ListTo (0, rng 2 C1, la, r7 + (C2 : Int) + (C1 : Int)) w10 b m 1 P 65536 M3 ct3 e u) := hidden (by
              have hq := list_may HA10.out.bn HP.out ((2 : Nat) : Int) an (wf64 _ (by omega) (by omega)) (by omega) (by omega) (by omega) (by omega) HA10.out.tab HA10.out.pos HA10.out.b0
              rw [HLA9.out.whole] at hq
              exact hq)
            clear hcw HTK HB10 HA9 HSA9 HJ9 HC9
            go_wp2_with (first
              | (go_at_call 31; refine HLI.out.mono ?_; rintro e w11 ⟨lo, ln, lc, k11, rfl, HQ⟩; refine Hid.out ?_))
            apply hidden
            obtain ⟨rfl, _, hln, hb11, hc11⟩ := HQ.out
            have hln2 : ln = C1 := hln.trans (rng_length 2 C1)
            rw [hln2]
            have hcw : Cf (fun k => k = b ∨ k = m) w10 w11 := hc11.wide (fun k h => .inl h)
            have HA11 : Hid (Aw w11 b m 1 P 65536 (r7 + (C2 : Int) + (C1 : Int)) M3 ct3) := hidden (HA10.out.next hb11 hcw)
            have HSA11 : Hid (Sl w11 ao an ac la) := hidden (HA10.out.sl hcw HSA10.out)
            have HJ11 := hidden (HA10.out.oj hcw HJ10.out HBM.out.1 HBM.out.2)
            have HJB11 := hidden (HA10.out.oj hcw HJB.out HBM9.out.1 HBM9.out.2)
            have HC11 : Hid (Cf (fun k => k = b ∨ k = m) w2 w11) := hidden (HC10.out.go hcw)
            have HRD : Hid (Calls Tryd.prog 28 #[iB b, .int .i64 2, .int .i64 (an : Int)] w11 fun e u => ReadTo (0, rng 2 C1, la, r7 + (C2 : Int) + (C1 : Int) + (C1 : Int)) w11 b m 1 P 65536 M3 ct3 e u) := hidden (by
              have hq := read_may HA11.out.bn HP.out ((2 : Nat) : Int) an (wf64 _ (by omega) (by omega)) (by omega) (by omega) (by omega) (by omega) HA11.out.tab HA11.out.pos HA11.out.b0
              rw [HLA9.out.whole] at hq
              exact hq)
            clear hln hln2 hb11 hc11 hcw HQ HLI HA10 HSA10 HJ10 HJB HC10
            go_wp2_with (first
              | (go_at_call 28; refine HRD.out.mono ?_; rintro e w12 ⟨zo, zn, zc, k12, rfl, HQ⟩; refine Hid.out ?_))
            apply hidden
            obtain ⟨rfl, ho12, hzn, hb12, hc12⟩ := HQ.out
            have hcw : Cf (fun k => k = b ∨ k = m) w11 w12 := hc12.wide (fun k h => .inl h)
            have HA12 : Hid (Aw w12 b m 1 P 65536 (r7 + (C2 : Int) + (C1 : Int) + (C1 : Int)) M3 ct3) := hidden (HA11.out.next hb12 hcw)
            have HSA12 : Hid (Sl w12 ao an ac la) := hidden (HA11.out.sl hcw HSA11.out)
            have HZ12 : Hid (Sl w12 zo zn zc la) := hidden (ho12.sl2 HSA11.out.wf (by rw [HSA11.out.hlen]; exact ra))
            have HJ12 := hidden (HA11.out.oj hcw HJ11.out HBM.out.1 HBM.out.2)
            have HJB12 := hidden (HA11.out.oj hcw HJB11.out HBM9.out.1 HBM9.out.2)
            have HC12 : Hid (Cf (fun k => k = b ∨ k = m) w2 w12) := hidden (HC11.out.go hcw)
            have HFR : Hid (Calls Tryd.prog 30 #[iB b, .int .i64 2, .int .i64 (an : Int)] w12 fun e u => e = .returned (.int .i64 0) ∧ Hid (Bn u b m 1 P 65536 (r7 + (C2 : Int) + (C1 : Int) + (C1 : Int) + (C1 : Int)) (delL M3 (rng 2 C1)) (ct3 - (rng 2 C1).length) ∧ Cf (fun k => k = b ∨ k = m) w12 u)) :=
              hidden (free_may HA12.out.bn HP.out ((2 : Nat) : Int) an (wf64 _ (by omega) (by omega)) (by omega) (by omega) (by omega) (by omega) HA12.out.tab HA12.out.pos HA12.out.b0 _ _ _ (HLA9.out.whole _) (by rw [rng_length]; omega) (by intro p hp; have := rng_mem hp; omega))
            clear ho12 hzn hb12 hc12 hcw HQ HRD HA11 HSA11 HJ11 HJB11 HC11
            go_wp2_with (first
              | (go_at_call 30; refine HFR.out.mono ?_; rintro e w13 ⟨rfl, HQ⟩; refine Hid.out ?_))
            apply hidden
            obtain ⟨hb13, hcw⟩ := HQ.out
            have HA13 := hidden (HA12.out.next hb13 hcw)
            have HSA13 : Hid (Sl w13 ao an ac la) := hidden (HA12.out.sl hcw HSA12.out)
            have HZ13 : Hid (Sl w13 zo zn zc la) := hidden (HA12.out.sl hcw HZ12.out)
            have HJ13 := hidden (HA12.out.oj hcw HJ12.out HBM.out.1 HBM.out.2)
            have HJB13 := hidden (HA12.out.oj hcw HJB12.out HBM9.out.1 HBM9.out.2)
            have HC13 : Hid (Cf (fun k => k = b ∨ k = m) w2 w13) := hidden (HC12.out.go hcw)
            have HTK : Hid (Calls Tryd.prog 24 #[pB b] w13 fun e u => ∃ ao c, e = .returned (.slice ao 0 c) ∧ Hid (Below w13.heap.size w13 u)) := hidden (by
              refine (taken_pre (C := 0) HA13.out.bn (HPR9.out.del) (by omega)).mono ?_
              rintro e u ⟨ao, c, rfl, _, hb⟩
              exact ⟨ao, c, rfl, hb⟩)
            obtain ⟨sZ, hsZ⟩ : ∃ sZ, strOfNums la = sZ := ⟨_, rfl⟩
            have HPC := fun z => pages_any P an (by omega) z
            rw [HC1.out.1] at HPC
            have HFIN : Hid (∀ z, Hid (Below w13.heap.size w13 z) → (∀ q, Below w.heap.size w (z.drewN q)) ∧ (convert 25 9 (.slice ao an ac)).run Tryd.prog z = .ok (.string sZ) z ∧ (convert 25 9 (.slice zo zn zc)).run Tryd.prog z = .ok (.string sZ) z ∧ Hid (Calls Tryd.prog 32 #[.slice to1 C1 tc1, .slice to2 C1 tc2] z fun e u => e = .returned (.bool true) ∧ ∃ q, u = z.drewN q)) := hidden (by
              intro z hz
              have k1 := conv_sl (HSA13.out.on (Nat.le_refl _) hz.out)
              have k2 := conv_sl (HZ13.out.on (Nat.le_refl _) hz.out)
              rw [hsZ] at k1 k2
              refine ⟨fun q => ?_, k1, k2, hidden (sameInts_same z _ _ C1 _ _ (rng 2 C1) (HJ13.out.below hz.out).slj (HJB13.out.below hz.out).slj (by omega))⟩
              have h1 := HC13.out.below (B := w.heap.size) HBW2.out.size (by
                rintro k hk (e | e)
                · have := HLO.out.1; omega
                · have := HLO.out.2; omega)
              exact bl_dr (bl_go (HBW2.out.trans h1) (Nat.le_refl _) hz.out) q)
            clear hb13 hcw HQ HFR HA12 HSA12 HZ12 HJ12 HJB12 HC12 HA13 HSA13 HZ13 HJ13 HJB13 HC13 hsZ
            go_wp2_with (first
              | (go_at_call 24; refine HTK.out.mono ?_; rintro e z ⟨to3, tc3, rfl, HZ⟩; obtain ⟨hbz, z1, z2, HSAME⟩ := HFIN.out z HZ; have HBZ := hidden hbz; clear hbz HTK HFIN)
              | (go_at_call 32; refine HSAME.out.mono ?_; rintro e zz ⟨rfl, q, rfl⟩)
              | (go_at_call 10; refine same_call (HPC _) ?_))
            go_ret
            exact ⟨rfl, HBZ.out _⟩
        · have d1 : decide (0 ≤ fr) = false := by simpa using g1
          clear hno
          go_wp2_with fail
          go_quiet (fail)
          clear kA kR
          obtain ⟨w8, hw8⟩ : ∃ w8, w7.drewN nq = w8 := ⟨_, rfl⟩
          have hb8 : Below w7.heap.size w7 w8 := by rw [← hw8]; exact HGO.out nq
          rw [hw8]
          have hcw : Cf (fun k => k = b ∨ k = m) w7 w8 := Cf.of_below hb8
          have HA8 : Hid (Aw w8 b m 1 P 65536 r7 M2 (0 + C1 + C2)) := hidden (HA7.out.next (HA7.out.bn.on hb8) hcw)
          have HSA8 : Hid (Sl w8 ao an ac la) := hidden (HA7.out.sl hcw HSA7.out)
          have HJ8 := hidden (HA7.out.oj hcw HJ7.out HBM.out.1 HBM.out.2)
          have HC8 : Hid (Cf (fun k => k = b ∨ k = m) w2 w8) := hidden (HC7.out.go hcw)
          have HFR := hidden (free_may HA8.out.bn HP.out (t : Int) bn (wf64 _ (by omega) (by omega)) (by omega) (by omega) (by omega) r70 HA8.out.tab HA8.out.pos HA8.out.b0 _ _ _ (HLB.out.whole r7) (by rw [rng_length]; omega) (by intro p hp; have := rng_mem hp; omega))
          clear hw8 hb8 hcw HA7 HSA7 HJ7 HC7 HGO HSB7 HR7
          go_wp2_with (first
            | (go_at_call 30; refine HFR.out.mono ?_; rintro e w9 ⟨rfl, HQ⟩; refine Hid.out ?_))
          apply hidden
          obtain ⟨hb9, hcw⟩ := HQ.out
          obtain ⟨M3, hM3⟩ : ∃ M3, delL M2 (rng t C2) = M3 := ⟨_, rfl⟩
          obtain ⟨ct3, hct3⟩ : ∃ ct3, 0 + C1 + C2 - (rng t C2).length = ct3 := ⟨_, rfl⟩
          rw [hM3, hct3] at hb9
          have hpre9 : Pre M3 (2 + C1) := by rw [← hM3, hte]; exact HPR5.out.del
          have HLA9 : Hid (Ly M3 P 2 C1 an la) := hidden (HLA.out.keep (fun k h1 h2 => by
            rw [← hM3]
            unfold delL
            rw [if_neg (fun e => by have := rng_mem e; omega)]))
          have HA9 : Hid (Aw w9 b m 1 P 65536 (r7 + (C2 : Int)) M3 ct3) := hidden (HA8.out.next hb9 hcw)
          have HSA9 : Hid (Sl w9 ao an ac la) := hidden (HA8.out.sl hcw HSA8.out)
          have HJ9 := hidden (HA8.out.oj hcw HJ8.out HBM.out.1 HBM.out.2)
          have HC9 : Hid (Cf (fun k => k = b ∨ k = m) w2 w9) := hidden (HC8.out.go hcw)
          have HPR9 := hidden hpre9
          have HTK := hidden (taken_pre HA9.out.bn hpre9 (by omega))
          have HBM9 := hidden (And.intro HA9.out.bn.lt HA9.out.bn.mlt)
          clear hb9 hcw hM3 hct3 hpre9 HQ HFR HA8 HSA8 HJ8 HC8
          go_wp2_with (first
            | (go_at_call 24; refine HTK.out.mono ?_; rintro e w10 ⟨to2, tc2, rfl, HJB, HB10⟩; refine Hid.out ?_))
          apply hidden
          have hcw : Cf (fun k => k = b ∨ k = m) w9 w10 := Cf.of_below HB10.out
          have HA10 : Hid (Aw w10 b m 1 P 65536 (r7 + (C2 : Int)) M3 ct3) := hidden (HA9.out.next (HA9.out.bn.on HB10.out) hcw)
          have HSA10 : Hid (Sl w10 ao an ac la) := hidden (HA9.out.sl hcw HSA9.out)
          have HJ10 := hidden (HA9.out.oj hcw HJ9.out HBM.out.1 HBM.out.2)
          have HC10 : Hid (Cf (fun k => k = b ∨ k = m) w2 w10) := hidden (HC9.out.go hcw)
          have HLI : Hid (Calls Tryd.prog 31 #[iB b, .int .i64 2, .int .i64 (an : Int)] w10 fun e u => ListTo (0, rng 2 C1, la, r7 + (C2 : Int) + (C1 : Int)) w10 b m 1 P 65536 M3 ct3 e u) := hidden (by
            have hq := list_may HA10.out.bn HP.out ((2 : Nat) : Int) an (wf64 _ (by omega) (by omega)) (by omega) (by omega) (by omega) (by omega) HA10.out.tab HA10.out.pos HA10.out.b0
            rw [HLA9.out.whole] at hq
            exact hq)
          clear hcw HTK HB10 HA9 HSA9 HJ9 HC9
          go_wp2_with (first
            | (go_at_call 31; refine HLI.out.mono ?_; rintro e w11 ⟨lo, ln, lc, k11, rfl, HQ⟩; refine Hid.out ?_))
          apply hidden
          obtain ⟨rfl, _, hln, hb11, hc11⟩ := HQ.out
          have hln2 : ln = C1 := hln.trans (rng_length 2 C1)
          rw [hln2]
          have hcw : Cf (fun k => k = b ∨ k = m) w10 w11 := hc11.wide (fun k h => .inl h)
          have HA11 : Hid (Aw w11 b m 1 P 65536 (r7 + (C2 : Int) + (C1 : Int)) M3 ct3) := hidden (HA10.out.next hb11 hcw)
          have HSA11 : Hid (Sl w11 ao an ac la) := hidden (HA10.out.sl hcw HSA10.out)
          have HJ11 := hidden (HA10.out.oj hcw HJ10.out HBM.out.1 HBM.out.2)
          have HJB11 := hidden (HA10.out.oj hcw HJB.out HBM9.out.1 HBM9.out.2)
          have HC11 : Hid (Cf (fun k => k = b ∨ k = m) w2 w11) := hidden (HC10.out.go hcw)
          have HRD : Hid (Calls Tryd.prog 28 #[iB b, .int .i64 2, .int .i64 (an : Int)] w11 fun e u => ReadTo (0, rng 2 C1, la, r7 + (C2 : Int) + (C1 : Int) + (C1 : Int)) w11 b m 1 P 65536 M3 ct3 e u) := hidden (by
            have hq := read_may HA11.out.bn HP.out ((2 : Nat) : Int) an (wf64 _ (by omega) (by omega)) (by omega) (by omega) (by omega) (by omega) HA11.out.tab HA11.out.pos HA11.out.b0
            rw [HLA9.out.whole] at hq
            exact hq)
          clear hln hln2 hb11 hc11 hcw HQ HLI HA10 HSA10 HJ10 HJB HC10
          go_wp2_with (first
            | (go_at_call 28; refine HRD.out.mono ?_; rintro e w12 ⟨zo, zn, zc, k12, rfl, HQ⟩; refine Hid.out ?_))
          apply hidden
          obtain ⟨rfl, ho12, hzn, hb12, hc12⟩ := HQ.out
          have hcw : Cf (fun k => k = b ∨ k = m) w11 w12 := hc12.wide (fun k h => .inl h)
          have HA12 : Hid (Aw w12 b m 1 P 65536 (r7 + (C2 : Int) + (C1 : Int) + (C1 : Int)) M3 ct3) := hidden (HA11.out.next hb12 hcw)
          have HSA12 : Hid (Sl w12 ao an ac la) := hidden (HA11.out.sl hcw HSA11.out)
          have HZ12 : Hid (Sl w12 zo zn zc la) := hidden (ho12.sl2 HSA11.out.wf (by rw [HSA11.out.hlen]; exact ra))
          have HJ12 := hidden (HA11.out.oj hcw HJ11.out HBM.out.1 HBM.out.2)
          have HJB12 := hidden (HA11.out.oj hcw HJB11.out HBM9.out.1 HBM9.out.2)
          have HC12 : Hid (Cf (fun k => k = b ∨ k = m) w2 w12) := hidden (HC11.out.go hcw)
          have HFR : Hid (Calls Tryd.prog 30 #[iB b, .int .i64 2, .int .i64 (an : Int)] w12 fun e u => e = .returned (.int .i64 0) ∧ Hid (Bn u b m 1 P 65536 (r7 + (C2 : Int) + (C1 : Int) + (C1 : Int) + (C1 : Int)) (delL M3 (rng 2 C1)) (ct3 - (rng 2 C1).length) ∧ Cf (fun k => k = b ∨ k = m) w12 u)) :=
            hidden (free_may HA12.out.bn HP.out ((2 : Nat) : Int) an (wf64 _ (by omega) (by omega)) (by omega) (by omega) (by omega) (by omega) HA12.out.tab HA12.out.pos HA12.out.b0 _ _ _ (HLA9.out.whole _) (by rw [rng_length]; omega) (by intro p hp; have := rng_mem hp; omega))
          clear ho12 hzn hb12 hc12 hcw HQ HRD HA11 HSA11 HJ11 HJB11 HC11
          go_wp2_with (first
            | (go_at_call 30; refine HFR.out.mono ?_; rintro e w13 ⟨rfl, HQ⟩; refine Hid.out ?_))
          apply hidden
          obtain ⟨hb13, hcw⟩ := HQ.out
          have HA13 := hidden (HA12.out.next hb13 hcw)
          have HSA13 : Hid (Sl w13 ao an ac la) := hidden (HA12.out.sl hcw HSA12.out)
          have HZ13 : Hid (Sl w13 zo zn zc la) := hidden (HA12.out.sl hcw HZ12.out)
          have HJ13 := hidden (HA12.out.oj hcw HJ12.out HBM.out.1 HBM.out.2)
          have HJB13 := hidden (HA12.out.oj hcw HJB12.out HBM9.out.1 HBM9.out.2)
          have HC13 : Hid (Cf (fun k => k = b ∨ k = m) w2 w13) := hidden (HC12.out.go hcw)
          have HTK : Hid (Calls Tryd.prog 24 #[pB b] w13 fun e u => ∃ ao c, e = .returned (.slice ao 0 c) ∧ Hid (Below w13.heap.size w13 u)) := hidden (by
            refine (taken_pre (C := 0) HA13.out.bn (HPR9.out.del) (by omega)).mono ?_
            rintro e u ⟨ao, c, rfl, _, hb⟩
            exact ⟨ao, c, rfl, hb⟩)
          obtain ⟨sZ, hsZ⟩ : ∃ sZ, strOfNums la = sZ := ⟨_, rfl⟩
          have HPC := fun z => pages_any P an (by omega) z
          rw [HC1.out.1] at HPC
          have HFIN : Hid (∀ z, Hid (Below w13.heap.size w13 z) → (∀ q, Below w.heap.size w (z.drewN q)) ∧ (convert 25 9 (.slice ao an ac)).run Tryd.prog z = .ok (.string sZ) z ∧ (convert 25 9 (.slice zo zn zc)).run Tryd.prog z = .ok (.string sZ) z ∧ Hid (Calls Tryd.prog 32 #[.slice to1 C1 tc1, .slice to2 C1 tc2] z fun e u => e = .returned (.bool true) ∧ ∃ q, u = z.drewN q)) := hidden (by
            intro z hz
            have k1 := conv_sl (HSA13.out.on (Nat.le_refl _) hz.out)
            have k2 := conv_sl (HZ13.out.on (Nat.le_refl _) hz.out)
            rw [hsZ] at k1 k2
            refine ⟨fun q => ?_, k1, k2, hidden (sameInts_same z _ _ C1 _ _ (rng 2 C1) (HJ13.out.below hz.out).slj (HJB13.out.below hz.out).slj (by omega))⟩
            have h1 := HC13.out.below (B := w.heap.size) HBW2.out.size (by
              rintro k hk (e | e)
              · have := HLO.out.1; omega
              · have := HLO.out.2; omega)
            exact bl_dr (bl_go (HBW2.out.trans h1) (Nat.le_refl _) hz.out) q)
          clear hb13 hcw HQ HFR HA12 HSA12 HZ12 HJ12 HJB12 HC12 HA13 HSA13 HZ13 HJ13 HJB13 HC13 hsZ
          go_wp2_with (first
            | (go_at_call 24; refine HTK.out.mono ?_; rintro e z ⟨to3, tc3, rfl, HZ⟩; obtain ⟨hbz, z1, z2, HSAME⟩ := HFIN.out z HZ; have HBZ := hidden hbz; clear hbz HTK HFIN)
            | (go_at_call 32; refine HSAME.out.mono ?_; rintro e zz ⟨rfl, q, rfl⟩)
            | (go_at_call 10; refine same_call (HPC _) ?_))
          go_ret
          exact ⟨rfl, HBZ.out _⟩
    · have HNB2 := hidden HNB.out
      have hbad : ((an : Int) < 1 ∨ 65536 < (an : Int)) ∨ ((bn : Int) < 1 ∨ 65536 < (bn : Int)) := by omega
      clear HNB
      by_cases g1 : (an : Int) < 1
      · have d1 : decide ((an : Int) < 1) = true := by simpa using g1
        go_wp2_with (first
          | (go_at_call 21; refine HNB2.out.mono ?_; rintro e w2 ⟨b, m, rfl, HN⟩))
        go_ret
        exact ⟨rfl, bl_go HBW1.out (Nat.le_refl _) HN.out.2.2.2⟩
      · have d1 : decide ((an : Int) < 1) = false := by simpa using g1
        by_cases g2 : 65536 < (an : Int)
        · have d2 : decide (65536 < (an : Int)) = true := by simpa using g2
          go_wp2_with (first
            | (go_at_call 21; refine HNB2.out.mono ?_; rintro e w2 ⟨b, m, rfl, HN⟩))
          go_ret
          exact ⟨rfl, bl_go HBW1.out (Nat.le_refl _) HN.out.2.2.2⟩
        · have d2 : decide (65536 < (an : Int)) = false := by simpa using g2
          by_cases g3 : (bn : Int) < 1
          · have d3 : decide ((bn : Int) < 1) = true := by simpa using g3
            go_wp2_with (first
              | (go_at_call 21; refine HNB2.out.mono ?_; rintro e w2 ⟨b, m, rfl, HN⟩))
            go_ret
            exact ⟨rfl, bl_go HBW1.out (Nat.le_refl _) HN.out.2.2.2⟩
          · have d3 : decide ((bn : Int) < 1) = false := by simpa using g3
            have g4 : 65536 < (bn : Int) := by omega
            have d4 : decide (65536 < (bn : Int)) = true := by simpa using g4
            go_wp2_with (first
              | (go_at_call 21; refine HNB2.out.mono ?_; rintro e w2 ⟨b, m, rfl, HN⟩))
            go_ret
            exact ⟨rfl, bl_go HBW1.out (Nat.le_refl _) HN.out.2.2.2⟩
  · have HNB := hidden (newBench_no w1 pg hp)
    clear hp
    go_wp2_with (first
      | (go_at_call 21; refine same_call HNB.out ?_))
    go_ret
    exact ⟨rfl, HBW1.out⟩
end Go.Proofs.YtljopdpnbodnoaaDoor
