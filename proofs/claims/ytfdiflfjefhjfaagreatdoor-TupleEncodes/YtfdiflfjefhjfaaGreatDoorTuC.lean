/- espalierref02.width, integer, turned: the document's numbers. -/
import Derived.Test.YtfdiflfjefhjfaaGreatDoorTuI
import Derived.Test.YtfdiflfjefhjfaaGreatDoorRefWrites
import Derived.Test.YtfdiflfjefhjfaaGreatDoorEnc5
import Derived.Test.YtfdiflfjefhjfaaGreatDoorRefCmp
import Derived.Handy
namespace Go.Proofs.YtfdiflfjefhjfaaGreatDoor
open Go.RowKit

set_option maxRecDepth 100000 in
theorem sl_gr {w w' : World} {v v' : Value} {ao : Option Addr} {n cap : Nat} {l : List Int} (h : Sl w ao n cap l) (hg : Gr w v w' v') (hf : n = 0 ∨ ∀ p, ao = some p → some p.block ≠ v.ownBlock) : Sl w' ao n cap l := by
  obtain ⟨hlen, hcap, hroom, hwf, hnil, hat⟩ := h
  refine ⟨hlen, hcap, hroom, hwf, hnil, ?_⟩
  rcases hat with h0 | ⟨b, off, rfl, hb, hc⟩
  · exact .inl h0
  · rcases hf with h0 | hf
    · exact .inl h0
    · exact .inr ⟨b, off, rfl, Nat.lt_of_lt_of_le hb hg.grow.size, fun i hi => (hg.cell ⟨b, off + i, none⟩ hb (hf ⟨b, off, none⟩ rfl)).trans (hc i hi)⟩
set_option maxHeartbeats 1000000 in
set_option maxRecDepth 100000 in
theorem width_any (n : Int) (w : World) (h0 : 0 ≤ n) (h1 : n ≤ 18446744073709551615) : Calls Tryz.prog 58 #[.int .u64 n] w fun e w' => e = .returned (.int .i64 (wd n)) ∧ w' = w := by
  have hk := wd_le n h1
  have HW : Hid (∀ j, j ≤ wd n → (j < wd n ↔ 0 < n / 256 ^ j)) := hidden (fun j hj => wd_lt_iff n j h0 h1 (by omega))
  obtain ⟨K, hK⟩ : ∃ K, wd n = K := ⟨_, rfl⟩
  rw [hK] at HW hk ⊢
  clear hK
  have HB : Hid (∀ j : Nat, 0 ≤ n / 256 ^ j ∧ n / 256 ^ j ≤ 18446744073709551615) := hidden (fun j => by
    have hp : (0 : Int) < 256 ^ j := Int.pow_pos (by omega)
    refine ⟨Int.ediv_nonneg h0 (by omega), Int.le_trans (Int.ediv_le_self _ h0) h1⟩)
  have HP : Hid (∀ j : Nat, n / 256 ^ j / 256 = n / 256 ^ (j + 1)) := hidden (pow256 n)
  have HZ : Hid (n / 256 ^ 0 = n) := hidden (by simp)
  clear h0 h1
  go_enter Tryz.func58, Tryz.ntmps58
  go_wp2_with fail
  go_loop [0, 3] (fun x k => ∃ (j : Nat) (v : Int), j ≤ K ∧ x = .int .u64 v ∧ k = .int .i64 (j : Int) ∧ Hid (v = n / 256 ^ j)) (fun _ k => 9 - (RowKit.intOf k).toNat)
  case atStart => exact ⟨0, n, by omega, rfl, rfl, hidden HZ.out.symm⟩
  case round =>
    obtain ⟨j, v, hj, rfl, rfl, HV⟩ := hrel
    obtain ⟨v0, v1⟩ : 0 ≤ v ∧ v ≤ 18446744073709551615 := by rw [HV.out]; exact HB.out j
    have jI : (j : Int) ≤ 8 := by omega
    by_cases hv : 0 < v
    · have hjK : j < K := (HW.out j hj).2 (by rw [← HV.out]; exact hv)
      have q1 : Int.tdiv v 256 = v / 256 := Int.tdiv_eq_ediv_of_nonneg v0
      have HN : Hid (v / 256 = n / 256 ^ (j + 1)) := hidden (by rw [← HP.out, HV.out])
      obtain ⟨q, hq⟩ : ∃ q, v / 256 = q := ⟨_, rfl⟩
      rw [hq] at q1 HN
      have q2 : 0 ≤ q := by omega
      have q3 : q ≤ 18446744073709551615 := by omega
      have q4 : IntKind.u64.wrap q = q := by rw [IntKind.wrap_u64]; omega
      clear hq
      go_wp2
      go_round
      case rel => exact ⟨j + 1, q, by omega, by first | rfl | go_num, by go_num, HN⟩
      case measure => simp [RowKit.intOf]; omega
    · obtain rfl : j = K := by
        by_cases e : j < K
        · have := (HW.out j hj).1 e
          rw [← HV.out] at this
          omega
        · omega
      go_wp2
      go_ret
      exact ⟨rfl, rfl⟩
set_option maxHeartbeats 1000000 in
set_option maxRecDepth 100000 in
theorem integer_any (n : Int) (w : World) (h0 : -9223372036854775808 ≤ n) (h1 : n ≤ 9223372036854775807) : Calls Tryz.prog 37 #[.int .i64 n] w fun e w' => ∃ v, e = .returned v ∧ Hid (OwnB w' w.heap.size v (intB n)) ∧ Hid (Below w.heap.size w w') := by
  by_cases hn : n < 0
  · obtain ⟨m, hm⟩ : ∃ m, -n - 1 = m := ⟨_, rfl⟩
    have HI : Hid (intB n = (127 - (wd m : Int)) :: (fB (wd m) m).map (255 - ·)) := hidden (by rw [intB_neg n h0 hn, hm])
    have m0 : 0 ≤ m := by omega
    have m1 : m ≤ 9223372036854775807 := by omega
    have hk := wd_le m (by omega)
    have HWD := hidden (fun w => width_any m w m0 (by omega))
    obtain ⟨k, hkk⟩ : ∃ k, wd m = k := ⟨_, rfl⟩
    rw [hkk] at HI HWD hk
    have kI : (k : Int) ≤ 8 := by omega
    have hx : wrap64 (127 - (k : Int)) % 256 = 127 - k := by unfold wrap64; omega
    have hg : decide (0 ≤ n) = false := by rw [decide_eq_false_iff_not]; omega
    have hneg : -(n + 1) = m := by omega
    have hw1 : IntKind.i64.wrap (n + 1) = n + 1 := by rw [IntKind.wrap_i64]; omega
    have hw2 : IntKind.i64.wrap (-(n + 1)) = m := by rw [IntKind.wrap_i64]; omega
    have hw3 : IntKind.u64.wrap m = m := by rw [IntKind.wrap_u64]; omega
    have HFX : Hid (0 < k → ∀ u, Calls Tryz.prog 38 #[.int .u64 m, .int .i64 (k : Int)] u fun e w' => ∃ v, e = .returned v ∧ OwnB w' u.heap.size v (fB k m) ∧ Below u.heap.size u w') := hidden (fun hk0 u => by
      have := refFixed_yes m (k : Int) u m0 (by omega) (by omega) (by omega)
      rwa [Int.toNat_natCast] at this)
    rw [HI.out]
    clear hkk HI hm hn
    obtain ⟨x, hxx⟩ : ∃ x, w.alloc (.cells #[.int .u8 (127 - (k : Int))] 5) = x := ⟨_, rfl⟩
    have HX : Hid (OwnB x w.heap.size (.slice (some ⟨w.heap.size, 0, none⟩) 1 1) [127 - (k : Int)]) := hidden (by rw [← hxx]; exact one_own w _)
    have HBX : Hid (Below w.heap.size w x) := hidden (by rw [← hxx]; exact (Below.refl _ _).alloc (Nat.le_refl _) _)
    go_enter Tryz.func37, Tryz.ntmps37
    go_wp2_with (first | (go_at_call 58; refine same_call (HWD.out _) ?_; refine Hid.out ?_))
    apply hidden
    by_cases hk0 : k = 0
    · have hk0b : ((k : Int) == 0) = true := by rw [beq_iff_eq]; omega
      have hk0c : (k : Int) = 0 := by omega
      have HF0 : Hid (fB k m = []) := hidden (by rw [hk0]; rfl)
      have HK0 : Hid (k = 0) := hidden hk0
      clear HFX HWD hw1 hw2 hw3 hk0 hk0c
      go_wp2
      go_ret
      refine ⟨_, rfl, ?_, ?_⟩
      · rw [HF0.out]
        first | exact HX | (rw [hxx]; exact HX)
      · first | exact HBX | (rw [hxx]; exact HBX)
    · have hk0I : ¬ (k : Int) = 0 := by omega
      have hk0b : ((k : Int) == 0) = false := by rw [beq_eq_false_iff_ne]; omega
      have HFX2 := hidden (HFX.out (by omega) x)
      have HKP : Hid (0 < k) := hidden (by omega)
      clear HWD HFX hk0 hw1 hw2
      go_wp2_with (first | (go_at_call 38; refine HFX2.out.mono ?_; rintro e w1 ⟨v1, rfl, ho1, hb1⟩; refine Hid.out ?_))
      apply hidden
      obtain ⟨fo, fc, rfl, sf, fa⟩ := ho1.sl (fB_wf k m) (by rw [fB_length]; omega)
      have HFA2 : Hid (∀ p, fo = some p → x.heap.size ≤ p.block ∧ p.block < w1.heap.size) := hidden (fun p hp => ⟨fa p hp, by
        subst hp
        exact (World.ownsRow.lt (show w1.ownsRow _ 5 1 _ _ _ from ho1) p.block rfl).2⟩)
      have HSF := hidden sf
      rw [fB_length] at HSF ⊢
      have HX1 : Hid (OwnB w1 w.heap.size (.slice (some ⟨w.heap.size, 0, none⟩) 1 1) [127 - (k : Int)]) := hidden (HX.out.on (Nat.le_refl _) hb1)
      have HB1 : Hid (Below w.heap.size w w1) := hidden (HBX.out.trans (hb1.mono HBX.out.size))
      have HXS : Hid (w.heap.size < x.heap.size) := hidden (by rw [← hxx]; simp)
      have HFB := hidden (fB_wf k m)
      have HFL := hidden (fB_length k m)
      obtain ⟨F, hF⟩ : ∃ F, fB k m = F := ⟨_, rfl⟩
      rw [hF] at HSF HFB HFL
      have HFF := hidden hF
      clear ho1 hb1 sf fa HFX2 HX HBX hF hxx
      go_wp2_with fail
      go_loopw [7, 9] (fun v i wr => ∃ j : Nat, j ≤ k ∧ i = .int .i64 (j : Int) ∧ Hid (OwnB wr w.heap.size v ((127 - (k : Int)) :: (F.take j).map (255 - ·))) ∧ Hid (Below w.heap.size w wr) ∧ Hid (Sl wr fo k fc F) ∧ Hid (∀ z, v.ownBlock = some z → z = w.heap.size ∨ w1.heap.size ≤ z) ∧ Hid (w1.heap.size ≤ wr.heap.size)) (fun _ i _ => k - (intOf i).toNat)
      case atStart => exact ⟨0, by omega, rfl, hidden (by simpa using HX1.out), HB1, HSF, hidden (fun z hz => by injection hz with hz; exact .inl hz.symm), hidden (Nat.le_refl _)⟩
      case round =>
        obtain ⟨j, hj, rfl, HO, HB, HS, HZ, HW1⟩ := hrel
        have jI : (j : Int) ≤ 8 := by omega
        by_cases hlt : j < k
        · have hltI : (j : Int) < (k : Int) := by omega
          obtain ⟨b, off, rfl, hbb, hc⟩ : ∃ b off, fo = some ⟨b, off, none⟩ ∧ b < wr.heap.size ∧ ∀ i, i < k → wr.cell? ⟨b, off + i, none⟩ = some (.int .u8 (F.getD i 0)) := by
            rcases HS.out.hat with h | h
            · omega
            · exact h
          have hcj := hc j hlt
          have hfw := HFB.out.getD j
          have hxr := xor255 (F.getD j 0) hfw.1 hfw.2
          have HTS : Hid ((F.take (j + 1)).map (255 - ·) = (F.take j).map (255 - ·) ++ [255 - F.getD j 0]) := hidden (by rw [take_snoc F j (by rw [HFL.out]; exact hlt)]; simp)
          have hol : ((127 - (k : Int)) :: (F.take j).map (255 - ·)).length + 1 ≤ 140737488355328 := by simp; omega
          have hsz : w.heap.size ≤ wr.heap.size := HB.out.size
          generalize F.getD j 0 = y at *
          clear hc
          go_wp2_with (at_builtin; refine app_all _ rfl _ _ rfl w.heap.size wr.heap.size ((127 - (k : Int)) :: (F.take j).map (255 - ·)) [255 - y] _ _ rfl rfl (HO.out.alloc _) (one_own _ _) (Wf.cons (by omega) Wf.nil) (by simpa using hol) (by simp; omega) ?_; refine Hid.out ?_)
          apply hidden
          intro v2 w2 ho2 hg2
          have HG2 : Hid (Gr wr _ w2 v2) := hidden ((Gr.alloc _ _ _).trans hg2)
          have HO2 : Hid (OwnB w2 w.heap.size v2 ((127 - (k : Int)) :: (F.take (j + 1)).map (255 - ·))) := hidden (by rw [HTS.out]; first | exact ho2 | (rw [← List.map_take] at ho2; exact ho2) | (rw [List.map_take]; exact ho2))
          have HB2 : Hid (Below w.heap.size w w2) := hidden (HB.out.trans (HG2.out.below HO.out hsz))
          have HS2 : Hid (Sl w2 (some ⟨b, off, none⟩) k fc F) := hidden (sl_gr HS.out HG2.out (.inr fun p hp e => by
            cases hp
            have h1 := HFA2.out _ rfl
            rcases HZ.out _ e.symm with h2 | h2
            · have := HXS.out
              omega
            · omega))
          have HZ2 : Hid (∀ z, v2.ownBlock = some z → z = w.heap.size ∨ w1.heap.size ≤ z) := hidden (fun z hz => by
            rcases HG2.out.own with e | ⟨q, e, hq⟩
            · exact HZ.out z (by rw [← e]; exact hz)
            · rw [e] at hz
              injection hz with hz
              rw [← hz]
              exact .inr (Nat.le_trans HW1.out hq))
          have HW2 : Hid (w1.heap.size ≤ w2.heap.size) := hidden (Nat.le_trans HW1.out HG2.out.grow.size)
          clear ho2 hg2 hcj hxr HTS HO HB HS HZ HG2 HW1
          go_wp2
          go_roundw
          case rel => exact ⟨j + 1, by omega, by go_num, HO2, HB2, HS2, HZ2, HW2⟩
          case measure => simp [intOf]; omega
        · obtain rfl : j = k := by omega
          have hlI : ¬ (j : Int) < (j : Int) := by omega
          go_wp2
          go_ret
          refine ⟨_, rfl, hidden ?_, HB⟩
          rw [HFF.out]
          have := HO.out
          rwa [List.take_of_length_le (by rw [HFL.out]; exact Nat.le_refl _)] at this
  · have n0 : 0 ≤ n := by omega
    have HI : Hid (intB n = (128 + (wd n : Int)) :: fB (wd n) n) := hidden (by unfold intB; rw [if_neg hn])
    have hk := wd_le n (by omega)
    have HWD := hidden (fun w => width_any n w n0 (by omega))
    obtain ⟨k, hkk⟩ : ∃ k, wd n = k := ⟨_, rfl⟩
    rw [hkk] at HI HWD hk
    have kI : (k : Int) ≤ 8 := by omega
    have hx : wrap64 (128 + (k : Int)) % 256 = 128 + k := by unfold wrap64; omega
    have hg : decide (0 ≤ n) = true := by rw [decide_eq_true_iff]; omega
    have hw3 : IntKind.u64.wrap n = n := by rw [IntKind.wrap_u64]; omega
    have HFX : Hid (0 < k → ∀ u, Calls Tryz.prog 38 #[.int .u64 n, .int .i64 (k : Int)] u fun e w' => ∃ v, e = .returned v ∧ OwnB w' u.heap.size v (fB k n) ∧ Below u.heap.size u w') := hidden (fun hk0 u => by
      have := refFixed_yes n (k : Int) u n0 (by omega) (by omega) (by omega)
      rwa [Int.toNat_natCast] at this)
    rw [HI.out]
    clear hkk HI hn
    obtain ⟨x, hxx⟩ : ∃ x, w.alloc (.cells #[.int .u8 (128 + (k : Int))] 5) = x := ⟨_, rfl⟩
    have HX : Hid (OwnB x w.heap.size (.slice (some ⟨w.heap.size, 0, none⟩) 1 1) [128 + (k : Int)]) := hidden (by rw [← hxx]; exact one_own w _)
    have HBX : Hid (Below w.heap.size w x) := hidden (by rw [← hxx]; exact (Below.refl _ _).alloc (Nat.le_refl _) _)
    go_enter Tryz.func37, Tryz.ntmps37
    go_wp2_with (first | (go_at_call 58; refine same_call (HWD.out _) ?_; refine Hid.out ?_))
    apply hidden
    by_cases hk0 : k = 0
    · have hk0b : ((k : Int) == 0) = true := by rw [beq_iff_eq]; omega
      have hk0c : (k : Int) = 0 := by omega
      have HF0 : Hid (fB k n = []) := hidden (by rw [hk0]; rfl)
      have HK0 : Hid (k = 0) := hidden hk0
      clear HFX HWD hk0 hk0c
      go_wp2
      go_ret
      refine ⟨_, rfl, ?_, ?_⟩
      · rw [HF0.out]
        first | exact HX | (rw [hxx]; exact HX)
      · first | exact HBX | (rw [hxx]; exact HBX)
    · have hk0I : ¬ (k : Int) = 0 := by omega
      have hk0b : ((k : Int) == 0) = false := by rw [beq_eq_false_iff_ne]; omega
      have HFX2 := hidden (HFX.out (by omega) x)
      clear HWD HFX hk0
      go_wp2_with (first | (go_at_call 38; refine HFX2.out.mono ?_; rintro e w1 ⟨v1, rfl, ho1, hb1⟩; refine Hid.out ?_))
      apply hidden
      have HX1 : Hid (OwnB w1 w.heap.size (.slice (some ⟨w.heap.size, 0, none⟩) 1 1) [128 + (k : Int)]) := hidden (HX.out.on (Nat.le_refl _) hb1)
      have HB1 : Hid (Below w.heap.size w w1) := hidden (HBX.out.trans (hb1.mono HBX.out.size))
      have HO1 := hidden ho1
      have hsz : w.heap.size ≤ w1.heap.size := HB1.out.size
      clear ho1 hb1 HFX2 HX HBX
      go_wp2_with (at_builtin; refine app_all _ rfl _ _ rfl w.heap.size x.heap.size [128 + (k : Int)] (fB k n) _ _ rfl rfl HX1.out HO1.out (fB_wf k n) (by rw [fB_length]; simp; omega) hsz ?_; refine Hid.out ?_)
      apply hidden
      intro v2 w2 ho2 hg2
      have HO2 := hidden ho2
      have HB2 : Hid (Below w.heap.size w w2) := hidden (HB1.out.trans (hg2.below HX1.out hsz))
      clear ho2 hg2
      go_wp2
      go_ret
      exact ⟨_, rfl, HO2, HB2⟩
end Go.Proofs.YtfdiflfjefhjfaaGreatDoor
