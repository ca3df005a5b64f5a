/- The document's Choose, followed as its text goes. -/
import Derived.Test.YtoifjcliepongaaDoorMw
namespace Go.Proofs.YtoifjcliepongaaDoor
open Go.RowKit

set_option maxRecDepth 100000 in
theorem tmod_two {x : Int} (h : 0 ≤ x) : x.tmod 2 = x % 2 := Int.tmod_eq_emod_of_nonneg h
set_option maxRecDepth 100000 in
set_option maxHeartbeats 4000000 in
theorem rChoose_any (ao bo : Option Addr) (n k ca cb : Nat) (la lb : List Int) (w : World) (ha : Sl w ao n ca la) (hb : Sl w bo k cb lb) :
    Calls Tryd.prog 19 #[.slice ao n ca, .slice bo k cb] w fun e w' => Ch5 la lb w e w' := by
  have HA := hidden ha
  have HB := hidden hb
  clear ha hb
  go_enter Tryd.func19, Tryd.ntmps19
  have HD1 := hidden (rDecode_any ao n ca la (w.alloc (.cells (mtC Mt.z) 24)) (HA.out.on (Nat.le_refl _) (bl_al (Below.refl _ _) (Nat.le_refl _) _)))
  go_wp2_with (go_at_call 18; refine HD1.out.mono ?_; rintro e w1 ⟨m1, c1, rfl, hk1, hb1⟩; have HM1 := hidden hk1; have HB1 := hidden hb1; clear hk1 hb1; refine Hid.out ?_)
  apply hidden
  have HX1 := hidden ((HB1.out.block w.heap.size (by simp)).trans (heap_alloc_last w (.cells (mtC Mt.z) 24)))
  have HW1 := hidden (bl_go (bl_al (Below.refl _ w) (Nat.le_refl _) _) (Nat.le_refl _) HB1.out)
  clear HD1 HB1
  rw [mtV_eq]
  have HX2 := hidden ((Below.heap_alloc w1 (.cells (mtC m1) 24) _ (lt_some HX1.out)).trans HX1.out)
  have HN2 := hidden (heap_alloc_last w1 (.cells (mtC m1) 24))
  have HW2 := hidden (bl_al HW1.out (Nat.le_refl _) (.cells (mtC m1) 24))
  clear HX1 HW1
  have HD2 := hidden (rDecode_any bo k cb lb (w1.alloc (.cells (mtC m1) 24)) (HB.out.on (Nat.le_refl _) HW2.out))
  go_wp2_with (go_at_call 18; refine HD2.out.mono ?_; rintro e w2 ⟨m2, c2, rfl, hk2, hb2⟩; have HM2 := hidden hk2; have HB2 := hidden hb2; clear hk2 hb2; refine Hid.out ?_)
  apply hidden
  rw [mtV_eq]
  have HX3 := hidden (box_on HX2.out HB2.out)
  have HN3 := hidden (box_on HN2.out HB2.out)
  have HW3 := hidden (bl_go HW2.out (Nat.le_refl _) HB2.out)
  obtain ⟨b1, hb1⟩ : ∃ b, w1.heap.size = b := ⟨_, rfl⟩
  rw [hb1] at HN3 ⊢
  clear HX2 HN2 HW2 HB2 HD2 hb1 HA HB
  have hl1 : w.heap.size < w2.heap.size := lt_some HX3.out
  have hl2 : b1 < w2.heap.size := lt_some HN3.out
  obtain ⟨n0, n1, n2, n3, n4, n5, n6, n7⟩ := row8 HN3.out
  have HX4 := hidden ((Below.heap_alloc w2 (.cells (mtC m2) 24) _ hl1).trans HX3.out)
  have HW4 := hidden (bl_al HW3.out (Nat.le_refl _) (.cells (mtC m2) 24))
  have HNO : Hid (∀ m', Hid (((w2.alloc (.cells (mtC m2) 24)).setRow w.heap.size (mtC m')).heap[w.heap.size]? = some (.cells (mtC m') 24 (0, 0))) ∧ Hid (Below w.heap.size w ((w2.alloc (.cells (mtC m2) 24)).setRow w.heap.size (mtC m')))) :=
    hidden fun m' => ⟨setRow_heap _ _ _ _ _ _ HX4.out, below_setRow HW4.out (Nat.le_refl _) _⟩
  clear HX3 HN3 HW3 HW4
  rcases HM1.out with ⟨s1, rfl⟩ | ⟨s1, rfl, rfl⟩
  · have x1 := tmod_two s1.1.tx.1
    by_cases p1 : m1.tx % 2 = 0
    · rw [p1] at x1
      rcases HM2.out with ⟨s2, rfl⟩ | ⟨s2, rfl, rfl⟩
      · have x2 := tmod_two s2.1.tx.1
        by_cases p2 : m2.tx % 2 = 1
        · rw [p2] at x2
          by_cases e3 : m2.tx < m1.tx
          · have d1 : decide (m2.tx < m1.tx) = true := by simpa using e3
            have HP : Hid (ChIs la lb m1 0 0) := hidden ⟨m1, m2, (.inl ⟨s1, p1⟩), (.inl ⟨s2, p2⟩), .inr (.inl ⟨fun h => s1.nz h.1, .inr e3, rfl, rfl, rfl⟩)⟩
            obtain ⟨HXS, HBR⟩ := HNO.out m1
            clear HM1 HM2
            go_wp2_with (refine wpList_store_row rfl _ _ _ rfl w.heap.size (mtC m1) (by rfl) (by rfl) 24 _ HX4.out (mtC_size _) (by rfl) (mtC_one _) ?_)
            refine bodyPost_ret (results_row3 rfl _ _ w.heap.size 24 (mtC m1) (0, 0) _ (.int .i64 0) (.int .i64 0) (by rfl) (by rfl) (by rfl) HXS.out Tryd.underlying24 rfl (mtC_size _)) rfl ?_
            exact Ch5.mk HP.out HBR.out
          · have d1 : decide (m2.tx < m1.tx) = false := by simpa using e3
            have HP : Hid (ChIs la lb m2 1 0) := hidden ⟨m1, m2, (.inl ⟨s1, p1⟩), (.inl ⟨s2, p2⟩), .inr (.inr ⟨s2.nz, by omega, rfl, rfl, rfl⟩)⟩
            obtain ⟨HXS, HBR⟩ := HNO.out m2
            clear HM1 HM2
            go_wp2_with (refine wpList_store_row rfl _ _ _ rfl w.heap.size (mtC m2) (by rfl) (by rfl) 24 _ HX4.out (mtC_size _) (by rfl) (mtC_one _) ?_)
            refine bodyPost_ret (results_row3 rfl _ _ w.heap.size 24 (mtC m2) (0, 0) _ (.int .i64 1) (.int .i64 0) (by rfl) (by rfl) (by rfl) HXS.out Tryd.underlying24 rfl (mtC_size _)) rfl ?_
            exact Ch5.mk HP.out HBR.out
        · have q2 : m2.tx % 2 = 0 := by omega
          rw [q2] at x2
          have HP : Hid (ChIs la lb m1 0 0) := hidden ⟨m1, Mt.z, (.inl ⟨s1, p1⟩), (StIs.other s2 (by omega)), .inr (.inl ⟨fun h => s1.nz h.1, .inl rfl, rfl, rfl, rfl⟩)⟩
          obtain ⟨HXS, HBR⟩ := HNO.out m1
          clear HM1 HM2
          go_wp2_with (refine wpList_store_row rfl _ _ _ rfl w.heap.size (mtC m1) (by rfl) (by rfl) 24 _ HX4.out (mtC_size _) (by rfl) (mtC_one _) ?_)
          refine bodyPost_ret (results_row3 rfl _ _ w.heap.size 24 (mtC m1) (0, 0) _ (.int .i64 0) (.int .i64 0) (by rfl) (by rfl) (by rfl) HXS.out Tryd.underlying24 rfl (mtC_size _)) rfl ?_
          exact Ch5.mk HP.out HBR.out
      · skip
        have HP : Hid (ChIs la lb m1 0 0) := hidden ⟨m1, Mt.z, (.inl ⟨s1, p1⟩), (StIs.none 1 s2), .inr (.inl ⟨fun h => s1.nz h.1, .inl rfl, rfl, rfl, rfl⟩)⟩
        obtain ⟨HXS, HBR⟩ := HNO.out m1
        clear HM1 HM2
        go_wp2_with (refine wpList_store_row rfl _ _ _ rfl w.heap.size (mtC m1) (by rfl) (by rfl) 24 _ HX4.out (mtC_size _) (by rfl) (mtC_one _) ?_)
        refine bodyPost_ret (results_row3 rfl _ _ w.heap.size 24 (mtC m1) (0, 0) _ (.int .i64 0) (.int .i64 0) (by rfl) (by rfl) (by rfl) HXS.out Tryd.underlying24 rfl (mtC_size _)) rfl ?_
        exact Ch5.mk HP.out HBR.out
    · have q1 : m1.tx % 2 = 1 := by omega
      rw [q1] at x1
      rcases HM2.out with ⟨s2, rfl⟩ | ⟨s2, rfl, rfl⟩
      · have x2 := tmod_two s2.1.tx.1
        by_cases p2 : m2.tx % 2 = 1
        · rw [p2] at x2
          have HP : Hid (ChIs la lb m2 1 0) := hidden ⟨Mt.z, m2, (StIs.other s1 (by omega)), (.inl ⟨s2, p2⟩), .inr (.inr ⟨s2.nz, (show (0 : Int) ≤ m2.tx from s2.1.tx.1), rfl, rfl, rfl⟩)⟩
          obtain ⟨HXS, HBR⟩ := HNO.out m2
          clear HM1 HM2
          go_wp2_with (refine wpList_store_row rfl _ _ _ rfl w.heap.size (mtC m2) (by rfl) (by rfl) 24 _ HX4.out (mtC_size _) (by rfl) (mtC_one _) ?_)
          refine bodyPost_ret (results_row3 rfl _ _ w.heap.size 24 (mtC m2) (0, 0) _ (.int .i64 1) (.int .i64 0) (by rfl) (by rfl) (by rfl) HXS.out Tryd.underlying24 rfl (mtC_size _)) rfl ?_
          exact Ch5.mk HP.out HBR.out
        · have q2 : m2.tx % 2 = 0 := by omega
          rw [q2] at x2
          have HP : Hid (ChIs la lb Mt.z 0 51) := hidden ⟨Mt.z, Mt.z, (StIs.other s1 (by omega)), (StIs.other s2 (by omega)), .inl ⟨rfl, rfl, rfl, rfl, rfl⟩⟩
          obtain ⟨HXS, HBR⟩ := HNO.out Mt.z
          clear HM1 HM2
          go_wp2_with (refine wpList_store_row rfl _ _ _ rfl w.heap.size (mtC Mt.z) (by rfl) (by rfl) 24 _ HX4.out (mtC_size _) (by rfl) (mtC_one _) ?_)
          refine bodyPost_ret (results_row3 rfl _ _ w.heap.size 24 (mtC Mt.z) (0, 0) _ (.int .i64 0) (.int .i64 51) (by rfl) (by rfl) (by rfl) HXS.out Tryd.underlying24 rfl (mtC_size _)) rfl ?_
          exact Ch5.mk HP.out HBR.out
      · skip
        have HP : Hid (ChIs la lb Mt.z 0 51) := hidden ⟨Mt.z, Mt.z, (StIs.other s1 (by omega)), (StIs.none 1 s2), .inl ⟨rfl, rfl, rfl, rfl, rfl⟩⟩
        obtain ⟨HXS, HBR⟩ := HNO.out Mt.z
        clear HM1 HM2
        go_wp2_with (refine wpList_store_row rfl _ _ _ rfl w.heap.size (mtC Mt.z) (by rfl) (by rfl) 24 _ HX4.out (mtC_size _) (by rfl) (mtC_one _) ?_)
        refine bodyPost_ret (results_row3 rfl _ _ w.heap.size 24 (mtC Mt.z) (0, 0) _ (.int .i64 0) (.int .i64 51) (by rfl) (by rfl) (by rfl) HXS.out Tryd.underlying24 rfl (mtC_size _)) rfl ?_
        exact Ch5.mk HP.out HBR.out
  · skip
    rcases HM2.out with ⟨s2, rfl⟩ | ⟨s2, rfl, rfl⟩
    · have x2 := tmod_two s2.1.tx.1
      by_cases p2 : m2.tx % 2 = 1
      · rw [p2] at x2
        have HP : Hid (ChIs la lb m2 1 0) := hidden ⟨Mt.z, m2, (StIs.none 0 s1), (.inl ⟨s2, p2⟩), .inr (.inr ⟨s2.nz, (show (0 : Int) ≤ m2.tx from s2.1.tx.1), rfl, rfl, rfl⟩)⟩
        obtain ⟨HXS, HBR⟩ := HNO.out m2
        clear HM1 HM2
        go_wp2_with (refine wpList_store_row rfl _ _ _ rfl w.heap.size (mtC m2) (by rfl) (by rfl) 24 _ HX4.out (mtC_size _) (by rfl) (mtC_one _) ?_)
        refine bodyPost_ret (results_row3 rfl _ _ w.heap.size 24 (mtC m2) (0, 0) _ (.int .i64 1) (.int .i64 0) (by rfl) (by rfl) (by rfl) HXS.out Tryd.underlying24 rfl (mtC_size _)) rfl ?_
        exact Ch5.mk HP.out HBR.out
      · have q2 : m2.tx % 2 = 0 := by omega
        rw [q2] at x2
        have HP : Hid (ChIs la lb Mt.z 0 51) := hidden ⟨Mt.z, Mt.z, (StIs.none 0 s1), (StIs.other s2 (by omega)), .inl ⟨rfl, rfl, rfl, rfl, rfl⟩⟩
        obtain ⟨HXS, HBR⟩ := HNO.out Mt.z
        clear HM1 HM2
        go_wp2_with (refine wpList_store_row rfl _ _ _ rfl w.heap.size (mtC Mt.z) (by rfl) (by rfl) 24 _ HX4.out (mtC_size _) (by rfl) (mtC_one _) ?_)
        refine bodyPost_ret (results_row3 rfl _ _ w.heap.size 24 (mtC Mt.z) (0, 0) _ (.int .i64 0) (.int .i64 51) (by rfl) (by rfl) (by rfl) HXS.out Tryd.underlying24 rfl (mtC_size _)) rfl ?_
        exact Ch5.mk HP.out HBR.out
    · skip
      have HP : Hid (ChIs la lb Mt.z 0 51) := hidden ⟨Mt.z, Mt.z, (StIs.none 0 s1), (StIs.none 1 s2), .inl ⟨rfl, rfl, rfl, rfl, rfl⟩⟩
      obtain ⟨HXS, HBR⟩ := HNO.out Mt.z
      clear HM1 HM2
      go_wp2_with (refine wpList_store_row rfl _ _ _ rfl w.heap.size (mtC Mt.z) (by rfl) (by rfl) 24 _ HX4.out (mtC_size _) (by rfl) (mtC_one _) ?_)
      refine bodyPost_ret (results_row3 rfl _ _ w.heap.size 24 (mtC Mt.z) (0, 0) _ (.int .i64 0) (.int .i64 51) (by rfl) (by rfl) (by rfl) HXS.out Tryd.underlying24 rfl (mtC_size _)) rfl ?_
      exact Ch5.mk HP.out HBR.out
end Go.Proofs.YtoifjcliepongaaDoor
