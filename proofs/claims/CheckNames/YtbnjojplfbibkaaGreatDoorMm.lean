/- meta.Choose, followed as its text goes. -/
import Derived.Test.YtbnjojplfbibkaaGreatDoorMl
namespace Go.Proofs.YtbnjojplfbibkaaGreatDoor
open Go.RowKit

/-- What Choose picks. -/
def Pk (m1 m2 m : Mt) (s c : Int) : Prop :=
  (m1 = Mt.z ∧ m2 = Mt.z ∧ m = Mt.z ∧ s = 0 ∧ c = 51) ∨ (¬ (m1 = Mt.z ∧ m2 = Mt.z) ∧ (m2 = Mt.z ∨ m2.tx < m1.tx) ∧ m = m1 ∧ s = 0 ∧ c = 0) ∨ (m2 ≠ Mt.z ∧ m1.tx ≤ m2.tx ∧ m = m2 ∧ s = 1 ∧ c = 0)
def ChIs (la lb : List Int) (m : Mt) (s c : Int) : Prop := ∃ m1 m2, StIs la 0 m1 ∧ StIs lb 1 m2 ∧ Pk m1 m2 m s c
def Ch5 (la lb : List Int) (w : World) (e : Ending) (w' : World) : Prop := ∃ m s c, e = .returned (.tuple #[mtV m, .int .i64 s, .int .i64 c]) ∧ ChIs la lb m s c ∧ Below w.heap.size w w'
set_option maxRecDepth 100000 in
theorem Ch5.mk {la lb : List Int} {w w' : World} {m : Mt} {s c : Int} (h : ChIs la lb m s c) (hb : Below w.heap.size w w') : Ch5 la lb w (.returned (.tuple #[.agg (mtC m), .int .i64 s, .int .i64 c])) w' := ⟨m, s, c, rfl, h, hb⟩

set_option maxRecDepth 100000 in
set_option maxHeartbeats 2000000 in
theorem choose_any (ao bo : Option Addr) (n k ca cb : Nat) (la lb : List Int) (w : World) (ha : Sl w ao n ca la) (hb : Sl w bo k cb lb) (ht : Tab w) (h0 : 0 < w.heap.size) :
    Calls Tryz.prog 18 #[.slice ao n ca, .slice bo k cb] w fun e w' => Ch5 la lb w e w' := by
  have HA := hidden ha
  have HB := hidden hb
  have HT := hidden ht
  clear ha hb ht
  go_enter Tryz.func18, Tryz.ntmps18
  have HD1 := hidden (standing_any ao n ca la 0 ((w.alloc (.cells (mtC Mt.z) 45)).alloc (.cells (mtC Mt.z) 45)) (HA.out.on (Nat.le_refl _) (bl_al (bl_al (Below.refl _ _) (Nat.le_refl _) _) (Nat.le_refl _) _)) (HT.out.on (bl_al (bl_al (Below.refl _ _) (Nat.le_refl _) _) (Nat.le_refl _) _) h0) (by simp))
  go_wp2_with (go_at_call 32; refine HD1.out.mono ?_; rintro e w1 ⟨m1, rfl, hm1, hb1⟩; have HM1 := hidden hm1; have HB1 := hidden hb1; clear hm1 hb1; refine Hid.out ?_)
  apply hidden
  have HX1 := hidden ((HB1.out.block w.heap.size (by simp; omega)).trans (heap_alloc2_old w (.cells (mtC Mt.z) 45) (.cells (mtC Mt.z) 45)))
  have HN1 := hidden ((HB1.out.block (w.heap.size + 1) (by simp)).trans (heap_alloc2_new w (.cells (mtC Mt.z) 45) (.cells (mtC Mt.z) 45)))
  have HW1 := hidden (bl_go (bl_al (bl_al (Below.refl _ w) (Nat.le_refl _) _) (Nat.le_refl _) _) (Nat.le_refl _) HB1.out)
  clear HD1 HB1
  have HD2 := hidden (standing_any bo k cb lb 1 w1 (HB.out.on (Nat.le_refl _) HW1.out) (HT.out.on HW1.out h0) (Nat.lt_of_lt_of_le h0 HW1.out.size))
  rw [mtV_eq]
  go_wp2_with (go_at_call 32; refine HD2.out.mono ?_; rintro e w2 ⟨m2, rfl, hm2, hb2⟩; have HM2 := hidden hm2; have HB2 := hidden hb2; clear hm2 hb2; refine Hid.out ?_)
  apply hidden
  rw [mtV_eq]
  have HX2 := hidden (box_on HX1.out HB2.out)
  have HN2 := hidden (box_on HN1.out HB2.out)
  have HW2 := hidden (bl_go HW1.out (Nat.le_refl _) HB2.out)
  clear HX1 HN1 HW1 HB2 HD2
  have hl1 : w.heap.size < w2.heap.size := lt_some HX2.out
  have hl2 : w.heap.size + 1 < w2.heap.size := lt_some HN2.out
  obtain ⟨n0, n1, n2, n3, n4, n5, n6, n7⟩ := row8 HN2.out
  have HX3 : Hid (((w2.alloc (.cells (mtC m1) 45)).alloc (.cells (mtC m2) 45)).heap[w.heap.size]? = some (.cells (mtC Mt.z) 45 (0, 0))) := hidden ((Below.heap_alloc _ _ _ (by simp; omega)).trans ((Below.heap_alloc _ _ _ hl1).trans HX2.out))
  have HW3 := hidden (bl_al (bl_al HW2.out (Nat.le_refl _) (.cells (mtC m1) 45)) (Nat.le_refl _) (.cells (mtC m2) 45))
  have HNO : Hid (∀ m', Hid ((((w2.alloc (.cells (mtC m1) 45)).alloc (.cells (mtC m2) 45)).setRow w.heap.size (mtC m')).heap[w.heap.size]? = some (.cells (mtC m') 45 (0, 0))) ∧ Hid (Below w.heap.size w (((w2.alloc (.cells (mtC m1) 45)).alloc (.cells (mtC m2) 45)).setRow w.heap.size (mtC m')))) :=
    hidden fun m' => ⟨setRow_heap _ _ _ _ _ _ HX3.out, below_setRow HW3.out (Nat.le_refl _) _⟩
  have HIS : Hid (∀ m s c, Pk m1 m2 m s c → ChIs la lb m s c) := hidden fun m s c h => ⟨m1, m2, HM1.out, HM2.out, h⟩
  clear HA HB HT HM1 HM2 HX2 HN2 HW2 HW3
  by_cases e1 : m1 = Mt.z
  · by_cases e2 : m2 = Mt.z
    · have q1 : ∀ u, (Op.equalIn 10000 45 (mtV m1) (mtV Mt.z)).run Tryz.prog u = .ok true u := fun u => by rw [e1]; exact eq_yes _ u
      have q2 : ∀ u, (Op.equalIn 10000 45 (mtV m2) (mtV Mt.z)).run Tryz.prog u = .ok true u := fun u => by rw [e2]; exact eq_yes _ u
      rw [mtV_eq, mtV_eq] at q1 q2
      have HP := hidden (HIS.out Mt.z 0 51 (.inl ⟨e1, e2, rfl, rfl, rfl⟩))
      obtain ⟨HXS, HBR⟩ := HNO.out Mt.z
      clear e1 e2
      go_wp2_with (refine wpList_store_row rfl _ _ _ rfl w.heap.size (mtC Mt.z) (by rfl) (by rfl) 45 _ HX3.out (mtC_size _) (by rfl) (mtC_one _) ?_)
      refine bodyPost_ret (results_row3 rfl _ _ w.heap.size 45 (mtC Mt.z) (0, 0) _ (.int .i64 0) (.int .i64 51) (by rfl) (by rfl) (by rfl) HXS.out Tryz.underlying45 rfl (mtC_size _)) rfl ?_
      exact Ch5.mk HP.out HBR.out
    · by_cases e3 : m2.tx < m1.tx
      · have q1 : ∀ u, (Op.equalIn 10000 45 (mtV m1) (mtV Mt.z)).run Tryz.prog u = .ok true u := fun u => by rw [e1]; exact eq_yes _ u
        have q2 : ∀ u, (Op.equalIn 10000 45 (mtV m2) (mtV Mt.z)).run Tryz.prog u = .ok false u := fun u => eq_no _ _ u e2
        rw [mtV_eq, mtV_eq] at q1 q2
        have d1 : decide (m2.tx < m1.tx) = true := by simpa using e3
        have HP := hidden (HIS.out m1 0 0 (.inr (.inl ⟨fun h => e2 h.2, .inr e3, rfl, rfl, rfl⟩)))
        obtain ⟨HXS, HBR⟩ := HNO.out m1
        clear e1 e2
        go_wp2_with (refine wpList_store_row rfl _ _ _ rfl w.heap.size (mtC m1) (by rfl) (by rfl) 45 _ HX3.out (mtC_size _) (by rfl) (mtC_one _) ?_)
        refine bodyPost_ret (results_row3 rfl _ _ w.heap.size 45 (mtC m1) (0, 0) _ (.int .i64 0) (.int .i64 0) (by rfl) (by rfl) (by rfl) HXS.out Tryz.underlying45 rfl (mtC_size _)) rfl ?_
        exact Ch5.mk HP.out HBR.out
      · have q1 : ∀ u, (Op.equalIn 10000 45 (mtV m1) (mtV Mt.z)).run Tryz.prog u = .ok true u := fun u => by rw [e1]; exact eq_yes _ u
        have q2 : ∀ u, (Op.equalIn 10000 45 (mtV m2) (mtV Mt.z)).run Tryz.prog u = .ok false u := fun u => eq_no _ _ u e2
        rw [mtV_eq, mtV_eq] at q1 q2
        have d1 : decide (m2.tx < m1.tx) = false := by simpa using e3
        have HP := hidden (HIS.out m2 1 0 (.inr (.inr ⟨e2, by omega, rfl, rfl, rfl⟩)))
        obtain ⟨HXS, HBR⟩ := HNO.out m2
        clear e1 e2
        go_wp2_with (refine wpList_store_row rfl _ _ _ rfl w.heap.size (mtC m2) (by rfl) (by rfl) 45 _ HX3.out (mtC_size _) (by rfl) (mtC_one _) ?_)
        refine bodyPost_ret (results_row3 rfl _ _ w.heap.size 45 (mtC m2) (0, 0) _ (.int .i64 1) (.int .i64 0) (by rfl) (by rfl) (by rfl) HXS.out Tryz.underlying45 rfl (mtC_size _)) rfl ?_
        exact Ch5.mk HP.out HBR.out
  · by_cases e2 : m2 = Mt.z
    · have q1 : ∀ u, (Op.equalIn 10000 45 (mtV m1) (mtV Mt.z)).run Tryz.prog u = .ok false u := fun u => eq_no _ _ u e1
      have q2 : ∀ u, (Op.equalIn 10000 45 (mtV m2) (mtV Mt.z)).run Tryz.prog u = .ok true u := fun u => by rw [e2]; exact eq_yes _ u
      rw [mtV_eq, mtV_eq] at q1 q2
      have HP := hidden (HIS.out m1 0 0 (.inr (.inl ⟨fun h => e1 h.1, .inl e2, rfl, rfl, rfl⟩)))
      obtain ⟨HXS, HBR⟩ := HNO.out m1
      clear e1 e2
      go_wp2_with (refine wpList_store_row rfl _ _ _ rfl w.heap.size (mtC m1) (by rfl) (by rfl) 45 _ HX3.out (mtC_size _) (by rfl) (mtC_one _) ?_)
      refine bodyPost_ret (results_row3 rfl _ _ w.heap.size 45 (mtC m1) (0, 0) _ (.int .i64 0) (.int .i64 0) (by rfl) (by rfl) (by rfl) HXS.out Tryz.underlying45 rfl (mtC_size _)) rfl ?_
      exact Ch5.mk HP.out HBR.out
    · by_cases e3 : m2.tx < m1.tx
      · have q1 : ∀ u, (Op.equalIn 10000 45 (mtV m1) (mtV Mt.z)).run Tryz.prog u = .ok false u := fun u => eq_no _ _ u e1
        have q2 : ∀ u, (Op.equalIn 10000 45 (mtV m2) (mtV Mt.z)).run Tryz.prog u = .ok false u := fun u => eq_no _ _ u e2
        rw [mtV_eq, mtV_eq] at q1 q2
        have d1 : decide (m2.tx < m1.tx) = true := by simpa using e3
        have HP := hidden (HIS.out m1 0 0 (.inr (.inl ⟨fun h => e2 h.2, .inr e3, rfl, rfl, rfl⟩)))
        obtain ⟨HXS, HBR⟩ := HNO.out m1
        clear e1 e2
        go_wp2_with (refine wpList_store_row rfl _ _ _ rfl w.heap.size (mtC m1) (by rfl) (by rfl) 45 _ HX3.out (mtC_size _) (by rfl) (mtC_one _) ?_)
        refine bodyPost_ret (results_row3 rfl _ _ w.heap.size 45 (mtC m1) (0, 0) _ (.int .i64 0) (.int .i64 0) (by rfl) (by rfl) (by rfl) HXS.out Tryz.underlying45 rfl (mtC_size _)) rfl ?_
        exact Ch5.mk HP.out HBR.out
      · have q1 : ∀ u, (Op.equalIn 10000 45 (mtV m1) (mtV Mt.z)).run Tryz.prog u = .ok false u := fun u => eq_no _ _ u e1
        have q2 : ∀ u, (Op.equalIn 10000 45 (mtV m2) (mtV Mt.z)).run Tryz.prog u = .ok false u := fun u => eq_no _ _ u e2
        rw [mtV_eq, mtV_eq] at q1 q2
        have d1 : decide (m2.tx < m1.tx) = false := by simpa using e3
        have HP := hidden (HIS.out m2 1 0 (.inr (.inr ⟨e2, by omega, rfl, rfl, rfl⟩)))
        obtain ⟨HXS, HBR⟩ := HNO.out m2
        clear e1 e2
        go_wp2_with (refine wpList_store_row rfl _ _ _ rfl w.heap.size (mtC m2) (by rfl) (by rfl) 45 _ HX3.out (mtC_size _) (by rfl) (mtC_one _) ?_)
        refine bodyPost_ret (results_row3 rfl _ _ w.heap.size 45 (mtC m2) (0, 0) _ (.int .i64 1) (.int .i64 0) (by rfl) (by rfl) (by rfl) HXS.out Tryz.underlying45 rfl (mtC_size _)) rfl ?_
        exact Ch5.mk HP.out HBR.out
end Go.Proofs.YtbnjojplfbibkaaGreatDoor
