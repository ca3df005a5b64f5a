/- meta.Decode, followed as its text goes. -/
import Derived.Test.YtbnjojplfbibkaaGreatDoorMj
namespace Go.Proofs.YtbnjojplfbibkaaGreatDoor
open Go.RowKit

set_option maxRecDepth 100000 in
theorem bytesEqual_any (ao bo : Option Addr) (n m c d : Nat) (la lb : List Int) (w : World) (ha : Sl w ao n c la) (hb : Sl w bo m d lb) :
    Calls Tryz.prog 74 #[.slice ao n c, .slice bo m d] w fun e w' => e = .returned (.bool (decide (la = lb))) ∧ w' = w := by
  have h1 := conv_sl ha
  have h2 := conv_sl hb
  have h3 := str_beq ha.wf hb.wf
  clear ha hb
  go_enter Tryz.func74, Tryz.ntmps74
  go_wp2
  go_ret
  exact ⟨rfl, rfl⟩

/-- What Decode answers. -/
def Dec5 (l : List Int) (w : World) (e : Ending) (w' : World) : Prop :=
  ∃ m c, e = .returned (.tuple #[mtV m, .int .i64 c]) ∧ (Says l m ∧ c = 0 ∨ (¬ ∃ m', Says l m') ∧ m = Mt.z ∧ c = 50) ∧ Below w.heap.size w w'
set_option maxRecDepth 100000 in
theorem Dec5.no {l : List Int} {w w' : World} (h : ¬ ∃ m', Says l m') (hb : Below w.heap.size w w') : Dec5 l w (.returned (.tuple #[.agg (mtC Mt.z), .int .i64 50])) w' :=
  ⟨Mt.z, 50, rfl, .inr ⟨h, rfl, rfl⟩, hb⟩
set_option maxRecDepth 100000 in
theorem Dec5.yes {l : List Int} {w w' : World} {m : Mt} (h : Says l m) (hb : Below w.heap.size w w') : Dec5 l w (.returned (.tuple #[.agg (mtC m), .int .i64 0])) w' :=
  ⟨m, 0, rfl, .inl ⟨h, rfl⟩, hb⟩

set_option maxRecDepth 100000 in
set_option maxHeartbeats 2000000 in
theorem decode_any (ao : Option Addr) (n cap : Nat) (l : List Int) (w : World) (hs : Sl w ao n cap l) (ht : Tab w) (h0 : 0 < w.heap.size) : Calls Tryz.prog 55 #[.slice ao n cap] w fun e w' => Dec5 l w e w' := by
  have HS := hidden hs
  have HT := hidden ht
  clear hs ht
  have HRD := hidden (read_any ao n cap l (w.alloc (.cells (mtC Mt.z) 45)) (HS.out.on (Nat.le_refl _) ((Below.refl _ _).alloc (Nat.le_refl _) _)))
  go_enter Tryz.func55, Tryz.ntmps55
  go_wp2_with (go_at_call 79; refine HRD.out.mono ?_; rintro e w1 ⟨m0, c, rfl, hm, hb1⟩; have HM := hidden hm; have HB1 := hidden hb1; clear hm hb1; refine Hid.out ?_)
  apply hidden
  have HX1 := hidden ((HB1.out.block _ (by simp)).trans (heap_alloc_last w (.cells (mtC Mt.z) 45)))
  have HBW := hidden (bl_go (bl_al (Below.refl _ w) (Nat.le_refl _) _) (Nat.le_refl _) HB1.out)
  clear HRD HB1
  rw [mtV_eq]
  have HX2 := hidden ((Below.heap_alloc w1 (.cells (mtC m0) 45) _ (lt_some HX1.out)).trans HX1.out)
  have HW2 := hidden (bl_al HBW.out (Nat.le_refl _) (.cells (mtC m0) 45))
  have HM2 := hidden (heap_alloc_last w1 (.cells (mtC m0) 45))
  have hlt1 : w.heap.size < w1.heap.size := lt_some HX1.out
  clear HX1 HBW
  have NO : ∀ v : World, v.heap[w.heap.size]? = some (.cells (mtC Mt.z) 45 (0, 0)) → Below w.heap.size w v → Hid ((v.setRow w.heap.size (mtC Mt.z)).heap[w.heap.size]? = some (.cells (mtC Mt.z) 45 (0, 0))) ∧ Hid (Below w.heap.size w (v.setRow w.heap.size (mtC Mt.z))) :=
    fun v h1 h2 => ⟨setRow_heap _ _ _ _ _ _ h1, below_setRow h2 (Nat.le_refl _) _⟩
  have HNO := hidden NO
  clear NO
  rcases HM.out with ⟨h40, rfl, rfl⟩ | ⟨h40, hc⟩
  · obtain ⟨c0, c1, c2, c3, c4, c5, c6, c7⟩ := row8 HM2.out
    clear HM
    have HCK := hidden (check_any (rdM l) (w1.alloc (.cells (mtC (rdM l)) 45)))
    go_wp2_with (go_at_call 80; rw [← mtV_eq]; refine HCK.out.mono ?_; rintro e w2 ⟨k, rfl, hk, hb2⟩; have HB2 := hidden hb2; clear hb2; rw [mtV_eq]; refine Hid.out ?_)
    apply hidden
    have HX3 := hidden (box_on HX2.out HB2.out)
    have HW3 := hidden (bl_go HW2.out (Nat.le_refl _) HB2.out)
    have HM3 := hidden (box_on HM2.out HB2.out)
    clear c0 c1 c2 c3 c4 c5 c6 c7 HCK HB2 HX2 HW2 HM2
    rcases hk with ⟨hok, rfl⟩ | ⟨hok, rfl⟩
    · obtain ⟨c0, c1, c2, c3, c4, c5, c6, c7⟩ := row8 HM3.out
      have HOK := hidden hok
      clear hok
      have HWR := hidden (written_any (rdM l) HOK.out w2 (HT.out.on HW3.out h0) (Nat.lt_of_lt_of_le h0 HW3.out.size))
      go_wp2_with (go_at_call 81; rw [← mtV_eq]; refine HWR.out.mono ?_; rintro e w3 ⟨g, rfl, hg, hk, hb⟩; have HQ := hidden (And.intro hk hb); clear hg hk hb; rw [mtV_eq]; refine Hid.out ?_)
      apply hidden
      have HX4 := hidden (box_on HX3.out HQ.out.2)
      have HW4 := hidden (bl_go HW3.out (Nat.le_refl _) HQ.out.2)
      have HM4 := hidden (box_on HM3.out HQ.out.2)
      have HPL := hidden (pageB_length (rdM l) HOK.out)
      have hp := pw_le HOK.out.pg
      have HEQ := hidden (bytesEqual_any (some ⟨g, 0, none⟩) ao (rdM l).pg.toNat n (rdM l).pg.toNat cap (pageB (rdM l)) l w3 (HQ.out.1.sl HPL.out (pageB_wf _) (by omega)) (HS.out.on (Nat.le_refl _) HW4.out))
      clear c0 c1 c2 c3 c4 c5 c6 c7 HWR HQ HX3 HW3 HM3 HPL hp
      by_cases he : pageB (rdM l) = l
      · have hde : decide (pageB (rdM l) = l) = true := by simpa using he
        rw [hde] at HEQ
        have HSY : Hid (Says l (rdM l)) := hidden ⟨HOK.out, he⟩
        obtain ⟨c0, c1, c2, c3, c4, c5, c6, c7⟩ := row8 HM4.out
        have HXS : Hid ((w3.setRow w.heap.size (mtC (rdM l))).heap[w.heap.size]? = some (.cells (mtC (rdM l)) 45 (0, 0))) := hidden (setRow_heap _ _ _ _ _ _ HX4.out)
        have HBR := hidden (below_setRow HW4.out (Nat.le_refl _) (mtC (rdM l)))
        clear he hde
        go_wp2_with (first
          | (go_at_call 74; refine same_call HEQ.out ?_)
          | (refine wpList_store_row rfl _ _ _ rfl w.heap.size (mtC (rdM l)) (by rfl) (by rfl) 45 _ HX4.out (mtC_size _) (by rfl) (mtC_one _) ?_))
        refine bodyPost_ret (results_row2 rfl _ _ w.heap.size 45 (mtC (rdM l)) (0, 0) _ (.int .i64 0) (by rfl) (by rfl) HXS.out Tryz.underlying45 rfl (mtC_size _)) rfl ?_
        exact Dec5.yes HSY.out HBR.out
      · have hde : decide (pageB (rdM l) = l) = false := by simpa using he
        rw [hde] at HEQ
        have HSN : Hid (¬ ∃ m', Says l m') := hidden fun h => he ((says_iff l).1 h).2
        obtain ⟨HXS, HBR⟩ := HNO.out w3 HX4.out HW4.out
        clear he hde
        go_wp2_with (first
          | (go_at_call 74; refine same_call HEQ.out ?_)
          | (refine wpList_store_row rfl _ _ _ rfl w.heap.size (mtC Mt.z) (by rfl) (by rfl) 45 _ HX4.out (mtC_size _) (by rfl) (mtC_one _) ?_))
        refine bodyPost_ret (results_row2 rfl _ _ w.heap.size 45 (mtC Mt.z) (0, 0) _ (.int .i64 50) (by rfl) (by rfl) HXS.out Tryz.underlying45 rfl (mtC_size _)) rfl ?_
        exact Dec5.no HSN.out HBR.out
    · have HSN : Hid (¬ ∃ m', Says l m') := hidden fun h => hok ((says_iff l).1 h).1
      obtain ⟨HXS, HBR⟩ := HNO.out w2 HX3.out HW3.out
      clear hok
      go_wp2_with (refine wpList_store_row rfl _ _ _ rfl w.heap.size (mtC Mt.z) (by rfl) (by rfl) 45 _ HX3.out (mtC_size _) (by rfl) (mtC_one _) ?_)
      refine bodyPost_ret (results_row2 rfl _ _ w.heap.size 45 (mtC Mt.z) (0, 0) _ (.int .i64 50) (by rfl) (by rfl) HXS.out Tryz.underlying45 rfl (mtC_size _)) rfl ?_
      exact Dec5.no HSN.out HBR.out
  · have hc2 : (c == 0) = false := by simpa using hc
    have HSN : Hid (¬ ∃ m', Says l m') := hidden fun ⟨m', h⟩ => by have := h.length.2; omega
    obtain ⟨HXS, HBR⟩ := HNO.out _ HX2.out HW2.out
    have hc3 : ¬ c = 0 := hc
    clear HM hc h40
    go_wp2_with (refine wpList_store_row rfl _ _ _ rfl w.heap.size (mtC Mt.z) (by rfl) (by rfl) 45 _ HX2.out (mtC_size _) (by rfl) (mtC_one _) ?_)
    refine bodyPost_ret (results_row2 rfl _ _ w.heap.size 45 (mtC Mt.z) (0, 0) _ (.int .i64 50) (by rfl) (by rfl) HXS.out Tryz.underlying45 rfl (mtC_size _)) rfl ?_
    exact Dec5.no HSN.out HBR.out

/-- The meta that stands in a slot. -/
def StIs (l : List Int) (s : Int) (m : Mt) : Prop := (Says l m ∧ m.tx % 2 = s) ∨ (m = Mt.z ∧ ∀ m', Says l m' → m'.tx % 2 ≠ s)
def St5 (l : List Int) (s : Int) (w : World) (e : Ending) (w' : World) : Prop := ∃ m, e = .returned (mtV m) ∧ StIs l s m ∧ Below w.heap.size w w'
set_option maxRecDepth 100000 in
theorem St5.mk {l : List Int} {s : Int} {w w' : World} {m : Mt} (h : StIs l s m) (hb : Below w.heap.size w w') : St5 l s w (.returned (.agg (mtC m))) w' := ⟨m, rfl, h, hb⟩

set_option maxRecDepth 100000 in
set_option maxHeartbeats 2000000 in
theorem standing_any (ao : Option Addr) (n cap : Nat) (l : List Int) (s : Int) (w : World) (hs : Sl w ao n cap l) (ht : Tab w) (h0 : 0 < w.heap.size) : Calls Tryz.prog 32 #[.slice ao n cap, .int .i64 s] w fun e w' => St5 l s w e w' := by
  have HD := hidden (decode_any ao n cap l (w.alloc (.cells (mtC Mt.z) 45)) (hs.on (Nat.le_refl _) ((Below.refl _ _).alloc (Nat.le_refl _) _)) (ht.on ((Below.refl _ _).alloc (Nat.le_refl _) _) h0) (by simp))
  clear hs ht
  go_enter Tryz.func32, Tryz.ntmps32
  go_wp2_with (go_at_call 55; refine HD.out.mono ?_; rintro e w1 ⟨m, c, rfl, hm, hb1⟩; have HM := hidden hm; have HB1 := hidden hb1; clear hm hb1; refine Hid.out ?_)
  apply hidden
  have HX1 := hidden ((HB1.out.block _ (by simp)).trans (heap_alloc_last w (.cells (mtC Mt.z) 45)))
  have HBW := hidden (bl_go (bl_al (Below.refl _ w) (Nat.le_refl _) _) (Nat.le_refl _) HB1.out)
  clear HD HB1
  rw [mtV_eq]
  have HX2 := hidden ((Below.heap_alloc w1 (.cells (mtC m) 45) _ (lt_some HX1.out)).trans HX1.out)
  have HW2 := hidden (bl_al HBW.out (Nat.le_refl _) (.cells (mtC m) 45))
  have HM2 := hidden (heap_alloc_last w1 (.cells (mtC m) 45))
  have hlt1 : w.heap.size < w1.heap.size := lt_some HX1.out
  clear HX1 HBW
  have HNO : Hid (∀ m', Hid (((w1.alloc (.cells (mtC m) 45)).setRow w.heap.size (mtC m')).heap[w.heap.size]? = some (.cells (mtC m') 45 (0, 0))) ∧ Hid (Below w.heap.size w ((w1.alloc (.cells (mtC m) 45)).setRow w.heap.size (mtC m')))) :=
    hidden fun m' => ⟨setRow_heap _ _ _ _ _ _ HX2.out, below_setRow HW2.out (Nat.le_refl _) _⟩
  rcases HM.out with ⟨hs, rfl⟩ | ⟨hn, rfl, rfl⟩
  · obtain ⟨c0, c1, c2, c3, c4, c5, c6, c7⟩ := row8 HM2.out
    have HSY := hidden hs
    have HSL := hidden (slot_any m.tx (w1.alloc (.cells (mtC m) 45)))
    clear hs HM
    by_cases he : m.tx % 2 = s
    · have hE : Hid (StIs l s m) := hidden (.inl ⟨HSY.out, he⟩)
      obtain ⟨HXS, HBR⟩ := HNO.out m
      go_wp2_with (first
        | (go_at_call 61; refine same_call HSL.out ?_)
        | (refine wpList_store_row rfl _ _ _ rfl w.heap.size (mtC m) (by rfl) (by rfl) 45 _ HX2.out (mtC_size _) (by rfl) (mtC_one _) ?_))
      refine bodyPost_ret (results_cell_row rfl _ _ w.heap.size 45 (mtC m) (0, 0) _ (by rfl) HXS.out Tryz.underlying45 rfl (mtC_size _)) rfl ?_
      exact St5.mk hE.out HBR.out
    · have hE : Hid (StIs l s Mt.z) := hidden (.inr ⟨rfl, fun m' h => by rw [h.one HSY.out]; exact he⟩)
      obtain ⟨HXS, HBR⟩ := HNO.out Mt.z
      go_wp2_with (first
        | (go_at_call 61; refine same_call HSL.out ?_)
        | (refine wpList_store_row rfl _ _ _ rfl w.heap.size (mtC Mt.z) (by rfl) (by rfl) 45 _ HX2.out (mtC_size _) (by rfl) (mtC_one _) ?_))
      refine bodyPost_ret (results_cell_row rfl _ _ w.heap.size 45 (mtC Mt.z) (0, 0) _ (by rfl) HXS.out Tryz.underlying45 rfl (mtC_size _)) rfl ?_
      exact St5.mk hE.out HBR.out
  · have hE : Hid (StIs l s Mt.z) := hidden (.inr ⟨rfl, fun m' h => absurd ⟨m', h⟩ hn⟩)
    obtain ⟨HXS, HBR⟩ := HNO.out Mt.z
    clear hn HM
    go_wp2_with (refine wpList_store_row rfl _ _ _ rfl w.heap.size (mtC Mt.z) (by rfl) (by rfl) 45 _ HX2.out (mtC_size _) (by rfl) (mtC_one _) ?_)
    refine bodyPost_ret (results_cell_row rfl _ _ w.heap.size 45 (mtC Mt.z) (0, 0) _ (by rfl) HXS.out Tryz.underlying45 rfl (mtC_size _)) rfl ?_
    exact St5.mk hE.out HBR.out
end Go.Proofs.YtbnjojplfbibkaaGreatDoor
