/- Of two pages, each in its place, the next commit's is picked; beside what is none, the commit's own. -/
import Derived.Test.YtoifjcliepongaaDoorMn
namespace Go.Proofs.YtoifjcliepongaaDoor
open Go.RowKit

set_option maxRecDepth 100000 in
/-- The next one stands second. -/
theorem ChIs.after {la lb : List Int} {m m1 m2 : Mt} {s c : Int} (h : ChIs la lb m s c) (h1 : Says la m1) (k1 : m1.tx % 2 = 0) (h2 : Says lb m2) (k2 : m2.tx % 2 = 1) (hlt : m1.tx < m2.tx) : m = m2 ∧ s = 1 ∧ c = 0 := by
  rcases h.pk (.inl ⟨h1, k1⟩) (.inl ⟨h2, k2⟩) with ⟨e, _⟩ | ⟨_, e, _⟩ | ⟨_, _, k⟩
  · exact absurd e h1.nz
  · rcases e with e | e
    · exact absurd e h2.nz
    · omega
  · exact k
set_option maxRecDepth 100000 in
/-- The next one stands first. -/
theorem ChIs.ahead {la lb : List Int} {m m1 m2 : Mt} {s c : Int} (h : ChIs la lb m s c) (h1 : Says la m1) (k1 : m1.tx % 2 = 0) (h2 : Says lb m2) (k2 : m2.tx % 2 = 1) (hlt : m2.tx < m1.tx) : m = m1 ∧ s = 0 ∧ c = 0 := by
  rcases h.pk (.inl ⟨h1, k1⟩) (.inl ⟨h2, k2⟩) with ⟨e, _⟩ | ⟨_, _, k⟩ | ⟨_, e, _⟩
  · exact absurd e h1.nz
  · exact k
  · omega
set_option maxRecDepth 100000 in
theorem two_cells {w : World} {m m' : Mt} {t t' : TypeId} : ((w.alloc (.cells (mtC m) t)).alloc (.cells (mtC m') t')).heap[w.heap.size]? = some (.cells (mtC m) t (0, 0)) := heap_alloc2_old w _ _

set_option maxRecDepth 100000 in
set_option maxHeartbeats 2000000 in
theorem newer_any (ao bo : Option Addr) (n k ca cb : Nat) (m m' : Mt) (w : World) (ha : Sl w ao n ca (pageB m)) (hb : Sl w bo k cb (pageB m')) (ht : Tab w) (h0 : 0 < w.heap.size) (hm : m.ok) (hm' : m'.ok) (hx : m'.tx = m.tx + 1) :
    Calls Tryd.prog 21 #[.slice ao n ca, .slice bo k cb, mtV m, mtV m'] w fun e w' => Yes5 w e w' := by
  have HA := hidden ha
  have HB := hidden hb
  have HT := hidden ht
  have HM := hidden (says_page hm)
  have HM' := hidden (says_page hm')
  have HX := hidden hx
  clear ha hb ht hm hm' hx
  have HSL := fun v => hidden (slot_any m.tx v)
  have HBX : Hid (Below w.heap.size w ((w.alloc (.cells (mtC m) 24)).alloc (.cells (mtC m') 24))) := hidden (bl_al (bl_al (Below.refl _ w) (Nat.le_refl _) _) (Nat.le_refl _) _)
  have HEQ : Hid (∀ u, (Op.equalIn 10000 24 (mtV m') (mtV m')).run Tryd.prog u = .ok true u) := hidden (eq_yes m')
  have he := HEQ.out
  rw [mtV_eq] at he
  rw [mtV_eq, mtV_eq]
  by_cases hp : m.tx % 2 = 0
  · rw [hp] at HSL
    have HCH := hidden (choose_any ao bo n k ca cb (pageB m) (pageB m') _ (HA.out.on (Nat.le_refl _) HBX.out) (HB.out.on (Nat.le_refl _) HBX.out) (HT.out.on HBX.out h0) (Nat.lt_of_lt_of_le h0 HBX.out.size))
    go_enter Tryd.func21, Tryd.ntmps21
    go_wp2_with (first
      | (go_at_call 11; refine same_call (HSL _).out ?_)
      | (go_at_call 17; refine HCH.out.mono ?_; rintro e w1 ⟨m1, s1, c1, rfl, hk, hb1⟩; have HK := hidden hk; have HB1 := hidden hb1; clear hk hb1; refine Hid.out ?_))
    apply hidden
    obtain ⟨rfl, rfl, rfl⟩ := HK.out.after HM.out hp HM'.out (by have := HX.out; omega) (by have := HX.out; omega)
    rw [mtV_eq]
    have HR := hidden (box_on (heap_alloc2_new w (.cells (mtC m) 24) (.cells (mtC m1) 24)) HB1.out)
    obtain ⟨c0, c1, c2, c3, c4, c5, c6, c7⟩ := row8 HR.out
    have hl := lt_some HR.out
    have HEND := hidden (bl_al (bl_go HBX.out (Nat.le_refl _) HB1.out) (Nat.le_refl _) (.cells (mtC m1) 24))
    clear HCH HK HB1 HBX HR HEQ
    go_wp2
    go_ret
    exact ⟨rfl, HEND.out⟩
  · have hp1 : m.tx % 2 = 1 := by omega
    rw [hp1] at HSL
    have HCH := hidden (choose_any bo ao k n cb ca (pageB m') (pageB m) _ (HB.out.on (Nat.le_refl _) HBX.out) (HA.out.on (Nat.le_refl _) HBX.out) (HT.out.on HBX.out h0) (Nat.lt_of_lt_of_le h0 HBX.out.size))
    go_enter Tryd.func21, Tryd.ntmps21
    go_wp2_with (first
      | (go_at_call 11; refine same_call (HSL _).out ?_)
      | (go_at_call 17; refine HCH.out.mono ?_; rintro e w1 ⟨m1, s1, c1, rfl, hk, hb1⟩; have HK := hidden hk; have HB1 := hidden hb1; clear hk hb1; refine Hid.out ?_))
    apply hidden
    obtain ⟨rfl, rfl, rfl⟩ := HK.out.ahead HM'.out (by have := HX.out; omega) HM.out hp1 (by have := HX.out; omega)
    rw [mtV_eq]
    have HR := hidden (box_on (heap_alloc2_new w (.cells (mtC m) 24) (.cells (mtC m1) 24)) HB1.out)
    obtain ⟨c0, c1, c2, c3, c4, c5, c6, c7⟩ := row8 HR.out
    have hl := lt_some HR.out
    have HEND := hidden (bl_al (bl_go HBX.out (Nat.le_refl _) HB1.out) (Nat.le_refl _) (.cells (mtC m1) 24))
    clear HCH HK HB1 HBX HR HEQ
    go_wp2
    go_ret
    exact ⟨rfl, HEND.out⟩

set_option maxRecDepth 100000 in
set_option maxHeartbeats 2000000 in
theorem alone_any (ao bo : Option Addr) (n k ca cb : Nat) (m : Mt) (lo : List Int) (w : World) (ha : Sl w ao n ca (pageB m)) (hb : Sl w bo k cb lo) (ht : Tab w) (h0 : 0 < w.heap.size) (hm : m.ok) (hn : ¬ ∃ m', Says lo m') :
    Calls Tryd.prog 22 #[.slice ao n ca, .slice bo k cb, mtV m] w fun e w' => Yes5 w e w' := by
  have HA := hidden ha
  have HB := hidden hb
  have HT := hidden ht
  have HM := hidden (says_page hm)
  have HN := hidden hn
  clear ha hb ht hm hn
  have HSL := fun v => hidden (slot_any m.tx v)
  have HBX : Hid (Below w.heap.size w (w.alloc (.cells (mtC m) 24))) := hidden (bl_al (Below.refl _ w) (Nat.le_refl _) _)
  have HEQ : Hid (∀ u, (Op.equalIn 10000 24 (mtV m) (mtV m)).run Tryd.prog u = .ok true u) := hidden (eq_yes m)
  have he := HEQ.out
  rw [mtV_eq] at he
  rw [mtV_eq]
  by_cases hp : m.tx % 2 = 0
  · rw [hp] at HSL
    have HCH := hidden (choose_any ao bo n k ca cb (pageB m) lo _ (HA.out.on (Nat.le_refl _) HBX.out) (HB.out.on (Nat.le_refl _) HBX.out) (HT.out.on HBX.out h0) (Nat.lt_of_lt_of_le h0 HBX.out.size))
    go_enter Tryd.func22, Tryd.ntmps22
    go_wp2_with (first
      | (go_at_call 11; refine same_call (HSL _).out ?_)
      | (go_at_call 17; refine HCH.out.mono ?_; rintro e w1 ⟨m1, s1, c1, rfl, hk, hb1⟩; have HK := hidden hk; have HB1 := hidden hb1; clear hk hb1; refine Hid.out ?_))
    apply hidden
    obtain ⟨rfl, rfl, rfl⟩ := HK.out.first HM.out hp (StIs.none 1 HN.out)
    rw [mtV_eq]
    have HR := hidden (box_on (row_new w m1 24) HB1.out)
    have HR2 := hidden (box_on HR.out ((Below.refl _ _).alloc (Nat.le_refl _) (.cells (mtC m1) 24)))
    have HW2 := hidden (bl_al (bl_go HBX.out (Nat.le_refl _) HB1.out) (Nat.le_refl _) (.cells (mtC m1) 24))
    have HQ2 := hidden (row_new w1 m1 24)
    clear HCH HK HB1 HBX HR HEQ
    have HCH := hidden (choose_any bo ao k n cb ca lo (pageB m1) _ (HB.out.on (Nat.le_refl _) HW2.out) (HA.out.on (Nat.le_refl _) HW2.out) (HT.out.on HW2.out h0) (Nat.lt_of_lt_of_le h0 HW2.out.size))
    go_wp2_with (go_at_call 17; refine HCH.out.mono ?_; rintro e w3 ⟨m3, s3, c3, rfl, hk, hb3⟩; have HK2 := hidden hk; have HB3 := hidden hb3; clear hk hb3; refine Hid.out ?_)
    apply hidden
    obtain ⟨rfl, rfl, rfl⟩ := HK2.out.neither (StIs.none 0 HN.out) (StIs.other HM.out (by omega))
    have HR3 := hidden (box_on HR2.out HB3.out)
    have HQ3 := hidden (box_on HQ2.out HB3.out)
    have HW3 := hidden (bl_go HW2.out (Nat.le_refl _) HB3.out)
    obtain ⟨b5, hb5⟩ : ∃ b, w1.heap.size = b := ⟨_, rfl⟩
    rw [hb5] at HQ3 ⊢
    obtain ⟨c0, c1, c2, c3, c4, c5, c6, c7⟩ := row8 HR3.out
    obtain ⟨d0, d1, d2, d3, d4, d5, d6, d7⟩ := row8 HQ3.out
    rw [mtV_eq]
    have hl := lt_some HR3.out
    have hl2 := lt_some HQ3.out
    have HW4 := hidden (bl_al HW3.out (Nat.le_refl _) (.cells (mtC Mt.z) 24))
    clear HCH HK2 HB3 HR2 HQ2 HR3 HQ3 HW2
    go_wp2
    go_ret
    exact ⟨rfl, by first | exact HW3.out | exact HW4.out⟩
  · have hp1 : m.tx % 2 = 1 := by omega
    rw [hp1] at HSL
    have HCH := hidden (choose_any bo ao k n cb ca lo (pageB m) _ (HB.out.on (Nat.le_refl _) HBX.out) (HA.out.on (Nat.le_refl _) HBX.out) (HT.out.on HBX.out h0) (Nat.lt_of_lt_of_le h0 HBX.out.size))
    go_enter Tryd.func22, Tryd.ntmps22
    go_wp2_with (first
      | (go_at_call 11; refine same_call (HSL _).out ?_)
      | (go_at_call 17; refine HCH.out.mono ?_; rintro e w1 ⟨m1, s1, c1, rfl, hk, hb1⟩; have HK := hidden hk; have HB1 := hidden hb1; clear hk hb1; refine Hid.out ?_))
    apply hidden
    obtain ⟨rfl, rfl, rfl⟩ := HK.out.second (StIs.none 0 HN.out) HM.out hp1
    rw [mtV_eq]
    have HR := hidden (box_on (row_new w m1 24) HB1.out)
    have HR2 := hidden (box_on HR.out ((Below.refl _ _).alloc (Nat.le_refl _) (.cells (mtC m1) 24)))
    have HW2 := hidden (bl_al (bl_go HBX.out (Nat.le_refl _) HB1.out) (Nat.le_refl _) (.cells (mtC m1) 24))
    have HQ2 := hidden (row_new w1 m1 24)
    clear HCH HK HB1 HBX HR HEQ
    have HCH := hidden (choose_any ao bo n k ca cb (pageB m1) lo _ (HA.out.on (Nat.le_refl _) HW2.out) (HB.out.on (Nat.le_refl _) HW2.out) (HT.out.on HW2.out h0) (Nat.lt_of_lt_of_le h0 HW2.out.size))
    go_wp2_with (go_at_call 17; refine HCH.out.mono ?_; rintro e w3 ⟨m3, s3, c3, rfl, hk, hb3⟩; have HK2 := hidden hk; have HB3 := hidden hb3; clear hk hb3; refine Hid.out ?_)
    apply hidden
    obtain ⟨rfl, rfl, rfl⟩ := HK2.out.neither (StIs.other HM.out (by omega)) (StIs.none 1 HN.out)
    have HR3 := hidden (box_on HR2.out HB3.out)
    have HQ3 := hidden (box_on HQ2.out HB3.out)
    have HW3 := hidden (bl_go HW2.out (Nat.le_refl _) HB3.out)
    obtain ⟨b5, hb5⟩ : ∃ b, w1.heap.size = b := ⟨_, rfl⟩
    rw [hb5] at HQ3 ⊢
    obtain ⟨c0, c1, c2, c3, c4, c5, c6, c7⟩ := row8 HR3.out
    obtain ⟨d0, d1, d2, d3, d4, d5, d6, d7⟩ := row8 HQ3.out
    rw [mtV_eq]
    have hl := lt_some HR3.out
    have hl2 := lt_some HQ3.out
    have HW4 := hidden (bl_al HW3.out (Nat.le_refl _) (.cells (mtC Mt.z) 24))
    clear HCH HK2 HB3 HR2 HQ2 HR3 HQ3 HW2
    go_wp2
    go_ret
    exact ⟨rfl, by first | exact HW3.out | exact HW4.out⟩
end Go.Proofs.YtoifjcliepongaaDoor
