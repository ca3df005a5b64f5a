/- The walk of the law MetaHolds. -/
import Derived.Test.YtoifjcliepongaaDoorMq
namespace Go.Proofs.YtoifjcliepongaaDoor
open Go.RowKit

/-- The next commit's meta. -/
def Mt.next (m : Mt) : Mt := ⟨m.en, m.pg, m.tx + 1, m.ro, m.co, m.fr, m.li, m.hi⟩
set_option maxRecDepth 100000 in
theorem next_ok {m : Mt} (h : m.ok) : m.next.ok ↔ m.tx < 1099511627776 := by
  obtain ⟨h1, h2, h3, h4, h5, h6, h7, h8, h9, h10, h11⟩ := h
  constructor
  · intro k
    have : m.tx + 1 ≤ 1099511627776 := k.tx.2
    omega
  · intro k
    exact ⟨h1, h2, (show 0 ≤ m.tx + 1 ∧ m.tx + 1 ≤ 1099511627776 by omega), h4, h5, h6, h7, h8, h9, h10, h11⟩
set_option maxRecDepth 100000 in
theorem mtV_next (m : Mt) : mtV m.next = .agg #[.int .i64 m.en, .int .i64 m.pg, .int .i64 (m.tx + 1), .int .i64 m.ro, .int .i64 m.co, .int .i64 m.fr, .int .i64 m.li, .int .i64 m.hi] := rfl

set_option maxRecDepth 100000 in
set_option maxHeartbeats 4000000 in
theorem walk_MetaHolds (m : Mt) (p : Int) (ao : Option Addr) (k ca : Nat) (lt : List Int) (bo : Option Addr) (q cb : Nat) (lo : List Int) (w : World) (ht : Tab w) (h0 : 0 < w.heap.size) (hp : -9223372036854775808 ≤ p ∧ p ≤ 9223372036854775807) (ha : Sl w ao k ca lt) (hb : Sl w bo q cb lo) :
    Calls Tryd.prog 6 #[mtV m, .int .i64 p, .slice ao k ca, .slice bo q cb] w fun e w' => e = .returned (.bool true) ∧ Below w.heap.size w w' := by
  have HA := hidden ha
  have HB := hidden hb
  have HT := hidden ht
  clear ha hb ht
  have HBX : Hid (Below w.heap.size w (w.alloc (.cells (mtC m) 24))) := hidden (bl_al (Below.refl _ w) (Nat.le_refl _) _)
  have HAW := hidden (awake_any (w.alloc (.cells (mtC m) 24)) (HT.out.on HBX.out h0) (Nat.lt_of_lt_of_le h0 HBX.out.size))
  rw [mtV_eq]
  go_enter Tryd.func6, Tryd.ntmps6
  go_wp2_with (go_at_call 7; refine HAW.out.mono ?_; rintro e w1 ⟨rfl, hb1⟩; have HB1 := hidden hb1; clear hb1; refine Hid.out ?_)
  apply hidden
  have HR1 := hidden (box_on (row_new w m 24) HB1.out)
  have HW1 := hidden (bl_go HBX.out (Nat.le_refl _) HB1.out)
  clear HAW HB1 HBX
  obtain ⟨c0, c1, c2, c3, c4, c5, c6, c7⟩ := row8 HR1.out
  have HCK := hidden (check_any m w1)
  go_wp2_with (go_at_call 8; rw [← mtV_eq]; refine HCK.out.mono ?_; rintro e w2 ⟨j, rfl, hj, hb2⟩; have HJ := hidden hj; have HB2 := hidden hb2; clear hj hb2; rw [mtV_eq]; refine Hid.out ?_)
  apply hidden
  have HR2 := hidden (box_on HR1.out HB2.out)
  have HW2 := hidden (bl_go HW1.out (Nat.le_refl _) HB2.out)
  clear HCK HB2 HR1 HW1 c0 c1 c2 c3 c4 c5 c6 c7
  obtain ⟨c0, c1, c2, c3, c4, c5, c6, c7⟩ := row8 HR2.out
  by_cases hm : m.ok
  · obtain rfl : j = 0 := by
      rcases HJ.out with h | h
      · exact h.2
      · exact absurd hm h.1
    have HM := hidden hm
    have hpg := pw_le hm.pg
    have htx := hm.tx
    have hcast : ((m.pg.toNat : Nat) : Int) = m.pg := by omega
    clear hm HJ
    have HEN := hidden (encode_yes m w2 (HT.out.on HW2.out h0) (Nat.lt_of_lt_of_le h0 HW2.out.size) HM.out)
    go_wp2_with (go_at_call 9; rw [← mtV_eq]; refine HEN.out.mono ?_; rintro e w3 ⟨g, rfl, hgw, hk3, hb3⟩; have HK3 := hidden hk3; have HB3 := hidden hb3; clear hk3 hb3 hgw; rw [mtV_eq]; refine Hid.out ?_)
    apply hidden
    have HR3 := hidden (box_on HR2.out HB3.out)
    have HW3 := hidden (bl_go HW2.out (Nat.le_refl _) HB3.out)
    have HPL := hidden (pageB_length m HM.out)
    have HPW := hidden (pageB_wf m)
    obtain ⟨P, hP⟩ : ∃ P, m.pg.toNat = P := ⟨_, rfl⟩
    rw [hP] at hcast HPL ⊢
    have hPr : P ≤ 65536 := by omega
    clear HEN HB3 HR2 HW2 c0 c1 c2 c3 c4 c5 c6 c7 hP
    have HDE := hidden (decode_any (some ⟨g, 0, none⟩) P P (pageB m) w3 (HK3.out.sl HPL.out HPW.out (by omega)) (HT.out.on HW3.out h0) (Nat.lt_of_lt_of_le h0 HW3.out.size))
    go_wp2_with (go_at_call 16; refine HDE.out.mono ?_; rintro e w4 ⟨m4, k4, rfl, hk4, hb4⟩; have HK4 := hidden hk4; have HB4 := hidden hb4; clear hk4 hb4; refine Hid.out ?_)
    apply hidden
    obtain ⟨e1, rfl⟩ : m4 = m ∧ k4 = 0 := by
      rcases HK4.out with h | h
      · exact ⟨h.1.one (says_page HM.out), h.2⟩
      · exact absurd ⟨m, says_page HM.out⟩ h.1
    rw [e1, mtV_eq]
    have HK5 : Hid (Bk (w4.alloc (.cells (mtC m) 24)) g (pageB m)) := hidden ((HK3.out.on HB4.out).on ((Below.refl _ _).alloc (Nat.le_refl _) _))
    have HR5 : Hid ((w4.alloc (.cells (mtC m) 24)).heap[w.heap.size]? = some (.cells (mtC m) 24 (0, 0))) := hidden (box_on (box_on HR3.out HB4.out) ((Below.refl _ _).alloc (Nat.le_refl _) _))
    have HW5 := hidden (bl_al (bl_go HW3.out (Nat.le_refl _) HB4.out) (Nat.le_refl _) (.cells (mtC m) 24))
    have HR4 := hidden (box_on HR3.out HB4.out)
    have hl4 := lt_some HR4.out
    obtain ⟨c0, c1, c2, c3, c4, c5, c6, c7⟩ := row8 HR4.out
    have HEQ : Hid (∀ u, (Op.equalIn 10000 24 (mtV m) (mtV m)).run Tryd.prog u = .ok true u) := hidden (eq_yes m)
    have he := HEQ.out
    rw [mtV_eq] at he
    clear HDE HK4 HB4 HK3 HR3 HW3 e1
    have HW6 := hidden (bl_al HW5.out (Nat.le_refl _) (.cells (mtC m.next) 24))
    have HK6 := hidden (HK5.out.on ((Below.refl _ _).alloc (Nat.le_refl _) (.cells (mtC m.next) 24)))
    have HR6 := hidden (box_on HR5.out ((Below.refl _ _).alloc (Nat.le_refl _) (.cells (mtC m.next) 24)))
    have HN6 := hidden (row_new (w4.alloc (.cells (mtC m) 24)) m.next 24)
    by_cases hnx : m.tx < 1099511627776
    · have HNX := hidden ((next_ok HM.out).2 hnx)
      have HEN := hidden (encode_yes m.next _ (HT.out.on HW6.out h0) (Nat.lt_of_lt_of_le h0 HW6.out.size) HNX.out)
      go_wp2_with (go_at_call 9; rw [← mtV_next]; refine HEN.out.mono ?_; rintro e w7 ⟨g2, rfl, hgw, hk7, hb7⟩; have HG7 := hidden hk7; have HB7 := hidden hb7; clear hk7 hb7 hgw; rw [mtV_next]; refine Hid.out ?_)
      apply hidden
      have hP2 : m.next.pg.toNat = P := by show m.pg.toNat = P; omega
      rw [hP2]
      have HK7 := hidden (HK6.out.on HB7.out)
      have HR7 := hidden (box_on HR6.out HB7.out)
      have HN7 := hidden (box_on HN6.out HB7.out)
      have HW7 := hidden (bl_go HW6.out (Nat.le_refl _) HB7.out)
      have HPL2 := hidden ((pageB_length m.next HNX.out).trans hP2)
      clear c0 c1 c2 c3 c4 c5 c6 c7 HEN HB7 HK5 HR5 HW5 HR4 HK6 HR6 HN6 HW6 hP2
      obtain ⟨c0, c1, c2, c3, c4, c5, c6, c7⟩ := row8 HR7.out
      obtain ⟨d0, d1, d2, d3, d4, d5, d6, d7⟩ := row8 HN7.out
      have hnsz : (w4.alloc (.cells (mtC m) 24)).heap.size = w4.heap.size + 1 := by simp
      rw [hnsz] at d0 d1 d2 d3 d4 d5 d6 d7
      have hnt : m.next.tx = m.tx + 1 := rfl
      simp only [Mt.next] at d0 d1 d2 d3 d4 d5 d6 d7
      clear hnsz
      have HNE := hidden (newer_any (some ⟨g, 0, none⟩) (some ⟨g2, 0, none⟩) P P P P m m.next w7 (HK7.out.sl HPL.out HPW.out (by omega)) (HG7.out.sl HPL2.out (pageB_wf _) (by omega)) (HT.out.on HW7.out h0) (Nat.lt_of_lt_of_le h0 HW7.out.size) HM.out HNX.out rfl)
      go_wp2_with (go_at_call 21; rw [← mtV_eq, ← mtV_next]; refine HNE.out.mono ?_; rintro e w8 ⟨rfl, hb8⟩; have HB8 := hidden hb8; clear hb8; rw [mtV_eq, mtV_next]; refine Hid.out ?_)
      apply hidden
      have HKx := hidden (HK7.out.on HB8.out)
      have HRx := hidden (box_on HR7.out HB8.out)
      have HWx := hidden (bl_go HW7.out (Nat.le_refl _) HB8.out)
      clear c0 c1 c2 c3 c4 c5 c6 c7 d0 d1 d2 d3 d4 d5 d6 d7 HNE HB8 HK7 HR7 HN7 HW7 HG7
      have HDE := hidden (decode_any bo q cb lo w8 (HB.out.on (Nat.le_refl _) HWx.out) (HT.out.on HWx.out h0) (Nat.lt_of_lt_of_le h0 HWx.out.size))
      go_wp2_with (go_at_call 16; refine HDE.out.mono ?_; rintro e w9 ⟨m9, k9, rfl, hk9, hb9⟩; have HK9 := hidden hk9; have HB9 := hidden hb9; clear hk9 hb9; refine Hid.out ?_)
      apply hidden
      rw [mtV_eq]
      have HK10 : Hid (Bk (w9.alloc (.cells (mtC m9) 24)) g (pageB m)) := hidden ((HKx.out.on HB9.out).on ((Below.refl _ _).alloc (Nat.le_refl _) _))
      have HR9 := hidden (box_on HRx.out HB9.out)
      have hl9 := lt_some HR9.out
      have HW10 := hidden (bl_al (bl_go HWx.out (Nat.le_refl _) HB9.out) (Nat.le_refl _) (.cells (mtC m9) 24))
      clear HDE HB9 HKx HRx HWx
      obtain ⟨c0, c1, c2, c3, c4, c5, c6, c7⟩ := row8 HR9.out
      by_cases hk9 : k9 = 0
      · subst hk9
        have HTU := hidden (turned_any (some ⟨g, 0, none⟩) ao P k P ca m p lt _ (HK10.out.sl HPL.out HPW.out (by omega)) (HA.out.on (Nat.le_refl _) HW10.out) (HT.out.on HW10.out h0) (Nat.lt_of_lt_of_le h0 HW10.out.size) HM.out hp.1 hp.2)
        clear HK9
        go_wp2_with (go_at_call 23; refine HTU.out.mono ?_; rintro e w11 ⟨rfl, hb11⟩; have HB11 := hidden hb11; clear hb11)
        go_ret
        exact ⟨rfl, bl_go HW10.out (Nat.le_refl _) HB11.out⟩
      · have HNS : Hid (¬ ∃ m', Says lo m') := hidden (by
          rcases HK9.out with h | h
          · exact absurd h.2 hk9
          · exact h.1)
        have HAL := hidden (alone_any (some ⟨g, 0, none⟩) bo P q P cb m lo _ (HK10.out.sl HPL.out HPW.out (by omega)) (HB.out.on (Nat.le_refl _) HW10.out) (HT.out.on HW10.out h0) (Nat.lt_of_lt_of_le h0 HW10.out.size) HM.out HNS.out)
        clear HK9
        go_wp2_with (go_at_call 22; rw [← mtV_eq]; refine HAL.out.mono ?_; rintro e w11 ⟨rfl, hb11⟩; have HB11 := hidden hb11; clear hb11; rw [mtV_eq]; refine Hid.out ?_)
        apply hidden
        have HK11 := hidden (HK10.out.on HB11.out)
        have HW11 := hidden (bl_go HW10.out (Nat.le_refl _) HB11.out)
        have HTU := hidden (turned_any (some ⟨g, 0, none⟩) ao P k P ca m p lt w11 (HK11.out.sl HPL.out HPW.out (by omega)) (HA.out.on (Nat.le_refl _) HW11.out) (HT.out.on HW11.out h0) (Nat.lt_of_lt_of_le h0 HW11.out.size) HM.out hp.1 hp.2)
        clear HAL HB11
        go_wp2_with (go_at_call 23; refine HTU.out.mono ?_; rintro e w12 ⟨rfl, hb12⟩; have HB12 := hidden hb12; clear hb12)
        go_ret
        exact ⟨rfl, bl_go HW11.out (Nat.le_refl _) HB12.out⟩
    · have HNX : Hid (¬ m.next.ok) := hidden fun h => hnx ((next_ok HM.out).1 h)
      have HEN := hidden (encode_no m.next _ (HT.out.on HW6.out h0) (Nat.lt_of_lt_of_le h0 HW6.out.size) HNX.out)
      go_wp2_with (go_at_call 9; rw [← mtV_next]; refine HEN.out.mono ?_; rintro e w7 ⟨rfl, hb7⟩; have HB7 := hidden hb7; clear hb7; rw [mtV_next]; refine Hid.out ?_)
      apply hidden
      have HKx := hidden (HK6.out.on HB7.out)
      have HRx := hidden (box_on HR6.out HB7.out)
      have HWx := hidden (bl_go HW6.out (Nat.le_refl _) HB7.out)
      clear c0 c1 c2 c3 c4 c5 c6 c7 HEN HB7 HK5 HR5 HW5 HR4 HK6 HR6 HN6 HW6
      obtain ⟨c0, c1, c2, c3, c4, c5, c6, c7⟩ := row8 HRx.out
      have HDE := hidden (decode_any bo q cb lo w7 (HB.out.on (Nat.le_refl _) HWx.out) (HT.out.on HWx.out h0) (Nat.lt_of_lt_of_le h0 HWx.out.size))
      go_wp2_with (go_at_call 16; refine HDE.out.mono ?_; rintro e w9 ⟨m9, k9, rfl, hk9, hb9⟩; have HK9 := hidden hk9; have HB9 := hidden hb9; clear hk9 hb9; refine Hid.out ?_)
      apply hidden
      rw [mtV_eq]
      have HK10 : Hid (Bk (w9.alloc (.cells (mtC m9) 24)) g (pageB m)) := hidden ((HKx.out.on HB9.out).on ((Below.refl _ _).alloc (Nat.le_refl _) _))
      have HR9 := hidden (box_on HRx.out HB9.out)
      have hl9 := lt_some HR9.out
      have HW10 := hidden (bl_al (bl_go HWx.out (Nat.le_refl _) HB9.out) (Nat.le_refl _) (.cells (mtC m9) 24))
      clear HDE HB9 HKx HRx HWx c0 c1 c2 c3 c4 c5 c6 c7
      obtain ⟨c0, c1, c2, c3, c4, c5, c6, c7⟩ := row8 HR9.out
      by_cases hk9 : k9 = 0
      · subst hk9
        have HTU := hidden (turned_any (some ⟨g, 0, none⟩) ao P k P ca m p lt _ (HK10.out.sl HPL.out HPW.out (by omega)) (HA.out.on (Nat.le_refl _) HW10.out) (HT.out.on HW10.out h0) (Nat.lt_of_lt_of_le h0 HW10.out.size) HM.out hp.1 hp.2)
        clear HK9
        go_wp2_with (go_at_call 23; refine HTU.out.mono ?_; rintro e w11 ⟨rfl, hb11⟩; have HB11 := hidden hb11; clear hb11)
        go_ret
        exact ⟨rfl, bl_go HW10.out (Nat.le_refl _) HB11.out⟩
      · have HNS : Hid (¬ ∃ m', Says lo m') := hidden (by
          rcases HK9.out with h | h
          · exact absurd h.2 hk9
          · exact h.1)
        have HAL := hidden (alone_any (some ⟨g, 0, none⟩) bo P q P cb m lo _ (HK10.out.sl HPL.out HPW.out (by omega)) (HB.out.on (Nat.le_refl _) HW10.out) (HT.out.on HW10.out h0) (Nat.lt_of_lt_of_le h0 HW10.out.size) HM.out HNS.out)
        clear HK9
        go_wp2_with (go_at_call 22; rw [← mtV_eq]; refine HAL.out.mono ?_; rintro e w11 ⟨rfl, hb11⟩; have HB11 := hidden hb11; clear hb11; rw [mtV_eq]; refine Hid.out ?_)
        apply hidden
        have HK11 := hidden (HK10.out.on HB11.out)
        have HW11 := hidden (bl_go HW10.out (Nat.le_refl _) HB11.out)
        have HTU := hidden (turned_any (some ⟨g, 0, none⟩) ao P k P ca m p lt w11 (HK11.out.sl HPL.out HPW.out (by omega)) (HA.out.on (Nat.le_refl _) HW11.out) (HT.out.on HW11.out h0) (Nat.lt_of_lt_of_le h0 HW11.out.size) HM.out hp.1 hp.2)
        clear HAL HB11
        go_wp2_with (go_at_call 23; refine HTU.out.mono ?_; rintro e w12 ⟨rfl, hb12⟩; have HB12 := hidden hb12; clear hb12)
        go_ret
        exact ⟨rfl, bl_go HW11.out (Nat.le_refl _) HB12.out⟩
  · obtain rfl : j = 1 := by
      rcases HJ.out with h | h
      · exact absurd h.1 hm
      · exact h.2
    have HEN := hidden (encode_no m w2 (HT.out.on HW2.out h0) (Nat.lt_of_lt_of_le h0 HW2.out.size) hm)
    clear HJ hm
    go_wp2_with (go_at_call 9; rw [← mtV_eq]; refine HEN.out.mono ?_; rintro e w3 ⟨rfl, hb3⟩; have HB3 := hidden hb3; clear hb3; rw [mtV_eq])
    go_ret
    exact ⟨rfl, bl_go HW2.out (Nat.le_refl _) HB3.out⟩
end Go.Proofs.YtoifjcliepongaaDoor
