/- The chapter's first examples: awake answers true. -/
import Derived.Test.YtoifjcliepongaaDoorMm
namespace Go.Proofs.YtoifjcliepongaaDoor
open Go.RowKit

set_option maxRecDepth 100000 in
theorem StIs.det {l : List Int} {s : Int} {m n : Mt} (h : StIs l s m) (k : StIs l s n) : m = n := by
  rcases h with ⟨h1, h2⟩ | ⟨h1, h2⟩ <;> rcases k with ⟨k1, k2⟩ | ⟨k1, k2⟩
  · exact h1.one k1
  · exact absurd h2 (k2 m h1)
  · exact absurd k2 (h2 n k1)
  · rw [h1, k1]
set_option maxRecDepth 100000 in
theorem ChIs.pk {la lb : List Int} {m m1 m2 : Mt} {s c : Int} (h : ChIs la lb m s c) (h1 : StIs la 0 m1) (h2 : StIs lb 1 m2) : Pk m1 m2 m s c := by
  obtain ⟨n1, n2, k1, k2, k3⟩ := h
  rw [h1.det k1, h2.det k2]
  exact k3
set_option maxRecDepth 100000 in
theorem Mt.ok.nz {m : Mt} (h : m.ok) : m ≠ Mt.z := by
  rintro rfl
  have := h.en
  simp [Mt.z] at this
set_option maxRecDepth 100000 in
theorem Says.nz {l : List Int} {m : Mt} (h : Says l m) : m ≠ Mt.z := h.1.nz
set_option maxRecDepth 100000 in
theorem StIs.none {l : List Int} (s : Int) (h : ¬ ∃ m, Says l m) : StIs l s Mt.z := .inr ⟨rfl, fun m' k => absurd ⟨m', k⟩ h⟩
set_option maxRecDepth 100000 in
theorem StIs.other {l : List Int} {s : Int} {m : Mt} (h : Says l m) (hs : m.tx % 2 ≠ s) : StIs l s Mt.z := .inr ⟨rfl, fun m' k => by rw [k.one h]; exact hs⟩
set_option maxRecDepth 100000 in
theorem says_short {l : List Int} (h : l.length < 512) : ¬ ∃ m, Says l m := fun ⟨_, k⟩ => by have := k.length.2; omega
set_option maxRecDepth 100000 in
theorem says_page {m : Mt} (h : m.ok) : Says (pageB m) m := ⟨h, rfl⟩
set_option maxRecDepth 100000 in
/-- Only the second one counts. -/
theorem ChIs.second {la lb : List Int} {m m2 : Mt} {s c : Int} (h : ChIs la lb m s c) (h1 : StIs la 0 Mt.z) (h2 : Says lb m2) (h3 : m2.tx % 2 = 1) : m = m2 ∧ s = 1 ∧ c = 0 := by
  rcases h.pk h1 (.inl ⟨h2, h3⟩) with ⟨_, e, _⟩ | ⟨_, e, _⟩ | ⟨_, _, k⟩
  · exact absurd e h2.nz
  · rcases e with e | e
    · exact absurd e h2.nz
    · have : m2.tx < 0 := e
      have := h2.1.tx
      omega
  · exact k
set_option maxRecDepth 100000 in
/-- Only the first one counts. -/
theorem ChIs.first {la lb : List Int} {m m1 : Mt} {s c : Int} (h : ChIs la lb m s c) (h1 : Says la m1) (h3 : m1.tx % 2 = 0) (h2 : StIs lb 1 Mt.z) : m = m1 ∧ s = 0 ∧ c = 0 := by
  rcases h.pk (.inl ⟨h1, h3⟩) h2 with ⟨e, _⟩ | ⟨_, _, k⟩ | ⟨e, _⟩
  · exact absurd e h1.nz
  · exact k
  · exact absurd rfl e
set_option maxRecDepth 100000 in
/-- None counts. -/
theorem ChIs.neither {la lb : List Int} {m : Mt} {s c : Int} (h : ChIs la lb m s c) (h1 : StIs la 0 Mt.z) (h2 : StIs lb 1 Mt.z) : m = Mt.z ∧ s = 0 ∧ c = 51 := by
  rcases h.pk h1 h2 with ⟨_, _, k⟩ | ⟨e, _⟩ | ⟨e, _⟩
  · exact k
  · exact absurd ⟨rfl, rfl⟩ e
  · exact absurd rfl e

/-- The meta of the examples. -/
def m7c : Mt := ⟨1, 512, 7, 5, 1, 3, 2, 9⟩
set_option maxRecDepth 100000 in
theorem m7c_ok : m7c.ok := by constructor <;> simp [m7c, pw]
set_option maxRecDepth 100000 in
theorem m7_any (w : World) : Calls Tryd.prog 24 #[] w fun e w' => e = .returned (mtV m7c) ∧ Below w.heap.size w w' := by
  go_enter Tryd.func24, Tryd.ntmps24
  go_wp2
  go_returns
  exact ⟨rfl, (Below.refl _ _).alloc (Nat.le_refl _) _⟩
set_option maxRecDepth 100000 in
theorem m7_first : (pageB m7c).take 8 = [1, 1, 0, 0, 69, 83, 80, 76] := by
  simp only [pageB, sealB, bodyB, hdB, List.append_assoc]
  rfl
set_option maxRecDepth 100000 in
theorem Bk.sl_to {w : World} {g n : Nat} {l : List Int} (h : Bk w g l) (hl : l.length = n) (hw : Wf l) (hn : n ≤ 140737488355328) (k : Nat) (hk : k ≤ n) : Sl w (some ⟨g, 0, none⟩) k n (l.take k) :=
  ⟨by rw [List.length_take]; omega, hk, by omega, hw.take _, (by intro h; cases h), .inr ⟨g, 0, rfl, lt_some h, fun i hi => by
    rw [Nat.zero_add, h.cell i (by omega)]
    simp [List.getD, hi]⟩⟩
set_option maxRecDepth 100000 in
theorem encode_yes (m : Mt) (w : World) (ht : Tab w) (h0 : 0 < w.heap.size) (h : m.ok) : Calls Tryd.prog 9 #[mtV m] w fun e w' => ∃ g, e = .returned (.tuple #[.slice (some ⟨g, 0, none⟩) m.pg.toNat m.pg.toNat, .int .i64 0]) ∧ w.heap.size ≤ g ∧ Bk w' g (pageB m) ∧ Below w.heap.size w w' := by
  refine (encode_any m w ht h0).mono ?_
  rintro e w' (⟨_, k⟩ | ⟨k, _⟩)
  · exact k
  · exact absurd h k
set_option maxRecDepth 100000 in
theorem encode_no (m : Mt) (w : World) (ht : Tab w) (h0 : 0 < w.heap.size) (h : ¬ m.ok) : Calls Tryd.prog 9 #[mtV m] w fun e w' => e = .returned (.tuple #[.slice none 0 0, .int .i64 1]) ∧ Below w.heap.size w w' := by
  refine (encode_any m w ht h0).mono ?_
  rintro e w' (⟨k, _⟩ | ⟨_, k⟩)
  · exact absurd k h
  · exact k
/-- True, and nothing that was there has changed. -/
def Yes5 (w : World) (e : Ending) (w' : World) : Prop := e = .returned (.bool true) ∧ Below w.heap.size w w'

set_option maxRecDepth 100000 in
set_option maxHeartbeats 4000000 in
theorem awake_any (w : World) (ht : Tab w) (h0 : 0 < w.heap.size) : Calls Tryd.prog 7 #[] w fun e w' => Yes5 w e w' := by
  have HT := hidden ht
  clear ht
  have HOK := hidden m7c_ok
  have hp7 : m7c.pg.toNat = 512 := rfl
  have HE : Hid (∀ u, (Op.equalIn 10000 24 (mtV m7c) (mtV m7c)).run Tryd.prog u = .ok true u) := hidden (eq_yes m7c)
  have HF := hidden m7_first
  have HL := hidden (pageB_length m7c m7c_ok)
  have HW7 := hidden (pageB_wf m7c)
  have HTX : Hid (m7c.tx % 2 = 1) := rfl
  have HM7 := fun v => hidden (m7_any v)
  have HSL := fun v => hidden (slot_any 7 v)
  go_enter Tryd.func7, Tryd.ntmps7
  generalize m7c = m at *
  rw [hp7] at HL
  go_wp2_with (go_at_call 24; refine (HM7 _).out.mono ?_; rintro e w1 ⟨rfl, hb1⟩; have HB1 := hidden hb1; clear hb1; refine Hid.out ?_)
  apply hidden
  rw [mtV_eq]
  have HCK := hidden (check_any m (w1.alloc (.cells (mtC m) 24)))
  go_wp2_with (go_at_call 8; rw [← mtV_eq]; refine HCK.out.mono ?_; rintro e w2 ⟨k, rfl, hk, hb2⟩; have HK := hidden hk; have HB2 := hidden hb2; clear hk hb2; rw [mtV_eq]; refine Hid.out ?_)
  apply hidden
  obtain rfl : k = 0 := by
    rcases HK.out with h | h
    · exact h.2
    · exact absurd HOK.out h.1
  have HR2 := hidden (box_on (row_new w1 m 24) HB2.out)
  have HW2 := hidden (bl_go (bl_al HB1.out (Nat.le_refl _) _) (Nat.le_refl _) HB2.out)
  obtain ⟨b1, hb1⟩ : ∃ b, w1.heap.size = b := ⟨_, rfl⟩
  rw [hb1] at HR2 ⊢
  clear HCK HK HB2 HB1 hb1
  obtain ⟨c0, c1, c2, c3, c4, c5, c6, c7⟩ := row8 HR2.out
  have HEN := hidden (encode_yes m w2 (HT.out.on HW2.out h0) (Nat.lt_of_lt_of_le h0 HW2.out.size) HOK.out)
  go_wp2_with (go_at_call 9; rw [← mtV_eq]; refine HEN.out.mono ?_; rintro e w3 ⟨g, rfl, _, hk3, hb3⟩; rw [mtV_eq]; refine Hid.out ?_)
  apply hidden
  have HK3 := hidden hk3
  have HR3 := hidden (box_on HR2.out hb3)
  have HW3 := hidden (bl_go HW2.out (Nat.le_refl _) hb3)
  clear c0 c1 c2 c3 c4 c5 c6 c7 HEN hk3 hb3 HR2 HW2
  have HDE := hidden (decode_any (some ⟨g, 0, none⟩) 512 512 (pageB m) w3 (HK3.out.sl HL.out HW7.out (by omega)) (HT.out.on HW3.out h0) (Nat.lt_of_lt_of_le h0 HW3.out.size))
  go_wp2_with (go_at_call 16; refine HDE.out.mono ?_; rintro e w4 ⟨m4, k4, rfl, hk4, hb4⟩; have HK4 := hidden hk4; have HB4 := hidden hb4; clear hk4 hb4; refine Hid.out ?_)
  apply hidden
  obtain ⟨rfl, rfl⟩ : m4 = m ∧ k4 = 0 := by
    rcases HK4.out with h | h
    · exact ⟨h.1.one (says_page HOK.out), h.2⟩
    · exact absurd ⟨m, says_page HOK.out⟩ h.1
  rw [mtV_eq]
  have HK5 : Hid (Bk (w4.alloc (.cells (mtC m4) 24)) g (pageB m4)) := hidden ((HK3.out.on HB4.out).on ((Below.refl _ _).alloc (Nat.le_refl _) _))
  have HR5 : Hid ((w4.alloc (.cells (mtC m4) 24)).heap[b1]? = some (.cells (mtC m4) 24 (0, 0))) := hidden (box_on (box_on HR3.out HB4.out) ((Below.refl _ _).alloc (Nat.le_refl _) _))
  have HQ5 := hidden (row_new w4 m4 24)
  have HW5 := hidden (bl_al (bl_go HW3.out (Nat.le_refl _) HB4.out) (Nat.le_refl _) (.cells (mtC m4) 24))
  clear HDE HK4 HB4 HK3 HR3 HW3
  have HCH := hidden (choose_any none (some ⟨g, 0, none⟩) 0 512 0 512 [] (pageB m4) (w4.alloc (.cells (mtC m4) 24)) ⟨rfl, Nat.le_refl _, by omega, Wf.nil, fun _ => rfl, .inl rfl⟩ (HK5.out.sl HL.out HW7.out (by omega)) (HT.out.on HW5.out h0) (Nat.lt_of_lt_of_le h0 HW5.out.size))
  go_wp2_with (go_at_call 17; refine HCH.out.mono ?_; rintro e w6 ⟨m6, s6, k6, rfl, hk6, hb6⟩; have HK6 := hidden hk6; have HB6 := hidden hb6; clear hk6 hb6; refine Hid.out ?_)
  apply hidden
  obtain ⟨rfl, rfl, rfl⟩ := HK6.out.second (StIs.none 0 (says_short (by simp))) (says_page HOK.out) HTX.out
  rw [mtV_eq]
  have HK7 := hidden (HK5.out.on HB6.out)
  have HR7 := hidden (box_on HR5.out HB6.out)
  have HQ7 := hidden (box_on HQ5.out HB6.out)
  have HW7' := hidden (bl_go HW5.out (Nat.le_refl _) HB6.out)
  obtain ⟨b5, hb5⟩ : ∃ b, w4.heap.size = b := ⟨_, rfl⟩
  rw [hb5] at HQ7 ⊢
  clear HCH HK6 HB6 HK5 HR5 HQ5 HW5 hb5
  have HCV : Hid ((convert 29 9 (.slice (some ⟨g, 0, none⟩) 8 512)).run Tryd.prog (w6.alloc (.cells (mtC m6) 24)) = .ok (.string ⟨#[1, 1, 0, 0, 69, 83, 80, 76]⟩) (w6.alloc (.cells (mtC m6) 24))) := hidden (by
    have h := conv_sl ((HK7.out.on ((Below.refl _ _).alloc (Nat.le_refl _) (.cells (mtC m6) 24))).sl_to HL.out HW7.out (by omega) 8 (by omega))
    rw [HF.out] at h
    exact h)
  have hcv := HCV.out
  unfold mtC at hcv
  have he := HE.out
  rw [mtV_eq] at he
  obtain ⟨c0, c1, c2, c3, c4, c5, c6, c7⟩ := row8 HR7.out
  obtain ⟨d0, d1, d2, d3, d4, d5, d6, d7⟩ := row8 HQ7.out
  have hl1 : b1 < w6.heap.size := lt_some HR7.out
  have hl5 : b5 < w6.heap.size := lt_some HQ7.out
  have HEND := hidden (bl_al HW7'.out (Nat.le_refl _) (.cells (mtC m6) 24))
  clear HCV HE HR7 HQ7 HK7 HW7'
  go_wp2_with (go_at_call 11; refine same_call (HSL _).out ?_)
  go_ret
  exact ⟨rfl, HEND.out⟩
end Go.Proofs.YtoifjcliepongaaDoor
