/- espalierref02.Encode: as tuple's. -/
import Derived.Test.YtfdiflfjefhjfaaGreatDoorTuD
namespace Go.Proofs.YtfdiflfjefhjfaaGreatDoor
open Go.RowKit

set_option maxRecDepth 100000 in
theorem e1_len (k n : Int) (t : ByteArray) (sub : Its) (b : List Int) (hsub : k = 7 → (65536 < (eI sub b).length → 65536 < b.length + (EI sub).length)) : (65536 < (e1 k n t sub b).length → 65536 < b.length + (pay k n t sub).length) ∧ (¬ 65536 < (e1 k n t sub b).length → (e1 k n t sub b).length = b.length + (pay k n t sub).length) := by
  unfold e1 pay
  by_cases h3 : k = 3
  · rw [if_pos h3, if_pos h3, List.length_append]
    exact ⟨id, fun _ => rfl⟩
  · rw [if_neg h3, if_neg h3]
    by_cases h4 : k = 4
    · rw [if_pos h4, if_pos h4, List.length_append]
      exact ⟨id, fun _ => rfl⟩
    · rw [if_neg h4, if_neg h4]
      by_cases h5 : k = 5 ∨ k = 6
      · rw [if_pos h5, if_pos h5, List.length_append]
        have h8 := (oB_length (bL t)).1
        rw [bL_length] at h8
        by_cases h9 : t.size ≤ 65536
        · have e : txB t = oB (bL t) := by
            unfold txB cutT
            rw [Nat.min_eq_left h9]
            rw [show t.extract 0 t.size = t from ByteArray.extract_zero_size]
          rw [e]
          exact ⟨id, fun _ => rfl⟩
        · have h10 := (oB_length (bL (cutT t))).1
          rw [bL_length, cutT_size] at h10
          unfold txB
          exact ⟨fun _ => by omega, fun h => by omega⟩
      · rw [if_neg h5, if_neg h5]
        by_cases h7 : k = 7
        · rw [if_pos h7, if_pos h7, List.length_append, List.length_append]
          simp only [List.length_cons, List.length_nil]
          by_cases h10 : 65536 < (eI sub b).length
          · have := hsub h7 h10
            exact ⟨fun _ => by omega, fun h => by omega⟩
          · rw [eI_is sub b (by omega), List.length_append]
            exact ⟨fun h => by omega, fun _ => by omega⟩
        · rw [if_neg h7, if_neg h7]
          exact ⟨fun h => by simpa using h, fun _ => by simp⟩
set_option maxRecDepth 100000 in
/-- Where something was left off, the items' bytes are too long too. -/
theorem eI_long2 : ∀ (l : Its) (b : List Int), 65536 < (eI l b).length → 65536 < b.length + (EI l).length
  | .nil, b, h => by simpa [eI, EI] using h
  | .cons k n t sub r, b, h => by
    rw [eI_cons] at h
    rw [EI_cons, List.length_append, List.length_cons]
    by_cases hb : 65536 < b.length
    · omega
    · rw [if_neg hb] at h
      have ih := eI_long2 r _ h
      have h1 := e1_len k n t sub (b ++ [16 + k]) (fun _ => eI_long2 sub _)
      rw [List.length_append] at h1
      simp only [List.length_cons, List.length_nil] at h1
      by_cases h2 : 65536 < (e1 k n t sub (b ++ [16 + k])).length
      · have := h1.1 h2
        omega
      · have := h1.2 h2
        omega
set_option maxRecDepth 100000 in
theorem encR_EI (l : Its) (hc : chk Vl l 0 = 0) : encR Vl l = if 65536 < (EI l).length then ([], 2) else (EI l, 0) := by
  unfold encR
  rw [if_neg (by simp [hc])]
  by_cases h : 65536 < (eI l []).length
  · have := eI_long2 l [] h
    rw [if_pos h, if_pos (by simpa using this)]
  · have e := eI_is l [] (by omega)
    rw [if_neg h, e]
    rw [e] at h
    rw [List.nil_append] at h ⊢
    rw [if_neg h]
set_option maxRecDepth 100000 in
set_option maxHeartbeats 1000000 in
/-- Encode, the document's. -/
theorem refEncode_any (l : Its) (ao : Option Addr) (n cap : Nat) (w : World) (hs : SlI w Tp ao n cap l) (hz : wgh l 0 ≤ 100000) :
    Calls Tryz.prog 11 #[.slice ao n cap] w fun e w' => ∃ v, e = .returned (.tuple #[v, .int .i64 (encR Vl l).2]) ∧ Hid (OwnB w' w.heap.size v (encR Vl l).1) ∧ Hid (Below w.heap.size w w') := by
  have HC := hidden (refCheck_any l ao n cap w hs)
  have HS := hidden hs
  have hel := EI_len l 0 hs.ok (by omega) hz
  have hel8 : (EI l).length ≤ 100000000 := by omega
  by_cases hc : chk Vl l 0 = 0
  · have HKD := hidden (chk_kd Vl l hc)
    have HEN := hidden (fun (u : World) (hu : Below w.heap.size w u) => refenc_all (l.sz + 1) l (by omega) ao n cap u (HS.out.on (Nat.le_refl _) hu) HKD.out hel8)
    have HWF := hidden (EI_wf l HKD.out hs.ok)
    have HEQ := hidden (encR_EI l hc)
    rw [hc] at HC
    clear hs hc hz hel
    obtain ⟨E, hE⟩ : ∃ E, EI l = E := ⟨_, rfl⟩
    rw [hE] at HEN HWF hel8 HEQ
    clear hE
    obtain ⟨R, hR⟩ : ∃ R, encR Vl l = R := ⟨_, rfl⟩
    rw [hR] at HEQ ⊢
    clear hR
    go_enter Tryz.func11, Tryz.ntmps11
    go_wp2_with (first | (go_at_call 10; refine HC.out.mono ?_; rintro e w1 ⟨rfl, hb1⟩; refine Hid.out ?_))
    apply hidden
    have HC2 := hidden (HEN.out w1 hb1)
    have HB1 := hidden hb1
    clear HC HEN hb1
    go_wp2_with (first | (go_at_call 26; refine HC2.out.mono ?_; rintro e w2 ⟨v2, rfl, HO2, HB2⟩; refine Hid.out ?_))
    apply hidden
    obtain ⟨xo, xc, rfl, _, _⟩ := HO2.out.sl HWF.out (by omega)
    have HO3 : Hid (OwnB w2 w.heap.size (.slice xo E.length xc) E) := hidden (HO2.out.base HB1.out.size)
    have HB3 : Hid (Below w.heap.size w w2) := hidden (HB1.out.trans (HB2.out.mono HB1.out.size))
    obtain ⟨en, hen⟩ : ∃ en, E.length = en := ⟨_, rfl⟩
    rw [hen] at hel8 HO3 HEQ ⊢
    have zen : (en : Int) ≤ 100000000 := by omega
    clear HC2 HO2 HB2 HB1 hen
    by_cases hl : 65536 < en
    · have hlI : (65536 : Int) < (en : Int) := by omega
      have HR : Hid (R = ([], 2)) := hidden (by rw [HEQ.out, if_pos hl])
      clear HEQ
      go_wp2
      go_ret2
      exact ⟨_, by rw [HR.out]; rfl, by rw [HR.out]; exact hidden (OwnB.nil _ _), HB3⟩
    · have hlI : ¬ (65536 : Int) < (en : Int) := by omega
      have HR : Hid (R = (E, 0)) := hidden (by rw [HEQ.out, if_neg hl])
      clear HEQ
      go_wp2
      go_ret2
      exact ⟨_, by rw [HR.out]; rfl, by rw [HR.out]; exact HO3, HB3⟩
  · have HEQ : Hid (encR Vl l = ([], chk Vl l 0)) := hidden (by unfold encR; rw [if_pos hc])
    obtain ⟨ce, hce⟩ : ∃ ce, chk Vl l 0 = ce := ⟨_, rfl⟩
    rw [hce] at HC hc HEQ
    obtain ⟨R, hR⟩ : ∃ R, encR Vl l = R := ⟨_, rfl⟩
    rw [hR] at HEQ ⊢
    clear hs hce hz hel hR
    go_enter Tryz.func11, Tryz.ntmps11
    go_wp2_with (first | (go_at_call 10; refine HC.out.mono ?_; rintro e w1 ⟨rfl, hb1⟩; refine Hid.out ?_))
    apply hidden
    have HB1 := hidden hb1
    clear HC hb1
    go_wp2
    go_ret2
    exact ⟨_, by rw [HEQ.out]; rfl, by rw [HEQ.out]; exact hidden (OwnB.nil _ _), HB1⟩
end Go.Proofs.YtfdiflfjefhjfaaGreatDoor
