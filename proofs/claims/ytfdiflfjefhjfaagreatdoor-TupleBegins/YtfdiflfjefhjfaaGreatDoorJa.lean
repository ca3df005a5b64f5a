/- espalierref02.Encode: as tuple's. -/
import Derived.Test.YtfdiflfjefhjfaaGreatDoorTuD
namespace Go.Proofs.YtfdiflfjefhjfaaGreatDoor
open Go.RowKit

set_option maxRecDepth 100000 in
theorem e1_len (k n : Int) (t : ByteArray) (sub : Its) (b : List Int) (hsub : k = 7 → (65536 < (eI sub b).length → 65536 < b.length + (EI sub).length)) : (65536 < (e1 k n t sub b).length → 65536 < b.length + (pay k n t sub).length) ∧ (¬ 65536 < (e1 k n t sub b).length → (e1 k n t sub b).length = b.length + (pay k n t sub).length) := by
  unfold e1 pay
  by_cases h3 : k = 3
  · rw [if_pos h3, if_pos h3, List.length_append]
    exact ⟨id, fun _ => rfl⟩
  · rw [if_neg h3, if_neg h3]
    by_cases h4 : k = 4
    · rw [if_pos h4, if_pos h4, List.length_append]
      exact ⟨id, fun _ => rfl⟩
    · rw [if_neg h4, if_neg h4]
      by_cases h5 : k = 5 ∨ k = 6
      · rw [if_pos h5, if_pos h5, List.length_append]
        have h8 := (oB_length (bL t)).1
        rw [bL_length] at h8
        by_cases h9 : t.size ≤ 65536
        · have e : txB t = oB (bL t) := by
            unfold txB cutT
            rw [Nat.min_eq_left h9]
            rw [show t.extract 0 t.size = t from ByteArray.extract_zero_size]
          rw [e]
          exact ⟨id, fun _ => rfl⟩
        · have h10 := (oB_length (bL (cutT t))).1
          rw [bL_length, cutT_size] at h10
          unfold txB
          exact ⟨fun _ => by omega, fun h => by omega⟩
      · rw [if_neg h5, if_neg h5]
        by_cases h7 : k = 7
        · rw [if_pos h7, if_pos h7, List.length_append, List.length_append]
          simp only [List.length_cons, List.length_nil]
          by_cases h10 : 65536 < (eI sub b).length
          · have := hsub h7 h10
            exact ⟨fun _ => by omega, fun h => by omega⟩
          · rw [eI_is sub b (by omega), List.length_append]
            exact ⟨fun h => by omega, fun _ => by omega⟩
        · rw [if_neg h7, if_neg h7]
          exact ⟨fun h => by simpa using h, fun _ => by simp⟩
set_option maxRecDepth 100000 in
/-- Where something was left off, the items' bytes are too long too. -/
theorem eI_long2 : ∀ (l : Its) (b : List Int), 65536 < (eI l b).length → 65536 < b.length + (EI l).length
  | .nil, b, h => by simpa [eI, EI] using h
  | .cons k n t sub r, b, h => by
    rw [eI_cons] at h
    rw [EI_cons, List.length_append, List.length_cons]
    by_cases hb : 65536 < b.length
    · omega
    · rw [if_neg hb] at h
      have ih := eI_long2 r _ h
      have h1 := e1_len k n t sub (b ++ [16 + k]) (fun _ => eI_long2 sub _)
      rw [List.length_append] at h1
      simp only [List.length_cons, List.length_nil] at h1
      by_cases h2 : 65536 < (e1 k n t sub (b ++ [16 + k])).length
      · have := h1.1 h2
        omega
      · have := h1.2 h2
        omega
set_option maxRecDepth 100000 in
theorem encR_EI (l : Its) (hc : chk Vl l 0 = 0) : encR Vl l = if 65536 < (EI l).length then ([], 2) else (EI l, 0) := by
  unfold encR
  rw [if_neg (by simp [hc])]
  by_cases h : 65536 < (eI l []).length
  · have := eI_long2 l [] h
    rw [if_pos h, if_pos (by simpa using this)]
  · have e := eI_is l [] (by omega)
    rw [if_neg h, e]
    rw [e] at h
    rw [List.nil_append] at h ⊢
    rw [if_neg h]
set_option maxRecDepth 100000 in
set_option maxHeartbeats 1000000 in
/-- Encode, the document's. -/
theorem refEncode_any (l : Its) (ao : Option Addr) (n cap : Nat) (w : World) (hs : SlI w Tp ao n cap l) (hz : wgh l 0 ≤ 100000) :
    Calls Tryz.prog 11 #[.slice ao n cap] w fun e w' => ∃ v, e = .returned (.tuple #[v, .int .i64 (encR Vl l).2]) ∧ Hid (OwnB w' w.heap.size v (encR Vl l).1) ∧ Hid (Below w.heap.size w w') := by
  have HC := hidden (refCheck_any l ao n cap w hs)
  have HS := hidden hs
  have hel := EI_len l 0 hs.ok (by omega) hz
  have hel8 : (EI l).length ≤ 100000000 := by omega
  by_cases hc : chk Vl l 0 = 0
  · have HKD := hidden (chk_kd Vl l hc)
    have HEN := hidden (fun (u : World) (hu : Below w.heap.size w u) => refenc_all (l.sz + 1) l (by omega) ao n cap u (HS.out.on (Nat.le_refl _) hu) HKD.out hel8)
    have HWF := hidden (EI_wf l HKD.out hs.ok)
    have HEQ := hidden (encR_EI l hc)
    rw [hc] at HC
    clear hs hc hz hel
    obtain ⟨E, hE⟩ : ∃ E, EI l = E := ⟨_, rfl⟩
    rw [hE] at HEN HWF hel8 HEQ
    clear hE
    obtain ⟨R, hR⟩ : ∃ R, encR Vl l = R := ⟨_, rfl⟩
    rw [hR] at HEQ ⊢
    clear hR
    go_enter Tryz.func11, Tryz.ntmps11
    go_wp2_with (first | (go_at_call 10; refine HC.out.mono ?_; rintro e w1 ⟨rfl, hb1⟩; refine Hid.out ?_))
    apply hidden
    have HC2 := hidden (HEN.out w1 hb1)
    have HB1 := hidden hb1
    clear HC HEN hb1
    go_wp2_with (first | (go_at_call 26; refine HC2.out.mono ?_; rintro e w2 ⟨v2, rfl, HO2, HB2⟩; refine Hid.out ?_))
    apply hidden
    obtain ⟨xo, xc, rfl, _, _⟩ := HO2.out.sl HWF.out (by omega)
    have HO3 : Hid (OwnB w2 w.heap.size (.slice xo E.length xc) E) := hidden (HO2.out.base HB1.out.size)
    have HB3 : Hid (Below w.heap.size w w2) := hidden (HB1.out.trans (HB2.out.mono HB1.out.size))
    obtain ⟨en, hen⟩ : ∃ en, E.length = en := ⟨_, rfl⟩
    rw [hen] at hel8 HO3 HEQ ⊢
    have zen : (en : Int) ≤ 100000000 := by omega
    clear HC2 HO2 HB2 HB1 hen
    by_cases hl : 65536 < en
    · have hlI : (65536 : Int) < (en : Int) := by omega
      have HR : Hid (R = ([], 2)) := hidden (by rw [HEQ.out, if_pos hl])
      clear HEQ
      go_wp2
      go_ret2
      exact ⟨_, by rw [HR.out]; rfl, by rw [HR.out]; exact hidden (OwnB.nil _ _), HB3⟩
    · have hlI : ¬ (65536 : Int) < (en : Int) := by omega
      have HR : Hid (R = (E, 0)) := hidden (by rw [HEQ.out, if_neg hl])
      clear HEQ
      go_wp2
      go_ret2
      exact ⟨_, by rw [HR.out]; rfl, by rw [HR.out]; exact HO3, HB3⟩
  · have HEQ : Hid (encR Vl l = ([], chk Vl l 0)) := hidden (by unfold encR; rw [if_pos hc])
    obtain ⟨ce, hce⟩ : ∃ ce, chk Vl l 0 = ce := ⟨_, rfl⟩
    rw [hce] at HC hc HEQ
    obtain ⟨R, hR⟩ : ∃ R, encR Vl l = R := ⟨_, rfl⟩
    rw [hR] at HEQ ⊢
    clear hs hce hz hel hR
    go_enter Tryz.func11, Tryz.ntmps11
    go_wp2_with (first | (go_at_call 10; refine HC.out.mono ?_; rintro e w1 ⟨rfl, hb1⟩; refine Hid.out ?_))
    apply hidden
    have HB1 := hidden hb1
    clear HC hb1
    go_wp2
    go_ret2
    exact ⟨_, by rw [HEQ.out]; rfl, by rw [HEQ.out]; exact hidden (OwnB.nil _ _), HB1⟩
end Go.Proofs.YtfdiflfjefhjfaaGreatDoor

/- tuple.Prefix and the document's, said alike. -/

namespace Go.Proofs.YtfdiflfjefhjfaaGreatDoor
open Go.RowKit

/-- What Prefix answers. -/
def prP (l : Its) : List Int × List Int × Bool × Int := if (encR Vl l).2 ≠ 0 then ([], [], false, (encR Vl l).2) else ((encR Vl l).1, hiB (encR Vl l).1, decide (l.len = 0), 0)
set_option maxRecDepth 100000 in
theorem lastNe_EI (l : Its) (h : l.Kd) : decide (lastNe (EI l) = 0) = decide (l.len = 0) := by
  cases l with
  | nil => rfl
  | cons k n t s r =>
    have h1 := h.1
    rw [EI_cons, List.cons_append, lastNe, Its.len]
    by_cases e : lastNe (pay k n t s ++ EI r) = 0
    · rw [if_neg (by simp [e]), if_pos (by omega)]
      simp
    · rw [if_pos e]
      simp
set_option maxRecDepth 100000 in
theorem hiB_wf2 {l : List Int} (h : Wf l) (hl : l.length ≤ 65536) : Wf (hiB l) ∧ (hiB l).length ≤ 65536 := by
  obtain ⟨s1, s2, _⟩ := lastNe_spec l
  unfold hiB
  split
  · exact ⟨Wf.nil, by simp⟩
  · rename_i h0
    refine ⟨?_, by rw [List.length_set, List.length_take]; omega⟩
    intro x hx
    rcases List.mem_or_eq_of_mem_set hx with hx | rfl
    · exact h x (List.mem_of_mem_take hx)
    · have h3 := h.getD (lastNe l - 1)
      have h4 := s2 (by omega)
      omega
set_option maxRecDepth 100000 in
theorem prP_wf (l : Its) (ho : l.Ok) : (Wf (prP l).1 ∧ (prP l).1.length ≤ 65536) ∧ (Wf (prP l).2.1 ∧ (prP l).2.1.length ≤ 65536) := by
  have h := enc_wf Vl l ho
  unfold prP
  split
  · exact ⟨⟨Wf.nil, by simp⟩, ⟨Wf.nil, by simp⟩⟩
  · exact ⟨h, hiB_wf2 h.1 h.2⟩
set_option maxRecDepth 100000 in
theorem preA (l : Its) (ao : Option Addr) (n cap : Nat) (w : World) (hw : Tb w) (hs : SlI w Tp ao n cap l) (hz : l.sz ≤ 100000) :
    Calls Tryz.prog 14 #[.slice ao n cap] w fun e w' => ∃ lo ln lc io hn ic, e = .returned (.tuple #[.slice lo ln lc, .slice io hn ic, .bool (prP l).2.2.1, .int .i64 (prP l).2.2.2]) ∧ Hid (OwnB w' w.heap.size (.slice lo ln lc) (prP l).1) ∧ Hid (OwnB w' w.heap.size (.slice io hn ic) (prP l).2.1) ∧ Hid ((Value.slice lo ln lc).ownBlock = none ∨ (Value.slice lo ln lc).ownBlock ≠ (Value.slice io hn ic).ownBlock) ∧ Hid (Below w.heap.size w w') := by
  have HWP := hidden (prP_wf l hs.ok)
  by_cases h0 : (encR Vl l).2 = 0
  · obtain ⟨_, _, e3, e4⟩ := enc_yes Vl l h0
    have hop := lastNe_EI l e4
    rw [← e3] at hop
    have e : prP l = ((encR Vl l).1, hiB (encR Vl l).1, decide (l.len = 0), 0) := by unfold prP; rw [if_neg (by simp [h0])]
    refine (prefix_ok Tb Vl (fun _ _ h hb => h.on hb) l ao n cap w hw hs (tx_all l hs.ok) (by omega) h0).mono ?_
    rintro e1 w' ⟨v, u, rfl, ho, hu, hlt, hb⟩
    rw [e] at HWP ⊢
    rw [hop]
    obtain ⟨xo, xc, rfl, _, _⟩ := ho.sl HWP.out.1.1 (by have : (encR Vl l).1.length ≤ 65536 := HWP.out.1.2; omega)
    obtain ⟨yo, yc, rfl, _, _⟩ := hu.sl HWP.out.2.1 (by have : (hiB (encR Vl l).1).length ≤ 65536 := HWP.out.2.2; omega)
    refine ⟨xo, _, xc, yo, _, yc, rfl, hidden ho, hidden hu, hidden ?_, hidden hb⟩
    cases hx : (Value.slice xo (encR Vl l).1.length xc).ownBlock with
    | none => exact .inl rfl
    | some a =>
      right
      intro e2
      have := hlt a a hx e2.symm
      omega
  · have e : prP l = ([], [], false, (encR Vl l).2) := by unfold prP; rw [if_pos h0]
    rw [e]
    have HE := hidden (encode_any Tb Vl (fun _ _ h hb => h.on hb) l ao n cap w hw hs (tx_all l hs.ok) (by omega))
    have HWE := hidden (enc_wf Vl l hs.ok)
    obtain ⟨X, hX⟩ : ∃ X, (encR Vl l).1 = X := ⟨_, rfl⟩
    obtain ⟨ex, hex⟩ : ∃ ex, (encR Vl l).2 = ex := ⟨_, rfl⟩
    rw [hX] at HE HWE
    rw [hex] at HE h0 ⊢
    clear hX hex hs hw HWP e
    go_enter Tryz.func14, Tryz.ntmps14
    go_wp2_with (first | (go_at_call 9; refine HE.out.mono ?_; rintro e1 w1 ⟨v1, rfl, ho1, hb1⟩; refine Hid.out ?_))
    apply hidden
    obtain ⟨xo, xc, rfl, _, _⟩ := ho1.sl HWE.out.1 (by have := HWE.out.2; omega)
    have HB1 := hidden hb1
    clear HE ho1 hb1
    go_wp2
    go_returns
    exact ⟨_, _, _, _, _, _, rfl, hidden (OwnB.nil _ _), hidden (OwnB.nil _ _), hidden (.inl rfl), HB1⟩
set_option maxRecDepth 100000 in
theorem refBehind_any (ao : Option Addr) (n cap : Nat) (l : List Int) (w : World) (hs : Sl w ao n cap l) :
    Calls Tryz.prog 28 #[.slice ao n cap] w fun e w' => ∃ v bb, e = .returned (.tuple #[v, .bool bb]) ∧ OwnB w' w.heap.size v (hiB l) ∧ Below w.heap.size w w' := by
  obtain ⟨h1, h2, h3⟩ := lastNe_spec l
  have hl := hs.hlen
  by_cases hz : lastNe l = 0
  · refine (refBehind_none ao n cap l w hs (fun i hi => h3 i (by omega) (by omega))).mono ?_
    rintro e w' ⟨rfl, hw⟩
    rw [hw]
    exact ⟨_, _, rfl, by unfold hiB; rw [if_pos hz]; exact OwnB.nil _ _, Below.refl _ _⟩
  · refine (refBehind_some ao n cap (lastNe l) l w hs (by omega) (by omega) (h2 (by omega)) (fun i h4 h5 => h3 i h4 (by omega))).mono ?_
    rintro e w' ⟨v, rfl, ho, hb⟩
    exact ⟨v, _, rfl, by unfold hiB; rw [if_neg hz]; exact ho, hb⟩
set_option maxRecDepth 100000 in
theorem preR (l : Its) (ao : Option Addr) (n cap : Nat) (w : World) (hs : SlI w Tp ao n cap l) (hz : wgh l 0 ≤ 100000) :
    Calls Tryz.prog 15 #[.slice ao n cap] w fun e w' => ∃ lo ln lc io hn ic, e = .returned (.tuple #[.slice lo ln lc, .slice io hn ic, .bool (prP l).2.2.1, .int .i64 (prP l).2.2.2]) ∧ Hid (OwnB w' w.heap.size (.slice lo ln lc) (prP l).1) ∧ Hid (OwnB w' w.heap.size (.slice io hn ic) (prP l).2.1) ∧ Hid (Below w.heap.size w w') := by
  have HWP := hidden (prP_wf l hs.ok)
  have HE := hidden (refEncode_any l ao n cap w hs hz)
  have HWE := hidden (enc_wf Vl l hs.ok)
  have hln := hs.hlen
  have hrm := hs.hroom
  have HPR : Hid (prP l = if (encR Vl l).2 ≠ 0 then ([], [], false, (encR Vl l).2) else ((encR Vl l).1, hiB (encR Vl l).1, decide (n = 0), 0)) := hidden (by unfold prP; rw [hln])
  have HNZ : Hid ((encR Vl l).2 = 0 → n = 0 → (encR Vl l).1 = []) := hidden (fun h h0 => by
    obtain ⟨_, _, e3, _⟩ := enc_yes Vl l h
    rw [e3]
    cases l with
    | nil => rfl
    | cons => simp only [Its.len] at hln; omega)
  obtain ⟨X, hX⟩ : ∃ X, (encR Vl l).1 = X := ⟨_, rfl⟩
  obtain ⟨ex, hex⟩ : ∃ ex, (encR Vl l).2 = ex := ⟨_, rfl⟩
  rw [hX] at HE HWE HPR HNZ
  rw [hex] at HE HPR HNZ
  obtain ⟨R, hR⟩ : ∃ R, prP l = R := ⟨_, rfl⟩
  rw [hR] at HPR HWP ⊢
  clear hX hex hs hz hR hln
  go_enter Tryz.func15, Tryz.ntmps15
  go_wp2_with (first | (go_at_call 11; refine HE.out.mono ?_; rintro e1 w1 ⟨v1, rfl, HO1, HB1⟩; refine Hid.out ?_))
  apply hidden
  obtain ⟨xo, xc, rfl, hxs, _⟩ := HO1.out.sl HWE.out.1 (by have := HWE.out.2; omega)
  have HXS := hidden hxs
  obtain ⟨xn, hxn⟩ : ∃ xn, X.length = xn := ⟨_, rfl⟩
  rw [hxn] at HXS HO1 ⊢
  clear HE hxs hxn
  by_cases h0 : ex = 0
  · by_cases hn : n = 0
    · have HRR : Hid (R = ([], [], true, 0)) := hidden (by rw [HPR.out, if_neg (by simp [h0]), HNZ.out h0 hn, hn]; rfl)
      have hnI : (n : Int) = 0 := by omega
      have hnb : ((n : Int) == 0) = true := by rw [beq_iff_eq]; omega
      clear HPR
      go_wp2
      go_returns
      exact ⟨_, _, _, _, _, _, by rw [HRR.out], by rw [HRR.out]; exact hidden (OwnB.nil _ _), by rw [HRR.out]; exact hidden (OwnB.nil _ _), HB1⟩
    · have HRR : Hid (R = (X, hiB X, false, 0)) := hidden (by rw [HPR.out, if_neg (by simp [h0]), decide_eq_false hn])
      have hnI : ¬ (n : Int) = 0 := by omega
      have hnb : ((n : Int) == 0) = false := by rw [beq_eq_false_iff_ne]; omega
      have HBE := hidden (refBehind_any xo xn xc X w1 HXS.out)
      clear HPR
      go_wp2_with (first | (go_at_call 28; refine HBE.out.mono ?_; rintro e1 w2 ⟨v2, bb, rfl, ho2, hb2⟩; refine Hid.out ?_))
      apply hidden
      obtain ⟨yo, yc, rfl, _, _⟩ := ho2.sl (hiB_wf2 HWE.out.1 HWE.out.2).1 (by have := (hiB_wf2 HWE.out.1 HWE.out.2).2; omega)
      have HOX : Hid (OwnB w2 w.heap.size (.slice xo xn xc) X) := hidden (HO1.out.on (Nat.le_refl _) hb2)
      have HOY : Hid (OwnB w2 w.heap.size (.slice yo (hiB X).length yc) (hiB X)) := hidden (ho2.base HB1.out.size)
      have HB2 : Hid (Below w.heap.size w w2) := hidden (HB1.out.trans (hb2.mono HB1.out.size))
      clear HBE ho2 hb2
      go_wp2
      go_returns
      exact ⟨_, _, _, _, _, _, by rw [HRR.out], by rw [HRR.out]; exact HOX, by rw [HRR.out]; exact HOY, HB2⟩
  · have HRR : Hid (R = ([], [], false, ex)) := hidden (by rw [HPR.out, if_pos h0])
    clear HPR
    go_wp2
    go_returns
    exact ⟨_, _, _, _, _, _, by rw [HRR.out], by rw [HRR.out]; exact hidden (OwnB.nil _ _), by rw [HRR.out]; exact hidden (OwnB.nil _ _), HB1⟩
end Go.Proofs.YtfdiflfjefhjfaaGreatDoor
