/- espalierref02.encode, Encode: the items' bytes. -/
import Derived.Test.YtfdiflfjefhjfaaGreatDoorTuB
import Derived.Test.YtfdiflfjefhjfaaGreatDoorTuC
import Derived.Test.YtfdiflfjefhjfaaGreatDoorTuO
namespace Go.Proofs.YtfdiflfjefhjfaaGreatDoor
open Go.RowKit

set_option maxRecDepth 100000 in
theorem EI_wf : ∀ (l : Its), l.Kd → l.Ok → Wf (EI l)
  | .nil, _, _ => Wf.nil
  | .cons k n t s r, hk, ho => by
    rw [EI_cons]
    refine Wf.append (Wf.cons (by have := hk.1; omega) ?_) (EI_wf r hk.2.2 ho.2.2.2.2.2)
    unfold pay
    split
    · exact intB_wf n ho.2.1
    · split
      · exact fB_wf _ _
      · split
        · exact oB_wf _ (bL_wf t)
        · split
          · rename_i h7
            exact Wf.append (EI_wf s (hk.2.1 h7) ho.2.2.2.2.1) (Wf.cons (by omega) Wf.nil)
          · exact Wf.nil
set_option maxRecDepth 100000 in
theorem Its.Ok.sub {l : Its} {i : Nat} {k n : Int} {t : ByteArray} {sub r : Its} (h : l.Ok) (e : l.drop i = .cons k n t sub r) : sub.Ok := by
  have := Its.drop_ok l i h
  rw [e] at this
  exact this.2.2.2.2.1
set_option maxHeartbeats 4000000 in
set_option maxRecDepth 100000 in
theorem refenc_all : ∀ (N : Nat) (l : Its), l.sz < N → ∀ (ao : Option Addr) (n cap : Nat) (w : World), SlI w Tp ao n cap l → l.Kd → (EI l).length ≤ 100000000 →
    Calls Tryz.prog 26 #[.slice ao n cap] w fun e w' => ∃ v, e = .returned v ∧ Hid (OwnB w' w.heap.size v (EI l)) ∧ Hid (Below w.heap.size w w')
  | 0, l, h => by omega
  | N + 1, l, h => by
    intro ao n cap w hs hkd hlen8
    have Hih := hidden (refenc_all N)
    have hlen := hs.hlen
    have hroom := hs.hroom
    have Hs := hidden hs
    have HKD := hidden hkd
    have HOK := hidden hs.ok
    have HL8 := hidden hlen8
    have HLE := hidden hlen
    clear hs hkd hlen8 hlen
    go_enter Tryz.func26, Tryz.ntmps26
    go_wp2_with fail
    go_loopw [3, 4] (fun v i wr => ∃ (ov : Value) (k : Nat) (acc : List Int), ov = v ∧ k ≤ n ∧ i = .int .i64 k ∧ Hid (OwnB wr w.heap.size ov acc) ∧ Hid (Below w.heap.size w wr) ∧ Hid (acc ++ EI (l.drop k) = EI l)) (fun _ i _ => n - (intOf i).toNat)
    case atStart => exact ⟨_, 0, [], rfl, by omega, rfl, hidden (OwnB.nil _ _), hidden (Below.refl _ _), hidden (by simp [Its.drop])⟩
    case round =>
      obtain ⟨ov, k, acc, hov, hk, rfl, HO, HB, HA⟩ := hrel
      subst hov
      by_cases hlt : k < n
      · have hltI : (k : Int) < (n : Int) := by omega
        obtain ⟨b, off, kk, nn, t, sub, r, so, m, c, rfl, hbb0, e1, e2, c0, c1, c2, c3, hsub, o1, o2, o3⟩ := Hs.out.item k hlt
        have hsz := Its.sub_sz e1
        have hkd := Its.Kd.drop l k HKD.out
        rw [e1] at hkd
        have hokd := Its.Ok.sub HOK.out e1
        have HSub := hidden hsub
        have HAE : Hid (acc ++ (((16 + kk) :: pay kk nn t sub) ++ EI (l.drop (k + 1))) = EI l) := hidden (by rw [← HA.out, e1, EI_cons, e2])
        have hal : acc.length + 1 + (pay kk nn t sub).length ≤ 100000000 := by
          have h1 := congrArg List.length HAE.out
          rw [List.length_append, List.length_append, List.length_cons] at h1
          have := HL8.out
          omega
        have hkk := hkd.1
        have HKS := hidden hkd.2.1
        have hsw : w.heap.size ≤ wr.heap.size := HB.out.size
        have d0 := (HB.out.cell (p := ⟨b, off + k * 4, none⟩) hbb0).trans c0
        have hx16 : wrap64 (16 + kk) % 256 = 16 + kk := by unfold wrap64; omega
        have hx16b : IntKind.u8.wrap (16 + kk) = 16 + kk := by rw [IntKind.wrap_u8]; omega
        clear hsub hkd HA
        go_wp2_with (at_builtin; refine app_all _ rfl _ _ rfl w.heap.size wr.heap.size acc [16 + kk] _ _ rfl rfl (HO.out.alloc _) (one_own _ _) (Wf.cons (by omega) Wf.nil) (by simp; omega) (by simp; omega) ?_; refine Hid.out ?_)
        apply hidden
        intro v1 w1 ho1 hg1
        have HO1 := hidden ho1
        have HB1 : Hid (Below w.heap.size w w1) := hidden (HB.out.trans (((Gr.alloc _ _ _).trans hg1).below HO.out hsw))
        have hsw1 : w.heap.size ≤ w1.heap.size := HB1.out.size
        have e0 := (HB1.out.cell (p := ⟨b, off + k * 4, none⟩) hbb0).trans c0
        have f1 := (HB1.out.cell (p := ⟨b, off + k * 4 + 1, none⟩) hbb0).trans c1
        have f2 := (HB1.out.cell (p := ⟨b, off + k * 4 + 2, none⟩) hbb0).trans c2
        have f3 := (HB1.out.cell (p := ⟨b, off + k * 4 + 3, none⟩) hbb0).trans c3
        have HS1 := hidden (HSub.out.on (Nat.le_refl _) HB1.out)
        clear ho1 hg1 d0 HO HB hx16 hx16b hsw e1 e2 c0 c1 c2 c3
        by_cases h3 : kk = 3
        · subst h3
          have HP : Hid (pay 3 nn t sub = intB nn) := hidden (by simp [pay])
          rw [HP.out] at HAE hal
          have HC := hidden (integer_any nn w1 o2.1 o2.2)
          go_wp2_with (first | (go_at_call 37; refine HC.out.mono ?_; rintro e w2 ⟨v2, rfl, HO2, HB2⟩; refine Hid.out ?_))
          apply hidden
          have HO1b : Hid (OwnB w2 w.heap.size v1 (acc ++ [16 + 3])) := hidden (HO1.out.on (Nat.le_refl _) HB2.out)
          have HB2b : Hid (Below w.heap.size w w2) := hidden (HB1.out.trans (HB2.out.mono hsw1))
          have hsw2 : w.heap.size ≤ w2.heap.size := HB2b.out.size
          clear HC HO1 HB1 HB2
          go_wp2_with (at_builtin; refine app_all _ rfl _ _ rfl w.heap.size w1.heap.size (acc ++ [16 + 3]) (intB nn) _ _ rfl rfl HO1b.out HO2.out (intB_wf nn o2) (by simp; omega) hsw2 ?_; refine Hid.out ?_)
          apply hidden
          intro v3 w3 ho3 hg3
          have HO3 := hidden ho3
          have HB3 : Hid (Below w.heap.size w w3) := hidden (HB2b.out.trans (hg3.below HO1b.out hsw2))
          clear ho3 hg3 HO1b HB2b HO2
          go_wp2
          go_roundw
          case rel => exact ⟨v3, k + 1, _, rfl, by omega, by go_num, HO3, HB3, hidden (by rw [← HAE.out]; simp)⟩
          case measure => simp [intOf]; omega
        · have h3b : (kk == 3) = false := by rw [beq_eq_false_iff_ne]; exact h3
          by_cases h4 : kk = 4
          · subst h4
            have HP : Hid (pay 4 nn t sub = fB 8 (frk nn)) := hidden (by simp [pay])
            rw [HP.out] at HAE hal
            have hfr : 0 ≤ frk nn ∧ frk nn < 18446744073709551616 := by unfold frk; split <;> omega
            have HC := hidden (fun u => turned_any nn u o2.1 o2.2)
            have HF := hidden (fun u => refFixed_yes (frk nn) 8 u hfr.1 hfr.2 (by omega) (by omega))
            obtain ⟨fr, hfrk⟩ : ∃ fr, frk nn = fr := ⟨_, rfl⟩
            rw [hfrk] at HC HF HAE hal
            go_wp2_with (first | (go_at_call 39; refine same_call (HC.out _) ?_) | (go_at_call 38; refine (HF.out _).mono ?_; rintro e w2 ⟨v2, rfl, ho2, hb2⟩; refine Hid.out ?_))
            apply hidden
            have HO2 : Hid (OwnB w2 w1.heap.size v2 (fB 8 fr)) := hidden ho2
            have HO1b : Hid (OwnB w2 w.heap.size v1 (acc ++ [16 + 4])) := hidden (HO1.out.on (Nat.le_refl _) hb2)
            have HB2b : Hid (Below w.heap.size w w2) := hidden (HB1.out.trans (hb2.mono hsw1))
            have hsw2 : w.heap.size ≤ w2.heap.size := HB2b.out.size
            rw [fB_length] at hal
            clear HC HF HO1 HB1 ho2 hb2 hfrk hfr
            go_wp2_with (at_builtin; refine app_all _ rfl _ _ rfl w.heap.size w1.heap.size (acc ++ [16 + 4]) (fB 8 fr) _ _ rfl rfl HO1b.out HO2.out (fB_wf _ _) (by rw [fB_length]; simp; omega) hsw2 ?_; refine Hid.out ?_)
            apply hidden
            intro v3 w3 ho3 hg3
            have HO3 := hidden ho3
            have HB3 : Hid (Below w.heap.size w w3) := hidden (HB2b.out.trans (hg3.below HO1b.out hsw2))
            clear ho3 hg3 HO1b HB2b HO2
            go_wp2
            go_roundw
            case rel => exact ⟨v3, k + 1, _, rfl, by omega, by go_num, HO3, HB3, hidden (by rw [← HAE.out]; simp)⟩
            case measure => simp [intOf]; omega
          · have h4b : (kk == 4) = false := by rw [beq_eq_false_iff_ne]; exact h4
            by_cases h56 : kk = 5 ∨ kk = 6
            · have HP : Hid (pay kk nn t sub = oB (bL t)) := hidden (by unfold pay; rw [if_neg h3, if_neg h4, if_pos h56])
              rw [HP.out] at HAE hal
              have hol := (oB_length (bL t)).1
              rw [bL_length] at hol
              obtain ⟨cc, W, hcv, hsl, hbw⟩ := conv_ex w1 t (by omega)
              have HSL := hidden hsl
              have HOW := hidden (HO1.out.on (Nat.le_refl _) hbw)
              have HBW : Hid (Below w.heap.size w W) := hidden (HB1.out.trans (hbw.mono hsw1))
              have HC := hidden (refOrdered_any _ t.size cc (bL t) W hsl (by omega))
              clear hsl hbw hol
              have hor := h56
              rcases h56 with rfl | rfl
              all_goals
                go_wp2_with (first | (go_at_call 40; refine HC.out.mono ?_; rintro e w2 ⟨v2, rfl, ho2, hb2⟩; refine Hid.out ?_))
                apply hidden
                have HO2 := hidden ho2
                have HO1b := hidden (HOW.out.on (Nat.le_refl _) hb2)
                have HB2b : Hid (Below w.heap.size w w2) := hidden (HBW.out.trans (hb2.mono HBW.out.size))
                have hsw2 : w.heap.size ≤ w2.heap.size := HB2b.out.size
                clear HC HO1 HB1 ho2 hb2 hcv HSL HOW
                go_wp2_with (at_builtin; refine app_all _ rfl _ _ rfl w.heap.size _ _ (oB (bL t)) _ _ rfl rfl HO1b.out HO2.out (oB_wf _ (bL_wf t)) (by simp; omega) hsw2 ?_; refine Hid.out ?_)
                apply hidden
                intro v3 w3 ho3 hg3
                have HO3 := hidden ho3
                have HB3 : Hid (Below w.heap.size w w3) := hidden (HB2b.out.trans (hg3.below HO1b.out hsw2))
                clear ho3 hg3 HO1b HB2b HO2
                go_wp2
                go_roundw
                case rel => exact ⟨v3, k + 1, _, rfl, by omega, by go_num, HO3, HB3, hidden (by rw [← HAE.out]; simp)⟩
                case measure => simp [intOf]; omega
            · have h5b : (kk == 5) = false := by rw [beq_eq_false_iff_ne]; exact fun e => h56 (.inl e)
              have h6b : (kk == 6) = false := by rw [beq_eq_false_iff_ne]; exact fun e => h56 (.inr e)
              have h5 : ¬ kk = 5 := fun e => h56 (.inl e)
              have h6 : ¬ kk = 6 := fun e => h56 (.inr e)
              by_cases h7 : kk = 7
              · subst h7
                have HP : Hid (pay 7 nn t sub = EI sub ++ [0]) := hidden (by simp [pay])
                rw [HP.out, List.length_append] at hal
                rw [HP.out] at HAE
                simp only [List.length_cons, List.length_nil] at hal
                have HC := hidden (Hih.out sub (by omega) so m c w1 HS1.out (HKS.out rfl) (by omega))
                have HWS := hidden (EI_wf sub (HKS.out rfl) hokd)
                obtain ⟨ES, hES⟩ : ∃ ES, EI sub = ES := ⟨_, rfl⟩
                rw [hES] at HC HWS HAE hal
                clear hES h3 h4 h5 h6 h56
                go_wp2_with (first | (go_at_call 26; refine HC.out.mono ?_; rintro e w2 ⟨v2, rfl, HO2, HB2⟩; refine Hid.out ?_))
                apply hidden
                have HO1b : Hid (OwnB w2 w.heap.size v1 (acc ++ [16 + 7])) := hidden (HO1.out.on (Nat.le_refl _) HB2.out)
                have HB2b : Hid (Below w.heap.size w w2) := hidden (HB1.out.trans (HB2.out.mono hsw1))
                have hsw2 : w.heap.size ≤ w2.heap.size := HB2b.out.size
                clear HC HO1 HB1 HB2
                go_wp2_with (at_builtin; refine app_all _ rfl _ _ rfl w.heap.size w1.heap.size (acc ++ [16 + 7]) ES _ _ rfl rfl HO1b.out HO2.out HWS.out (by simp; omega) hsw2 ?_; refine Hid.out ?_)
                apply hidden
                intro v3 w3 ho3 hg3
                have HO3 : Hid (OwnB w3 w.heap.size v3 (acc ++ [16 + 7] ++ ES)) := hidden (by simpa using ho3)
                have HB3 : Hid (Below w.heap.size w w3) := hidden (HB2b.out.trans (hg3.below HO1b.out hsw2))
                have hsw3 : w.heap.size ≤ w3.heap.size := HB3.out.size
                clear ho3 hg3 HO1b HB2b HO2
                go_wp2_with (at_builtin; refine app_all _ rfl _ _ rfl w.heap.size w3.heap.size (acc ++ [16 + 7] ++ ES) [0] _ _ rfl rfl (HO3.out.alloc _) (one_own _ _) (Wf.cons (by omega) Wf.nil) (by simp; omega) (by simp; omega) ?_; refine Hid.out ?_)
                apply hidden
                intro v4 w4 ho4 hg4
                have HO4 := hidden ho4
                have HB4 : Hid (Below w.heap.size w w4) := hidden (HB3.out.trans (((Gr.alloc _ _ _).trans hg4).below HO3.out hsw3))
                clear ho4 hg4 HO3 HB3
                go_wp2
                go_roundw
                case rel => exact ⟨v4, k + 1, _, rfl, by omega, by go_num, HO4, HB4, hidden (by rw [← HAE.out]; simp)⟩
                case measure => simp [intOf]; omega
              · have h7b : (kk == 7) = false := by rw [beq_eq_false_iff_ne]; exact h7
                have HP : Hid (pay kk nn t sub = []) := hidden (by unfold pay; rw [if_neg h3, if_neg h4, if_neg h56, if_neg h7])
                rw [HP.out] at HAE
                go_wp2
                go_roundw
                case rel => exact ⟨v1, k + 1, _, rfl, by omega, by go_num, HO1, HB1, hidden (by rw [← HAE.out]; simp)⟩
                case measure => simp [intOf]; omega
      · obtain rfl : k = n := by omega
        have hlI : ¬ (k : Int) < (k : Int) := by omega
        have HE : Hid (acc = EI l) := hidden (by
          have := HA.out
          rw [← HLE.out, Its.drop_all] at this
          simpa [EI] using this)
        go_wp2
        go_ret
        exact ⟨_, rfl, by rw [← HE.out]; exact HO, HB⟩
end Go.Proofs.YtfdiflfjefhjfaaGreatDoor
