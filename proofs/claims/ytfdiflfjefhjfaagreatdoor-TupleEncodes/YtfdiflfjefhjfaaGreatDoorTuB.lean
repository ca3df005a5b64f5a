/- espalierref02.item, check, Check: as tuple's. -/
import Derived.Test.YtfdiflfjefhjfaaGreatDoorTuA
import Derived.Test.YtfdiflfjefhjfaaGreatDoorSmC
import Derived.Test.YtfdiflfjefhjfaaGreatDoorCheck3
namespace Go.Proofs.YtfdiflfjefhjfaaGreatDoor
open Go.RowKit

/-- A good item. -/
def itB (k n : Int) (t : ByteArray) (m : Nat) : Bool := decide (0 ≤ k ∧ k ≤ 7) && fld k n t m && (!decide (k = 6) || Vl t)
set_option maxHeartbeats 1000000 in
set_option maxRecDepth 100000 in
theorem item_any (k n : Int) (t : ByteArray) (ao : Option Addr) (m c : Nat) (w : World) (ht : t.size ≤ 140737488355328) : Calls Tryz.prog 36 #[.agg #[.int .i64 k, .int .i64 n, .string t, .slice ao m c]] w fun e w' => e = .returned (.bool (itB k n t m)) ∧ Below w.heap.size w w' := by
  have HU := hidden (fun w => utf8_any t w ht)
  have HV : Hid (Lib.validD t.data.toList = Vl t) := hidden rfl
  rw [HV.out] at HU
  obtain ⟨V, hV⟩ : ∃ V, Vl t = V := ⟨_, rfl⟩
  have HE : Hid (itB k n t m = (decide (0 ≤ k ∧ k ≤ 7) && fld k n t m && (!decide (k = 6) || V))) := hidden (by rw [← hV]; rfl)
  rw [hV] at HU
  rw [HE.out]
  clear hV HE HV ht
  go_enter Tryz.func36, Tryz.ntmps36
  go_wp2_with (first | (go_at_call 57; refine same_call (HU.out _) ?_))
  all_goals go_ret
  all_goals refine ⟨?_, (Below.refl _ _).alloc (Nat.le_refl _) _⟩
  all_goals (first | (simp_all [fld]; done) | (simp_all [fld]; omega) | (simp_all [fld]; intros; exfalso; omega) | (simp_all [fld]; rw [Bool.eq_iff_iff]; simp_all; done) | (simp_all [fld]; rw [Bool.eq_iff_iff]; simp_all; omega) | (simp_all [fld]; rw [Bool.eq_iff_iff]; simp_all; intros; exfalso; omega))
set_option maxRecDepth 100000 in
theorem chk1_it (k n : Int) (t : ByteArray) (sub : Its) (d : Int) : chk1 Vl k n t sub d = if itB k n t sub.len = false then 20 else if k = 7 then chk Vl sub (d + 1) else 0 := by
  unfold chk1 itB
  by_cases h1 : 0 ≤ k ∧ k ≤ 7
  · cases hf : fld k n t sub.len with
    | false => simp
    | true =>
      by_cases h6 : k = 6
      · subst h6
        cases hv : Vl t <;> simp
      · by_cases h7 : k = 7
        · subst h7
          simp [chk]
        · simp [h1, h6, h7]
  · simp [h1]
set_option maxHeartbeats 1000000 in
set_option maxRecDepth 100000 in
theorem refcheck_all : ∀ (N : Nat) (l : Its), l.sz < N → ∀ (d : Int) (ao : Option Addr) (n cap : Nat) (w : World), 0 ≤ d ∧ d ≤ 17 → SlI w Tp ao n cap l →
    Calls Tryz.prog 25 #[.slice ao n cap, .int .i64 d] w fun e w' => e = .returned (.int .i64 (chk Vl l d)) ∧ Below w.heap.size w w'
  | 0, l, h => by omega
  | N + 1, l, h => by
    intro d ao n cap w hd hs
    have ih := refcheck_all N
    have hlen := hs.hlen
    have hroom := hs.hroom
    by_cases hn : 64 < n
    · have e : chk Vl l d = 22 := by unfold chk; rw [if_pos (.inl (by omega))]
      have z1 : decide ((64 : Int) < (n : Int)) = true := by rw [decide_eq_true_iff]; omega
      rw [e]
      go_enter Tryz.func25, Tryz.ntmps25
      go_wp2
      go_ret
      exact ⟨rfl, Below.refl _ _⟩
    · have z1 : decide ((64 : Int) < (n : Int)) = false := by rw [decide_eq_false_iff_not]; omega
      by_cases hd16 : 16 < d
      · have e : chk Vl l d = 22 := by unfold chk; rw [if_pos (.inr hd16)]
        have z2 : decide ((16 : Int) < d) = true := by rw [decide_eq_true_iff]; omega
        rw [e]
        go_enter Tryz.func25, Tryz.ntmps25
        go_wp2
        go_ret
        exact ⟨rfl, Below.refl _ _⟩
      · have e : chk Vl l d = chkL Vl l d := by unfold chk; rw [if_neg (by omega)]
        have z2 : decide ((16 : Int) < d) = false := by rw [decide_eq_false_iff_not]; omega
        rw [e]
        clear e
        have Hih := hidden ih
        have Hs := hidden hs
        have HOK := hidden hs.ok
        clear ih hs
        go_enter Tryz.func25, Tryz.ntmps25
        go_wp2_with fail
        clear z1 z2
        go_loopw [5] (fun i wr => ∃ k : Nat, k ≤ n ∧ i = .int .i64 k ∧ Below w.heap.size w wr ∧ Hid (chkL Vl l d = chkL Vl (l.drop k) d)) (fun i _ => n - (intOf i).toNat)
        case atStart => exact ⟨0, by omega, rfl, Below.refl _ _, hidden (by simp [Its.drop])⟩
        case round =>
          obtain ⟨k, hk, rfl, hb, HE0⟩ := hrel
          by_cases hlt : k < n
          · have hltI : (k : Int) < (n : Int) := by omega
            have S1 := Hs.out.on (Nat.le_refl _) hb
            obtain ⟨b, off, kk, nn, t, sub, r, so, m, c, rfl, hbb, e1, e2, c0, c1, c2, c3, hsub, o1, o2, o3⟩ := S1.item k hlt
            have hsz := Its.sub_sz e1
            have hml := hsub.hlen
            have HSub := hidden hsub
            have HE : Hid (chkL Vl l d = if (if itB kk nn t m = false then (20 : Int) else if kk = 7 then chk Vl sub (d + 1) else 0) ≠ 0 then (if itB kk nn t m = false then (20 : Int) else if kk = 7 then chk Vl sub (d + 1) else 0) else chkL Vl (l.drop (k + 1)) d) := hidden (by
              rw [HE0.out, e1, chkL, chk1_it, hml, e2])
            have HB := hidden hb
            have HIT := hidden (item_any kk nn t so m c wr o3)
            have HRC := hidden (fun (u : World) (hu : Below wr.heap.size wr u) => Hih.out sub (by omega) (d + 1) so m c u (by omega) (HSub.out.on (Nat.le_refl _) hu))
            clear hsub S1 hml e1 e2 hsz HE0 hb
            obtain ⟨it, hit⟩ : ∃ it, itB kk nn t m = it := ⟨_, rfl⟩
            rw [hit] at HIT HE
            clear hit
            go_wp2_with (first | (go_at_call 36; refine HIT.out.mono ?_; rintro e w1 ⟨rfl, hb1⟩; refine Hid.out ?_))
            apply hidden
            have HB1 := hidden hb1
            have d0 := (hb1.cell (p := ⟨b, off + k * 4, none⟩) hbb).trans c0
            have d3 := (hb1.cell (p := ⟨b, off + k * 4 + 3, none⟩) hbb).trans c3
            clear hb1
            cases it with
            | false =>
              have HZ : Hid (chkL Vl l d = 20) := hidden (by rw [HE.out]; simp)
              go_wp2
              go_ret
              exact ⟨by rw [HZ.out]; rfl, HB.out.trans (HB1.out.mono HB.out.size)⟩
            | true =>
              by_cases h7 : kk = 7
              · subst h7
                have HC := hidden (HRC.out w1 HB1.out)
                obtain ⟨ce, hce⟩ : ∃ ce, chk Vl sub (d + 1) = ce := ⟨_, rfl⟩
                rw [hce] at HC HE
                clear hce
                go_wp2_with (first | (go_at_call 25; refine HC.out.mono ?_; rintro e w2 ⟨rfl, hb2⟩; refine Hid.out ?_))
                apply hidden
                have HB2 : Hid (Below w.heap.size w w2) := hidden (HB.out.trans ((HB1.out.trans (hb2.mono HB1.out.size)).mono HB.out.size))
                clear hb2
                by_cases hz : ce = 0
                · subst hz
                  have HN : Hid (chkL Vl l d = chkL Vl (l.drop (k + 1)) d) := hidden (by rw [HE.out]; simp)
                  go_wp2
                  go_roundw
                  case rel => exact ⟨k + 1, by omega, by go_num, HB2.out, HN⟩
                  case measure => simp [intOf]; omega
                · have HN : Hid (chkL Vl l d = ce) := hidden (by rw [HE.out]; simp [hz])
                  go_wp2
                  go_ret
                  exact ⟨by rw [HN.out]; rfl, HB2.out⟩
              · have HN : Hid (chkL Vl l d = chkL Vl (l.drop (k + 1)) d) := hidden (by rw [HE.out]; simp [h7])
                have h7b : (kk == 7) = false := by rw [beq_eq_false_iff_ne]; exact h7
                go_wp2
                go_roundw
                case rel => exact ⟨k + 1, by omega, by go_num, HB.out.trans (HB1.out.mono HB.out.size), HN⟩
                case measure => simp [intOf]; omega
          · obtain rfl : k = n := by omega
            have hlI : ¬ (k : Int) < (k : Int) := by omega
            have HZ : Hid (chkL Vl l d = 0) := hidden (by rw [HE0.out, ← hlen, Its.drop_all, chkL])
            go_wp2
            go_ret
            exact ⟨by rw [HZ.out]; rfl, hb⟩
set_option maxRecDepth 100000 in
theorem refCheck_any (l : Its) (ao : Option Addr) (n cap : Nat) (w : World) (hs : SlI w Tp ao n cap l) :
    Calls Tryz.prog 10 #[.slice ao n cap] w fun e w' => e = .returned (.int .i64 (chk Vl l 0)) ∧ Below w.heap.size w w' := by
  have HC := hidden (refcheck_all (l.sz + 1) l (by omega) 0 ao n cap w (by omega) hs)
  clear hs
  go_enter Tryz.func10, Tryz.ntmps10
  go_wp2_with (first | (go_at_call 25; refine HC.out.mono ?_; rintro e w1 ⟨rfl, hb1⟩))
  go_ret
  exact ⟨rfl, hb1⟩
end Go.Proofs.YtfdiflfjefhjfaaGreatDoor
