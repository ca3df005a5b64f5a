/- espalierref02.letter and Utf8: the letters of the decoder. -/
import Derived.Test.YtfdiflfjefhjfaaGreatDoorTuV
import Derived.Test.YtfdiflfjefhjfaaGreatDoorCheck
import Derived.Handy
namespace Go.Proofs.YtfdiflfjefhjfaaGreatDoor
open Go.RowKit

set_option maxRecDepth 100000 in
theorem get_at (u : ByteArray) (j : Nat) (h : j < u.size) : (u[j]'h).toNat = (u.get! j).toNat := by rw [Utf8W.get!_of_lt u j h]
set_option maxRecDepth 100000 in
theorem by_lt (x : UInt8) : x.toNat < 256 := x.toNat_lt

set_option maxHeartbeats 1000000 in
set_option maxRecDepth 100000 in
theorem letter_one (u : ByteArray) (w : World) (h0 : 0 < u.size) (hs : u.size ≤ 140737488355328) (hlo : 0 ≤ (u.get! 0).toNat) (hhi : (u.get! 0).toNat ≤ 127) : Calls Tryz.prog 74 #[.string u] w fun e w' => e = .returned (.int .i64 (letT u : Int)) ∧ w' = w := by
  have HL : Hid (letT u = _) := hidden (letN_ascii u.size (u.get! 0).toNat (u.get! 1).toNat (u.get! 2).toNat (u.get! 3).toNat (by omega))
  obtain ⟨b0, hb0⟩ : ∃ b, (u.get! 0).toNat = b := ⟨_, rfl⟩
  have hB0 : b0 < 256 := by rw [← hb0]; exact by_lt _
  obtain ⟨b1, hb1⟩ : ∃ b, (u.get! 1).toNat = b := ⟨_, rfl⟩
  have hB1 : b1 < 256 := by rw [← hb1]; exact by_lt _
  obtain ⟨b2, hb2⟩ : ∃ b, (u.get! 2).toNat = b := ⟨_, rfl⟩
  have hB2 : b2 < 256 := by rw [← hb2]; exact by_lt _
  obtain ⟨b3, hb3⟩ : ∃ b, (u.get! 3).toNat = b := ⟨_, rfl⟩
  have hB3 : b3 < 256 := by rw [← hb3]; exact by_lt _
  rw [hb0] at hlo hhi
  have g0 : (u[0]'h0).toNat = b0 := (get_at u 0 h0).trans hb0
  clear hb0 hb1 hb2 hb3
  obtain ⟨Z, hZ⟩ : ∃ Z, letT u = Z := ⟨_, rfl⟩
  rw [hZ] at HL ⊢
  clear hZ
  have d0 : decide ((b0 : Int) < 128) = true := by rw [decide_eq_true_iff]; omega
  have d1 : decide ((194 : Int) ≤ (b0 : Int)) = false := by rw [decide_eq_false_iff_not]; omega
  have d2 : decide ((b0 : Int) < 224) = true := by rw [decide_eq_true_iff]; omega
  have d3 : decide ((224 : Int) ≤ (b0 : Int)) = false := by rw [decide_eq_false_iff_not]; omega
  have d4 : decide ((b0 : Int) < 240) = true := by rw [decide_eq_true_iff]; omega
  have d5 : decide ((240 : Int) ≤ (b0 : Int)) = false := by rw [decide_eq_false_iff_not]; omega
  have d6 : decide ((b0 : Int) < 245) = true := by rw [decide_eq_true_iff]; omega
  have z0 : (0 : Int) < (u.size : Int) := by omega
  have zb : (b0 : Int) ≤ 255 := by omega
  go_enter Tryz.func74, Tryz.ntmps74
  go_wp2
  go_ret
  exact ⟨by rw [HL.out]; rfl, rfl⟩
set_option maxHeartbeats 1000000 in
set_option maxRecDepth 100000 in
theorem letter_bad1 (u : ByteArray) (w : World) (h0 : 0 < u.size) (hs : u.size ≤ 140737488355328) (hlo : 128 ≤ (u.get! 0).toNat) (hhi : (u.get! 0).toNat ≤ 193) : Calls Tryz.prog 74 #[.string u] w fun e w' => e = .returned (.int .i64 (letT u : Int)) ∧ w' = w := by
  have HL : Hid (letT u = _) := hidden (letN_bad u.size (u.get! 0).toNat (u.get! 1).toNat (u.get! 2).toNat (u.get! 3).toNat (by omega) (by omega) (.inl (by omega)) (by_lt _) (by_lt _) (by_lt _))
  obtain ⟨b0, hb0⟩ : ∃ b, (u.get! 0).toNat = b := ⟨_, rfl⟩
  have hB0 : b0 < 256 := by rw [← hb0]; exact by_lt _
  obtain ⟨b1, hb1⟩ : ∃ b, (u.get! 1).toNat = b := ⟨_, rfl⟩
  have hB1 : b1 < 256 := by rw [← hb1]; exact by_lt _
  obtain ⟨b2, hb2⟩ : ∃ b, (u.get! 2).toNat = b := ⟨_, rfl⟩
  have hB2 : b2 < 256 := by rw [← hb2]; exact by_lt _
  obtain ⟨b3, hb3⟩ : ∃ b, (u.get! 3).toNat = b := ⟨_, rfl⟩
  have hB3 : b3 < 256 := by rw [← hb3]; exact by_lt _
  rw [hb0] at hlo hhi
  have g0 : (u[0]'h0).toNat = b0 := (get_at u 0 h0).trans hb0
  clear hb0 hb1 hb2 hb3
  obtain ⟨Z, hZ⟩ : ∃ Z, letT u = Z := ⟨_, rfl⟩
  rw [hZ] at HL ⊢
  clear hZ
  have d0 : decide ((b0 : Int) < 128) = false := by rw [decide_eq_false_iff_not]; omega
  have d1 : decide ((194 : Int) ≤ (b0 : Int)) = false := by rw [decide_eq_false_iff_not]; omega
  have d2 : decide ((b0 : Int) < 224) = true := by rw [decide_eq_true_iff]; omega
  have d3 : decide ((224 : Int) ≤ (b0 : Int)) = false := by rw [decide_eq_false_iff_not]; omega
  have d4 : decide ((b0 : Int) < 240) = true := by rw [decide_eq_true_iff]; omega
  have d5 : decide ((240 : Int) ≤ (b0 : Int)) = false := by rw [decide_eq_false_iff_not]; omega
  have d6 : decide ((b0 : Int) < 245) = true := by rw [decide_eq_true_iff]; omega
  have z0 : (0 : Int) < (u.size : Int) := by omega
  have zb : (b0 : Int) ≤ 255 := by omega
  go_enter Tryz.func74, Tryz.ntmps74
  go_wp2
  go_ret
  exact ⟨by rw [HL.out]; rfl, rfl⟩
set_option maxHeartbeats 1000000 in
set_option maxRecDepth 100000 in
theorem letter_bad2 (u : ByteArray) (w : World) (h0 : 0 < u.size) (hs : u.size ≤ 140737488355328) (hlo : 245 ≤ (u.get! 0).toNat) (hhi : (u.get! 0).toNat ≤ 255) : Calls Tryz.prog 74 #[.string u] w fun e w' => e = .returned (.int .i64 (letT u : Int)) ∧ w' = w := by
  have HL : Hid (letT u = _) := hidden (letN_bad u.size (u.get! 0).toNat (u.get! 1).toNat (u.get! 2).toNat (u.get! 3).toNat (by omega) (by omega) (.inr (by omega)) (by_lt _) (by_lt _) (by_lt _))
  obtain ⟨b0, hb0⟩ : ∃ b, (u.get! 0).toNat = b := ⟨_, rfl⟩
  have hB0 : b0 < 256 := by rw [← hb0]; exact by_lt _
  obtain ⟨b1, hb1⟩ : ∃ b, (u.get! 1).toNat = b := ⟨_, rfl⟩
  have hB1 : b1 < 256 := by rw [← hb1]; exact by_lt _
  obtain ⟨b2, hb2⟩ : ∃ b, (u.get! 2).toNat = b := ⟨_, rfl⟩
  have hB2 : b2 < 256 := by rw [← hb2]; exact by_lt _
  obtain ⟨b3, hb3⟩ : ∃ b, (u.get! 3).toNat = b := ⟨_, rfl⟩
  have hB3 : b3 < 256 := by rw [← hb3]; exact by_lt _
  rw [hb0] at hlo hhi
  have g0 : (u[0]'h0).toNat = b0 := (get_at u 0 h0).trans hb0
  clear hb0 hb1 hb2 hb3
  obtain ⟨Z, hZ⟩ : ∃ Z, letT u = Z := ⟨_, rfl⟩
  rw [hZ] at HL ⊢
  clear hZ
  have d0 : decide ((b0 : Int) < 128) = false := by rw [decide_eq_false_iff_not]; omega
  have d1 : decide ((194 : Int) ≤ (b0 : Int)) = true := by rw [decide_eq_true_iff]; omega
  have d2 : decide ((b0 : Int) < 224) = false := by rw [decide_eq_false_iff_not]; omega
  have d3 : decide ((224 : Int) ≤ (b0 : Int)) = true := by rw [decide_eq_true_iff]; omega
  have d4 : decide ((b0 : Int) < 240) = false := by rw [decide_eq_false_iff_not]; omega
  have d5 : decide ((240 : Int) ≤ (b0 : Int)) = true := by rw [decide_eq_true_iff]; omega
  have d6 : decide ((b0 : Int) < 245) = false := by rw [decide_eq_false_iff_not]; omega
  have z0 : (0 : Int) < (u.size : Int) := by omega
  have zb : (b0 : Int) ≤ 255 := by omega
  go_enter Tryz.func74, Tryz.ntmps74
  go_wp2
  go_ret
  exact ⟨by rw [HL.out]; rfl, rfl⟩
set_option maxHeartbeats 1000000 in
set_option maxRecDepth 100000 in
theorem letter_two (u : ByteArray) (w : World) (h0 : 0 < u.size) (hs : u.size ≤ 140737488355328) (hlo : 194 ≤ (u.get! 0).toNat) (hhi : (u.get! 0).toNat ≤ 223) : Calls Tryz.prog 74 #[.string u] w fun e w' => e = .returned (.int .i64 (letT u : Int)) ∧ w' = w := by
  have HL : Hid (letT u = _) := hidden (letN_two u.size (u.get! 0).toNat (u.get! 1).toNat (u.get! 2).toNat (u.get! 3).toNat (by omega) (by omega) (by_lt _))
  obtain ⟨b0, hb0⟩ : ∃ b, (u.get! 0).toNat = b := ⟨_, rfl⟩
  have hB0 : b0 < 256 := by rw [← hb0]; exact by_lt _
  obtain ⟨b1, hb1⟩ : ∃ b, (u.get! 1).toNat = b := ⟨_, rfl⟩
  have hB1 : b1 < 256 := by rw [← hb1]; exact by_lt _
  obtain ⟨b2, hb2⟩ : ∃ b, (u.get! 2).toNat = b := ⟨_, rfl⟩
  have hB2 : b2 < 256 := by rw [← hb2]; exact by_lt _
  obtain ⟨b3, hb3⟩ : ∃ b, (u.get! 3).toNat = b := ⟨_, rfl⟩
  have hB3 : b3 < 256 := by rw [← hb3]; exact by_lt _
  simp only [hb1] at HL
  rw [hb0] at hlo hhi
  have g0 : (u[0]'h0).toNat = b0 := (get_at u 0 h0).trans hb0
  have G1 : Hid (∀ h : 1 < u.size, (u[1]'h).toNat = b1) := hidden (fun h => (get_at u 1 h).trans hb1)
  clear hb0 hb1 hb2 hb3
  obtain ⟨Z, hZ⟩ : ∃ Z, letT u = Z := ⟨_, rfl⟩
  rw [hZ] at HL ⊢
  clear hZ
  have d0 : decide ((b0 : Int) < 128) = false := by rw [decide_eq_false_iff_not]; omega
  have d1 : decide ((194 : Int) ≤ (b0 : Int)) = true := by rw [decide_eq_true_iff]; omega
  have d2 : decide ((b0 : Int) < 224) = true := by rw [decide_eq_true_iff]; omega
  have d3 : decide ((224 : Int) ≤ (b0 : Int)) = false := by rw [decide_eq_false_iff_not]; omega
  have d4 : decide ((b0 : Int) < 240) = true := by rw [decide_eq_true_iff]; omega
  have d5 : decide ((240 : Int) ≤ (b0 : Int)) = false := by rw [decide_eq_false_iff_not]; omega
  have d6 : decide ((b0 : Int) < 245) = true := by rw [decide_eq_true_iff]; omega
  have z0 : (0 : Int) < (u.size : Int) := by omega
  have zb : (b0 : Int) ≤ 255 := by omega
  have HLO := hidden (And.intro hlo hhi)
  by_cases hsn : u.size < 2
  · have zs : decide ((u.size : Int) < 2) = true := by rw [decide_eq_true_iff]; omega
    have HZ : Hid (Z = 0) := hidden (by rw [HL.out, if_pos hsn])
    clear HL
    go_enter Tryz.func74, Tryz.ntmps74
    go_wp2
    go_ret
    exact ⟨by rw [HZ.out]; rfl, rfl⟩
  have zs : decide ((u.size : Int) < 2) = false := by rw [decide_eq_false_iff_not]; omega
  have HSN : Hid (2 ≤ u.size) := hidden (by omega)
  clear hlo hhi hsn
  go_enter Tryz.func74, Tryz.ntmps74
  go_wp2_with fail
  go_loop [5, 7] (fun p x => (x = .int .i64 1 ∧ p = .int .i64 ((b0 : Int) - 192)) ∨ (x = .int .i64 2 ∧ p = .int .i64 (64 * ((b0 : Int) - 192) + (b1 : Int) - 128) ∧ Hid (128 ≤ b1 ∧ b1 ≤ 191))) (fun _ x => 2 - (RowKit.intOf x).toNat)
  case atStart => exact .inl ⟨rfl, rfl⟩
  case round =>
    rcases hrel with ⟨rfl, rfl⟩ | ⟨rfl, rfl, HV⟩
    · have hl := HLO.out
      have gi := G1.out (by have := HSN.out; omega)
      have zi : (1 : Int) < (u.size : Int) := by have := HSN.out; omega
      have bi : (b1 : Int) ≤ 255 := by omega
      by_cases e1 : b1 < 128
      · have HZ : Hid (Z = 0) := hidden (by rw [HL.out, if_neg (by have := HSN.out; omega), if_pos (by omega)])
        have y1 : decide ((b1 : Int) < 128) = true := by rw [decide_eq_true_iff]; omega
        clear HL
        go_wp2
        go_ret
        exact ⟨by rw [HZ.out]; rfl, rfl⟩
      · have y1 : decide ((b1 : Int) < 128) = false := by rw [decide_eq_false_iff_not]; omega
        by_cases e2 : 191 < b1
        · have HZ : Hid (Z = 0) := hidden (by rw [HL.out, if_neg (by have := HSN.out; omega), if_pos (by omega)])
          have y2 : decide ((191 : Int) < (b1 : Int)) = true := by rw [decide_eq_true_iff]; omega
          clear HL
          go_wp2
          go_ret
          exact ⟨by rw [HZ.out]; rfl, rfl⟩
        · have y2 : decide ((191 : Int) < (b1 : Int)) = false := by rw [decide_eq_false_iff_not]; omega
          have HN : Hid (128 ≤ b1 ∧ b1 ≤ 191) := hidden (by omega)
          go_wp2
          go_round
          case rel => exact .inr (⟨by first | rfl | go_num, by first | rfl | go_num | (congr 1; omega), HN⟩)
          case measure => simp [RowKit.intOf]
    · have hl := HLO.out
      have hv := HV.out
      obtain ⟨pt, hpt⟩ : ∃ pt : Nat, (64 * ((b0 : Int) - 192) + (b1 : Int) - 128) = (pt : Int) := ⟨((64 * ((b0 : Int) - 192) + (b1 : Int) - 128)).toNat, by omega⟩
      have HPT := hidden hpt
      rw [hpt]
      have zp : (pt : Int) ≤ 100000000 := by omega
      clear hpt
      have HZ : Hid (Z = 2) := hidden (by rw [HL.out, if_neg (by have := HSN.out; omega), if_neg (by have := HV.out; omega)])
      have y1 : decide ((pt : Int) < 128) = false := by rw [decide_eq_false_iff_not]; have := HPT.out; omega
      have y2 : decide ((1114111 : Int) < (pt : Int)) = false := by rw [decide_eq_false_iff_not]; have := HPT.out; omega
      have y3 : decide ((55296 : Int) ≤ (pt : Int)) = false := by rw [decide_eq_false_iff_not]; have := HPT.out; omega
      clear HL hl hv
      go_wp2
      go_ret
      exact ⟨by rw [HZ.out]; rfl, rfl⟩
set_option maxHeartbeats 1000000 in
set_option maxRecDepth 100000 in
theorem letter_three (u : ByteArray) (w : World) (h0 : 0 < u.size) (hs : u.size ≤ 140737488355328) (hlo : 224 ≤ (u.get! 0).toNat) (hhi : (u.get! 0).toNat ≤ 239) : Calls Tryz.prog 74 #[.string u] w fun e w' => e = .returned (.int .i64 (letT u : Int)) ∧ w' = w := by
  have HL : Hid (letT u = _) := hidden (letN_three u.size (u.get! 0).toNat (u.get! 1).toNat (u.get! 2).toNat (u.get! 3).toNat (by omega) (by omega) (by_lt _) (by_lt _))
  obtain ⟨b0, hb0⟩ : ∃ b, (u.get! 0).toNat = b := ⟨_, rfl⟩
  have hB0 : b0 < 256 := by rw [← hb0]; exact by_lt _
  obtain ⟨b1, hb1⟩ : ∃ b, (u.get! 1).toNat = b := ⟨_, rfl⟩
  have hB1 : b1 < 256 := by rw [← hb1]; exact by_lt _
  obtain ⟨b2, hb2⟩ : ∃ b, (u.get! 2).toNat = b := ⟨_, rfl⟩
  have hB2 : b2 < 256 := by rw [← hb2]; exact by_lt _
  obtain ⟨b3, hb3⟩ : ∃ b, (u.get! 3).toNat = b := ⟨_, rfl⟩
  have hB3 : b3 < 256 := by rw [← hb3]; exact by_lt _
  simp only [hb0, hb1, hb2] at HL
  rw [hb0] at hlo hhi
  have g0 : (u[0]'h0).toNat = b0 := (get_at u 0 h0).trans hb0
  have G1 : Hid (∀ h : 1 < u.size, (u[1]'h).toNat = b1) := hidden (fun h => (get_at u 1 h).trans hb1)
  have G2 : Hid (∀ h : 2 < u.size, (u[2]'h).toNat = b2) := hidden (fun h => (get_at u 2 h).trans hb2)
  clear hb0 hb1 hb2 hb3
  obtain ⟨Z, hZ⟩ : ∃ Z, letT u = Z := ⟨_, rfl⟩
  rw [hZ] at HL ⊢
  clear hZ
  have d0 : decide ((b0 : Int) < 128) = false := by rw [decide_eq_false_iff_not]; omega
  have d1 : decide ((194 : Int) ≤ (b0 : Int)) = true := by rw [decide_eq_true_iff]; omega
  have d2 : decide ((b0 : Int) < 224) = false := by rw [decide_eq_false_iff_not]; omega
  have d3 : decide ((224 : Int) ≤ (b0 : Int)) = true := by rw [decide_eq_true_iff]; omega
  have d4 : decide ((b0 : Int) < 240) = true := by rw [decide_eq_true_iff]; omega
  have d5 : decide ((240 : Int) ≤ (b0 : Int)) = false := by rw [decide_eq_false_iff_not]; omega
  have d6 : decide ((b0 : Int) < 245) = true := by rw [decide_eq_true_iff]; omega
  have z0 : (0 : Int) < (u.size : Int) := by omega
  have zb : (b0 : Int) ≤ 255 := by omega
  have HLO := hidden (And.intro hlo hhi)
  by_cases hsn : u.size < 3
  · have zs : decide ((u.size : Int) < 3) = true := by rw [decide_eq_true_iff]; omega
    have HZ : Hid (Z = 0) := hidden (by rw [HL.out, if_pos hsn])
    clear HL
    go_enter Tryz.func74, Tryz.ntmps74
    go_wp2
    go_ret
    exact ⟨by rw [HZ.out]; rfl, rfl⟩
  have zs : decide ((u.size : Int) < 3) = false := by rw [decide_eq_false_iff_not]; omega
  have HSN : Hid (3 ≤ u.size) := hidden (by omega)
  clear hlo hhi hsn
  go_enter Tryz.func74, Tryz.ntmps74
  go_wp2_with fail
  go_loop [5, 7] (fun p x => (x = .int .i64 1 ∧ p = .int .i64 ((b0 : Int) - 224)) ∨ (x = .int .i64 2 ∧ p = .int .i64 (64 * ((b0 : Int) - 224) + (b1 : Int) - 128) ∧ Hid (128 ≤ b1 ∧ b1 ≤ 191)) ∨ (x = .int .i64 3 ∧ p = .int .i64 (64 * (64 * ((b0 : Int) - 224) + (b1 : Int) - 128) + (b2 : Int) - 128) ∧ Hid (128 ≤ b1 ∧ b1 ≤ 191 ∧ 128 ≤ b2 ∧ b2 ≤ 191))) (fun _ x => 3 - (RowKit.intOf x).toNat)
  case atStart => exact .inl ⟨rfl, rfl⟩
  case round =>
    rcases hrel with ⟨rfl, rfl⟩ | ⟨rfl, rfl, HV⟩ | ⟨rfl, rfl, HV⟩
    · have hl := HLO.out
      have gi := G1.out (by have := HSN.out; omega)
      have zi : (1 : Int) < (u.size : Int) := by have := HSN.out; omega
      have bi : (b1 : Int) ≤ 255 := by omega
      by_cases e1 : b1 < 128
      · have HZ : Hid (Z = 0) := hidden (by rw [HL.out, if_neg (by have := HSN.out; omega), if_pos (by omega)])
        have y1 : decide ((b1 : Int) < 128) = true := by rw [decide_eq_true_iff]; omega
        clear HL
        go_wp2
        go_ret
        exact ⟨by rw [HZ.out]; rfl, rfl⟩
      · have y1 : decide ((b1 : Int) < 128) = false := by rw [decide_eq_false_iff_not]; omega
        by_cases e2 : 191 < b1
        · have HZ : Hid (Z = 0) := hidden (by rw [HL.out, if_neg (by have := HSN.out; omega), if_pos (by omega)])
          have y2 : decide ((191 : Int) < (b1 : Int)) = true := by rw [decide_eq_true_iff]; omega
          clear HL
          go_wp2
          go_ret
          exact ⟨by rw [HZ.out]; rfl, rfl⟩
        · have y2 : decide ((191 : Int) < (b1 : Int)) = false := by rw [decide_eq_false_iff_not]; omega
          have HN : Hid (128 ≤ b1 ∧ b1 ≤ 191) := hidden (by omega)
          go_wp2
          go_round
          case rel => exact .inr (.inl ⟨by first | rfl | go_num, by first | rfl | go_num | (congr 1; omega), HN⟩)
          case measure => simp [RowKit.intOf]
    · have hl := HLO.out
      have hv := HV.out
      have gi := G2.out (by have := HSN.out; omega)
      have zi : (2 : Int) < (u.size : Int) := by have := HSN.out; omega
      have bi : (b2 : Int) ≤ 255 := by omega
      by_cases e1 : b2 < 128
      · have HZ : Hid (Z = 0) := hidden (by rw [HL.out, if_neg (by have := HSN.out; omega), if_neg (by have := HV.out; omega), if_pos (by omega)])
        have y1 : decide ((b2 : Int) < 128) = true := by rw [decide_eq_true_iff]; omega
        clear HL
        go_wp2
        go_ret
        exact ⟨by rw [HZ.out]; rfl, rfl⟩
      · have y1 : decide ((b2 : Int) < 128) = false := by rw [decide_eq_false_iff_not]; omega
        by_cases e2 : 191 < b2
        · have HZ : Hid (Z = 0) := hidden (by rw [HL.out, if_neg (by have := HSN.out; omega), if_neg (by have := HV.out; omega), if_pos (by omega)])
          have y2 : decide ((191 : Int) < (b2 : Int)) = true := by rw [decide_eq_true_iff]; omega
          clear HL
          go_wp2
          go_ret
          exact ⟨by rw [HZ.out]; rfl, rfl⟩
        · have y2 : decide ((191 : Int) < (b2 : Int)) = false := by rw [decide_eq_false_iff_not]; omega
          have HN : Hid (128 ≤ b1 ∧ b1 ≤ 191 ∧ 128 ≤ b2 ∧ b2 ≤ 191) := hidden (by have := HV.out; omega)
          go_wp2
          go_round
          case rel => exact .inr (.inr (⟨by first | rfl | go_num, by first | rfl | go_num | (congr 1; omega), HN⟩))
          case measure => simp [RowKit.intOf]
    · have hl := HLO.out
      have hv := HV.out
      obtain ⟨pt, hpt⟩ : ∃ pt : Nat, (64 * (64 * ((b0 : Int) - 224) + (b1 : Int) - 128) + (b2 : Int) - 128) = (pt : Int) := ⟨((64 * (64 * ((b0 : Int) - 224) + (b1 : Int) - 128) + (b2 : Int) - 128)).toNat, by omega⟩
      have HPT := hidden hpt
      rw [hpt]
      have zp : (pt : Int) ≤ 100000000 := by omega
      clear hpt
      by_cases e1 : pt < 2048
      · have y1 : decide ((pt : Int) < 2048) = true := by rw [decide_eq_true_iff]; omega
        have HZ : Hid (Z = 0) := hidden (by rw [HL.out, if_neg (by have := HSN.out; omega), if_neg (by have := HV.out; omega), if_neg (by have := HV.out; omega), if_pos (by have := HPT.out; have := HLO.out; have := HV.out; omega)])
        clear HL hl hv
        go_wp2
        go_ret
        exact ⟨by rw [HZ.out]; rfl, rfl⟩
      have y1 : decide ((pt : Int) < 2048) = false := by rw [decide_eq_false_iff_not]; omega
      by_cases e2 : 1114111 < pt
      · have y2 : decide ((1114111 : Int) < (pt : Int)) = true := by rw [decide_eq_true_iff]; omega
        have HZ : Hid (Z = 0) := hidden (by rw [HL.out, if_neg (by have := HSN.out; omega), if_neg (by have := HV.out; omega), if_neg (by have := HV.out; omega), if_pos (by have := HPT.out; have := HLO.out; have := HV.out; omega)])
        clear HL hl hv
        go_wp2
        go_ret
        exact ⟨by rw [HZ.out]; rfl, rfl⟩
      have y2 : decide ((1114111 : Int) < (pt : Int)) = false := by rw [decide_eq_false_iff_not]; omega
      by_cases e3 : 55296 ≤ pt
      · have y3 : decide ((55296 : Int) ≤ (pt : Int)) = true := by rw [decide_eq_true_iff]; omega
        by_cases e4 : pt ≤ 57343
        · have y4 : decide ((pt : Int) ≤ 57343) = true := by rw [decide_eq_true_iff]; omega
          have HZ : Hid (Z = 0) := hidden (by rw [HL.out, if_neg (by have := HSN.out; omega), if_neg (by have := HV.out; omega), if_neg (by have := HV.out; omega), if_pos (by have := HPT.out; have := HLO.out; have := HV.out; omega)])
          clear HL hl hv
          go_wp2
          go_ret
          exact ⟨by rw [HZ.out]; rfl, rfl⟩
        have y4 : decide ((pt : Int) ≤ 57343) = false := by rw [decide_eq_false_iff_not]; omega
        have HZ : Hid (Z = 3) := hidden (by rw [HL.out, if_neg (by have := HSN.out; omega), if_neg (by have := HV.out; omega), if_neg (by have := HV.out; omega), if_neg (by have := HPT.out; have := HLO.out; have := HV.out; omega)])
        clear HL hl hv
        go_wp2
        go_ret
        exact ⟨by rw [HZ.out]; rfl, rfl⟩
      have y3 : decide ((55296 : Int) ≤ (pt : Int)) = false := by rw [decide_eq_false_iff_not]; omega
      have HZ : Hid (Z = 3) := hidden (by rw [HL.out, if_neg (by have := HSN.out; omega), if_neg (by have := HV.out; omega), if_neg (by have := HV.out; omega), if_neg (by have := HPT.out; have := HLO.out; have := HV.out; omega)])
      clear HL hl hv
      go_wp2
      go_ret
      exact ⟨by rw [HZ.out]; rfl, rfl⟩
set_option maxHeartbeats 1000000 in
set_option maxRecDepth 100000 in
theorem letter_four (u : ByteArray) (w : World) (h0 : 0 < u.size) (hs : u.size ≤ 140737488355328) (hlo : 240 ≤ (u.get! 0).toNat) (hhi : (u.get! 0).toNat ≤ 244) : Calls Tryz.prog 74 #[.string u] w fun e w' => e = .returned (.int .i64 (letT u : Int)) ∧ w' = w := by
  have HL : Hid (letT u = _) := hidden (letN_four u.size (u.get! 0).toNat (u.get! 1).toNat (u.get! 2).toNat (u.get! 3).toNat (by omega) (by omega) (by_lt _) (by_lt _) (by_lt _))
  obtain ⟨b0, hb0⟩ : ∃ b, (u.get! 0).toNat = b := ⟨_, rfl⟩
  have hB0 : b0 < 256 := by rw [← hb0]; exact by_lt _
  obtain ⟨b1, hb1⟩ : ∃ b, (u.get! 1).toNat = b := ⟨_, rfl⟩
  have hB1 : b1 < 256 := by rw [← hb1]; exact by_lt _
  obtain ⟨b2, hb2⟩ : ∃ b, (u.get! 2).toNat = b := ⟨_, rfl⟩
  have hB2 : b2 < 256 := by rw [← hb2]; exact by_lt _
  obtain ⟨b3, hb3⟩ : ∃ b, (u.get! 3).toNat = b := ⟨_, rfl⟩
  have hB3 : b3 < 256 := by rw [← hb3]; exact by_lt _
  simp only [hb0, hb1, hb2, hb3] at HL
  rw [hb0] at hlo hhi
  have g0 : (u[0]'h0).toNat = b0 := (get_at u 0 h0).trans hb0
  have G1 : Hid (∀ h : 1 < u.size, (u[1]'h).toNat = b1) := hidden (fun h => (get_at u 1 h).trans hb1)
  have G2 : Hid (∀ h : 2 < u.size, (u[2]'h).toNat = b2) := hidden (fun h => (get_at u 2 h).trans hb2)
  have G3 : Hid (∀ h : 3 < u.size, (u[3]'h).toNat = b3) := hidden (fun h => (get_at u 3 h).trans hb3)
  clear hb0 hb1 hb2 hb3
  obtain ⟨Z, hZ⟩ : ∃ Z, letT u = Z := ⟨_, rfl⟩
  rw [hZ] at HL ⊢
  clear hZ
  have d0 : decide ((b0 : Int) < 128) = false := by rw [decide_eq_false_iff_not]; omega
  have d1 : decide ((194 : Int) ≤ (b0 : Int)) = true := by rw [decide_eq_true_iff]; omega
  have d2 : decide ((b0 : Int) < 224) = false := by rw [decide_eq_false_iff_not]; omega
  have d3 : decide ((224 : Int) ≤ (b0 : Int)) = true := by rw [decide_eq_true_iff]; omega
  have d4 : decide ((b0 : Int) < 240) = false := by rw [decide_eq_false_iff_not]; omega
  have d5 : decide ((240 : Int) ≤ (b0 : Int)) = true := by rw [decide_eq_true_iff]; omega
  have d6 : decide ((b0 : Int) < 245) = true := by rw [decide_eq_true_iff]; omega
  have z0 : (0 : Int) < (u.size : Int) := by omega
  have zb : (b0 : Int) ≤ 255 := by omega
  have HLO := hidden (And.intro hlo hhi)
  by_cases hsn : u.size < 4
  · have zs : decide ((u.size : Int) < 4) = true := by rw [decide_eq_true_iff]; omega
    have HZ : Hid (Z = 0) := hidden (by rw [HL.out, if_pos hsn])
    clear HL
    go_enter Tryz.func74, Tryz.ntmps74
    go_wp2
    go_ret
    exact ⟨by rw [HZ.out]; rfl, rfl⟩
  have zs : decide ((u.size : Int) < 4) = false := by rw [decide_eq_false_iff_not]; omega
  have HSN : Hid (4 ≤ u.size) := hidden (by omega)
  clear hlo hhi hsn
  go_enter Tryz.func74, Tryz.ntmps74
  go_wp2_with fail
  go_loop [5, 7] (fun p x => (x = .int .i64 1 ∧ p = .int .i64 ((b0 : Int) - 240)) ∨ (x = .int .i64 2 ∧ p = .int .i64 (64 * ((b0 : Int) - 240) + (b1 : Int) - 128) ∧ Hid (128 ≤ b1 ∧ b1 ≤ 191)) ∨ (x = .int .i64 3 ∧ p = .int .i64 (64 * (64 * ((b0 : Int) - 240) + (b1 : Int) - 128) + (b2 : Int) - 128) ∧ Hid (128 ≤ b1 ∧ b1 ≤ 191 ∧ 128 ≤ b2 ∧ b2 ≤ 191)) ∨ (x = .int .i64 4 ∧ p = .int .i64 (64 * (64 * (64 * ((b0 : Int) - 240) + (b1 : Int) - 128) + (b2 : Int) - 128) + (b3 : Int) - 128) ∧ Hid (128 ≤ b1 ∧ b1 ≤ 191 ∧ 128 ≤ b2 ∧ b2 ≤ 191 ∧ 128 ≤ b3 ∧ b3 ≤ 191))) (fun _ x => 4 - (RowKit.intOf x).toNat)
  case atStart => exact .inl ⟨rfl, rfl⟩
  case round =>
    rcases hrel with ⟨rfl, rfl⟩ | ⟨rfl, rfl, HV⟩ | ⟨rfl, rfl, HV⟩ | ⟨rfl, rfl, HV⟩
    · have hl := HLO.out
      have gi := G1.out (by have := HSN.out; omega)
      have zi : (1 : Int) < (u.size : Int) := by have := HSN.out; omega
      have bi : (b1 : Int) ≤ 255 := by omega
      by_cases e1 : b1 < 128
      · have HZ : Hid (Z = 0) := hidden (by rw [HL.out, if_neg (by have := HSN.out; omega), if_pos (by omega)])
        have y1 : decide ((b1 : Int) < 128) = true := by rw [decide_eq_true_iff]; omega
        clear HL
        go_wp2
        go_ret
        exact ⟨by rw [HZ.out]; rfl, rfl⟩
      · have y1 : decide ((b1 : Int) < 128) = false := by rw [decide_eq_false_iff_not]; omega
        by_cases e2 : 191 < b1
        · have HZ : Hid (Z = 0) := hidden (by rw [HL.out, if_neg (by have := HSN.out; omega), if_pos (by omega)])
          have y2 : decide ((191 : Int) < (b1 : Int)) = true := by rw [decide_eq_true_iff]; omega
          clear HL
          go_wp2
          go_ret
          exact ⟨by rw [HZ.out]; rfl, rfl⟩
        · have y2 : decide ((191 : Int) < (b1 : Int)) = false := by rw [decide_eq_false_iff_not]; omega
          have HN : Hid (128 ≤ b1 ∧ b1 ≤ 191) := hidden (by omega)
          go_wp2
          go_round
          case rel => exact .inr (.inl ⟨by first | rfl | go_num, by first | rfl | go_num | (congr 1; omega), HN⟩)
          case measure => simp [RowKit.intOf]
    · have hl := HLO.out
      have hv := HV.out
      have gi := G2.out (by have := HSN.out; omega)
      have zi : (2 : Int) < (u.size : Int) := by have := HSN.out; omega
      have bi : (b2 : Int) ≤ 255 := by omega
      by_cases e1 : b2 < 128
      · have HZ : Hid (Z = 0) := hidden (by rw [HL.out, if_neg (by have := HSN.out; omega), if_neg (by have := HV.out; omega), if_pos (by omega)])
        have y1 : decide ((b2 : Int) < 128) = true := by rw [decide_eq_true_iff]; omega
        clear HL
        go_wp2
        go_ret
        exact ⟨by rw [HZ.out]; rfl, rfl⟩
      · have y1 : decide ((b2 : Int) < 128) = false := by rw [decide_eq_false_iff_not]; omega
        by_cases e2 : 191 < b2
        · have HZ : Hid (Z = 0) := hidden (by rw [HL.out, if_neg (by have := HSN.out; omega), if_neg (by have := HV.out; omega), if_pos (by omega)])
          have y2 : decide ((191 : Int) < (b2 : Int)) = true := by rw [decide_eq_true_iff]; omega
          clear HL
          go_wp2
          go_ret
          exact ⟨by rw [HZ.out]; rfl, rfl⟩
        · have y2 : decide ((191 : Int) < (b2 : Int)) = false := by rw [decide_eq_false_iff_not]; omega
          have HN : Hid (128 ≤ b1 ∧ b1 ≤ 191 ∧ 128 ≤ b2 ∧ b2 ≤ 191) := hidden (by have := HV.out; omega)
          go_wp2
          go_round
          case rel => exact .inr (.inr (.inl ⟨by first | rfl | go_num, by first | rfl | go_num | (congr 1; omega), HN⟩))
          case measure => simp [RowKit.intOf]
    · have hl := HLO.out
      have hv := HV.out
      have gi := G3.out (by have := HSN.out; omega)
      have zi : (3 : Int) < (u.size : Int) := by have := HSN.out; omega
      have bi : (b3 : Int) ≤ 255 := by omega
      by_cases e1 : b3 < 128
      · have HZ : Hid (Z = 0) := hidden (by rw [HL.out, if_neg (by have := HSN.out; omega), if_neg (by have := HV.out; omega), if_neg (by have := HV.out; omega), if_pos (by omega)])
        have y1 : decide ((b3 : Int) < 128) = true := by rw [decide_eq_true_iff]; omega
        clear HL
        go_wp2
        go_ret
        exact ⟨by rw [HZ.out]; rfl, rfl⟩
      · have y1 : decide ((b3 : Int) < 128) = false := by rw [decide_eq_false_iff_not]; omega
        by_cases e2 : 191 < b3
        · have HZ : Hid (Z = 0) := hidden (by rw [HL.out, if_neg (by have := HSN.out; omega), if_neg (by have := HV.out; omega), if_neg (by have := HV.out; omega), if_pos (by omega)])
          have y2 : decide ((191 : Int) < (b3 : Int)) = true := by rw [decide_eq_true_iff]; omega
          clear HL
          go_wp2
          go_ret
          exact ⟨by rw [HZ.out]; rfl, rfl⟩
        · have y2 : decide ((191 : Int) < (b3 : Int)) = false := by rw [decide_eq_false_iff_not]; omega
          have HN : Hid (128 ≤ b1 ∧ b1 ≤ 191 ∧ 128 ≤ b2 ∧ b2 ≤ 191 ∧ 128 ≤ b3 ∧ b3 ≤ 191) := hidden (by have := HV.out; omega)
          go_wp2
          go_round
          case rel => exact .inr (.inr (.inr (⟨by first | rfl | go_num, by first | rfl | go_num | (congr 1; omega), HN⟩)))
          case measure => simp [RowKit.intOf]
    · have hl := HLO.out
      have hv := HV.out
      obtain ⟨pt, hpt⟩ : ∃ pt : Nat, (64 * (64 * (64 * ((b0 : Int) - 240) + (b1 : Int) - 128) + (b2 : Int) - 128) + (b3 : Int) - 128) = (pt : Int) := ⟨((64 * (64 * (64 * ((b0 : Int) - 240) + (b1 : Int) - 128) + (b2 : Int) - 128) + (b3 : Int) - 128)).toNat, by omega⟩
      have HPT := hidden hpt
      rw [hpt]
      have zp : (pt : Int) ≤ 100000000 := by omega
      clear hpt
      by_cases e1 : pt < 65536
      · have y1 : decide ((pt : Int) < 65536) = true := by rw [decide_eq_true_iff]; omega
        have HZ : Hid (Z = 0) := hidden (by rw [HL.out, if_neg (by have := HSN.out; omega), if_neg (by have := HV.out; omega), if_neg (by have := HV.out; omega), if_neg (by have := HV.out; omega), if_pos (by have := HPT.out; have := HLO.out; have := HV.out; omega)])
        clear HL hl hv
        go_wp2
        go_ret
        exact ⟨by rw [HZ.out]; rfl, rfl⟩
      have y1 : decide ((pt : Int) < 65536) = false := by rw [decide_eq_false_iff_not]; omega
      by_cases e2 : 1114111 < pt
      · have y2 : decide ((1114111 : Int) < (pt : Int)) = true := by rw [decide_eq_true_iff]; omega
        have HZ : Hid (Z = 0) := hidden (by rw [HL.out, if_neg (by have := HSN.out; omega), if_neg (by have := HV.out; omega), if_neg (by have := HV.out; omega), if_neg (by have := HV.out; omega), if_pos (by have := HPT.out; have := HLO.out; have := HV.out; omega)])
        clear HL hl hv
        go_wp2
        go_ret
        exact ⟨by rw [HZ.out]; rfl, rfl⟩
      have y2 : decide ((1114111 : Int) < (pt : Int)) = false := by rw [decide_eq_false_iff_not]; omega
      by_cases e3 : 55296 ≤ pt
      · have y3 : decide ((55296 : Int) ≤ (pt : Int)) = true := by rw [decide_eq_true_iff]; omega
        by_cases e4 : pt ≤ 57343
        · have y4 : decide ((pt : Int) ≤ 57343) = true := by rw [decide_eq_true_iff]; omega
          have HZ : Hid (Z = 0) := hidden (by rw [HL.out, if_neg (by have := HSN.out; omega), if_neg (by have := HV.out; omega), if_neg (by have := HV.out; omega), if_neg (by have := HV.out; omega), if_pos (by have := HPT.out; have := HLO.out; have := HV.out; omega)])
          clear HL hl hv
          go_wp2
          go_ret
          exact ⟨by rw [HZ.out]; rfl, rfl⟩
        have y4 : decide ((pt : Int) ≤ 57343) = false := by rw [decide_eq_false_iff_not]; omega
        have HZ : Hid (Z = 4) := hidden (by rw [HL.out, if_neg (by have := HSN.out; omega), if_neg (by have := HV.out; omega), if_neg (by have := HV.out; omega), if_neg (by have := HV.out; omega), if_neg (by have := HPT.out; have := HLO.out; have := HV.out; omega)])
        clear HL hl hv
        go_wp2
        go_ret
        exact ⟨by rw [HZ.out]; rfl, rfl⟩
      have y3 : decide ((55296 : Int) ≤ (pt : Int)) = false := by rw [decide_eq_false_iff_not]; omega
      have HZ : Hid (Z = 4) := hidden (by rw [HL.out, if_neg (by have := HSN.out; omega), if_neg (by have := HV.out; omega), if_neg (by have := HV.out; omega), if_neg (by have := HV.out; omega), if_neg (by have := HPT.out; have := HLO.out; have := HV.out; omega)])
      clear HL hl hv
      go_wp2
      go_ret
      exact ⟨by rw [HZ.out]; rfl, rfl⟩
set_option maxRecDepth 100000 in
theorem letter_any (u : ByteArray) (w : World) (h0 : 0 < u.size) (hs : u.size ≤ 140737488355328) : Calls Tryz.prog 74 #[.string u] w fun e w' => e = .returned (.int .i64 (letT u : Int)) ∧ w' = w := by
  have hb := by_lt (u.get! 0)
  by_cases h1 : (u.get! 0).toNat ≤ 127
  · exact letter_one u w h0 hs (Nat.zero_le _) h1
  by_cases h2 : (u.get! 0).toNat ≤ 193
  · exact letter_bad1 u w h0 hs (by omega) h2
  by_cases h3 : (u.get! 0).toNat ≤ 223
  · exact letter_two u w h0 hs (by omega) h3
  by_cases h4 : (u.get! 0).toNat ≤ 239
  · exact letter_three u w h0 hs (by omega) h4
  by_cases h5 : (u.get! 0).toNat ≤ 244
  · exact letter_four u w h0 hs (by omega) h5
  · exact letter_bad2 u w h0 hs (by omega) (by omega)
set_option maxHeartbeats 1000000 in
set_option maxRecDepth 100000 in
theorem utf8_any (t : ByteArray) (w : World) (hs : t.size ≤ 140737488355328) : Calls Tryz.prog 57 #[.string t] w fun e w' => e = .returned (.bool (Lib.validD t.data.toList)) ∧ w' = w := by
  obtain ⟨V, hV⟩ : ∃ V, Lib.validD t.data.toList = V := ⟨_, rfl⟩
  have HV := hidden hV
  rw [hV]
  clear hV
  go_enter Tryz.func57, Tryz.ntmps57
  go_wp2_with fail
  go_loop [3] (fun x => ∃ i : Nat, i ≤ t.size ∧ x = .int .i64 (i : Int) ∧ Hid (Lib.validD (t.data.toList.drop i) = V)) (fun x => t.size - (RowKit.intOf x).toNat)
  case atStart => exact ⟨0, by omega, rfl, hidden (by rw [List.drop_zero]; exact HV.out)⟩
  case round =>
    obtain ⟨i, hi, rfl, HD⟩ := hrel
    have bi : (i : Int) ≤ 140737488355328 := by omega
    by_cases hlt : i < t.size
    · have hltI : (i : Int) < (t.size : Int) := by omega
      have hleI : (i : Int) ≤ (t.size : Int) := by omega
      obtain ⟨u, hu⟩ : ∃ u, t.extract i t.size = u := ⟨_, rfl⟩
      have hus : u.size = t.size - i := by rw [← hu, Lib.ext_size]
      have HS : Hid (V = if letT u = 0 then false else Lib.validD (t.data.toList.drop (i + letT u))) := hidden (by rw [← HD.out, valid_step t i hlt, hu])
      have HLE := hidden (letT_le u (by omega))
      have HLC := hidden (letter_any u w (by omega) (by omega))
      obtain ⟨k, hk⟩ : ∃ k, letT u = k := ⟨_, rfl⟩
      rw [hk] at HS HLE HLC
      have bk : (k : Int) ≤ 140737488355328 := by have := HLE.out; omega
      have HUS := hidden hus
      clear hk hus HD
      go_wp2_with (first | (go_at_call 74; refine same_call HLC.out ?_; refine Hid.out ?_))
      apply hidden
      by_cases hk0 : k = 0
      · subst hk0
        have HF : Hid (V = false) := hidden (by rw [HS.out, if_pos rfl])
        clear HS HLC
        go_wp2
        go_ret
        exact ⟨by rw [HF.out]; rfl, rfl⟩
      · have hk0I : ¬ (k : Int) = 0 := by omega
        have hk0b : ((k : Int) == 0) = false := by rw [beq_eq_false_iff_ne]; omega
        have HN : Hid (Lib.validD (t.data.toList.drop (i + k)) = V) := hidden (by rw [HS.out, if_neg hk0])
        have hle : i + k ≤ t.size := by have := HLE.out; have := HUS.out; omega
        clear HS HLC hu
        go_wp2
        go_round
        case rel => exact ⟨i + k, hle, by go_num, HN⟩
        case measure => simp [RowKit.intOf]; omega
    · obtain rfl : i = t.size := by omega
      have hlI : ¬ (t.size : Int) < (t.size : Int) := by omega
      have HT : Hid (V = true) := hidden (by
        rw [← HD.out, List.drop_of_length_le (by rw [Array.length_toList]; exact Nat.le_refl _)]
        rfl)
      go_wp2
      go_ret
      exact ⟨by rw [HT.out]; rfl, rfl⟩
end Go.Proofs.YtfdiflfjefhjfaaGreatDoor
