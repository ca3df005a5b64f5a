/- The document's ReadUint and ReadOrdered come to the same. -/
import Derived.Test.YtfofkgdhepdjeaaDoorRefReads
namespace Go.Proofs.YtfofkgdhepdjeaaDoor
open Go.RowKit

theorem mul_up (c : Int) (k : Nat) (n m : Int) (h : n + c * 128 ^ k = m) (h1 : 0 ≤ n + c * 128 ^ k) (h2 : n + c * 128 ^ k < 18446744073709551616) (hc : 0 ≤ c) (h0 : 0 ≤ n) : IntKind.u64.wrap (n + IntKind.u64.wrap (c * 128 ^ k)) = m := by
  have hcm : 0 ≤ c * 128 ^ k := Int.mul_nonneg hc (Int.le_of_lt (Int.pow_pos (by omega)))
  rw [IntKind.wrap_u64, IntKind.wrap_u64, ← h]
  generalize c * 128 ^ k = y at *
  have := h0
  omega
theorem pow_wrap (k : Nat) (h : k < 9) : IntKind.u64.wrap (128 ^ k * 128) = 128 ^ (k + 1) := by
  have h2 : k = 0 ∨ k = 1 ∨ k = 2 ∨ k = 3 ∨ k = 4 ∨ k = 5 ∨ k = 6 ∨ k = 7 ∨ k = 8 := by omega
  rcases h2 with rfl | rfl | rfl | rfl | rfl | rfl | rfl | rfl | rfl <;> rw [IntKind.wrap_u64] <;> decide

set_option maxHeartbeats 1000000 in
theorem refReadUint_all (ao : Option Addr) (n cap : Nat) (l : List Int) (p' : Int) (w : World) (hs : Sl w ao n cap l) :
    Calls Tryd.prog 20 #[.slice ao n cap, .int .i64 p'] w fun e w' => e = .returned (.tuple #[.int .u64 (rUx l p').1, .int .i64 (rUx l p').2.1, .int .i64 (rUx l p').2.2]) ∧ w' = w := by
  obtain ⟨hlen, hcap, hroom, hwf, hnil, hat⟩ := hs
  unfold rUx
  by_cases h : p' < 0 ∨ l.length < p'
  · rw [if_pos h]
    rw [hlen] at h
    rcases h with h | h
    · go_enter Tryd.func20, Tryd.ntmps20
      go_wp2
      go_ret3
      exact ⟨rfl, rfl⟩
    · have h' : ¬ p' < 0 := by omega
      go_enter Tryd.func20, Tryd.ntmps20
      go_wp2
      go_ret3
      exact ⟨rfl, rfl⟩
  · rw [if_neg h]
    rw [hlen] at h
    obtain ⟨p, rfl⟩ := Int.eq_ofNat_of_zero_le (show 0 ≤ p' by omega)
    have hpn : p ≤ n := by omega
    clear h
    rw [Int.toNat_natCast]
    generalize hF : rU p (l.drop p) 0 0 = F
    have HF := hidden hF
    clear hF
    go_enter Tryd.func20, Tryd.ntmps20
    go_wp2_with fail
    go_loop [7, 8, 9] (fun v u i => ∃ (k : Nat) (m : Int), k ≤ n - p ∧ k ≤ 9 ∧ i = .int .i64 k ∧ u = .int .u64 (128 ^ k) ∧ v = .int .u64 m ∧ 0 ≤ m ∧ m < 128 ^ k ∧ Hid (rU p (l.drop (p + k)) k m = F)) (fun _ _ i => (n - p) - (intOf i).toNat)
    case atStart => exact ⟨0, 0, by omega, by omega, rfl, rfl, rfl, by omega, by simp, HF⟩
    case round =>
      obtain ⟨k, m, hk, hk9, rfl, rfl, rfl, hm0, hm, HR⟩ := hrel
      clear HF
      by_cases hlt : k < n - p
      · rcases hat with h | ⟨b, off, rfl, hb, hc⟩
        · omega
        have hck := hc (p + k) (by omega)
        have hby := hwf.getD (p + k)
        have e := HR.out
        rw [drop_cons l (p + k) (by omega), rU] at e
        clear hc HR
        generalize l.getD (p + k) 0 = c at *
        by_cases h9 : k = 9 ∧ 1 < c
        · rw [if_pos h9] at e
          have HE := hidden e
          obtain ⟨rfl, hc1⟩ := h9
          clear e hm
          go_wp2
          go_ret3
          exact ⟨by rw [← HE.out]; rfl, rfl⟩
        · rw [if_neg h9] at e
          by_cases hcc : 128 ≤ c
          · rw [if_pos hcc] at e
            have h9' : k < 9 := by omega
            have hup := (or_up m (c - 128) k hm0 hm (by omega) (by omega) (.inl h9')).2
            have hb9 : ((k : Int) == 9) = false := by simp; omega
            have hnn : 0 ≤ m + (c - 128) * 128 ^ k := by
              have : 0 ≤ (c - 128) * 128 ^ k := Int.mul_nonneg (by omega) (Int.le_of_lt (Int.pow_pos (by omega)))
              omega
            have hcm : c % 128 = c - 128 := by omega
            have HE := hidden e
            have HUP := hidden hup
            clear e hup h9 hm
            generalize hP : (128 : Int) ^ k = P at *
            have HPP := hidden hP
            clear hP
            go_wp2
            go_round
            case rel =>
              refine ⟨k + 1, m + (c - 128) * P, by omega, by omega, by go_num, ?_, ?_, hnn, HUP.out.1, HE⟩
              · rw [← HPP.out, pow_wrap k h9']
              · have h63 : (128 : Int) ^ (k + 1) ≤ 18446744073709551616 := by
                  have h2 : k = 0 ∨ k = 1 ∨ k = 2 ∨ k = 3 ∨ k = 4 ∨ k = 5 ∨ k = 6 ∨ k = 7 ∨ k = 8 := by omega
                  rcases h2 with rfl | rfl | rfl | rfl | rfl | rfl | rfl | rfl | rfl <;> decide
                have hlt2 : m + (c - 128) * P < 18446744073709551616 := Int.lt_of_lt_of_le HUP.out.1 h63
                rw [← HPP.out] at hnn hlt2 ⊢
                rw [mul_up (c - 128) k m _ rfl hnn hlt2 (by omega) hm0]
            case measure => simp [intOf]; omega
          · rw [if_neg hcc] at e
            have hcm : c % 128 = c := by omega
            have hup := (or_up m c k hm0 hm (by omega) (by omega) (by omega)).2
            have hlt2 : m + c * 128 ^ k < 18446744073709551616 := by
              rcases hup.2 with h | h
              · have h2 : k = 0 ∨ k = 1 ∨ k = 2 ∨ k = 3 ∨ k = 4 ∨ k = 5 ∨ k = 6 ∨ k = 7 ∨ k = 8 := by omega
                have h3 := hup.1
                rcases h2 with rfl | rfl | rfl | rfl | rfl | rfl | rfl | rfl | rfl <;> simp at h3 ⊢ <;> omega
              · exact h
            have hnn : 0 ≤ m + c * 128 ^ k := by
              have : 0 ≤ c * 128 ^ k := Int.mul_nonneg (by omega) (Int.le_of_lt (Int.pow_pos (by omega)))
              omega
            have HM := hidden (mul_up c k m _ rfl hnn hlt2 (by omega) hm0)
            clear hup hlt2 hnn hm
            by_cases hz : c = 0 ∧ 0 < k
            · rw [if_pos hz] at e
              have HE := hidden e
              have hb0 : (c == 0) = true := by simp [hz.1]
              have hk0 := hz.2
              clear e hz HM
              generalize (128 : Int) ^ k = P at *
              by_cases h9k : k = 9
              · have hc1 : c ≤ 1 := by omega
                subst h9k
                clear h9
                go_wp2
                go_ret3
                exact ⟨by rw [← HE.out]; rfl, rfl⟩
              · have hb9 : ((k : Int) == 9) = false := by simp; omega
                clear h9
                go_wp2
                go_ret3
                exact ⟨by rw [← HE.out]; rfl, rfl⟩
            · rw [if_neg hz] at e
              have HE := hidden e
              clear e
              by_cases h9k : k = 9
              · have hc1 : c ≤ 1 := by omega
                have hb0 : (c == 0) = false := by simp; omega
                clear h9 hz
                generalize hP : (128 : Int) ^ k = P at *
                clear hP
                subst h9k
                go_wp2
                go_ret3
                exact ⟨by rw [← HE.out, ← HM.out]; rfl, rfl⟩
              · have hb9 : ((k : Int) == 9) = false := by simp; omega
                clear h9
                by_cases hc0 : c = 0
                · have hb0 : (c == 0) = true := by simp [hc0]
                  have hk0 : ¬ (0 < (k : Int)) := by omega
                  clear hz hc0
                  generalize hP : (128 : Int) ^ k = P at *
                  clear hP
                  go_wp2
                  go_ret3
                  exact ⟨by rw [← HE.out, ← HM.out]; rfl, rfl⟩
                · have hb0 : (c == 0) = false := by simp [hc0]
                  clear hz hc0
                  generalize hP : (128 : Int) ^ k = P at *
                  clear hP
                  go_wp2
                  go_ret3
                  exact ⟨by rw [← HE.out, ← HM.out]; rfl, rfl⟩
      · have e := HR.out
        rw [List.drop_eq_nil_of_le (by omega), rU] at e
        have HE := hidden e
        clear e HR hm
        generalize (128 : Int) ^ k = P at *
        go_wp2
        go_ret3
        exact ⟨by rw [← HE.out]; rfl, rfl⟩
end Go.Proofs.YtfofkgdhepdjeaaDoor
