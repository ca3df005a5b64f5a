/- The document's IsPage and Pages. -/
import Derived.Test.YtllcbilhpijjhaaDoorLt
namespace Go.Proofs.YtllcbilhpijjhaaDoor
open Go.RowKit Go.Maps

def pgs (x : Int) : Bool := decide (x = 512 ∨ x = 1024 ∨ x = 2048 ∨ x = 4096 ∨ x = 8192 ∨ x = 16384 ∨ x = 32768 ∨ x = 65536)
set_option maxRecDepth 100000 in
theorem IsPage_any (x : Int) (w : World) : Calls Tryd.prog 28 #[.int .i64 x] w fun e w' => e = .returned (.bool (pgs x)) ∧ w' = w := by
  go_enter Tryd.func28, Tryd.ntmps28
  go_wp2
  go_loop [3] (fun t => ∃ n : Int, t = .int .i64 n ∧ 512 ≤ n ∧ n ≤ 131072 ∧ (pgs n = true ∨ n = 131072) ∧ (pgs x = true → n ≤ x)) (fun t => (131072 - intOf t).toNat)
  case atStart => exact ⟨512, rfl, by omega, by omega, .inl (by decide), fun h => by simp only [pgs, decide_eq_true_eq] at h; omega⟩
  case round =>
    obtain ⟨n, rfl, h1, h2, h3, h4⟩ := hrel
    have H3 := hidden h3
    have H4 := hidden h4
    clear h3 h4
    by_cases hle : n ≤ 65536
    · by_cases he : n = x
      · have hp : pgs x = true := by
          rcases H3.out with h | h
          · rw [← he]; exact h
          · omega
        subst he
        have HP := hidden hp
        clear hp
        go_wp2
        go_ret
        exact ⟨by rw [HP.out]; rfl, rfl⟩
      · have hne : (n == x) = false := by simpa using he
        go_wp2
        go_round
        case rel =>
          refine ⟨2 * n, rfl, by omega, by omega, ?_, ?_⟩
          · have := H3.out
            simp only [pgs, decide_eq_true_eq] at this ⊢
            omega
          · intro h
            have h5 := H4.out h
            have h6 := H3.out
            simp only [pgs, decide_eq_true_eq] at h h6
            omega
        case measure => simp [intOf]; omega
    · have hp : pgs x = false := by
        cases hx : pgs x
        · rfl
        · have h5 := H4.out hx
          have h6 := H3.out
          simp only [pgs, decide_eq_true_eq] at hx h6
          omega
      have HP := hidden hp
      clear hp
      go_wp2
      go_ret
      exact ⟨by rw [HP.out]; rfl, rfl⟩

set_option maxRecDepth 100000 in
theorem refIsPage_any (x : Int) (w : World) : Calls Tryd.prog 28 #[.int .i64 x] w fun e w' => e = .returned (.bool (decide (pw x))) ∧ w' = w := by
  have e : pgs x = decide (pw x) := by
    unfold pgs pw
    rfl
  rw [← e]
  exact IsPage_any x w
set_option maxRecDepth 100000 in
theorem refPages_any (p n : Int) (hn : n ≤ 1000000) (w : World) : Calls Tryd.prog 63 #[.int .i64 p, .int .i64 n] w fun e u => e = .returned (.int .i64 (pgN p n)) ∧ u = w := by
  have HI := hidden (refIsPage_any p w)
  by_cases hp : pw p
  · have e1 : decide (pw p) = true := by simpa using hp
    have hpl := pw_le hp
    by_cases h1 : n < 1
    · have he : pgN p n = 0 := by unfold pgN; rw [if_pos (.inr h1)]
      rw [he]
      have h2 : decide (0 < n) = false := by simp; omega
      have h3 : ¬ 0 < n := by omega
      clear hp
      go_enter Tryd.func63, Tryd.ntmps63
      go_wp2_with (first | (go_at_call 28; refine same_call HI.out ?_; rw [e1]))
      go_loop [1, 6] (fun x k => x = .int .i64 n ∧ k = .int .i64 0) (fun _ _ => 0)
      case atStart => exact ⟨rfl, rfl⟩
      case round =>
        obtain ⟨rfl, rfl⟩ := hrel
        go_wp2
        go_ret
        exact ⟨rfl, rfl⟩
    · have he := pgN_pos hp (show 1 ≤ n by omega)
      obtain ⟨q, hq⟩ : ∃ q : Nat, n - 1 = (q : Int) := ⟨(n - 1).toNat, by omega⟩
      obtain ⟨h, hh⟩ : ∃ h : Nat, p - 16 = (h : Int) := ⟨(p - 16).toNat, by omega⟩
      have hC : pgN p n = ((q / h + 1 : Nat) : Int) := by
        rw [he, hq, hh]
        rfl
      obtain ⟨C, hCC⟩ : ∃ C, q / h + 1 = C := ⟨_, rfl⟩
      have hc1 : h * (C - 1) ≤ q := by
        rw [← hCC, Nat.add_sub_cancel]
        exact Nat.mul_div_le q h
      have hc2 : q < h * C := by
        rw [← hCC]
        exact Nat.lt_mul_div_succ q (by omega)
      have hc3 : C ≤ q + 1 := by
        have := Nat.div_le_self q h
        omega
      have hc4 : 1 ≤ C := by rw [← hCC]; exact Nat.succ_le_succ (Nat.zero_le _)
      rw [hC, hCC]
      have hpe : p = (h : Int) + 16 := by omega
      have hne : n = (q : Int) + 1 := by omega
      have hhb : (h : Int) ≤ 65520 := by omega
      have hqb : (q : Int) < 1000000 := by omega
      have hh0 : 496 ≤ h := by omega
      have hne' := hidden hne
      clear hp he hC hCC hq hpe hne
      go_enter Tryd.func63, Tryd.ntmps63
      go_wp2_with (first | (go_at_call 28; refine same_call HI.out ?_; rw [e1]))
      go_loop [1, 6] (fun x k => ∃ (j : Nat) (z : Int), j ≤ C ∧ Hid (z = n - ((h * j : Nat) : Int)) ∧ x = .int .i64 z ∧ k = .int .i64 (j : Int)) (fun _ k => C - (intOf k).toNat)
      case atStart => exact ⟨0, n, by omega, hidden (by simp), rfl, rfl⟩
      case round =>
        obtain ⟨j, z, hj, HZ, rfl, rfl⟩ := hrel
        have HMS : Hid (h * (j + 1) = h * j + h) := hidden (Nat.mul_succ _ _)
        have hjI : (j : Int) ≤ 1000001 := by omega
        have hn9 := hne'.out
        by_cases hlt : j < C
        · have hm : h * j ≤ h * (C - 1) := Nat.mul_le_mul_left _ (by omega)
          have hz := HZ.out
          have hposI : 0 < z := by omega
          have hzI : z ≤ 1000000 := by omega
          clear hm hz hn9
          go_wp2
          go_round
          case rel => exact ⟨j + 1, z - (h : Int), by omega, hidden (by have a1 := HZ.out; have a2 := HMS.out; omega), by congr 1, by go_num⟩
          case measure => simp [intOf]; omega
        · obtain rfl : j = C := by omega
          have hz := HZ.out
          have hnegI : ¬ 0 < z := by omega
          clear hz hn9
          go_wp2
          go_ret
          exact ⟨rfl, rfl⟩
  · have e1 : decide (pw p) = false := by simpa using hp
    have he : pgN p n = 0 := by unfold pgN; rw [if_pos (.inl hp)]
    rw [he]
    clear hp
    go_enter Tryd.func63, Tryd.ntmps63
    go_wp2_with (first | (go_at_call 28; refine same_call HI.out ?_; rw [e1]))
    go_loop [1, 6] (fun x k => x = .int .i64 n ∧ k = .int .i64 0) (fun _ _ => 0)
    case atStart => exact ⟨rfl, rfl⟩
    case round =>
      obtain ⟨rfl, rfl⟩ := hrel
      go_wp2
      go_ret
      exact ⟨rfl, rfl⟩
end Go.Proofs.YtllcbilhpijjhaaDoor
