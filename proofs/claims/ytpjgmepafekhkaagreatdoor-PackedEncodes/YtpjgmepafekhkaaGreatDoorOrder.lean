/- Order tells how two texts stand; both lays bytes and more behind them into memory of its own. -/
import Derived.Test.YtpjgmepafekhkaaGreatDoorBehind
import Derived.Test.YtpjgmepafekhkaaGreatDoorSame
namespace Go.Proofs.YtpjgmepafekhkaaGreatDoor
open Go.RowKit

/-- How two texts stand. -/
def ordL : List Int → List Int → Int
  | [], [] => 0
  | [], _ :: _ => -1
  | _ :: _, [] => 1
  | x :: a, y :: b => if x < y then -1 else if y < x then 1 else ordL a b
set_option maxRecDepth 100000 in
theorem ordL_self : ∀ (a : List Int), ordL a a = 0
  | [] => rfl
  | x :: a => by simp [ordL, ordL_self a]
set_option maxRecDepth 100000 in
theorem ordL_eq : ∀ (a b : List Int), ordL a b = 0 → a = b
  | [], [], _ => rfl
  | [], _ :: _, h => by simp [ordL] at h
  | _ :: _, [], h => by simp [ordL] at h
  | x :: a, y :: b, h => by
    simp only [ordL] at h
    split at h
    · simp at h
    · split at h
      · simp at h
      · rw [ordL_eq a b h, show x = y by omega]
set_option maxRecDepth 100000 in
theorem ordL_three (a b : List Int) : ordL a b = 0 ∨ ordL a b = -1 ∨ ordL a b = 1 := by
  induction a generalizing b with
  | nil => cases b <;> simp [ordL]
  | cons x a ih =>
    cases b with
    | nil => simp [ordL]
    | cons y b =>
      simp only [ordL]
      split
      · simp
      · split
        · simp
        · exact ih b
set_option maxRecDepth 100000 in
theorem ordL_pre (p u v : List Int) : ordL (p ++ u) (p ++ v) = ordL u v := by
  induction p with
  | nil => rfl
  | cons x p ih => simp [ordL, ih]

set_option maxRecDepth 100000 in
set_option maxHeartbeats 1000000 in
theorem order_any (ao bo : Option Addr) (n m c d : Nat) (la lb : List Int) (w : World) (ha : Sl w ao n c la) (hb : Sl w bo m d lb) :
    Calls Tryz.prog 72 #[.slice ao n c, .slice bo m d] w fun e w' => e = .returned (.int .i64 (ordL la lb)) ∧ ∃ q, w' = w.drewN q := by
  obtain ⟨hlen, hcap, hroom, hwf, hnil, hat⟩ := ha
  obtain ⟨hlen', hcap', hroom', hwf', hnil', hat'⟩ := hb
  generalize hF : ordL la lb = F
  have HF := hidden hF
  clear hF
  go_enter Tryz.func72, Tryz.ntmps72
  go_wp2_with fail
  go_loopw [5] (fun i wr => ∃ k q : Nat, k ≤ n ∧ k ≤ m ∧ i = .int .i64 k ∧ wr = w.drewN q ∧ Hid (ordL (la.drop k) (lb.drop k) = F)) (fun i _ => n - (intOf i).toNat)
  case atStart => exact ⟨0, 0, by omega, by omega, rfl, rfl, HF⟩
  case round =>
    obtain ⟨k, q, hk, hk', rfl, rfl, HK⟩ := hrel
    clear HF
    by_cases hkn : k < n
    · by_cases hkm : k < m
      · rcases hat with h | ⟨b, off, rfl, hbb, hc⟩
        · omega
        rcases hat' with h | ⟨b', off', rfl, hbb', hc'⟩
        · omega
        have hck := hc k hkn
        have hck' := hc' k hkm
        have e := HK.out
        rw [drop_cons la k (by omega), drop_cons lb k (by omega), ordL] at e
        clear hc hc' HK
        generalize la.getD k 0 = x at *
        generalize lb.getD k 0 = y at *
        by_cases hxy : x < y
        · rw [if_pos hxy] at e
          have HE := hidden e
          clear e
          go_wp2_with fail
          go_quiet (fail)
          go_wp2
          go_ret
          exact ⟨ret_int HE.out, _, World.drewN_drewN _ _ _⟩
        · rw [if_neg hxy] at e
          by_cases hyx : y < x
          · rw [if_pos hyx] at e
            have HE := hidden e
            clear e
            go_wp2_with fail
            go_quiet (fail)
            go_wp2_with fail
            go_quiet (fail)
            go_wp2
            go_ret
            exact ⟨ret_int HE.out, _, by simp only [World.drewN_drewN]; rfl⟩
          · rw [if_neg hyx] at e
            have HE := hidden e
            clear e
            go_wp2_with fail
            go_quiet (fail)
            go_wp2_with fail
            go_quiet (fail)
            go_wp2
            go_roundw
            case rel => exact ⟨k + 1, _, by omega, by omega, by go_num, rfl, HE⟩
            case measure => simp [intOf]; omega
      · have e := HK.out
        rw [List.drop_eq_nil_of_le (show lb.length ≤ k by omega), drop_cons la k (by omega), ordL] at e
        have HE := hidden e
        clear e HK
        have hmn : ¬ n < m := by omega
        have hmn' : m < n := by omega
        go_wp2
        go_ret
        exact ⟨ret_int HE.out, _, rfl⟩
    · have e := HK.out
      rw [List.drop_eq_nil_of_le (show la.length ≤ k by omega)] at e
      by_cases hkm : k < m
      · rw [drop_cons lb k (by omega), ordL] at e
        have HE := hidden e
        clear e HK
        have hmn' : n < m := by omega
        go_wp2
        go_ret
        exact ⟨ret_int HE.out, _, rfl⟩
      · rw [List.drop_eq_nil_of_le (show lb.length ≤ k by omega), ordL] at e
        have HE := hidden e
        clear e HK
        have hmn' : ¬ n < m := by omega
        have hmn : ¬ m < n := by omega
        go_wp2
        go_ret
        exact ⟨ret_int HE.out, _, rfl⟩

end Go.Proofs.YtpjgmepafekhkaaGreatDoor
