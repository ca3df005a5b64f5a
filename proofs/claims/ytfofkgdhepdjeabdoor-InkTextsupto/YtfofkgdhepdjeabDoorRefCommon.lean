/- The document's Common comes to the same number. -/
import Derived.Test.YtfofkgdhepdjeabDoorBetweenMath
import Derived.Test.YtfofkgdhepdjeabDoorCommon
namespace Go.Proofs.YtfofkgdhepdjeabDoor
open Go.RowKit

theorem lcp_ge (a b : List Int) (n : Nat) (ha : n ≤ a.length) (hb : n ≤ b.length) (h : ∀ i, i < n → a.getD i 0 = b.getD i 0) : n ≤ lcp a b := by
  rcases Nat.lt_or_ge (lcp a b) n with hlt | hge
  · exact absurd (h _ hlt) (lcp_next a b (by omega) (by omega))
  · exact hge
theorem lcp_comm : ∀ (a b : List Int), lcp a b = lcp b a
  | [], [] => rfl
  | [], _ :: _ => rfl
  | _ :: _, [] => rfl
  | x :: a, y :: b => by
    simp only [lcp]
    by_cases h : x = y
    · rw [if_pos h, if_pos h.symm, lcp_comm a b]
    · rw [if_neg h, if_neg (fun e => h e.symm)]
theorem lcp_takeL : ∀ (a b : List Int) (n : Nat), lcp (a.take n) b = min n (lcp a b)
  | [], b, n => by cases b <;> simp [lcp]
  | x :: a, [], n => by cases n <;> simp [lcp]
  | x :: a, y :: b, 0 => by simp [lcp]
  | x :: a, y :: b, n + 1 => by
    simp only [List.take_succ_cons, lcp]
    by_cases h : x = y
    · rw [if_pos h, if_pos h, lcp_takeL a b n]
      omega
    · rw [if_neg h, if_neg h]
      omega
theorem cmN_min (t : List Int) (r : List (List Int)) : cmN (t :: r) = r.foldl (fun n x => min n (lcp x t)) t.length := by
  show r.foldl _ _ = _
  congr 1
  funext n x
  rw [lcp_takeL, lcp_comm t x]

set_option maxHeartbeats 1000000 in
theorem begins_any (ao bo : Option Addr) (n m c d k : Nat) (la lb : List Int) (w : World) (ha : Sl w ao n c la) (hb : Sl w bo m d lb) (hk : k ≤ 140737488355328) :
    Calls Tryd.prog 31 #[.slice ao n c, .slice bo m d, .int .i64 k] w fun e w' => e = .returned (.bool (decide (k ≤ lcp la lb))) ∧ ∃ q, w' = w.drewN q := by
  obtain ⟨hlen, hcap, hroom, hwf, hnil, hat⟩ := ha
  obtain ⟨hlen', hcap', hroom', hwf', hnil', hat'⟩ := hb
  have hle := lcp_le la lb
  by_cases hkn : n < k
  · have e : decide (k ≤ lcp la lb) = false := by simp; omega
    rw [e]
    clear e hle
    go_enter Tryd.func31, Tryd.ntmps31
    go_wp2
    go_ret
    exact ⟨rfl, 0, rfl⟩
  · by_cases hkm : m < k
    · have e : decide (k ≤ lcp la lb) = false := by simp; omega
      rw [e]
      clear e hle
      go_enter Tryd.func31, Tryd.ntmps31
      go_wp2
      go_ret
      exact ⟨rfl, 0, rfl⟩
    · have HG := hidden (lcp_ge la lb k (by omega) (by omega))
      have HA := hidden (lcp_alike la lb)
      generalize lcp la lb = L at *
      obtain ⟨R, hR⟩ : ∃ R, decide (k ≤ L) = R := ⟨_, rfl⟩
      rw [hR]
      have HR := hidden hR
      clear hR
      go_enter Tryd.func31, Tryd.ntmps31
      go_wp2_with fail
      go_loopw [7] (fun i wr => ∃ j q : Nat, j ≤ k ∧ i = .int .i64 j ∧ wr = w.drewN q ∧ Hid (∀ i, i < j → la.getD i 0 = lb.getD i 0)) (fun i _ => k - (intOf i).toNat)
      case atStart => exact ⟨0, 0, by omega, rfl, rfl, fun i hi => by omega⟩
      case round =>
        obtain ⟨j, q, hj, rfl, rfl, HJ⟩ := hrel
        by_cases hjk : j < k
        · rcases hat with h | ⟨b, off, rfl, hbb, hc⟩
          · omega
          rcases hat' with h | ⟨b', off', rfl, hbb', hc'⟩
          · omega
          have hck := hc j (by omega)
          have hck' := hc' j (by omega)
          obtain ⟨x, hx⟩ : ∃ x, la.getD j 0 = x := ⟨_, rfl⟩
          obtain ⟨y, hy⟩ : ∃ y, lb.getD j 0 = y := ⟨_, rfl⟩
          rw [hx] at hck
          rw [hy] at hck'
          have HX := hidden hx
          have HY := hidden hy
          clear hx hy hc hc'
          by_cases hxy : x = y
          · have hb0 : (x != y) = false := by simp [hxy]
            have HXY := hidden hxy
            clear hxy
            go_wp2
            go_quiet (fail)
            go_wp2
            go_roundw
            case rel =>
              refine ⟨j + 1, _, by omega, by go_num, rfl, fun i hi => ?_⟩
              by_cases hij : i < j
              · exact HJ.out i hij
              · obtain rfl : i = j := by omega
                rw [HX.out, HY.out, HXY.out]
            case measure => simp [intOf]; omega
          · have hb0 : (x != y) = true := by simp [hxy]
            have e : R = false := by
              have : ¬ j < L := fun h => hxy (by rw [← HX.out, ← HY.out]; exact HA.out j h)
              rw [← HR.out]
              simp; omega
            subst e
            clear hxy
            go_wp2_with fail
            go_quiet (fail)
            go_wp2
            go_ret
            exact ⟨rfl, _, World.drewN_drewN _ _ _⟩
        · have e : R = true := by
            have := HG.out (fun i hi => HJ.out i (by omega))
            rw [← HR.out]
            simpa using this
          subst e
          go_wp2
          go_ret
          exact ⟨rfl, _, rfl⟩

theorem refCommon_nil (ao : Option Addr) (cap : Nat) (w : World) : Calls Tryd.prog 11 #[.slice ao 0 cap] w fun e w' => e = .returned (.int .i64 0) ∧ ∃ q, w' = w.drewN q := by
  go_enter Tryd.func11, Tryd.ntmps11
  go_wp2
  go_ret
  exact ⟨rfl, 0, rfl⟩

set_option maxHeartbeats 1000000 in
theorem refCommon_any (ao : Option Addr) (n cap : Nat) (t : List Int) (ls : List (List Int)) (w : World) (hs : SlS w ao n cap (t :: ls)) :
    Calls Tryd.prog 11 #[.slice ao n cap] w fun e w' => e = .returned (.int .i64 (cmN (t :: ls))) ∧ ∃ q, w' = w.drewN q := by
  obtain ⟨hlen, hcap, hroom, hnil, hat⟩ := hs
  obtain ⟨N, rfl⟩ : ∃ N, n = N + 1 := ⟨n - 1, by simp at hlen; omega⟩
  have hlen' : ls.length = N := by simpa using hlen
  clear hlen
  rcases hat with h | ⟨b, off, rfl, hbb, hc⟩
  · omega
  obtain ⟨a0, m0, c0, hck0, hsl0⟩ := hc 0 (by omega)
  simp only [Nat.add_zero, List.getD_cons_zero] at hck0 hsl0
  have hm0 := hsl0.hlen
  have hr0 := hsl0.hroom
  have HS0 := hidden hsl0
  have HC := hidden hc
  clear hsl0 hc
  rw [cmN_min, hm0]
  generalize hF : ls.foldl (fun n x => min n (lcp x t)) m0 = F
  have HF := hidden hF
  clear hF
  have hc1 : ((N : Int) + 1 == 0) = false := by simp; omega
  go_enter Tryd.func11, Tryd.ntmps11
  go_wp2_with fail
  go_loopw [3, 4] (fun v i wr => ∃ (k q y : Nat), k ≤ N ∧ y ≤ m0 ∧ i = .int .i64 ((k : Int) + 1) ∧ v = .int .i64 y ∧ Hid ((ls.drop k).foldl (fun n x => min n (lcp x t)) y = F) ∧ wr = w.drewN q) (fun _ i _ => N + 1 - (intOf i).toNat)
  case atStart => exact ⟨0, 0, m0, by omega, by omega, rfl, rfl, HF, rfl⟩
  case round =>
    obtain ⟨k, q, y, hk, hy, rfl, rfl, HK, rfl⟩ := hrel
    clear HF
    by_cases hlt : k < N
    · obtain ⟨a, m, c, hck, hsl⟩ := HC.out (k + 1) (by omega)
      rw [show (t :: ls).getD (k + 1) [] = ls.getD k [] by simp [List.getD]] at hsl
      have e := HK.out
      rw [dropS ls k (by omega), List.foldl_cons] at e
      have HBG := hidden (fun z q hz => begins_any a a0 m m0 c c0 z (ls.getD k []) t (w.drewN q) (hsl.drewN q) (HS0.out.drewN q) hz)
      generalize lcp (ls.getD k []) t = L at *
      have HE := hidden e
      clear e HK hsl
      go_wp2_with fail
      go_loopw [3] (fun v wr => ∃ z q : Nat, z ≤ y ∧ min y L ≤ z ∧ v = .int .i64 z ∧ wr = w.drewN q) (fun v _ => (intOf v).toNat)
      case atStart => exact ⟨y, q, by omega, by omega, rfl, rfl⟩
      case round =>
        obtain ⟨z, q, hz1, hz2, rfl, rfl⟩ := hrel
        by_cases hz0 : 0 < z
        · have hb2 := HBG.out z
          by_cases hzL : z ≤ L
          · have e : decide (z ≤ L) = true := by simpa using hzL
            simp only [e] at hb2
            have HB2 := hidden hb2
            have e2 : min y L = z := by omega
            clear hb2 e
            go_wp2_with fail
            go_region_with (first | (go_at_call 31; refine quiet_call' (HB2.out _ (by omega)) ?_; intro q2))
            all_goals
              go_wp2
              go_roundw
              case rel => exact ⟨k + 1, _, z, by omega, by omega, by go_num, rfl, by rw [← e2]; exact HE, rfl⟩
              case measure => simp [intOf]; omega
          · have e : decide (z ≤ L) = false := by simpa using hzL
            simp only [e] at hb2
            have HB2 := hidden hb2
            clear hb2 e
            go_wp2_with fail
            go_region_with (first | (go_at_call 31; refine quiet_call' (HB2.out _ (by omega)) ?_; intro q2))
            all_goals
              go_wp2
              go_roundw
              case rel => exact ⟨z - 1, _, by omega, by omega, by go_num, rfl⟩
              case measure => simp [intOf]; omega
        · obtain rfl : z = 0 := by omega
          have e2 : min y L = 0 := by omega
          go_wp2
          go_roundw
          case rel => exact ⟨k + 1, _, 0, by omega, by omega, by go_num, rfl, by rw [← e2]; exact HE, rfl⟩
          case measure => simp [intOf]; omega
    · have e : y = F := by rw [← HK.out, List.drop_eq_nil_of_le (by omega)]; rfl
      have HE := hidden e
      clear e HK
      go_wp2
      go_ret
      exact ⟨ret_int (by rw [HE.out]), _, rfl⟩
end Go.Proofs.YtfofkgdhepdjeabDoor
