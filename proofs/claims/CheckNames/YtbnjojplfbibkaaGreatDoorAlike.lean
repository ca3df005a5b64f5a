/- ink.alike counts the bytes that two texts begin with alike; cloned copies bytes into memory of its own. -/
import Derived.Test.YtbnjojplfbibkaaGreatDoorMath
import Derived.Laws.CopyOwn
import Derived.Deep.QuietTactic
import Derived.BigQuiet
namespace Go.Proofs.YtbnjojplfbibkaaGreatDoor
open Go.RowKit

set_option maxRecDepth 100000 in
set_option maxHeartbeats 400000 in
theorem alike_any (ao bo : Option Addr) (n m c d : Nat) (la lb : List Int) (w : World) (ha : Sl w ao n c la) (hb : Sl w bo m d lb) :
    Calls Tryz.prog 189 #[.slice ao n c, .slice bo m d] w fun e w' => e = .returned (.int .i64 (lcp la lb)) ∧ ∃ q, w' = w.drewN q := by
  obtain ⟨hlen, hcap, hroom, hwf, hnil, hat⟩ := ha
  obtain ⟨hlen', hcap', hroom', hwf', hnil', hat'⟩ := hb
  by_cases hmn : n ≤ m
  all_goals
    go_enter Tryz.func189, Tryz.ntmps189
    go_wp2_with fail
    go_loopw [13] (fun i wr => ∃ k q : Nat, k ≤ n ∧ k ≤ m ∧ i = .int .i64 k ∧ wr = w.drewN q ∧ ∀ j, j < k → la.getD j 0 = lb.getD j 0) (fun i _ => n - (intOf i).toNat)
    case atStart => exact ⟨0, 0, by omega, by omega, rfl, rfl, fun j hj => by omega⟩
    case round =>
      obtain ⟨k, q, hk, hk', rfl, rfl, hal⟩ := hrel
      have HAL := hidden hal
      clear hal
      by_cases hlt : k < n ∧ k < m
      · obtain ⟨hkn, hkm⟩ := hlt
        rcases hat with h | ⟨b, off, rfl, hbb, hc⟩
        · omega
        rcases hat' with h | ⟨b', off', rfl, hbb', hc'⟩
        · omega
        have hck := hc k hkn
        have hck' := hc' k hkm
        have hx : ∃ x, la.getD k 0 = x := ⟨_, rfl⟩
        have hy : ∃ y, lb.getD k 0 = y := ⟨_, rfl⟩
        obtain ⟨x, hx⟩ := hx
        obtain ⟨y, hy⟩ := hy
        rw [hx] at hck
        rw [hy] at hck'
        have HX := hidden hx
        have HY := hidden hy
        clear hx hy hc hc' 
        by_cases hxy : x = y
        · have hb0 : (x != y) = false := by simp [hxy]
          have HXY := hidden hxy
          clear hxy
          go_wp2
          go_quiet (fail)
          go_wp2
          go_roundw
          case rel =>
            refine ⟨k + 1, _, by omega, by omega, by go_num, rfl, fun j hj => ?_⟩
            by_cases hjk : j < k
            · exact HAL.out j hjk
            · obtain rfl : j = k := by omega
              rw [HX.out, HY.out, HXY.out]
          case measure => simp [intOf]; omega
        · have hb0 : (x != y) = true := by simp [hxy]
          have e := lcp_eq la lb k (by omega) (by omega) HAL.out (.inr (.inr (by rw [HX.out, HY.out]; exact hxy)))
          have HE := hidden e
          clear hxy e
          go_wp2
          go_quiet (fail)
          go_wp2
          go_ret
          exact ⟨ret_int (by rw [HE.out]), _, World.drewN_drewN _ _ _⟩
      · have e := lcp_eq la lb k (by omega) (by omega) HAL.out (by omega)
        have HE := hidden e
        clear e
        go_wp2
        go_ret
        exact ⟨ret_int (by rw [HE.out]; omega), q, rfl⟩

set_option maxRecDepth 100000 in
theorem own_of_heap {w : World} {B g : Nat} {l : List Int} (h : w.heap[g]? = some (.cells (By l).toArray 5 (0, 0))) (hB : B ≤ g) (hl : l.length ≤ maxLen) : OwnB w B (.slice (some ⟨g, 0, none⟩) l.length l.length) l :=
  ⟨by simp [By], .inr ⟨g, l.length, (By l).toArray, rfl, hB, h, Nat.le_refl _, hl, by simp [By], List.take_of_length_le (by simp [By])⟩⟩

end Go.Proofs.YtbnjojplfbibkaaGreatDoor
