/- What SpillBack asks besides: no bench, no piece, lists that are the same. -/
import Derived.Test.YtllcbilhpijjhaaDoorLu
namespace Go.Proofs.YtllcbilhpijjhaaDoor
open Go.RowKit Go.Maps

set_option maxRecDepth 100000 in
theorem newBench_no (w : World) (pg : Int) (hp : ¬ pw pg) : Calls Tryd.prog 16 #[.int .i64 1, .int .i64 pg, .int .i64 65536] w fun e u => e = .returned (.pointer none) ∧ u = w := by
  by_cases h1 : pg < 512
  · have d1 : decide (pg < 512) = true := by simpa using h1
    clear hp
    go_enter Tryd.func16, Tryd.ntmps16
    go_wp2
    go_ret
    exact ⟨rfl, rfl⟩
  · have d1 : decide (pg < 512) = false := by simpa using h1
    by_cases h2 : 65536 < pg
    · have d2 : decide (65536 < pg) = true := by simpa using h2
      clear hp
      go_enter Tryd.func16, Tryd.ntmps16
      go_wp2
      go_ret
      exact ⟨rfl, rfl⟩
    · have hz : ¬ bits .and .i64 pg (pg - 1) = 0 := fun e => hp ((pow_iff pg (by omega) (by omega)).1 e)
      obtain ⟨z, hzz⟩ : ∃ z, bits .and .i64 pg (pg - 1) = z := ⟨_, rfl⟩
      rw [hzz] at hz
      have d2 : (z == 0) = false := by rw [beq_eq_false_iff_ne]; exact hz
      clear hp
      go_enter Tryd.func16, Tryd.ntmps16
      go_wp2
      go_ret
      exact ⟨rfl, rfl⟩
set_option maxRecDepth 100000 in
theorem slice_arg {w : World} {b m : Nat} {en pg ps rd : Int} {M : Int → Option Pf} {ct : Nat} (h : Bn w b m en pg ps rd M ct) (hp : pw pg) (first n fr to : Int) (hn : 1 ≤ n) (hn2 : n ≤ 65536) (hft : ¬ (0 ≤ fr ∧ fr ≤ to ∧ to ≤ n)) :
    Calls Tryd.prog 25 #[iB b, .int .i64 first, .int .i64 n, .int .i64 fr, .int .i64 to] w fun e u => e = .returned (.tuple #[.slice none 0 0, .int .i64 1]) ∧ u = w := by
  have HL := hidden (mayLie_any h hp n)
  have e1 : decide (1 ≤ n ∧ n ≤ 65536) = true := by simp; omega
  clear h hp
  by_cases h1 : fr < 0
  · have d1 : decide (fr < 0) = true := by simpa using h1
    go_enter Tryd.func25, Tryd.ntmps25
    go_wp2_with (first | (go_at_call 52; refine same_call HL.out ?_; rw [e1]))
    go_ret2
    exact ⟨rfl, rfl⟩
  · have d1 : decide (fr < 0) = false := by simpa using h1
    by_cases h2 : to < fr
    · have d2 : decide (to < fr) = true := by simpa using h2
      go_enter Tryd.func25, Tryd.ntmps25
      go_wp2_with (first | (go_at_call 52; refine same_call HL.out ?_; rw [e1]))
      go_ret2
      exact ⟨rfl, rfl⟩
    · have d2 : decide (to < fr) = false := by simpa using h2
      have h3 : n < to := by omega
      have d3 : decide (n < to) = true := by simpa using h3
      go_enter Tryd.func25, Tryd.ntmps25
      go_wp2_with (first | (go_at_call 52; refine same_call HL.out ?_; rw [e1]))
      go_ret2
      exact ⟨rfl, rfl⟩
set_option maxRecDepth 100000 in
theorem slice_none {w : World} {b m : Nat} {en pg ps rd : Int} {M : Int → Option Pf} {ct : Nat} (h : Bn w b m en pg ps rd M ct) (hp : pw pg) (first n fr : Int) (hn : 1 ≤ n) (hn2 : n ≤ 65536) (h0 : 0 ≤ fr) (h1 : fr ≤ n) :
    Calls Tryd.prog 25 #[iB b, .int .i64 first, .int .i64 n, .int .i64 fr, .int .i64 fr] w fun e u => e = .returned (.tuple #[.slice none 0 0, .int .i64 0]) ∧ u = w := by
  have HL := hidden (mayLie_any h hp n)
  have e1 : decide (1 ≤ n ∧ n ≤ 65536) = true := by simp; omega
  have d1 : decide (fr < 0) = false := by simp; omega
  have d2 : decide (n < fr) = false := by simp; omega
  clear h hp
  go_enter Tryd.func25, Tryd.ntmps25
  go_wp2_with (first | (go_at_call 52; refine same_call HL.out ?_; rw [e1]))
  go_ret2
  exact ⟨rfl, rfl⟩
set_option maxRecDepth 100000 in
theorem sameInts_same (w : World) (ao bo : Option Addr) (n c d : Nat) (l : List Int) (ha : SlJ w ao n c l) (hb : SlJ w bo n d l) (hn : n ≤ 65536) : Calls Tryd.prog 47 #[.slice ao n c, .slice bo n d] w fun e u => e = .returned (.bool true) ∧ ∃ q, u = w.drewN q := by
  have HA := hidden ha
  have HB := hidden hb
  have hnI : (n : Int) ≤ 65536 := by omega
  clear ha hb
  go_enter Tryd.func47, Tryd.ntmps47
  go_wp2_with fail
  try go_quiet (fail)
  go_wp2_with fail
  go_loopw [5] (fun i wr => ∃ j q : Nat, j ≤ n ∧ i = .int .i64 (j : Int) ∧ wr = w.drewN q) (fun i _ => n - (intOf i).toNat)
  case atStart => first | exact ⟨0, 0, by omega, rfl, rfl⟩ | exact ⟨0, _, by omega, rfl, rfl⟩
  case round =>
    obtain ⟨j, q, hj, rfl, rfl⟩ := hrel
    by_cases hlt : j < n
    · have hltI : (j : Int) < (n : Int) := by omega
      obtain ⟨a1, rfl, _, ca⟩ : ∃ b, ao = some ⟨b, 0, none⟩ ∧ b < w.heap.size ∧ ∀ i, i < n → w.cell? ⟨b, i, none⟩ = some (.int .i64 (l.getD i 0)) := by
        rcases HA.out.hat with h | h
        · omega
        · exact h
      obtain ⟨b1, rfl, _, cb⟩ : ∃ b, bo = some ⟨b, 0, none⟩ ∧ b < w.heap.size ∧ ∀ i, i < n → w.cell? ⟨b, i, none⟩ = some (.int .i64 (l.getD i 0)) := by
        rcases HB.out.hat with h | h
        · omega
        · exact h
      have ca := ca j hlt
      have cb := cb j hlt
      generalize l.getD j 0 = y at *
      go_wp2_with fail
      go_quiet (fail)
      go_wp2
      go_roundw
      case rel => exact ⟨j + 1, _, by omega, by go_num, rfl⟩
      case measure => simp [intOf]; omega
    · obtain rfl : j = n := by omega
      have hlI : ¬ (j : Int) < (j : Int) := by omega
      go_wp2
      go_ret
      exact ⟨rfl, _, rfl⟩
set_option maxRecDepth 100000 in
theorem mem_rng {t j : Nat} {a : Int} (h1 : (t : Int) ≤ a) (h2 : a < ((t + j : Nat) : Int)) : a ∈ rng t j := by
  induction j with
  | zero => omega
  | succ j ih =>
    unfold rng
    by_cases e : a < ((t + j : Nat) : Int)
    · exact List.mem_append_left _ (ih e)
    · refine List.mem_append_right _ ?_
      simp only [List.mem_singleton]
      omega
set_option maxRecDepth 100000 in
theorem tkL_pre {M : Int → Option Pf} {C : Nat} (h : Pre M (2 + C)) : ∀ j, tkL M j = rng 2 (min j C)
  | 0 => by simp [tkL, rng]
  | j + 1 => by
    unfold tkL
    rw [tkL_pre h j]
    have hk := h ((j : Int) + 2)
    by_cases e : j < C
    · rw [if_pos (hk.2 ⟨by omega, by omega⟩), show min (j + 1) C = min j C + 1 by omega]
      rw [show min j C = j by omega, show rng 2 (j + 1) = rng 2 j ++ [((2 + j : Nat) : Int)] from rfl, show ((2 + j : Nat) : Int) = (j : Int) + 2 by omega]
    · rw [if_neg (fun h2 => by have := hk.1 h2; omega), List.append_nil, show min (j + 1) C = min j C by omega]
set_option maxRecDepth 100000 in
theorem LaidJ.keep {M M' : Int → Option Pf} {P t C j : Nat} {v : List Int} (h : LaidJ M P t C v j) (he : ∀ k, (t : Int) ≤ k → k < ((t + j : Nat) : Int) → M' k = M k) : LaidJ M' P t C v j := by
  intro i hi
  obtain ⟨f, h1, h2⟩ := h i hi
  exact ⟨f, by rw [he _ (by omega) (by omega)]; exact h1, h2⟩
set_option maxRecDepth 100000 in
theorem Pre.del {M : Int → Option Pf} {t C : Nat} (h : Pre M (t + C)) : Pre (delL M (rng t C)) t := by
  intro k
  unfold delL
  by_cases e : k ∈ rng t C
  · rw [if_pos e]
    have := rng_mem e
    simp
    omega
  · rw [if_neg e, h k]
    constructor
    · rintro ⟨h1, h2⟩
      refine ⟨h1, ?_⟩
      apply Decidable.byContradiction
      intro h3
      apply e
      exact mem_rng (by omega) (by omega)
    · omega
end Go.Proofs.YtllcbilhpijjhaaDoor
