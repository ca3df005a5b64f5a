/- The law's own small calls: big. -/
import Derived.Test.YtikpfcapnpppdaaRw
namespace Go.Proofs.Ytikpfcapnpppdaa
open Go.RowKit

set_option maxRecDepth 100000 in
theorem big_no (x y : Int) (w : World) (h : dev x y = false) : Calls Try.prog 5 #[.int .i64 x, .int .i64 y] w fun e w' => e = .returned (.bool false) ∧ w' = w := by
  have hN := rNew_no x y w h
  go_enter Try.func5, Try.ntmps5
  go_wp2_with (go_at_call 7; refine same_call hN ?_)
  go_ret
  exact ⟨rfl, rfl⟩
set_option maxRecDepth 100000 in
theorem big_yes (x y : Nat) (w : World) (h : dev x y = true) : Calls Try.prog 5 #[.int .i64 (x : Int), .int .i64 (y : Int)] w fun e w' => e = .returned (.bool (decide (8388608 < x * y))) ∧ Below w.heap.size w w' := by
  have hN := rNew_rv x y w h
  simp only [dev, pgs, decide_eq_true_eq] at h
  obtain ⟨z, hz⟩ : ∃ z, x * y = z := ⟨_, rfl⟩
  have hzi : (x : Int) * (y : Int) = (z : Int) := by rw [← hz]; simp
  have hzb : (z : Int) ≤ 67108864 := by rw [← hzi]; exact h.2.2.2
  rw [hz]
  clear h hz
  go_enter Try.func5, Try.ntmps5
  by_cases hg : (8388608 : Int) < (z : Int)
  · go_wp2_with (go_at_call 7; refine hN.mono ?_; rintro e w1 ⟨a, rfl, _, hb⟩; have HB := hidden hb; clear hb; refine Hid.out ?_)
    apply hidden
    clear hN
    go_wp2
    go_ret
    exact ⟨by rw [show decide (8388608 < z) = true from decide_eq_true (by omega)]; rfl, HB.out⟩
  · go_wp2_with (go_at_call 7; refine hN.mono ?_; rintro e w1 ⟨a, rfl, _, hb⟩; have HB := hidden hb; clear hb; refine Hid.out ?_)
    apply hidden
    clear hN
    go_wp2
    go_ret
    exact ⟨by rw [show decide ((8388608 : Int) < (z : Int)) = false from decide_eq_false (by omega), show decide (8388608 < z) = false from decide_eq_false (by omega)]; rfl, HB.out⟩
end Go.Proofs.Ytikpfcapnpppdaa
