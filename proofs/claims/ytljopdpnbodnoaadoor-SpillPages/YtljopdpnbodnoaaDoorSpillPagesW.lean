/- The walk of the law SpillPages. -/
import Derived.Test.YtljopdpnbodnoaaDoorLu
namespace Go.Proofs.YtljopdpnbodnoaaDoor
open Go.RowKit

set_option maxRecDepth 100000 in
theorem walk_SpillPages (p n : Int) (w : World) (ht : Tab w) (h0 : 0 < w.heap.size) (hn : -9223372036854775808 ≤ n ∧ n ≤ 9223372036854775807) : Calls Tryd.prog 4 #[.int .i64 p, .int .i64 n] w fun e w' => e = .returned (.bool true) ∧ Below w.heap.size w w' := by
  have HL := hidden (awake_any w ht h0)
  clear ht
  by_cases h : n ≤ 1000000
  · have HP := fun u => pages_any p n (by omega) u
    have HR := fun u => refPages_any p n h u
    generalize pgN p n = z at *
    go_enter Tryd.func4, Tryd.ntmps4
    go_wp2_with (first
      | (go_at_call 9; refine HL.out.mono ?_; rintro e w1 ⟨rfl, HB⟩)
      | (go_at_call 10; refine same_call (HP _) ?_)
      | (go_at_call 11; refine same_call (HR _) ?_))
    go_ret
    exact ⟨rfl, HB.out⟩
  · go_enter Tryd.func4, Tryd.ntmps4
    go_wp2_with (first
      | (go_at_call 9; refine HL.out.mono ?_; rintro e w1 ⟨rfl, HB⟩))
    go_ret
    exact ⟨rfl, HB.out⟩
end Go.Proofs.YtljopdpnbodnoaaDoor
