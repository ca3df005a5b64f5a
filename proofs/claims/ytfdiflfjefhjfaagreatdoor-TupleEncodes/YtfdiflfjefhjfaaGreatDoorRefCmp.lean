/- The document's Compare answers as the program's does. -/
import Derived.Test.YtfdiflfjefhjfaaGreatDoorCmp3
namespace Go.Proofs.YtfdiflfjefhjfaaGreatDoor
open Go.RowKit

def sgB (a b : Bool) : Int := if a then -1 else if b then 1 else 0

set_option maxRecDepth 100000 in
theorem turned_any (n : Int) (w : World) (h0 : -9223372036854775808 ≤ n) (h1 : n ≤ 9223372036854775807) : Calls Tryz.prog 39 #[.int .i64 n] w fun e w' => e = .returned (.int .u64 (frk n)) ∧ w' = w := by
  by_cases hn : n < 0
  · have hx := not64 n h0 hn
    go_enter Tryz.func39, Tryz.ntmps39
    go_wp2
    go_ret
    refine ⟨?_, rfl⟩
    rw [frk, if_pos hn, ← hx]
    rfl
  · go_enter Tryz.func39, Tryz.ntmps39
    go_wp2
    go_ret
    refine ⟨?_, rfl⟩
    rw [frk, if_neg (by omega)]
    first | rfl | (congr 2; first | omega | (rw [IntKind.wrap_u64]; omega))

set_option maxRecDepth 100000 in
theorem sgn3_eq (a b : Int) : sgB (decide (a < b)) (decide (b < a)) = sgn3 a b := by simp [sgn3, sgB]

end Go.Proofs.YtfdiflfjefhjfaaGreatDoor
