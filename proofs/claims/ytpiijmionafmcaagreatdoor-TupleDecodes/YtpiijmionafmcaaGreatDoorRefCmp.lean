/- The document's Compare answers as the program's does. -/
import Derived.Test.YtpiijmionafmcaaGreatDoorCmp3
namespace Go.Proofs.YtpiijmionafmcaaGreatDoor
open Go.RowKit

def sgB (a b : Bool) : Int := if a then -1 else if b then 1 else 0

set_option maxRecDepth 100000 in
theorem sgn3_eq (a b : Int) : sgB (decide (a < b)) (decide (b < a)) = sgn3 a b := by simp [sgn3, sgB]

end Go.Proofs.YtpiijmionafmcaaGreatDoor
