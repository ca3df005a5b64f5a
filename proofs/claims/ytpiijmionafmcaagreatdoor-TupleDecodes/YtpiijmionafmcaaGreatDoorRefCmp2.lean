/- espalierref02.Compare: the loop, and the whole. -/
import Derived.Test.YtpiijmionafmcaaGreatDoorRefCmp
import Derived.Deep.RegionWith
namespace Go.Proofs.YtpiijmionafmcaaGreatDoor
open Go.RowKit

set_option maxRecDepth 100000 in
/-- The order turned round. -/
theorem sgn3_turn (a b : Int) : sgn3 b a = -sgn3 a b := by
  simp only [sgn3]; split <;> split <;> omega
end Go.Proofs.YtpiijmionafmcaaGreatDoor
