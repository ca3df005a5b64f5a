/- espalierref02.weigh, Great: the walks. -/
import Derived.Test.YtpiijmionafmcaaGreatDoorWeigh
import Derived.Handy
namespace Go.Proofs.YtpiijmionafmcaaGreatDoor
open Go.RowKit

end Go.Proofs.YtpiijmionafmcaaGreatDoor
