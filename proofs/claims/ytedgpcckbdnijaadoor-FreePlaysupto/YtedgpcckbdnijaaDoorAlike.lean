/- ink.alike counts the bytes that two texts begin with alike; cloned copies bytes into memory of its own. -/
import Derived.Test.YtedgpcckbdnijaaDoorMath
import Derived.Laws.CopyOwn
import Derived.Deep.QuietTactic
import Derived.BigQuiet
namespace Go.Proofs.YtedgpcckbdnijaaDoor
open Go.RowKit

set_option maxRecDepth 100000 in
theorem own_of_heap {w : World} {B g : Nat} {l : List Int} (h : w.heap[g]? = some (.cells (By l).toArray 5 (0, 0))) (hB : B ≤ g) (hl : l.length ≤ maxLen) : OwnB w B (.slice (some ⟨g, 0, none⟩) l.length l.length) l :=
  ⟨by simp [By], .inr ⟨g, l.length, (By l).toArray, rfl, hB, h, Nat.le_refl _, hl, by simp [By], List.take_of_length_le (by simp [By])⟩⟩

end Go.Proofs.YtedgpcckbdnijaaDoor
