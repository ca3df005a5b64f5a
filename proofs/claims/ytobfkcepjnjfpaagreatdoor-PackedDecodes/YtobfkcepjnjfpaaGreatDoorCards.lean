/-
  DERIVED. GIVEN WITH THE SEED: THE CARDS: each row of YtobfkcepjnjfpaaGreatDoorRows.lean that lists a variable, with what it lists TIED to the program's text (the seventh form; the later family's looks); each row that meets fmt, with fmt's text TOLD by the authors' own Lean function (tested against real Go, not proved from fmt's source: count such statements apart). THE CARD IS WHAT COUNTS. Prove the row's statement (the work); the ties are given (YtobfkcepjnjfpaaGreatDoorTie.lean); close each card by the builder's one call (the guide's Derived/Test/ToyasCard.lean, 'card_holds'). Laid BY PROGRAM, IN A SANDBOX (cutbox-door.mjs). By AI agents, Wed Nov 11 2026. No macro, syntax, notation, axiom, sorry.
-/
import Derived.Test.YtobfkcepjnjfpaaGreatDoorRows
import GoSem.ClaimSeven
namespace Go.Proofs.YtobfkcepjnjfpaaGreatDoor
namespace Rows

/-- THE TIED CARD OF 'espalierlaw07.PackedDecodes'. -/
def packedDecodesCard : Claim7 := { stood := { row := packedDecodesRow, standIns := [], harness := (true, "39bf57a8f3c3c69198b566afa377369ca17f5e192b5c36437952675b37959913"), looks := false }, kinds := [], alts := [], laidByText := true, laidKinds := [.data], laidTests := true, laidLooks := .later }
def PackedDecodesCardSaid : Prop := Claim7.holds Tryz.pinned (.plain (OpenSpec.ofChange packedDecodesSpec)) packedDecodesCard

/-- THE SECOND FORM's CARD OF 'espalierlaw07.PackedDecodes'. -/
def packedDecodesUptoCard : Claim7 := { stood := { row := packedDecodesUptoRow, standIns := [], harness := (true, "39bf57a8f3c3c69198b566afa377369ca17f5e192b5c36437952675b37959913"), looks := false }, kinds := [], alts := [], laidByText := true, laidKinds := [.data], laidTests := true, laidLooks := .later }
def PackedDecodesUptoCardSaid : Prop := Claim7.holds Tryz.pinned (.plain (OpenSpec.upto packedDecodesSpec)) packedDecodesUptoCard
end Rows
end Go.Proofs.YtobfkcepjnjfpaaGreatDoor
