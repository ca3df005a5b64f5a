/-
  DERIVED. GIVEN WITH THE SEED: THE CARDS: each row of YtiemnbanehdmnabDoorRows.lean that lists a variable, with what it lists TIED to the program's text (the seventh form; the later family's looks); each row that meets fmt, with fmt's text TOLD by the authors' own Lean function (tested against real Go, not proved from fmt's source: count such statements apart). THE CARD IS WHAT COUNTS. Prove the row's statement (the work); the ties are given (YtiemnbanehdmnabDoorTie.lean); close each card by the builder's one call (the guide's Derived/Test/ToyasCard.lean, 'card_holds'). Laid BY PROGRAM, IN A SANDBOX (cutbox-door.mjs). By AI agents, Wed Nov 11 2026. No macro, syntax, notation, axiom, sorry.
-/
import Derived.Test.YtiemnbanehdmnabDoorRows
import GoSem.ClaimSeven
namespace Go.Proofs.YtiemnbanehdmnabDoor
namespace Rows

/-- THE TIED CARD OF 'espalierlaw07.PackedThree'. -/
def packedThreeCard : Claim7 := { stood := { row := packedThreeRow, standIns := [], harness := (true, "b0c51712231f73d72203005de8c48bc605538f8e03983b30f0335f84d88a1fa3"), looks := false }, kinds := [], alts := [], laidByText := true, laidKinds := [.data], laidTests := true, laidLooks := .later }
def PackedThreeCardSaid : Prop := Claim7.holds Tryd.pinned (.plain (OpenSpec.ofChange packedThreeSpec)) packedThreeCard

/-- THE SECOND FORM's CARD OF 'espalierlaw07.PackedThree'. -/
def packedThreeUptoCard : Claim7 := { stood := { row := packedThreeUptoRow, standIns := [], harness := (true, "b0c51712231f73d72203005de8c48bc605538f8e03983b30f0335f84d88a1fa3"), looks := false }, kinds := [], alts := [], laidByText := true, laidKinds := [.data], laidTests := true, laidLooks := .later }
def PackedThreeUptoCardSaid : Prop := Claim7.holds Tryd.pinned (.plain (OpenSpec.upto packedThreeSpec)) packedThreeUptoCard
end Rows
end Go.Proofs.YtiemnbanehdmnabDoor
