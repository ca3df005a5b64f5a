/-
  DERIVED. GIVEN WITH THE SEED: THE CARDS: each row of YtddjepdgigeelabDoorRows.lean that lists a variable, with what it lists TIED to the program's text (the seventh form; the later family's looks); each row that meets fmt, with fmt's text TOLD by the authors' own Lean function (tested against real Go, not proved from fmt's source: count such statements apart). THE CARD IS WHAT COUNTS. Prove the row's statement (the work); the ties are given (YtddjepdgigeelabDoorTie.lean); close each card by the builder's one call (the guide's Derived/Test/ToyasCard.lean, 'card_holds'). Laid BY PROGRAM, IN A SANDBOX (cutbox-door.mjs). By AI agents, Wed Nov 11 2026. No macro, syntax, notation, axiom, sorry.
-/
import Derived.Test.YtddjepdgigeelabDoorRows
import GoSem.ClaimSeven
namespace Go.Proofs.YtddjepdgigeelabDoor
namespace Rows

/-- THE TIED CARD OF 'espalierlaw06.PlainThree'. -/
def plainThreeCard : Claim7 := { stood := { row := plainThreeRow, standIns := [], harness := (true, "d280de56be0750f1dea897d8d3484065ac968f87e738ad1e915eb3a6ca09f7c8"), looks := false }, kinds := [], alts := [], laidByText := true, laidKinds := [.data], laidTests := true, laidLooks := .later }
def PlainThreeCardSaid : Prop := Claim7.holds Tryd.pinned (.plain (OpenSpec.ofChange plainThreeSpec)) plainThreeCard

/-- THE SECOND FORM's CARD OF 'espalierlaw06.PlainThree'. -/
def plainThreeUptoCard : Claim7 := { stood := { row := plainThreeUptoRow, standIns := [], harness := (true, "d280de56be0750f1dea897d8d3484065ac968f87e738ad1e915eb3a6ca09f7c8"), looks := false }, kinds := [], alts := [], laidByText := true, laidKinds := [.data], laidTests := true, laidLooks := .later }
def PlainThreeUptoCardSaid : Prop := Claim7.holds Tryd.pinned (.plain (OpenSpec.upto plainThreeSpec)) plainThreeUptoCard
end Rows
end Go.Proofs.YtddjepdgigeelabDoor
