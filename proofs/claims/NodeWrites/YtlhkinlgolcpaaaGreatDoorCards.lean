/-
  DERIVED. GIVEN WITH THE SEED: THE CARDS: each row of YtlhkinlgolcpaaaGreatDoorRows.lean that lists a variable, with what it lists TIED to the program's text (the seventh form; the later family's looks); each row that meets fmt, with fmt's text TOLD by the authors' own Lean function (tested against real Go, not proved from fmt's source: count such statements apart). THE CARD IS WHAT COUNTS. Prove the row's statement (the work); the ties are given (YtlhkinlgolcpaaaGreatDoorTie.lean); close each card by the builder's one call (the guide's Derived/Test/ToyasCard.lean, 'card_holds'). Laid BY PROGRAM, IN A SANDBOX (cutbox-door.mjs). By AI agents, Wed Nov 11 2026. No macro, syntax, notation, axiom, sorry.
-/
import Derived.Test.YtlhkinlgolcpaaaGreatDoorRows
import GoSem.ClaimSeven
namespace Go.Proofs.YtlhkinlgolcpaaaGreatDoor
namespace Rows

/-- THE TIED CARD OF 'espalierlaw08.NodeWrites'. -/
def nodeWritesCard : Claim7 := { stood := { row := nodeWritesRow, standIns := [], harness := (true, "04566a57bef8b498f3b50ae97aae883c103543d6cdea4adda82902a81dda8d6f"), looks := false }, kinds := [], alts := [], laidByText := true, laidKinds := [.data], laidTests := true, laidLooks := .later }
def NodeWritesCardSaid : Prop := Claim7.holds Tryz.pinned (.plain (OpenSpec.ofChange nodeWritesSpec)) nodeWritesCard

/-- THE SECOND FORM's CARD OF 'espalierlaw08.NodeWrites'. -/
def nodeWritesUptoCard : Claim7 := { stood := { row := nodeWritesUptoRow, standIns := [], harness := (true, "04566a57bef8b498f3b50ae97aae883c103543d6cdea4adda82902a81dda8d6f"), looks := false }, kinds := [], alts := [], laidByText := true, laidKinds := [.data], laidTests := true, laidLooks := .later }
def NodeWritesUptoCardSaid : Prop := Claim7.holds Tryz.pinned (.plain (OpenSpec.upto nodeWritesSpec)) nodeWritesUptoCard
end Rows
end Go.Proofs.YtlhkinlgolcpaaaGreatDoor
