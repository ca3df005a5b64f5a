/-
  DERIVED. GIVEN WITH THE SEED: THE CARDS: each row of YtpiijmionafmcaaGreatDoorRows.lean that lists a variable, with what it lists TIED to the program's text (the seventh form; the later family's looks); each row that meets fmt, with fmt's text TOLD by the authors' own Lean function (tested against real Go, not proved from fmt's source: count such statements apart). THE CARD IS WHAT COUNTS. Prove the row's statement (the work); the ties are given (YtpiijmionafmcaaGreatDoorTie.lean); close each card by the builder's one call (the guide's Derived/Test/ToyasCard.lean, 'card_holds'). Laid BY PROGRAM, IN A SANDBOX (cutbox-door.mjs). By AI agents, Wed Nov 11 2026. No macro, syntax, notation, axiom, sorry.
-/
import Derived.Test.YtpiijmionafmcaaGreatDoorRows
import GoSem.ClaimSeven
namespace Go.Proofs.YtpiijmionafmcaaGreatDoor
namespace Rows

/-- THE TIED CARD OF 'espalierlaw02.TupleDecodes'. -/
def tupleDecodesCard : Claim7 := { stood := { row := tupleDecodesRow, standIns := [], harness := (true, "e5453f3eab19360e5118916019e8a6af01d3ddca43055b825f2ed60c3a0780b8"), looks := true }, kinds := [], alts := [], laidByText := true, laidKinds := [.data, .data, .widerDeep, .widerDeep, .data, .data, .data, .data, .data, .data, .sentinel, .sentinel, .pinned, .pinned, .pinned], laidTests := true, laidLooks := .later }
def TupleDecodesCardSaid : Prop := Claim7.holds Tryz.pinned (.plain (OpenSpec.ofChange tupleDecodesSpec)) tupleDecodesCard

/-- THE SECOND FORM's CARD OF 'espalierlaw02.TupleDecodes'. -/
def tupleDecodesUptoCard : Claim7 := { stood := { row := tupleDecodesUptoRow, standIns := [], harness := (true, "e5453f3eab19360e5118916019e8a6af01d3ddca43055b825f2ed60c3a0780b8"), looks := true }, kinds := [], alts := [], laidByText := true, laidKinds := [.data, .data, .widerDeep, .widerDeep, .data, .data, .data, .data, .data, .data, .sentinel, .sentinel, .pinned, .pinned, .pinned], laidTests := true, laidLooks := .later }
def TupleDecodesUptoCardSaid : Prop := Claim7.holds Tryz.pinned (.plain (OpenSpec.upto tupleDecodesSpec)) tupleDecodesUptoCard
end Rows
end Go.Proofs.YtpiijmionafmcaaGreatDoor
