/-
  DERIVED. GIVEN WITH THE SEED: THE CARDS: each row of YtfdiflfjefhjfaaGreatDoorRows.lean that lists a variable, with what it lists TIED to the program's text (the seventh form; the later family's looks); each row that meets fmt, with fmt's text TOLD by the authors' own Lean function (tested against real Go, not proved from fmt's source: count such statements apart). THE CARD IS WHAT COUNTS. Prove the row's statement (the work); the ties are given (YtfdiflfjefhjfaaGreatDoorTie.lean); close each card by the builder's one call (the guide's Derived/Test/ToyasCard.lean, 'card_holds'). Laid BY PROGRAM, IN A SANDBOX (cutbox-door.mjs). By AI agents, Wed Nov 11 2026. No macro, syntax, notation, axiom, sorry.
-/
import Derived.Test.YtfdiflfjefhjfaaGreatDoorRows
import GoSem.ClaimSeven
namespace Go.Proofs.YtfdiflfjefhjfaaGreatDoor
namespace Rows

/-- THE TIED CARD OF 'espalierlaw02.TupleEncodes'. -/
def tupleEncodesCard : Claim7 := { stood := { row := tupleEncodesRow, standIns := [], harness := (true, "3f210e9294018bcbad08cf93a33d0dc0c080c7c51935b2c0d499bdf30bea5c68"), looks := true }, kinds := [], alts := [], laidByText := true, laidKinds := [.data, .data, .widerDeep, .widerDeep, .data, .data, .data, .data, .data, .data, .sentinel, .sentinel, .pinned, .pinned, .pinned], laidTests := true, laidLooks := .later }
def TupleEncodesCardSaid : Prop := Claim7.holds Tryz.pinned (.plain (OpenSpec.ofChange tupleEncodesSpec)) tupleEncodesCard

/-- THE TIED CARD OF 'espalierlaw02.TupleBegins'. -/
def tupleBeginsCard : Claim7 := { stood := { row := tupleBeginsRow, standIns := [], harness := (true, "3f210e9294018bcbad08cf93a33d0dc0c080c7c51935b2c0d499bdf30bea5c68"), looks := true }, kinds := [], alts := [], laidByText := true, laidKinds := [.data, .data, .widerDeep, .widerDeep, .data, .data, .data, .data, .data, .data, .sentinel, .sentinel, .pinned, .pinned, .pinned], laidTests := true, laidLooks := .later }
def TupleBeginsCardSaid : Prop := Claim7.holds Tryz.pinned (.plain (OpenSpec.ofChange tupleBeginsSpec)) tupleBeginsCard

/-- THE SECOND FORM's CARD OF 'espalierlaw02.TupleEncodes'. -/
def tupleEncodesUptoCard : Claim7 := { stood := { row := tupleEncodesUptoRow, standIns := [], harness := (true, "3f210e9294018bcbad08cf93a33d0dc0c080c7c51935b2c0d499bdf30bea5c68"), looks := true }, kinds := [], alts := [], laidByText := true, laidKinds := [.data, .data, .widerDeep, .widerDeep, .data, .data, .data, .data, .data, .data, .sentinel, .sentinel, .pinned, .pinned, .pinned], laidTests := true, laidLooks := .later }
def TupleEncodesUptoCardSaid : Prop := Claim7.holds Tryz.pinned (.plain (OpenSpec.upto tupleEncodesSpec)) tupleEncodesUptoCard

/-- THE SECOND FORM's CARD OF 'espalierlaw02.TupleBegins'. -/
def tupleBeginsUptoCard : Claim7 := { stood := { row := tupleBeginsUptoRow, standIns := [], harness := (true, "3f210e9294018bcbad08cf93a33d0dc0c080c7c51935b2c0d499bdf30bea5c68"), looks := true }, kinds := [], alts := [], laidByText := true, laidKinds := [.data, .data, .widerDeep, .widerDeep, .data, .data, .data, .data, .data, .data, .sentinel, .sentinel, .pinned, .pinned, .pinned], laidTests := true, laidLooks := .later }
def TupleBeginsUptoCardSaid : Prop := Claim7.holds Tryz.pinned (.plain (OpenSpec.upto tupleBeginsSpec)) tupleBeginsUptoCard
end Rows
end Go.Proofs.YtfdiflfjefhjfaaGreatDoor
