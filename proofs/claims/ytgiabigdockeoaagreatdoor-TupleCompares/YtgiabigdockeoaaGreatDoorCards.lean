/-
  DERIVED. GIVEN WITH THE SEED: THE CARDS: each row of YtgiabigdockeoaaGreatDoorRows.lean that lists a variable, with what it lists TIED to the program's text (the seventh form; the later family's looks); each row that meets fmt, with fmt's text TOLD by the authors' own Lean function (tested against real Go, not proved from fmt's source: count such statements apart). THE CARD IS WHAT COUNTS. Prove the row's statement (the work); the ties are given (YtgiabigdockeoaaGreatDoorTie.lean); close each card by the builder's one call (the guide's Derived/Test/ToyasCard.lean, 'card_holds'). Laid BY PROGRAM, IN A SANDBOX (cutbox-door.mjs). By AI agents, Wed Nov 11 2026. No macro, syntax, notation, axiom, sorry.
-/
import Derived.Test.YtgiabigdockeoaaGreatDoorRows
import GoSem.ClaimSeven
namespace Go.Proofs.YtgiabigdockeoaaGreatDoor
namespace Rows

/-- THE TIED CARD OF 'espalierlaw02.TupleEncodes'. -/
def tupleEncodesCard : Claim7 := { stood := { row := tupleEncodesRow, standIns := [], harness := (true, "f46c11dfba50f28ace8f587bc9ec404c75838613acbecd0f580724029025fa77"), looks := true }, kinds := [], alts := [], laidByText := true, laidKinds := [.data, .data, .widerDeep, .widerDeep, .data, .data, .data, .data, .data, .data, .sentinel, .sentinel, .pinned, .pinned, .pinned], laidTests := true, laidLooks := .later }
def TupleEncodesCardSaid : Prop := Claim7.holds Tryz.pinned (.plain (OpenSpec.ofChange tupleEncodesSpec)) tupleEncodesCard

/-- THE TIED CARD OF 'espalierlaw02.TupleDecodes'. -/
def tupleDecodesCard : Claim7 := { stood := { row := tupleDecodesRow, standIns := [], harness := (true, "f46c11dfba50f28ace8f587bc9ec404c75838613acbecd0f580724029025fa77"), looks := true }, kinds := [], alts := [], laidByText := true, laidKinds := [.data, .data, .widerDeep, .widerDeep, .data, .data, .data, .data, .data, .data, .sentinel, .sentinel, .pinned, .pinned, .pinned], laidTests := true, laidLooks := .later }
def TupleDecodesCardSaid : Prop := Claim7.holds Tryz.pinned (.plain (OpenSpec.ofChange tupleDecodesSpec)) tupleDecodesCard

/-- THE TIED CARD OF 'espalierlaw02.TupleCompares'. -/
def tupleComparesCard : Claim7 := { stood := { row := tupleComparesRow, standIns := [], harness := (true, "f46c11dfba50f28ace8f587bc9ec404c75838613acbecd0f580724029025fa77"), looks := true }, kinds := [], alts := [], laidByText := true, laidKinds := [.data, .data, .widerDeep, .widerDeep, .data, .data, .data, .data, .data, .data, .sentinel, .sentinel, .pinned, .pinned, .pinned], laidTests := true, laidLooks := .later }
def TupleComparesCardSaid : Prop := Claim7.holds Tryz.pinned (.plain (OpenSpec.ofChange tupleComparesSpec)) tupleComparesCard

/-- THE TIED CARD OF 'espalierlaw02.TupleBegins'. -/
def tupleBeginsCard : Claim7 := { stood := { row := tupleBeginsRow, standIns := [], harness := (true, "f46c11dfba50f28ace8f587bc9ec404c75838613acbecd0f580724029025fa77"), looks := true }, kinds := [], alts := [], laidByText := true, laidKinds := [.data, .data, .widerDeep, .widerDeep, .data, .data, .data, .data, .data, .data, .sentinel, .sentinel, .pinned, .pinned, .pinned], laidTests := true, laidLooks := .later }
def TupleBeginsCardSaid : Prop := Claim7.holds Tryz.pinned (.plain (OpenSpec.ofChange tupleBeginsSpec)) tupleBeginsCard

/-- THE TIED CARD OF 'espalierlaw02.TuplePrints'. -/
def tuplePrintsCard : Claim7 := { stood := { row := tuplePrintsRow, standIns := [], harness := (true, "f46c11dfba50f28ace8f587bc9ec404c75838613acbecd0f580724029025fa77"), looks := true }, kinds := [], alts := [], laidByText := true, laidKinds := [.data, .data, .widerDeep, .widerDeep, .data, .data, .data, .data, .data, .data, .sentinel, .sentinel, .pinned, .pinned, .pinned], laidTests := true, laidLooks := .later }
def TuplePrintsCardSaid : Prop := Claim7.holds Tryz.pinned (.plain (OpenSpec.ofChange tuplePrintsSpec)) tuplePrintsCard

/-- THE TIED CARD OF 'espalierlaw02.TupleSorts'. -/
def tupleSortsCard : Claim7 := { stood := { row := tupleSortsRow, standIns := [], harness := (true, "f46c11dfba50f28ace8f587bc9ec404c75838613acbecd0f580724029025fa77"), looks := true }, kinds := [], alts := [], laidByText := true, laidKinds := [.data, .data, .widerDeep, .widerDeep, .data, .data, .data, .data, .data, .data, .sentinel, .sentinel, .pinned, .pinned, .pinned], laidTests := true, laidLooks := .later }
def TupleSortsCardSaid : Prop := Claim7.holds Tryz.pinned (.plain (OpenSpec.ofChange tupleSortsSpec)) tupleSortsCard

/-- THE SECOND FORM's CARD OF 'espalierlaw02.TupleEncodes'. -/
def tupleEncodesUptoCard : Claim7 := { stood := { row := tupleEncodesUptoRow, standIns := [], harness := (true, "f46c11dfba50f28ace8f587bc9ec404c75838613acbecd0f580724029025fa77"), looks := true }, kinds := [], alts := [], laidByText := true, laidKinds := [.data, .data, .widerDeep, .widerDeep, .data, .data, .data, .data, .data, .data, .sentinel, .sentinel, .pinned, .pinned, .pinned], laidTests := true, laidLooks := .later }
def TupleEncodesUptoCardSaid : Prop := Claim7.holds Tryz.pinned (.plain (OpenSpec.upto tupleEncodesSpec)) tupleEncodesUptoCard

/-- THE SECOND FORM's CARD OF 'espalierlaw02.TupleDecodes'. -/
def tupleDecodesUptoCard : Claim7 := { stood := { row := tupleDecodesUptoRow, standIns := [], harness := (true, "f46c11dfba50f28ace8f587bc9ec404c75838613acbecd0f580724029025fa77"), looks := true }, kinds := [], alts := [], laidByText := true, laidKinds := [.data, .data, .widerDeep, .widerDeep, .data, .data, .data, .data, .data, .data, .sentinel, .sentinel, .pinned, .pinned, .pinned], laidTests := true, laidLooks := .later }
def TupleDecodesUptoCardSaid : Prop := Claim7.holds Tryz.pinned (.plain (OpenSpec.upto tupleDecodesSpec)) tupleDecodesUptoCard

/-- THE SECOND FORM's CARD OF 'espalierlaw02.TupleCompares'. -/
def tupleComparesUptoCard : Claim7 := { stood := { row := tupleComparesUptoRow, standIns := [], harness := (true, "f46c11dfba50f28ace8f587bc9ec404c75838613acbecd0f580724029025fa77"), looks := true }, kinds := [], alts := [], laidByText := true, laidKinds := [.data, .data, .widerDeep, .widerDeep, .data, .data, .data, .data, .data, .data, .sentinel, .sentinel, .pinned, .pinned, .pinned], laidTests := true, laidLooks := .later }
def TupleComparesUptoCardSaid : Prop := Claim7.holds Tryz.pinned (.plain (OpenSpec.upto tupleComparesSpec)) tupleComparesUptoCard

/-- THE SECOND FORM's CARD OF 'espalierlaw02.TupleBegins'. -/
def tupleBeginsUptoCard : Claim7 := { stood := { row := tupleBeginsUptoRow, standIns := [], harness := (true, "f46c11dfba50f28ace8f587bc9ec404c75838613acbecd0f580724029025fa77"), looks := true }, kinds := [], alts := [], laidByText := true, laidKinds := [.data, .data, .widerDeep, .widerDeep, .data, .data, .data, .data, .data, .data, .sentinel, .sentinel, .pinned, .pinned, .pinned], laidTests := true, laidLooks := .later }
def TupleBeginsUptoCardSaid : Prop := Claim7.holds Tryz.pinned (.plain (OpenSpec.upto tupleBeginsSpec)) tupleBeginsUptoCard

/-- THE SECOND FORM's CARD OF 'espalierlaw02.TuplePrints'. -/
def tuplePrintsUptoCard : Claim7 := { stood := { row := tuplePrintsUptoRow, standIns := [], harness := (true, "f46c11dfba50f28ace8f587bc9ec404c75838613acbecd0f580724029025fa77"), looks := true }, kinds := [], alts := [], laidByText := true, laidKinds := [.data, .data, .widerDeep, .widerDeep, .data, .data, .data, .data, .data, .data, .sentinel, .sentinel, .pinned, .pinned, .pinned], laidTests := true, laidLooks := .later }
def TuplePrintsUptoCardSaid : Prop := Claim7.holds Tryz.pinned (.plain (OpenSpec.upto tuplePrintsSpec)) tuplePrintsUptoCard

/-- THE SECOND FORM's CARD OF 'espalierlaw02.TupleSorts'. -/
def tupleSortsUptoCard : Claim7 := { stood := { row := tupleSortsUptoRow, standIns := [], harness := (true, "f46c11dfba50f28ace8f587bc9ec404c75838613acbecd0f580724029025fa77"), looks := true }, kinds := [], alts := [], laidByText := true, laidKinds := [.data, .data, .widerDeep, .widerDeep, .data, .data, .data, .data, .data, .data, .sentinel, .sentinel, .pinned, .pinned, .pinned], laidTests := true, laidLooks := .later }
def TupleSortsUptoCardSaid : Prop := Claim7.holds Tryz.pinned (.plain (OpenSpec.upto tupleSortsSpec)) tupleSortsUptoCard
end Rows
end Go.Proofs.YtgiabigdockeoaaGreatDoor
