/-
  DERIVED. GIVEN WITH THE SEED: THE CARDS: each row of YtopgdggfgmkdfaaGreatDoorRows.lean that lists a variable, with what it lists TIED to the program's text (the seventh form; the later family's looks); each row that meets fmt, with fmt's text TOLD by the authors' own Lean function (tested against real Go, not proved from fmt's source: count such statements apart). THE CARD IS WHAT COUNTS. Prove the row's statement (the work); the ties are given (YtopgdggfgmkdfaaGreatDoorTie.lean); close each card by the builder's one call (the guide's Derived/Test/ToyasCard.lean, 'card_holds'). Laid BY PROGRAM, IN A SANDBOX (cutbox-door.mjs). By AI agents, Wed Nov 11 2026. No macro, syntax, notation, axiom, sorry.
-/
import Derived.Test.YtopgdggfgmkdfaaGreatDoorRows
import GoSem.ClaimSeven
namespace Go.Proofs.YtopgdggfgmkdfaaGreatDoor
namespace Rows

/-- THE TIED CARD OF 'espalierlaw02.TupleNames'. -/
def tupleNamesCard : Claim7 := { stood := { row := tupleNamesRow, standIns := [], harness := (true, "a616f32f55784691f00b27a91ff7baf853fa89a7cd2d30095550fe89dc5b54fb"), looks := true }, kinds := [], alts := [], laidByText := true, laidKinds := [.data, .data, .widerDeep, .widerDeep, .data, .data, .data, .data, .data, .data, .sentinel, .sentinel, .pinned, .pinned, .pinned], laidTests := true, laidLooks := .later }
def TupleNamesCardSaid : Prop := Claim7.holds Tryz.pinned (.plain (OpenSpec.ofChange tupleNamesSpec)) tupleNamesCard

/-- THE TIED CARD OF 'espalierlaw02.TupleEncodes'. -/
def tupleEncodesCard : Claim7 := { stood := { row := tupleEncodesRow, standIns := [], harness := (true, "a616f32f55784691f00b27a91ff7baf853fa89a7cd2d30095550fe89dc5b54fb"), looks := true }, kinds := [], alts := [], laidByText := true, laidKinds := [.data, .data, .widerDeep, .widerDeep, .data, .data, .data, .data, .data, .data, .sentinel, .sentinel, .pinned, .pinned, .pinned], laidTests := true, laidLooks := .later }
def TupleEncodesCardSaid : Prop := Claim7.holds Tryz.pinned (.plain (OpenSpec.ofChange tupleEncodesSpec)) tupleEncodesCard

/-- THE TIED CARD OF 'espalierlaw02.TupleDecodes'. -/
def tupleDecodesCard : Claim7 := { stood := { row := tupleDecodesRow, standIns := [], harness := (true, "a616f32f55784691f00b27a91ff7baf853fa89a7cd2d30095550fe89dc5b54fb"), looks := true }, kinds := [], alts := [], laidByText := true, laidKinds := [.data, .data, .widerDeep, .widerDeep, .data, .data, .data, .data, .data, .data, .sentinel, .sentinel, .pinned, .pinned, .pinned], laidTests := true, laidLooks := .later }
def TupleDecodesCardSaid : Prop := Claim7.holds Tryz.pinned (.plain (OpenSpec.ofChange tupleDecodesSpec)) tupleDecodesCard

/-- THE TIED CARD OF 'espalierlaw02.TupleCompares'. -/
def tupleComparesCard : Claim7 := { stood := { row := tupleComparesRow, standIns := [], harness := (true, "a616f32f55784691f00b27a91ff7baf853fa89a7cd2d30095550fe89dc5b54fb"), looks := true }, kinds := [], alts := [], laidByText := true, laidKinds := [.data, .data, .widerDeep, .widerDeep, .data, .data, .data, .data, .data, .data, .sentinel, .sentinel, .pinned, .pinned, .pinned], laidTests := true, laidLooks := .later }
def TupleComparesCardSaid : Prop := Claim7.holds Tryz.pinned (.plain (OpenSpec.ofChange tupleComparesSpec)) tupleComparesCard

/-- THE TIED CARD OF 'espalierlaw02.TupleBegins'. -/
def tupleBeginsCard : Claim7 := { stood := { row := tupleBeginsRow, standIns := [], harness := (true, "a616f32f55784691f00b27a91ff7baf853fa89a7cd2d30095550fe89dc5b54fb"), looks := true }, kinds := [], alts := [], laidByText := true, laidKinds := [.data, .data, .widerDeep, .widerDeep, .data, .data, .data, .data, .data, .data, .sentinel, .sentinel, .pinned, .pinned, .pinned], laidTests := true, laidLooks := .later }
def TupleBeginsCardSaid : Prop := Claim7.holds Tryz.pinned (.plain (OpenSpec.ofChange tupleBeginsSpec)) tupleBeginsCard

/-- THE TIED CARD OF 'espalierlaw02.TuplePrints'. -/
def tuplePrintsCard : Claim7 := { stood := { row := tuplePrintsRow, standIns := [], harness := (true, "a616f32f55784691f00b27a91ff7baf853fa89a7cd2d30095550fe89dc5b54fb"), looks := true }, kinds := [], alts := [], laidByText := true, laidKinds := [.data, .data, .widerDeep, .widerDeep, .data, .data, .data, .data, .data, .data, .sentinel, .sentinel, .pinned, .pinned, .pinned], laidTests := true, laidLooks := .later }
def TuplePrintsCardSaid : Prop := Claim7.holds Tryz.pinned (.plain (OpenSpec.ofChange tuplePrintsSpec)) tuplePrintsCard

/-- THE SECOND FORM's CARD OF 'espalierlaw02.TupleNames'. -/
def tupleNamesUptoCard : Claim7 := { stood := { row := tupleNamesUptoRow, standIns := [], harness := (true, "a616f32f55784691f00b27a91ff7baf853fa89a7cd2d30095550fe89dc5b54fb"), looks := true }, kinds := [], alts := [], laidByText := true, laidKinds := [.data, .data, .widerDeep, .widerDeep, .data, .data, .data, .data, .data, .data, .sentinel, .sentinel, .pinned, .pinned, .pinned], laidTests := true, laidLooks := .later }
def TupleNamesUptoCardSaid : Prop := Claim7.holds Tryz.pinned (.plain (OpenSpec.upto tupleNamesSpec)) tupleNamesUptoCard

/-- THE SECOND FORM's CARD OF 'espalierlaw02.TupleEncodes'. -/
def tupleEncodesUptoCard : Claim7 := { stood := { row := tupleEncodesUptoRow, standIns := [], harness := (true, "a616f32f55784691f00b27a91ff7baf853fa89a7cd2d30095550fe89dc5b54fb"), looks := true }, kinds := [], alts := [], laidByText := true, laidKinds := [.data, .data, .widerDeep, .widerDeep, .data, .data, .data, .data, .data, .data, .sentinel, .sentinel, .pinned, .pinned, .pinned], laidTests := true, laidLooks := .later }
def TupleEncodesUptoCardSaid : Prop := Claim7.holds Tryz.pinned (.plain (OpenSpec.upto tupleEncodesSpec)) tupleEncodesUptoCard

/-- THE SECOND FORM's CARD OF 'espalierlaw02.TupleDecodes'. -/
def tupleDecodesUptoCard : Claim7 := { stood := { row := tupleDecodesUptoRow, standIns := [], harness := (true, "a616f32f55784691f00b27a91ff7baf853fa89a7cd2d30095550fe89dc5b54fb"), looks := true }, kinds := [], alts := [], laidByText := true, laidKinds := [.data, .data, .widerDeep, .widerDeep, .data, .data, .data, .data, .data, .data, .sentinel, .sentinel, .pinned, .pinned, .pinned], laidTests := true, laidLooks := .later }
def TupleDecodesUptoCardSaid : Prop := Claim7.holds Tryz.pinned (.plain (OpenSpec.upto tupleDecodesSpec)) tupleDecodesUptoCard

/-- THE SECOND FORM's CARD OF 'espalierlaw02.TupleCompares'. -/
def tupleComparesUptoCard : Claim7 := { stood := { row := tupleComparesUptoRow, standIns := [], harness := (true, "a616f32f55784691f00b27a91ff7baf853fa89a7cd2d30095550fe89dc5b54fb"), looks := true }, kinds := [], alts := [], laidByText := true, laidKinds := [.data, .data, .widerDeep, .widerDeep, .data, .data, .data, .data, .data, .data, .sentinel, .sentinel, .pinned, .pinned, .pinned], laidTests := true, laidLooks := .later }
def TupleComparesUptoCardSaid : Prop := Claim7.holds Tryz.pinned (.plain (OpenSpec.upto tupleComparesSpec)) tupleComparesUptoCard

/-- THE SECOND FORM's CARD OF 'espalierlaw02.TupleBegins'. -/
def tupleBeginsUptoCard : Claim7 := { stood := { row := tupleBeginsUptoRow, standIns := [], harness := (true, "a616f32f55784691f00b27a91ff7baf853fa89a7cd2d30095550fe89dc5b54fb"), looks := true }, kinds := [], alts := [], laidByText := true, laidKinds := [.data, .data, .widerDeep, .widerDeep, .data, .data, .data, .data, .data, .data, .sentinel, .sentinel, .pinned, .pinned, .pinned], laidTests := true, laidLooks := .later }
def TupleBeginsUptoCardSaid : Prop := Claim7.holds Tryz.pinned (.plain (OpenSpec.upto tupleBeginsSpec)) tupleBeginsUptoCard

/-- THE SECOND FORM's CARD OF 'espalierlaw02.TuplePrints'. -/
def tuplePrintsUptoCard : Claim7 := { stood := { row := tuplePrintsUptoRow, standIns := [], harness := (true, "a616f32f55784691f00b27a91ff7baf853fa89a7cd2d30095550fe89dc5b54fb"), looks := true }, kinds := [], alts := [], laidByText := true, laidKinds := [.data, .data, .widerDeep, .widerDeep, .data, .data, .data, .data, .data, .data, .sentinel, .sentinel, .pinned, .pinned, .pinned], laidTests := true, laidLooks := .later }
def TuplePrintsUptoCardSaid : Prop := Claim7.holds Tryz.pinned (.plain (OpenSpec.upto tuplePrintsSpec)) tuplePrintsUptoCard
end Rows
end Go.Proofs.YtopgdggfgmkdfaaGreatDoor
