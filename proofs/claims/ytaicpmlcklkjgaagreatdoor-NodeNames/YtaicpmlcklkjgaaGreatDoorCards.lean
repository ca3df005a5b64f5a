/-
  DERIVED. GIVEN WITH THE SEED: THE CARDS: each row of YtaicpmlcklkjgaaGreatDoorRows.lean that lists a variable, with what it lists TIED to the program's text (the seventh form; the later family's looks); each row that meets fmt, with fmt's text TOLD by the authors' own Lean function (tested against real Go, not proved from fmt's source: count such statements apart). THE CARD IS WHAT COUNTS. Prove the row's statement (the work); the ties are given (YtaicpmlcklkjgaaGreatDoorTie.lean); close each card by the builder's one call (the guide's Derived/Test/ToyasCard.lean, 'card_holds'). Laid BY PROGRAM, IN A SANDBOX (cutbox-door.mjs). By AI agents, Wed Nov 11 2026. No macro, syntax, notation, axiom, sorry.
-/
import Derived.Test.YtaicpmlcklkjgaaGreatDoorRows
import GoSem.ClaimSeven
namespace Go.Proofs.YtaicpmlcklkjgaaGreatDoor
namespace Rows

/-- THE TIED CARD OF 'espalierlaw08.NodeNames'. -/
def nodeNamesCard : Claim7 := { stood := { row := nodeNamesRow, standIns := [], harness := (true, "91ad6c4f9c0355ed7dbfc8ccd9a9b08fd2d33b15f1222d0c175170a7230b5812"), looks := false }, kinds := [], alts := [], laidByText := true, laidKinds := [.data], laidTests := true, laidLooks := .later }
def NodeNamesCardSaid : Prop := Claim7.holds Tryz.pinned (.plain (OpenSpec.ofChange nodeNamesSpec)) nodeNamesCard

/-- THE TIED CARD OF 'espalierlaw08.NodePlays'. -/
def nodePlaysCard : Claim7 := { stood := { row := nodePlaysRow, standIns := [], harness := (true, "91ad6c4f9c0355ed7dbfc8ccd9a9b08fd2d33b15f1222d0c175170a7230b5812"), looks := false }, kinds := [], alts := [], laidByText := true, laidKinds := [.data], laidTests := true, laidLooks := .later }
def NodePlaysCardSaid : Prop := Claim7.holds Tryz.pinned (.plain (OpenSpec.ofChange nodePlaysSpec)) nodePlaysCard

/-- THE TIED CARD OF 'espalierlaw08.NodeReads'. -/
def nodeReadsCard : Claim7 := { stood := { row := nodeReadsRow, standIns := [], harness := (true, "91ad6c4f9c0355ed7dbfc8ccd9a9b08fd2d33b15f1222d0c175170a7230b5812"), looks := false }, kinds := [], alts := [], laidByText := true, laidKinds := [.data], laidTests := true, laidLooks := .later }
def NodeReadsCardSaid : Prop := Claim7.holds Tryz.pinned (.plain (OpenSpec.ofChange nodeReadsSpec)) nodeReadsCard

/-- THE TIED CARD OF 'espalierlaw08.NodeWrites'. -/
def nodeWritesCard : Claim7 := { stood := { row := nodeWritesRow, standIns := [], harness := (true, "91ad6c4f9c0355ed7dbfc8ccd9a9b08fd2d33b15f1222d0c175170a7230b5812"), looks := false }, kinds := [], alts := [], laidByText := true, laidKinds := [.data], laidTests := true, laidLooks := .later }
def NodeWritesCardSaid : Prop := Claim7.holds Tryz.pinned (.plain (OpenSpec.ofChange nodeWritesSpec)) nodeWritesCard

/-- THE TIED CARD OF 'espalierlaw08.NodeTwins'. -/
def nodeTwinsCard : Claim7 := { stood := { row := nodeTwinsRow, standIns := [], harness := (true, "91ad6c4f9c0355ed7dbfc8ccd9a9b08fd2d33b15f1222d0c175170a7230b5812"), looks := false }, kinds := [], alts := [], laidByText := true, laidKinds := [.data], laidTests := true, laidLooks := .later }
def NodeTwinsCardSaid : Prop := Claim7.holds Tryz.pinned (.plain (OpenSpec.ofChange nodeTwinsSpec)) nodeTwinsCard

/-- THE SECOND FORM's CARD OF 'espalierlaw08.NodeNames'. -/
def nodeNamesUptoCard : Claim7 := { stood := { row := nodeNamesUptoRow, standIns := [], harness := (true, "91ad6c4f9c0355ed7dbfc8ccd9a9b08fd2d33b15f1222d0c175170a7230b5812"), looks := false }, kinds := [], alts := [], laidByText := true, laidKinds := [.data], laidTests := true, laidLooks := .later }
def NodeNamesUptoCardSaid : Prop := Claim7.holds Tryz.pinned (.plain (OpenSpec.upto nodeNamesSpec)) nodeNamesUptoCard

/-- THE SECOND FORM's CARD OF 'espalierlaw08.NodePlays'. -/
def nodePlaysUptoCard : Claim7 := { stood := { row := nodePlaysUptoRow, standIns := [], harness := (true, "91ad6c4f9c0355ed7dbfc8ccd9a9b08fd2d33b15f1222d0c175170a7230b5812"), looks := false }, kinds := [], alts := [], laidByText := true, laidKinds := [.data], laidTests := true, laidLooks := .later }
def NodePlaysUptoCardSaid : Prop := Claim7.holds Tryz.pinned (.plain (OpenSpec.upto nodePlaysSpec)) nodePlaysUptoCard

/-- THE SECOND FORM's CARD OF 'espalierlaw08.NodeReads'. -/
def nodeReadsUptoCard : Claim7 := { stood := { row := nodeReadsUptoRow, standIns := [], harness := (true, "91ad6c4f9c0355ed7dbfc8ccd9a9b08fd2d33b15f1222d0c175170a7230b5812"), looks := false }, kinds := [], alts := [], laidByText := true, laidKinds := [.data], laidTests := true, laidLooks := .later }
def NodeReadsUptoCardSaid : Prop := Claim7.holds Tryz.pinned (.plain (OpenSpec.upto nodeReadsSpec)) nodeReadsUptoCard

/-- THE SECOND FORM's CARD OF 'espalierlaw08.NodeWrites'. -/
def nodeWritesUptoCard : Claim7 := { stood := { row := nodeWritesUptoRow, standIns := [], harness := (true, "91ad6c4f9c0355ed7dbfc8ccd9a9b08fd2d33b15f1222d0c175170a7230b5812"), looks := false }, kinds := [], alts := [], laidByText := true, laidKinds := [.data], laidTests := true, laidLooks := .later }
def NodeWritesUptoCardSaid : Prop := Claim7.holds Tryz.pinned (.plain (OpenSpec.upto nodeWritesSpec)) nodeWritesUptoCard

/-- THE SECOND FORM's CARD OF 'espalierlaw08.NodeTwins'. -/
def nodeTwinsUptoCard : Claim7 := { stood := { row := nodeTwinsUptoRow, standIns := [], harness := (true, "91ad6c4f9c0355ed7dbfc8ccd9a9b08fd2d33b15f1222d0c175170a7230b5812"), looks := false }, kinds := [], alts := [], laidByText := true, laidKinds := [.data], laidTests := true, laidLooks := .later }
def NodeTwinsUptoCardSaid : Prop := Claim7.holds Tryz.pinned (.plain (OpenSpec.upto nodeTwinsSpec)) nodeTwinsUptoCard
end Rows
end Go.Proofs.YtaicpmlcklkjgaaGreatDoor
