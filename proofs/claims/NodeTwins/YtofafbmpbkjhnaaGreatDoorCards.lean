/-
  DERIVED. GIVEN WITH THE SEED: THE CARDS: each row of YtofafbmpbkjhnaaGreatDoorRows.lean that lists a variable, with what it lists TIED to the program's text (the seventh form; the later family's looks); each row that meets fmt, with fmt's text TOLD by the authors' own Lean function (tested against real Go, not proved from fmt's source: count such statements apart). THE CARD IS WHAT COUNTS. Prove the row's statement (the work); the ties are given (YtofafbmpbkjhnaaGreatDoorTie.lean); close each card by the builder's one call (the guide's Derived/Test/ToyasCard.lean, 'card_holds'). Laid BY PROGRAM, IN A SANDBOX (cutbox-door.mjs). By AI agents, Wed Nov 11 2026. No macro, syntax, notation, axiom, sorry.
-/
import Derived.Test.YtofafbmpbkjhnaaGreatDoorRows
import GoSem.ClaimSeven
namespace Go.Proofs.YtofafbmpbkjhnaaGreatDoor
namespace Rows

/-- THE TIED CARD OF 'espalierlaw08.NodePlays'. -/
def nodePlaysCard : Claim7 := { stood := { row := nodePlaysRow, standIns := [], harness := (true, "37470f86e20390ec155d84831fad799f082ed97735916941d540bb043727fded"), looks := false }, kinds := [], alts := [], laidByText := true, laidKinds := [.data], laidTests := true, laidLooks := .later }
def NodePlaysCardSaid : Prop := Claim7.holds Tryz.pinned (.plain (OpenSpec.ofChange nodePlaysSpec)) nodePlaysCard

/-- THE TIED CARD OF 'espalierlaw08.NodeReads'. -/
def nodeReadsCard : Claim7 := { stood := { row := nodeReadsRow, standIns := [], harness := (true, "37470f86e20390ec155d84831fad799f082ed97735916941d540bb043727fded"), looks := false }, kinds := [], alts := [], laidByText := true, laidKinds := [.data], laidTests := true, laidLooks := .later }
def NodeReadsCardSaid : Prop := Claim7.holds Tryz.pinned (.plain (OpenSpec.ofChange nodeReadsSpec)) nodeReadsCard

/-- THE TIED CARD OF 'espalierlaw08.NodeWrites'. -/
def nodeWritesCard : Claim7 := { stood := { row := nodeWritesRow, standIns := [], harness := (true, "37470f86e20390ec155d84831fad799f082ed97735916941d540bb043727fded"), looks := false }, kinds := [], alts := [], laidByText := true, laidKinds := [.data], laidTests := true, laidLooks := .later }
def NodeWritesCardSaid : Prop := Claim7.holds Tryz.pinned (.plain (OpenSpec.ofChange nodeWritesSpec)) nodeWritesCard

/-- THE TIED CARD OF 'espalierlaw08.NodeTwins'. -/
def nodeTwinsCard : Claim7 := { stood := { row := nodeTwinsRow, standIns := [], harness := (true, "37470f86e20390ec155d84831fad799f082ed97735916941d540bb043727fded"), looks := false }, kinds := [], alts := [], laidByText := true, laidKinds := [.data], laidTests := true, laidLooks := .later }
def NodeTwinsCardSaid : Prop := Claim7.holds Tryz.pinned (.plain (OpenSpec.ofChange nodeTwinsSpec)) nodeTwinsCard

/-- THE SECOND FORM's CARD OF 'espalierlaw08.NodePlays'. -/
def nodePlaysUptoCard : Claim7 := { stood := { row := nodePlaysUptoRow, standIns := [], harness := (true, "37470f86e20390ec155d84831fad799f082ed97735916941d540bb043727fded"), looks := false }, kinds := [], alts := [], laidByText := true, laidKinds := [.data], laidTests := true, laidLooks := .later }
def NodePlaysUptoCardSaid : Prop := Claim7.holds Tryz.pinned (.plain (OpenSpec.upto nodePlaysSpec)) nodePlaysUptoCard

/-- THE SECOND FORM's CARD OF 'espalierlaw08.NodeReads'. -/
def nodeReadsUptoCard : Claim7 := { stood := { row := nodeReadsUptoRow, standIns := [], harness := (true, "37470f86e20390ec155d84831fad799f082ed97735916941d540bb043727fded"), looks := false }, kinds := [], alts := [], laidByText := true, laidKinds := [.data], laidTests := true, laidLooks := .later }
def NodeReadsUptoCardSaid : Prop := Claim7.holds Tryz.pinned (.plain (OpenSpec.upto nodeReadsSpec)) nodeReadsUptoCard

/-- THE SECOND FORM's CARD OF 'espalierlaw08.NodeWrites'. -/
def nodeWritesUptoCard : Claim7 := { stood := { row := nodeWritesUptoRow, standIns := [], harness := (true, "37470f86e20390ec155d84831fad799f082ed97735916941d540bb043727fded"), looks := false }, kinds := [], alts := [], laidByText := true, laidKinds := [.data], laidTests := true, laidLooks := .later }
def NodeWritesUptoCardSaid : Prop := Claim7.holds Tryz.pinned (.plain (OpenSpec.upto nodeWritesSpec)) nodeWritesUptoCard

/-- THE SECOND FORM's CARD OF 'espalierlaw08.NodeTwins'. -/
def nodeTwinsUptoCard : Claim7 := { stood := { row := nodeTwinsUptoRow, standIns := [], harness := (true, "37470f86e20390ec155d84831fad799f082ed97735916941d540bb043727fded"), looks := false }, kinds := [], alts := [], laidByText := true, laidKinds := [.data], laidTests := true, laidLooks := .later }
def NodeTwinsUptoCardSaid : Prop := Claim7.holds Tryz.pinned (.plain (OpenSpec.upto nodeTwinsSpec)) nodeTwinsUptoCard
end Rows
end Go.Proofs.YtofafbmpbkjhnaaGreatDoor
