/-
  DERIVED. GIVEN WITH THE SEED: THE CARDS: each row of YtllcbilhpijjhaaDoorRows.lean that lists a variable, with what it lists TIED to the program's text (the seventh form; the later family's looks); each row that meets fmt, with fmt's text TOLD by the authors' own Lean function (tested against real Go, not proved from fmt's source: count such statements apart). THE CARD IS WHAT COUNTS. Prove the row's statement (the work); the ties are given (YtllcbilhpijjhaaDoorTie.lean); close each card by the builder's one call (the guide's Derived/Test/ToyasCard.lean, 'card_holds'). Laid BY PROGRAM, IN A SANDBOX (cutbox-door.mjs). By AI agents, Wed Nov 11 2026. No macro, syntax, notation, axiom, sorry.
-/
import Derived.Test.YtllcbilhpijjhaaDoorRows
import GoSem.ClaimSeven
namespace Go.Proofs.YtllcbilhpijjhaaDoor
namespace Rows

/-- THE TIED CARD OF 'espalierlaw09.SpillEncodes'. -/
def spillEncodesCard : Claim7 := { stood := { row := spillEncodesRow, standIns := [], harness := (true, "77ad99d10f202d91a5c4063d081007958f6017f534d9ebb7865ee6be72ddabf7"), looks := false }, kinds := [], alts := [], laidByText := true, laidKinds := [.data], laidTests := true, laidLooks := .later }
def SpillEncodesCardSaid : Prop := Claim7.holds Tryd.pinned (.plain (OpenSpec.ofChange spillEncodesSpec)) spillEncodesCard

/-- THE TIED CARD OF 'espalierlaw09.SpillDecodes'. -/
def spillDecodesCard : Claim7 := { stood := { row := spillDecodesRow, standIns := [], harness := (true, "77ad99d10f202d91a5c4063d081007958f6017f534d9ebb7865ee6be72ddabf7"), looks := false }, kinds := [], alts := [], laidByText := true, laidKinds := [.data], laidTests := true, laidLooks := .later }
def SpillDecodesCardSaid : Prop := Claim7.holds Tryd.pinned (.plain (OpenSpec.ofChange spillDecodesSpec)) spillDecodesCard

/-- THE TIED CARD OF 'espalierlaw09.SpillPlays'. -/
def spillPlaysCard : Claim7 := { stood := { row := spillPlaysRow, standIns := [], harness := (true, "77ad99d10f202d91a5c4063d081007958f6017f534d9ebb7865ee6be72ddabf7"), looks := false }, kinds := [], alts := [], laidByText := true, laidKinds := [.data], laidTests := true, laidLooks := .later }
def SpillPlaysCardSaid : Prop := Claim7.holds Tryd.pinned (.plain (OpenSpec.ofChange spillPlaysSpec)) spillPlaysCard

/-- THE SECOND FORM's CARD OF 'espalierlaw09.SpillEncodes'. -/
def spillEncodesUptoCard : Claim7 := { stood := { row := spillEncodesUptoRow, standIns := [], harness := (true, "77ad99d10f202d91a5c4063d081007958f6017f534d9ebb7865ee6be72ddabf7"), looks := false }, kinds := [], alts := [], laidByText := true, laidKinds := [.data], laidTests := true, laidLooks := .later }
def SpillEncodesUptoCardSaid : Prop := Claim7.holds Tryd.pinned (.plain (OpenSpec.upto spillEncodesSpec)) spillEncodesUptoCard

/-- THE SECOND FORM's CARD OF 'espalierlaw09.SpillDecodes'. -/
def spillDecodesUptoCard : Claim7 := { stood := { row := spillDecodesUptoRow, standIns := [], harness := (true, "77ad99d10f202d91a5c4063d081007958f6017f534d9ebb7865ee6be72ddabf7"), looks := false }, kinds := [], alts := [], laidByText := true, laidKinds := [.data], laidTests := true, laidLooks := .later }
def SpillDecodesUptoCardSaid : Prop := Claim7.holds Tryd.pinned (.plain (OpenSpec.upto spillDecodesSpec)) spillDecodesUptoCard

/-- THE SECOND FORM's CARD OF 'espalierlaw09.SpillPlays'. -/
def spillPlaysUptoCard : Claim7 := { stood := { row := spillPlaysUptoRow, standIns := [], harness := (true, "77ad99d10f202d91a5c4063d081007958f6017f534d9ebb7865ee6be72ddabf7"), looks := false }, kinds := [], alts := [], laidByText := true, laidKinds := [.data], laidTests := true, laidLooks := .later }
def SpillPlaysUptoCardSaid : Prop := Claim7.holds Tryd.pinned (.plain (OpenSpec.upto spillPlaysSpec)) spillPlaysUptoCard
end Rows
end Go.Proofs.YtllcbilhpijjhaaDoor
