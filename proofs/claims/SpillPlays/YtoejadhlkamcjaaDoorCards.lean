/-
  DERIVED. GIVEN WITH THE SEED: THE CARDS: each row of YtoejadhlkamcjaaDoorRows.lean that lists a variable, with what it lists TIED to the program's text (the seventh form; the later family's looks); each row that meets fmt, with fmt's text TOLD by the authors' own Lean function (tested against real Go, not proved from fmt's source: count such statements apart). THE CARD IS WHAT COUNTS. Prove the row's statement (the work); the ties are given (YtoejadhlkamcjaaDoorTie.lean); close each card by the builder's one call (the guide's Derived/Test/ToyasCard.lean, 'card_holds'). Laid BY PROGRAM, IN A SANDBOX (cutbox-door.mjs). By AI agents, Wed Nov 11 2026. No macro, syntax, notation, axiom, sorry.
-/
import Derived.Test.YtoejadhlkamcjaaDoorRows
import GoSem.ClaimSeven
namespace Go.Proofs.YtoejadhlkamcjaaDoor
namespace Rows

/-- THE TIED CARD OF 'espalierlaw09.SpillPlays'. -/
def spillPlaysCard : Claim7 := { stood := { row := spillPlaysRow, standIns := [], harness := (true, "8f5fe369f3e3395144257f58fe63eb7644c8dffbbc9c4bf1645addd652a541c9"), looks := false }, kinds := [], alts := [], laidByText := true, laidKinds := [.data], laidTests := true, laidLooks := .later }
def SpillPlaysCardSaid : Prop := Claim7.holds Tryd.pinned (.plain (OpenSpec.ofChange spillPlaysSpec)) spillPlaysCard

/-- THE SECOND FORM's CARD OF 'espalierlaw09.SpillPlays'. -/
def spillPlaysUptoCard : Claim7 := { stood := { row := spillPlaysUptoRow, standIns := [], harness := (true, "8f5fe369f3e3395144257f58fe63eb7644c8dffbbc9c4bf1645addd652a541c9"), looks := false }, kinds := [], alts := [], laidByText := true, laidKinds := [.data], laidTests := true, laidLooks := .later }
def SpillPlaysUptoCardSaid : Prop := Claim7.holds Tryd.pinned (.plain (OpenSpec.upto spillPlaysSpec)) spillPlaysUptoCard
end Rows
end Go.Proofs.YtoejadhlkamcjaaDoor
