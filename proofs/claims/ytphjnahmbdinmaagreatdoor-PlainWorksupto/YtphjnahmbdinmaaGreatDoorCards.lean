/-
  DERIVED. GIVEN WITH THE SEED: THE CARDS: each row of YtphjnahmbdinmaaGreatDoorRows.lean that lists a variable, with what it lists TIED to the program's text (the seventh form; the later family's looks); each row that meets fmt, with fmt's text TOLD by the authors' own Lean function (tested against real Go, not proved from fmt's source: count such statements apart). THE CARD IS WHAT COUNTS. Prove the row's statement (the work); the ties are given (YtphjnahmbdinmaaGreatDoorTie.lean); close each card by the builder's one call (the guide's Derived/Test/ToyasCard.lean, 'card_holds'). Laid BY PROGRAM, IN A SANDBOX (cutbox-door.mjs). By AI agents, Wed Nov 11 2026. No macro, syntax, notation, axiom, sorry.
-/
import Derived.Test.YtphjnahmbdinmaaGreatDoorRows
import GoSem.ClaimSeven
namespace Go.Proofs.YtphjnahmbdinmaaGreatDoor
namespace Rows

/-- THE TIED CARD OF 'espalierlaw06.PlainWorks'. -/
def plainWorksCard : Claim7 := { stood := { row := plainWorksRow, standIns := [], harness := (true, "45a95cc664620866b26c215810c0fd0d7ad9dbc077e4cb39ac5a87e8c30e7cf0"), looks := false }, kinds := [], alts := [], laidByText := true, laidKinds := [.data], laidTests := true, laidLooks := .later }
def PlainWorksCardSaid : Prop := Claim7.holds Tryz.pinned (.plain (OpenSpec.ofChange plainWorksSpec)) plainWorksCard

/-- THE SECOND FORM's CARD OF 'espalierlaw06.PlainWorks'. -/
def plainWorksUptoCard : Claim7 := { stood := { row := plainWorksUptoRow, standIns := [], harness := (true, "45a95cc664620866b26c215810c0fd0d7ad9dbc077e4cb39ac5a87e8c30e7cf0"), looks := false }, kinds := [], alts := [], laidByText := true, laidKinds := [.data], laidTests := true, laidLooks := .later }
def PlainWorksUptoCardSaid : Prop := Claim7.holds Tryz.pinned (.plain (OpenSpec.upto plainWorksSpec)) plainWorksUptoCard
end Rows
end Go.Proofs.YtphjnahmbdinmaaGreatDoor
