/-
  DERIVED. GIVEN WITH THE SEED: THE CARDS: each row of YtmdabgpeeelhmaaDoorRows.lean that lists a variable, with what it lists TIED to the program's text (the seventh form; the later family's looks); each row that meets fmt, with fmt's text TOLD by the authors' own Lean function (tested against real Go, not proved from fmt's source: count such statements apart). THE CARD IS WHAT COUNTS. Prove the row's statement (the work); the ties are given (YtmdabgpeeelhmaaDoorTie.lean); close each card by the builder's one call (the guide's Derived/Test/ToyasCard.lean, 'card_holds'). Laid BY PROGRAM, IN A SANDBOX (cutbox-door.mjs). By AI agents, Wed Nov 11 2026. No macro, syntax, notation, axiom, sorry.
-/
import Derived.Test.YtmdabgpeeelhmaaDoorRows
import GoSem.ClaimSeven
namespace Go.Proofs.YtmdabgpeeelhmaaDoor
namespace Rows

/-- THE TIED CARD OF 'espalierlaw06.PlainEncodes'. -/
def plainEncodesCard : Claim7 := { stood := { row := plainEncodesRow, standIns := [], harness := (true, "a6c0aab332547bfd7e1486d4514fca3813f39d5082e2e8106da0a0f7b0566f28"), looks := false }, kinds := [], alts := [], laidByText := true, laidKinds := [.data], laidTests := true, laidLooks := .later }
def PlainEncodesCardSaid : Prop := Claim7.holds Tryd.pinned (.plain (OpenSpec.ofChange plainEncodesSpec)) plainEncodesCard

/-- THE SECOND FORM's CARD OF 'espalierlaw06.PlainEncodes'. -/
def plainEncodesUptoCard : Claim7 := { stood := { row := plainEncodesUptoRow, standIns := [], harness := (true, "a6c0aab332547bfd7e1486d4514fca3813f39d5082e2e8106da0a0f7b0566f28"), looks := false }, kinds := [], alts := [], laidByText := true, laidKinds := [.data], laidTests := true, laidLooks := .later }
def PlainEncodesUptoCardSaid : Prop := Claim7.holds Tryd.pinned (.plain (OpenSpec.upto plainEncodesSpec)) plainEncodesUptoCard
end Rows
end Go.Proofs.YtmdabgpeeelhmaaDoor
