/-
  DERIVED. GIVEN WITH THE SEED: THE CARDS: each row of YtdmpbdppdcaabaaDoorRows.lean that lists a variable, with what it lists TIED to the program's text (the seventh form; the later family's looks); each row that meets fmt, with fmt's text TOLD by the authors' own Lean function (tested against real Go, not proved from fmt's source: count such statements apart). THE CARD IS WHAT COUNTS. Prove the row's statement (the work); the ties are given (YtdmpbdppdcaabaaDoorTie.lean); close each card by the builder's one call (the guide's Derived/Test/ToyasCard.lean, 'card_holds'). Laid BY PROGRAM, IN A SANDBOX (cutbox-door.mjs). By AI agents, Wed Nov 11 2026. No macro, syntax, notation, axiom, sorry.
-/
import Derived.Test.YtdmpbdppdcaabaaDoorRows
import GoSem.ClaimSeven
namespace Go.Proofs.YtdmpbdppdcaabaaDoor
namespace Rows

/-- THE TIED CARD OF 'espalierlaw06.PlainDecodes'. -/
def plainDecodesCard : Claim7 := { stood := { row := plainDecodesRow, standIns := [], harness := (true, "b4813a7cf84690fe7012f99502b3f2c25ec08683a39eba7d431a805ab538ad9e"), looks := false }, kinds := [], alts := [], laidByText := true, laidKinds := [.data], laidTests := true, laidLooks := .later }
def PlainDecodesCardSaid : Prop := Claim7.holds Tryd.pinned (.plain (OpenSpec.ofChange plainDecodesSpec)) plainDecodesCard

/-- THE SECOND FORM's CARD OF 'espalierlaw06.PlainDecodes'. -/
def plainDecodesUptoCard : Claim7 := { stood := { row := plainDecodesUptoRow, standIns := [], harness := (true, "b4813a7cf84690fe7012f99502b3f2c25ec08683a39eba7d431a805ab538ad9e"), looks := false }, kinds := [], alts := [], laidByText := true, laidKinds := [.data], laidTests := true, laidLooks := .later }
def PlainDecodesUptoCardSaid : Prop := Claim7.holds Tryd.pinned (.plain (OpenSpec.upto plainDecodesSpec)) plainDecodesUptoCard
end Rows
end Go.Proofs.YtdmpbdppdcaabaaDoor
