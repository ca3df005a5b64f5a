/-
  DERIVED. GIVEN WITH THE SEED: THE CARDS: each row of YtddjepdgigeelaaDoorRows.lean that lists a variable, with what it lists TIED to the program's text (the seventh form; the later family's looks); each row that meets fmt, with fmt's text TOLD by the authors' own Lean function (tested against real Go, not proved from fmt's source: count such statements apart). THE CARD IS WHAT COUNTS. Prove the row's statement (the work); the ties are given (YtddjepdgigeelaaDoorTie.lean); close each card by the builder's one call (the guide's Derived/Test/ToyasCard.lean, 'card_holds'). Laid BY PROGRAM, IN A SANDBOX (cutbox-door.mjs). By AI agents, Wed Nov 11 2026. No macro, syntax, notation, axiom, sorry.
-/
import Derived.Test.YtddjepdgigeelaaDoorRows
import GoSem.ClaimSeven
namespace Go.Proofs.YtddjepdgigeelaaDoor
namespace Rows

/-- THE TIED CARD OF 'espalierlaw06.PlainNames'. -/
def plainNamesCard : Claim7 := { stood := { row := plainNamesRow, standIns := [], harness := (true, "930e06f5abc026fefe894841d899596e583e4ca16c5ab84cdbf8031c111ceca4"), looks := false }, kinds := [], alts := [], laidByText := true, laidKinds := [.data], laidTests := true, laidLooks := .later }
def PlainNamesCardSaid : Prop := Claim7.holds Tryd.pinned (.plain (OpenSpec.ofChange plainNamesSpec)) plainNamesCard

/-- THE TIED CARD OF 'espalierlaw06.PlainEncodes'. -/
def plainEncodesCard : Claim7 := { stood := { row := plainEncodesRow, standIns := [], harness := (true, "930e06f5abc026fefe894841d899596e583e4ca16c5ab84cdbf8031c111ceca4"), looks := false }, kinds := [], alts := [], laidByText := true, laidKinds := [.data], laidTests := true, laidLooks := .later }
def PlainEncodesCardSaid : Prop := Claim7.holds Tryd.pinned (.plain (OpenSpec.ofChange plainEncodesSpec)) plainEncodesCard

/-- THE TIED CARD OF 'espalierlaw06.PlainDecodes'. -/
def plainDecodesCard : Claim7 := { stood := { row := plainDecodesRow, standIns := [], harness := (true, "930e06f5abc026fefe894841d899596e583e4ca16c5ab84cdbf8031c111ceca4"), looks := false }, kinds := [], alts := [], laidByText := true, laidKinds := [.data], laidTests := true, laidLooks := .later }
def PlainDecodesCardSaid : Prop := Claim7.holds Tryd.pinned (.plain (OpenSpec.ofChange plainDecodesSpec)) plainDecodesCard

/-- THE TIED CARD OF 'espalierlaw06.PlainBack'. -/
def plainBackCard : Claim7 := { stood := { row := plainBackRow, standIns := [], harness := (true, "930e06f5abc026fefe894841d899596e583e4ca16c5ab84cdbf8031c111ceca4"), looks := false }, kinds := [], alts := [], laidByText := true, laidKinds := [.data], laidTests := true, laidLooks := .later }
def PlainBackCardSaid : Prop := Claim7.holds Tryd.pinned (.plain (OpenSpec.ofChange plainBackSpec)) plainBackCard

/-- THE TIED CARD OF 'espalierlaw06.PlainTotal'. -/
def plainTotalCard : Claim7 := { stood := { row := plainTotalRow, standIns := [], harness := (true, "930e06f5abc026fefe894841d899596e583e4ca16c5ab84cdbf8031c111ceca4"), looks := false }, kinds := [], alts := [], laidByText := true, laidKinds := [.data], laidTests := true, laidLooks := .later }
def PlainTotalCardSaid : Prop := Claim7.holds Tryd.pinned (.plain (OpenSpec.ofChange plainTotalSpec)) plainTotalCard

/-- THE SECOND FORM's CARD OF 'espalierlaw06.PlainNames'. -/
def plainNamesUptoCard : Claim7 := { stood := { row := plainNamesUptoRow, standIns := [], harness := (true, "930e06f5abc026fefe894841d899596e583e4ca16c5ab84cdbf8031c111ceca4"), looks := false }, kinds := [], alts := [], laidByText := true, laidKinds := [.data], laidTests := true, laidLooks := .later }
def PlainNamesUptoCardSaid : Prop := Claim7.holds Tryd.pinned (.plain (OpenSpec.upto plainNamesSpec)) plainNamesUptoCard

/-- THE SECOND FORM's CARD OF 'espalierlaw06.PlainEncodes'. -/
def plainEncodesUptoCard : Claim7 := { stood := { row := plainEncodesUptoRow, standIns := [], harness := (true, "930e06f5abc026fefe894841d899596e583e4ca16c5ab84cdbf8031c111ceca4"), looks := false }, kinds := [], alts := [], laidByText := true, laidKinds := [.data], laidTests := true, laidLooks := .later }
def PlainEncodesUptoCardSaid : Prop := Claim7.holds Tryd.pinned (.plain (OpenSpec.upto plainEncodesSpec)) plainEncodesUptoCard

/-- THE SECOND FORM's CARD OF 'espalierlaw06.PlainDecodes'. -/
def plainDecodesUptoCard : Claim7 := { stood := { row := plainDecodesUptoRow, standIns := [], harness := (true, "930e06f5abc026fefe894841d899596e583e4ca16c5ab84cdbf8031c111ceca4"), looks := false }, kinds := [], alts := [], laidByText := true, laidKinds := [.data], laidTests := true, laidLooks := .later }
def PlainDecodesUptoCardSaid : Prop := Claim7.holds Tryd.pinned (.plain (OpenSpec.upto plainDecodesSpec)) plainDecodesUptoCard

/-- THE SECOND FORM's CARD OF 'espalierlaw06.PlainBack'. -/
def plainBackUptoCard : Claim7 := { stood := { row := plainBackUptoRow, standIns := [], harness := (true, "930e06f5abc026fefe894841d899596e583e4ca16c5ab84cdbf8031c111ceca4"), looks := false }, kinds := [], alts := [], laidByText := true, laidKinds := [.data], laidTests := true, laidLooks := .later }
def PlainBackUptoCardSaid : Prop := Claim7.holds Tryd.pinned (.plain (OpenSpec.upto plainBackSpec)) plainBackUptoCard

/-- THE SECOND FORM's CARD OF 'espalierlaw06.PlainTotal'. -/
def plainTotalUptoCard : Claim7 := { stood := { row := plainTotalUptoRow, standIns := [], harness := (true, "930e06f5abc026fefe894841d899596e583e4ca16c5ab84cdbf8031c111ceca4"), looks := false }, kinds := [], alts := [], laidByText := true, laidKinds := [.data], laidTests := true, laidLooks := .later }
def PlainTotalUptoCardSaid : Prop := Claim7.holds Tryd.pinned (.plain (OpenSpec.upto plainTotalSpec)) plainTotalUptoCard
end Rows
end Go.Proofs.YtddjepdgigeelaaDoor
