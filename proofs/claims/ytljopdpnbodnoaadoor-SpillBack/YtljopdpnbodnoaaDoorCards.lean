/-
  DERIVED. GIVEN WITH THE SEED: THE CARDS: each row of YtljopdpnbodnoaaDoorRows.lean that lists a variable, with what it lists TIED to the program's text (the seventh form; the later family's looks); each row that meets fmt, with fmt's text TOLD by the authors' own Lean function (tested against real Go, not proved from fmt's source: count such statements apart). THE CARD IS WHAT COUNTS. Prove the row's statement (the work); the ties are given (YtljopdpnbodnoaaDoorTie.lean); close each card by the builder's one call (the guide's Derived/Test/ToyasCard.lean, 'card_holds'). Laid BY PROGRAM, IN A SANDBOX (cutbox-door.mjs). By AI agents, Wed Nov 11 2026. No macro, syntax, notation, axiom, sorry.
-/
import Derived.Test.YtljopdpnbodnoaaDoorRows
import GoSem.ClaimSeven
namespace Go.Proofs.YtljopdpnbodnoaaDoor
namespace Rows

/-- THE TIED CARD OF 'espalierlaw09.SpillNames'. -/
def spillNamesCard : Claim7 := { stood := { row := spillNamesRow, standIns := [], harness := (true, "495ddd641d78d92633063a34f95aa8a2967b0c32416c262edc4ee7956e007124"), looks := false }, kinds := [], alts := [], laidByText := true, laidKinds := [.data], laidTests := true, laidLooks := .later }
def SpillNamesCardSaid : Prop := Claim7.holds Tryd.pinned (.plain (OpenSpec.ofChange spillNamesSpec)) spillNamesCard

/-- THE TIED CARD OF 'espalierlaw09.SpillPages'. -/
def spillPagesCard : Claim7 := { stood := { row := spillPagesRow, standIns := [], harness := (true, "495ddd641d78d92633063a34f95aa8a2967b0c32416c262edc4ee7956e007124"), looks := false }, kinds := [], alts := [], laidByText := true, laidKinds := [.data], laidTests := true, laidLooks := .later }
def SpillPagesCardSaid : Prop := Claim7.holds Tryd.pinned (.plain (OpenSpec.ofChange spillPagesSpec)) spillPagesCard

/-- THE TIED CARD OF 'espalierlaw09.SpillEncodes'. -/
def spillEncodesCard : Claim7 := { stood := { row := spillEncodesRow, standIns := [], harness := (true, "495ddd641d78d92633063a34f95aa8a2967b0c32416c262edc4ee7956e007124"), looks := false }, kinds := [], alts := [], laidByText := true, laidKinds := [.data], laidTests := true, laidLooks := .later }
def SpillEncodesCardSaid : Prop := Claim7.holds Tryd.pinned (.plain (OpenSpec.ofChange spillEncodesSpec)) spillEncodesCard

/-- THE TIED CARD OF 'espalierlaw09.SpillDecodes'. -/
def spillDecodesCard : Claim7 := { stood := { row := spillDecodesRow, standIns := [], harness := (true, "495ddd641d78d92633063a34f95aa8a2967b0c32416c262edc4ee7956e007124"), looks := false }, kinds := [], alts := [], laidByText := true, laidKinds := [.data], laidTests := true, laidLooks := .later }
def SpillDecodesCardSaid : Prop := Claim7.holds Tryd.pinned (.plain (OpenSpec.ofChange spillDecodesSpec)) spillDecodesCard

/-- THE TIED CARD OF 'espalierlaw09.SpillPlays'. -/
def spillPlaysCard : Claim7 := { stood := { row := spillPlaysRow, standIns := [], harness := (true, "495ddd641d78d92633063a34f95aa8a2967b0c32416c262edc4ee7956e007124"), looks := false }, kinds := [], alts := [], laidByText := true, laidKinds := [.data], laidTests := true, laidLooks := .later }
def SpillPlaysCardSaid : Prop := Claim7.holds Tryd.pinned (.plain (OpenSpec.ofChange spillPlaysSpec)) spillPlaysCard

/-- THE TIED CARD OF 'espalierlaw09.SpillBack'. -/
def spillBackCard : Claim7 := { stood := { row := spillBackRow, standIns := [], harness := (true, "495ddd641d78d92633063a34f95aa8a2967b0c32416c262edc4ee7956e007124"), looks := false }, kinds := [], alts := [], laidByText := true, laidKinds := [.data], laidTests := true, laidLooks := .later }
def SpillBackCardSaid : Prop := Claim7.holds Tryd.pinned (.plain (OpenSpec.ofChange spillBackSpec)) spillBackCard

/-- THE SECOND FORM's CARD OF 'espalierlaw09.SpillNames'. -/
def spillNamesUptoCard : Claim7 := { stood := { row := spillNamesUptoRow, standIns := [], harness := (true, "495ddd641d78d92633063a34f95aa8a2967b0c32416c262edc4ee7956e007124"), looks := false }, kinds := [], alts := [], laidByText := true, laidKinds := [.data], laidTests := true, laidLooks := .later }
def SpillNamesUptoCardSaid : Prop := Claim7.holds Tryd.pinned (.plain (OpenSpec.upto spillNamesSpec)) spillNamesUptoCard

/-- THE SECOND FORM's CARD OF 'espalierlaw09.SpillPages'. -/
def spillPagesUptoCard : Claim7 := { stood := { row := spillPagesUptoRow, standIns := [], harness := (true, "495ddd641d78d92633063a34f95aa8a2967b0c32416c262edc4ee7956e007124"), looks := false }, kinds := [], alts := [], laidByText := true, laidKinds := [.data], laidTests := true, laidLooks := .later }
def SpillPagesUptoCardSaid : Prop := Claim7.holds Tryd.pinned (.plain (OpenSpec.upto spillPagesSpec)) spillPagesUptoCard

/-- THE SECOND FORM's CARD OF 'espalierlaw09.SpillEncodes'. -/
def spillEncodesUptoCard : Claim7 := { stood := { row := spillEncodesUptoRow, standIns := [], harness := (true, "495ddd641d78d92633063a34f95aa8a2967b0c32416c262edc4ee7956e007124"), looks := false }, kinds := [], alts := [], laidByText := true, laidKinds := [.data], laidTests := true, laidLooks := .later }
def SpillEncodesUptoCardSaid : Prop := Claim7.holds Tryd.pinned (.plain (OpenSpec.upto spillEncodesSpec)) spillEncodesUptoCard

/-- THE SECOND FORM's CARD OF 'espalierlaw09.SpillDecodes'. -/
def spillDecodesUptoCard : Claim7 := { stood := { row := spillDecodesUptoRow, standIns := [], harness := (true, "495ddd641d78d92633063a34f95aa8a2967b0c32416c262edc4ee7956e007124"), looks := false }, kinds := [], alts := [], laidByText := true, laidKinds := [.data], laidTests := true, laidLooks := .later }
def SpillDecodesUptoCardSaid : Prop := Claim7.holds Tryd.pinned (.plain (OpenSpec.upto spillDecodesSpec)) spillDecodesUptoCard

/-- THE SECOND FORM's CARD OF 'espalierlaw09.SpillPlays'. -/
def spillPlaysUptoCard : Claim7 := { stood := { row := spillPlaysUptoRow, standIns := [], harness := (true, "495ddd641d78d92633063a34f95aa8a2967b0c32416c262edc4ee7956e007124"), looks := false }, kinds := [], alts := [], laidByText := true, laidKinds := [.data], laidTests := true, laidLooks := .later }
def SpillPlaysUptoCardSaid : Prop := Claim7.holds Tryd.pinned (.plain (OpenSpec.upto spillPlaysSpec)) spillPlaysUptoCard

/-- THE SECOND FORM's CARD OF 'espalierlaw09.SpillBack'. -/
def spillBackUptoCard : Claim7 := { stood := { row := spillBackUptoRow, standIns := [], harness := (true, "495ddd641d78d92633063a34f95aa8a2967b0c32416c262edc4ee7956e007124"), looks := false }, kinds := [], alts := [], laidByText := true, laidKinds := [.data], laidTests := true, laidLooks := .later }
def SpillBackUptoCardSaid : Prop := Claim7.holds Tryd.pinned (.plain (OpenSpec.upto spillBackSpec)) spillBackUptoCard
end Rows
end Go.Proofs.YtljopdpnbodnoaaDoor
