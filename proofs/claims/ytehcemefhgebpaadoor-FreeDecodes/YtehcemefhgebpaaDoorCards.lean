/-
  DERIVED. GIVEN WITH THE SEED: THE CARDS: each row of YtehcemefhgebpaaDoorRows.lean that lists a variable, with what it lists TIED to the program's text (the seventh form; the later family's looks); each row that meets fmt, with fmt's text TOLD by the authors' own Lean function (tested against real Go, not proved from fmt's source: count such statements apart). THE CARD IS WHAT COUNTS. Prove the row's statement (the work); the ties are given (YtehcemefhgebpaaDoorTie.lean); close each card by the builder's one call (the guide's Derived/Test/ToyasCard.lean, 'card_holds'). Laid BY PROGRAM, IN A SANDBOX (cutbox-door.mjs). By AI agents, Wed Nov 11 2026. No macro, syntax, notation, axiom, sorry.
-/
import Derived.Test.YtehcemefhgebpaaDoorRows
import GoSem.ClaimSeven
namespace Go.Proofs.YtehcemefhgebpaaDoor
namespace Rows

/-- THE TIED CARD OF 'espalierlaw10.FreePlays'. -/
def freePlaysCard : Claim7 := { stood := { row := freePlaysRow, standIns := [], harness := (true, "855e3011c604cf106859782e2cb72e0503d84fb5679bd73b9a9ebd4433a0f592"), looks := false }, kinds := [], alts := [], laidByText := true, laidKinds := [.data, .data], laidTests := true, laidLooks := .later }
def FreePlaysCardSaid : Prop := Claim7.holds Tryd.pinned (.plain (OpenSpec.ofChange freePlaysSpec)) freePlaysCard

/-- THE TIED CARD OF 'espalierlaw10.FreeMarks'. -/
def freeMarksCard : Claim7 := { stood := { row := freeMarksRow, standIns := [], harness := (true, "855e3011c604cf106859782e2cb72e0503d84fb5679bd73b9a9ebd4433a0f592"), looks := false }, kinds := [], alts := [], laidByText := true, laidKinds := [.data, .data], laidTests := true, laidLooks := .later }
def FreeMarksCardSaid : Prop := Claim7.holds Tryd.pinned (.plain (OpenSpec.ofChange freeMarksSpec)) freeMarksCard

/-- THE TIED CARD OF 'espalierlaw10.FreeEncodes'. -/
def freeEncodesCard : Claim7 := { stood := { row := freeEncodesRow, standIns := [], harness := (true, "855e3011c604cf106859782e2cb72e0503d84fb5679bd73b9a9ebd4433a0f592"), looks := false }, kinds := [], alts := [], laidByText := true, laidKinds := [.data, .data], laidTests := true, laidLooks := .later }
def FreeEncodesCardSaid : Prop := Claim7.holds Tryd.pinned (.plain (OpenSpec.ofChange freeEncodesSpec)) freeEncodesCard

/-- THE TIED CARD OF 'espalierlaw10.FreeDecodes'. -/
def freeDecodesCard : Claim7 := { stood := { row := freeDecodesRow, standIns := [], harness := (true, "855e3011c604cf106859782e2cb72e0503d84fb5679bd73b9a9ebd4433a0f592"), looks := false }, kinds := [], alts := [], laidByText := true, laidKinds := [.data, .data], laidTests := true, laidLooks := .later }
def FreeDecodesCardSaid : Prop := Claim7.holds Tryd.pinned (.plain (OpenSpec.ofChange freeDecodesSpec)) freeDecodesCard

/-- THE SECOND FORM's CARD OF 'espalierlaw10.FreePlays'. -/
def freePlaysUptoCard : Claim7 := { stood := { row := freePlaysUptoRow, standIns := [], harness := (true, "855e3011c604cf106859782e2cb72e0503d84fb5679bd73b9a9ebd4433a0f592"), looks := false }, kinds := [], alts := [], laidByText := true, laidKinds := [.data, .data], laidTests := true, laidLooks := .later }
def FreePlaysUptoCardSaid : Prop := Claim7.holds Tryd.pinned (.plain (OpenSpec.upto freePlaysSpec)) freePlaysUptoCard

/-- THE SECOND FORM's CARD OF 'espalierlaw10.FreeMarks'. -/
def freeMarksUptoCard : Claim7 := { stood := { row := freeMarksUptoRow, standIns := [], harness := (true, "855e3011c604cf106859782e2cb72e0503d84fb5679bd73b9a9ebd4433a0f592"), looks := false }, kinds := [], alts := [], laidByText := true, laidKinds := [.data, .data], laidTests := true, laidLooks := .later }
def FreeMarksUptoCardSaid : Prop := Claim7.holds Tryd.pinned (.plain (OpenSpec.upto freeMarksSpec)) freeMarksUptoCard

/-- THE SECOND FORM's CARD OF 'espalierlaw10.FreeEncodes'. -/
def freeEncodesUptoCard : Claim7 := { stood := { row := freeEncodesUptoRow, standIns := [], harness := (true, "855e3011c604cf106859782e2cb72e0503d84fb5679bd73b9a9ebd4433a0f592"), looks := false }, kinds := [], alts := [], laidByText := true, laidKinds := [.data, .data], laidTests := true, laidLooks := .later }
def FreeEncodesUptoCardSaid : Prop := Claim7.holds Tryd.pinned (.plain (OpenSpec.upto freeEncodesSpec)) freeEncodesUptoCard

/-- THE SECOND FORM's CARD OF 'espalierlaw10.FreeDecodes'. -/
def freeDecodesUptoCard : Claim7 := { stood := { row := freeDecodesUptoRow, standIns := [], harness := (true, "855e3011c604cf106859782e2cb72e0503d84fb5679bd73b9a9ebd4433a0f592"), looks := false }, kinds := [], alts := [], laidByText := true, laidKinds := [.data, .data], laidTests := true, laidLooks := .later }
def FreeDecodesUptoCardSaid : Prop := Claim7.holds Tryd.pinned (.plain (OpenSpec.upto freeDecodesSpec)) freeDecodesUptoCard
end Rows
end Go.Proofs.YtehcemefhgebpaaDoor
