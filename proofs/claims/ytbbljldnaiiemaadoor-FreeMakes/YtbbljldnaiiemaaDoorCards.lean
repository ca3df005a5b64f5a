/-
  DERIVED. GIVEN WITH THE SEED: THE CARDS: each row of YtbbljldnaiiemaaDoorRows.lean that lists a variable, with what it lists TIED to the program's text (the seventh form; the later family's looks); each row that meets fmt, with fmt's text TOLD by the authors' own Lean function (tested against real Go, not proved from fmt's source: count such statements apart). THE CARD IS WHAT COUNTS. Prove the row's statement (the work); the ties are given (YtbbljldnaiiemaaDoorTie.lean); close each card by the builder's one call (the guide's Derived/Test/ToyasCard.lean, 'card_holds'). Laid BY PROGRAM, IN A SANDBOX (cutbox-door.mjs). By AI agents, Wed Nov 11 2026. No macro, syntax, notation, axiom, sorry.
-/
import Derived.Test.YtbbljldnaiiemaaDoorRows
import GoSem.ClaimSeven
namespace Go.Proofs.YtbbljldnaiiemaaDoor
namespace Rows

/-- THE TIED CARD OF 'espalierlaw10.FreeNumbers'. -/
def freeNumbersCard : Claim7 := { stood := { row := freeNumbersRow, standIns := [], harness := (true, "27b93c43e5aeb983f31bbfd9c0ea3378db473c24bf546603e7d819bb7f034035"), looks := false }, kinds := [], alts := [], laidByText := true, laidKinds := [.data, .data], laidTests := true, laidLooks := .later }
def FreeNumbersCardSaid : Prop := Claim7.holds Tryd.pinned (.plain (OpenSpec.ofChange freeNumbersSpec)) freeNumbersCard

/-- THE TIED CARD OF 'espalierlaw10.FreeMakes'. -/
def freeMakesCard : Claim7 := { stood := { row := freeMakesRow, standIns := [], harness := (true, "27b93c43e5aeb983f31bbfd9c0ea3378db473c24bf546603e7d819bb7f034035"), looks := false }, kinds := [], alts := [], laidByText := true, laidKinds := [.data, .data], laidTests := true, laidLooks := .later }
def FreeMakesCardSaid : Prop := Claim7.holds Tryd.pinned (.plain (OpenSpec.ofChange freeMakesSpec)) freeMakesCard

/-- THE TIED CARD OF 'espalierlaw10.FreePlays'. -/
def freePlaysCard : Claim7 := { stood := { row := freePlaysRow, standIns := [], harness := (true, "27b93c43e5aeb983f31bbfd9c0ea3378db473c24bf546603e7d819bb7f034035"), looks := false }, kinds := [], alts := [], laidByText := true, laidKinds := [.data, .data], laidTests := true, laidLooks := .later }
def FreePlaysCardSaid : Prop := Claim7.holds Tryd.pinned (.plain (OpenSpec.ofChange freePlaysSpec)) freePlaysCard

/-- THE TIED CARD OF 'espalierlaw10.FreeOnce'. -/
def freeOnceCard : Claim7 := { stood := { row := freeOnceRow, standIns := [], harness := (true, "27b93c43e5aeb983f31bbfd9c0ea3378db473c24bf546603e7d819bb7f034035"), looks := false }, kinds := [], alts := [], laidByText := true, laidKinds := [.data, .data], laidTests := true, laidLooks := .later }
def FreeOnceCardSaid : Prop := Claim7.holds Tryd.pinned (.plain (OpenSpec.ofChange freeOnceSpec)) freeOnceCard

/-- THE TIED CARD OF 'espalierlaw10.FreeMarks'. -/
def freeMarksCard : Claim7 := { stood := { row := freeMarksRow, standIns := [], harness := (true, "27b93c43e5aeb983f31bbfd9c0ea3378db473c24bf546603e7d819bb7f034035"), looks := false }, kinds := [], alts := [], laidByText := true, laidKinds := [.data, .data], laidTests := true, laidLooks := .later }
def FreeMarksCardSaid : Prop := Claim7.holds Tryd.pinned (.plain (OpenSpec.ofChange freeMarksSpec)) freeMarksCard

/-- THE TIED CARD OF 'espalierlaw10.FreeEncodes'. -/
def freeEncodesCard : Claim7 := { stood := { row := freeEncodesRow, standIns := [], harness := (true, "27b93c43e5aeb983f31bbfd9c0ea3378db473c24bf546603e7d819bb7f034035"), looks := false }, kinds := [], alts := [], laidByText := true, laidKinds := [.data, .data], laidTests := true, laidLooks := .later }
def FreeEncodesCardSaid : Prop := Claim7.holds Tryd.pinned (.plain (OpenSpec.ofChange freeEncodesSpec)) freeEncodesCard

/-- THE SECOND FORM's CARD OF 'espalierlaw10.FreeNumbers'. -/
def freeNumbersUptoCard : Claim7 := { stood := { row := freeNumbersUptoRow, standIns := [], harness := (true, "27b93c43e5aeb983f31bbfd9c0ea3378db473c24bf546603e7d819bb7f034035"), looks := false }, kinds := [], alts := [], laidByText := true, laidKinds := [.data, .data], laidTests := true, laidLooks := .later }
def FreeNumbersUptoCardSaid : Prop := Claim7.holds Tryd.pinned (.plain (OpenSpec.upto freeNumbersSpec)) freeNumbersUptoCard

/-- THE SECOND FORM's CARD OF 'espalierlaw10.FreeMakes'. -/
def freeMakesUptoCard : Claim7 := { stood := { row := freeMakesUptoRow, standIns := [], harness := (true, "27b93c43e5aeb983f31bbfd9c0ea3378db473c24bf546603e7d819bb7f034035"), looks := false }, kinds := [], alts := [], laidByText := true, laidKinds := [.data, .data], laidTests := true, laidLooks := .later }
def FreeMakesUptoCardSaid : Prop := Claim7.holds Tryd.pinned (.plain (OpenSpec.upto freeMakesSpec)) freeMakesUptoCard

/-- THE SECOND FORM's CARD OF 'espalierlaw10.FreePlays'. -/
def freePlaysUptoCard : Claim7 := { stood := { row := freePlaysUptoRow, standIns := [], harness := (true, "27b93c43e5aeb983f31bbfd9c0ea3378db473c24bf546603e7d819bb7f034035"), looks := false }, kinds := [], alts := [], laidByText := true, laidKinds := [.data, .data], laidTests := true, laidLooks := .later }
def FreePlaysUptoCardSaid : Prop := Claim7.holds Tryd.pinned (.plain (OpenSpec.upto freePlaysSpec)) freePlaysUptoCard

/-- THE SECOND FORM's CARD OF 'espalierlaw10.FreeOnce'. -/
def freeOnceUptoCard : Claim7 := { stood := { row := freeOnceUptoRow, standIns := [], harness := (true, "27b93c43e5aeb983f31bbfd9c0ea3378db473c24bf546603e7d819bb7f034035"), looks := false }, kinds := [], alts := [], laidByText := true, laidKinds := [.data, .data], laidTests := true, laidLooks := .later }
def FreeOnceUptoCardSaid : Prop := Claim7.holds Tryd.pinned (.plain (OpenSpec.upto freeOnceSpec)) freeOnceUptoCard

/-- THE SECOND FORM's CARD OF 'espalierlaw10.FreeMarks'. -/
def freeMarksUptoCard : Claim7 := { stood := { row := freeMarksUptoRow, standIns := [], harness := (true, "27b93c43e5aeb983f31bbfd9c0ea3378db473c24bf546603e7d819bb7f034035"), looks := false }, kinds := [], alts := [], laidByText := true, laidKinds := [.data, .data], laidTests := true, laidLooks := .later }
def FreeMarksUptoCardSaid : Prop := Claim7.holds Tryd.pinned (.plain (OpenSpec.upto freeMarksSpec)) freeMarksUptoCard

/-- THE SECOND FORM's CARD OF 'espalierlaw10.FreeEncodes'. -/
def freeEncodesUptoCard : Claim7 := { stood := { row := freeEncodesUptoRow, standIns := [], harness := (true, "27b93c43e5aeb983f31bbfd9c0ea3378db473c24bf546603e7d819bb7f034035"), looks := false }, kinds := [], alts := [], laidByText := true, laidKinds := [.data, .data], laidTests := true, laidLooks := .later }
def FreeEncodesUptoCardSaid : Prop := Claim7.holds Tryd.pinned (.plain (OpenSpec.upto freeEncodesSpec)) freeEncodesUptoCard
end Rows
end Go.Proofs.YtbbljldnaiiemaaDoor
