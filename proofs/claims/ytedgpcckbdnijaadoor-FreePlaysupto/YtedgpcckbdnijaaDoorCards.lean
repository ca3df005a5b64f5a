/-
  DERIVED. GIVEN WITH THE SEED: THE CARDS: each row of YtedgpcckbdnijaaDoorRows.lean that lists a variable, with what it lists TIED to the program's text (the seventh form; the later family's looks); each row that meets fmt, with fmt's text TOLD by the authors' own Lean function (tested against real Go, not proved from fmt's source: count such statements apart). THE CARD IS WHAT COUNTS. Prove the row's statement (the work); the ties are given (YtedgpcckbdnijaaDoorTie.lean); close each card by the builder's one call (the guide's Derived/Test/ToyasCard.lean, 'card_holds'). Laid BY PROGRAM, IN A SANDBOX (cutbox-door.mjs). By AI agents, Wed Nov 11 2026. No macro, syntax, notation, axiom, sorry.
-/
import Derived.Test.YtedgpcckbdnijaaDoorRows
import GoSem.ClaimSeven
namespace Go.Proofs.YtedgpcckbdnijaaDoor
namespace Rows

/-- THE TIED CARD OF 'espalierlaw10.FreePlays'. -/
def freePlaysCard : Claim7 := { stood := { row := freePlaysRow, standIns := [], harness := (true, "c20f846f9f75143a06aafe07eb6a7e64771f42ce9762c3247d60c62d6739e235"), looks := false }, kinds := [], alts := [], laidByText := true, laidKinds := [.data, .data], laidTests := true, laidLooks := .later }
def FreePlaysCardSaid : Prop := Claim7.holds Tryd.pinned (.plain (OpenSpec.ofChange freePlaysSpec)) freePlaysCard

/-- THE TIED CARD OF 'espalierlaw10.FreeMarks'. -/
def freeMarksCard : Claim7 := { stood := { row := freeMarksRow, standIns := [], harness := (true, "c20f846f9f75143a06aafe07eb6a7e64771f42ce9762c3247d60c62d6739e235"), looks := false }, kinds := [], alts := [], laidByText := true, laidKinds := [.data, .data], laidTests := true, laidLooks := .later }
def FreeMarksCardSaid : Prop := Claim7.holds Tryd.pinned (.plain (OpenSpec.ofChange freeMarksSpec)) freeMarksCard

/-- THE SECOND FORM's CARD OF 'espalierlaw10.FreePlays'. -/
def freePlaysUptoCard : Claim7 := { stood := { row := freePlaysUptoRow, standIns := [], harness := (true, "c20f846f9f75143a06aafe07eb6a7e64771f42ce9762c3247d60c62d6739e235"), looks := false }, kinds := [], alts := [], laidByText := true, laidKinds := [.data, .data], laidTests := true, laidLooks := .later }
def FreePlaysUptoCardSaid : Prop := Claim7.holds Tryd.pinned (.plain (OpenSpec.upto freePlaysSpec)) freePlaysUptoCard

/-- THE SECOND FORM's CARD OF 'espalierlaw10.FreeMarks'. -/
def freeMarksUptoCard : Claim7 := { stood := { row := freeMarksUptoRow, standIns := [], harness := (true, "c20f846f9f75143a06aafe07eb6a7e64771f42ce9762c3247d60c62d6739e235"), looks := false }, kinds := [], alts := [], laidByText := true, laidKinds := [.data, .data], laidTests := true, laidLooks := .later }
def FreeMarksUptoCardSaid : Prop := Claim7.holds Tryd.pinned (.plain (OpenSpec.upto freeMarksSpec)) freeMarksUptoCard
end Rows
end Go.Proofs.YtedgpcckbdnijaaDoor
