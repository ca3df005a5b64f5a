/-
  DERIVED. GIVEN WITH THE SEED: THE CARDS: each row of YtfofkgdhepdjeabDoorRows.lean that lists a variable, with what it lists TIED to the program's text (the seventh form; the later family's looks); each row that meets fmt, with fmt's text TOLD by the authors' own Lean function (tested against real Go, not proved from fmt's source: count such statements apart). THE CARD IS WHAT COUNTS. Prove the row's statement (the work); the ties are given (YtfofkgdhepdjeabDoorTie.lean); close each card by the builder's one call (the guide's Derived/Test/ToyasCard.lean, 'card_holds'). Laid BY PROGRAM, IN A SANDBOX (cutbox-door.mjs). By AI agents, Wed Nov 11 2026. No macro, syntax, notation, axiom, sorry.
-/
import Derived.Test.YtfofkgdhepdjeabDoorRows
import GoSem.ClaimSeven
namespace Go.Proofs.YtfofkgdhepdjeabDoor
namespace Rows

/-- THE TIED CARD OF 'espalierlaw01.InkTexts'. -/
def inkTextsCard : Claim7 := { stood := { row := inkTextsRow, standIns := [], harness := (true, "0f728bf519411d83d5bdea09407f62bee9909c3d70018571bf3e9fe9d4465238"), looks := false }, kinds := [], alts := [], laidByText := true, laidKinds := [.data], laidTests := true, laidLooks := .later }
def InkTextsCardSaid : Prop := Claim7.holds Tryd.pinned (.plain (OpenSpec.ofChange inkTextsSpec)) inkTextsCard

/-- THE TIED CARD OF 'espalierlaw01.InkBetween'. -/
def inkBetweenCard : Claim7 := { stood := { row := inkBetweenRow, standIns := [], harness := (true, "0f728bf519411d83d5bdea09407f62bee9909c3d70018571bf3e9fe9d4465238"), looks := false }, kinds := [], alts := [], laidByText := true, laidKinds := [.data], laidTests := true, laidLooks := .later }
def InkBetweenCardSaid : Prop := Claim7.holds Tryd.pinned (.plain (OpenSpec.ofChange inkBetweenSpec)) inkBetweenCard

/-- THE TIED CARD OF 'espalierlaw01.InkSums'. -/
def inkSumsCard : Claim7 := { stood := { row := inkSumsRow, standIns := [], harness := (true, "0f728bf519411d83d5bdea09407f62bee9909c3d70018571bf3e9fe9d4465238"), looks := false }, kinds := [], alts := [], laidByText := true, laidKinds := [.data], laidTests := true, laidLooks := .later }
def InkSumsCardSaid : Prop := Claim7.holds Tryd.pinned (.plain (OpenSpec.ofChange inkSumsSpec)) inkSumsCard

/-- THE TIED CARD OF 'espalierlaw01.InkTurned'. -/
def inkTurnedCard : Claim7 := { stood := { row := inkTurnedRow, standIns := [], harness := (true, "0f728bf519411d83d5bdea09407f62bee9909c3d70018571bf3e9fe9d4465238"), looks := false }, kinds := [], alts := [], laidByText := true, laidKinds := [.data], laidTests := true, laidLooks := .later }
def InkTurnedCardSaid : Prop := Claim7.holds Tryd.pinned (.plain (OpenSpec.ofChange inkTurnedSpec)) inkTurnedCard

/-- THE SECOND FORM's CARD OF 'espalierlaw01.InkTexts'. -/
def inkTextsUptoCard : Claim7 := { stood := { row := inkTextsUptoRow, standIns := [], harness := (true, "0f728bf519411d83d5bdea09407f62bee9909c3d70018571bf3e9fe9d4465238"), looks := false }, kinds := [], alts := [], laidByText := true, laidKinds := [.data], laidTests := true, laidLooks := .later }
def InkTextsUptoCardSaid : Prop := Claim7.holds Tryd.pinned (.plain (OpenSpec.upto inkTextsSpec)) inkTextsUptoCard

/-- THE SECOND FORM's CARD OF 'espalierlaw01.InkBetween'. -/
def inkBetweenUptoCard : Claim7 := { stood := { row := inkBetweenUptoRow, standIns := [], harness := (true, "0f728bf519411d83d5bdea09407f62bee9909c3d70018571bf3e9fe9d4465238"), looks := false }, kinds := [], alts := [], laidByText := true, laidKinds := [.data], laidTests := true, laidLooks := .later }
def InkBetweenUptoCardSaid : Prop := Claim7.holds Tryd.pinned (.plain (OpenSpec.upto inkBetweenSpec)) inkBetweenUptoCard

/-- THE SECOND FORM's CARD OF 'espalierlaw01.InkSums'. -/
def inkSumsUptoCard : Claim7 := { stood := { row := inkSumsUptoRow, standIns := [], harness := (true, "0f728bf519411d83d5bdea09407f62bee9909c3d70018571bf3e9fe9d4465238"), looks := false }, kinds := [], alts := [], laidByText := true, laidKinds := [.data], laidTests := true, laidLooks := .later }
def InkSumsUptoCardSaid : Prop := Claim7.holds Tryd.pinned (.plain (OpenSpec.upto inkSumsSpec)) inkSumsUptoCard

/-- THE SECOND FORM's CARD OF 'espalierlaw01.InkTurned'. -/
def inkTurnedUptoCard : Claim7 := { stood := { row := inkTurnedUptoRow, standIns := [], harness := (true, "0f728bf519411d83d5bdea09407f62bee9909c3d70018571bf3e9fe9d4465238"), looks := false }, kinds := [], alts := [], laidByText := true, laidKinds := [.data], laidTests := true, laidLooks := .later }
def InkTurnedUptoCardSaid : Prop := Claim7.holds Tryd.pinned (.plain (OpenSpec.upto inkTurnedSpec)) inkTurnedUptoCard
end Rows
end Go.Proofs.YtfofkgdhepdjeabDoor
