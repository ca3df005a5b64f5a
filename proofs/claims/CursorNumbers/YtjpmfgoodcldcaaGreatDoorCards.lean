/-
  DERIVED. GIVEN WITH THE SEED: THE CARDS: each row of YtjpmfgoodcldcaaGreatDoorRows.lean that lists a variable, with what it lists TIED to the program's text (the seventh form; the later family's looks); each row that meets fmt, with fmt's text TOLD by the authors' own Lean function (tested against real Go, not proved from fmt's source: count such statements apart). THE CARD IS WHAT COUNTS. Prove the row's statement (the work); the ties are given (YtjpmfgoodcldcaaGreatDoorTie.lean); close each card by the builder's one call (the guide's Derived/Test/ToyasCard.lean, 'card_holds'). Laid BY PROGRAM, IN A SANDBOX (cutbox-door.mjs). By AI agents, Wed Nov 11 2026. No macro, syntax, notation, axiom, sorry.
-/
import Derived.Test.YtjpmfgoodcldcaaGreatDoorRows
import GoSem.ClaimSeven
namespace Go.Proofs.YtjpmfgoodcldcaaGreatDoor
namespace Rows

/-- THE TIED CARD OF 'espalierlaw13.CursorNumbers'. -/
def cursorNumbersCard : Claim7 := { stood := { row := cursorNumbersRow, standIns := [], harness := (true, "fe26ede5d6e30c5740af045de64b222404d7c12c17fd1f841e9f13f50ee796a3"), looks := false }, kinds := [], alts := [], laidByText := true, laidKinds := [.data], laidTests := true, laidLooks := .later }
def CursorNumbersCardSaid : Prop := Claim7.holds Tryz.pinned (.plain (OpenSpec.ofChange cursorNumbersSpec)) cursorNumbersCard

/-- THE SECOND FORM's CARD OF 'espalierlaw13.CursorNumbers'. -/
def cursorNumbersUptoCard : Claim7 := { stood := { row := cursorNumbersUptoRow, standIns := [], harness := (true, "fe26ede5d6e30c5740af045de64b222404d7c12c17fd1f841e9f13f50ee796a3"), looks := false }, kinds := [], alts := [], laidByText := true, laidKinds := [.data], laidTests := true, laidLooks := .later }
def CursorNumbersUptoCardSaid : Prop := Claim7.holds Tryz.pinned (.plain (OpenSpec.upto cursorNumbersSpec)) cursorNumbersUptoCard
end Rows
end Go.Proofs.YtjpmfgoodcldcaaGreatDoor
