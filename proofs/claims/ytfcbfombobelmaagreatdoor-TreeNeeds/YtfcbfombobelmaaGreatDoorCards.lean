/-
  DERIVED. GIVEN WITH THE SEED: THE CARDS: each row of YtfcbfombobelmaaGreatDoorRows.lean that lists a variable, with what it lists TIED to the program's text (the seventh form; the later family's looks); each row that meets fmt, with fmt's text TOLD by the authors' own Lean function (tested against real Go, not proved from fmt's source: count such statements apart). THE CARD IS WHAT COUNTS. Prove the row's statement (the work); the ties are given (YtfcbfombobelmaaGreatDoorTie.lean); close each card by the builder's one call (the guide's Derived/Test/ToyasCard.lean, 'card_holds'). Laid BY PROGRAM, IN A SANDBOX (cutbox-door.mjs). By AI agents, Wed Nov 11 2026. No macro, syntax, notation, axiom, sorry.
-/
import Derived.Test.YtfcbfombobelmaaGreatDoorRows
import GoSem.ClaimSeven
namespace Go.Proofs.YtfcbfombobelmaaGreatDoor
namespace Rows

/-- THE TIED CARD OF 'espalierlaw12.TreeNames'. -/
def treeNamesCard : Claim7 := { stood := { row := treeNamesRow, standIns := [], harness := (true, "7e9ba728a79dbfd2166c291c4bf87ecb2b7366fe2412a5e36b526c463b69746c"), looks := true }, kinds := [], alts := [], laidByText := true, laidKinds := [.data], laidTests := true, laidLooks := .later }
def TreeNamesCardSaid : Prop := Claim7.holds Tryz.pinned (.plain (OpenSpec.ofChange treeNamesSpec)) treeNamesCard

/-- THE TIED CARD OF 'espalierlaw12.TreeNeeds'. -/
def treeNeedsCard : Claim7 := { stood := { row := treeNeedsRow, standIns := [], harness := (true, "7e9ba728a79dbfd2166c291c4bf87ecb2b7366fe2412a5e36b526c463b69746c"), looks := true }, kinds := [], alts := [], laidByText := true, laidKinds := [.data], laidTests := true, laidLooks := .later }
def TreeNeedsCardSaid : Prop := Claim7.holds Tryz.pinned (.plain (OpenSpec.ofChange treeNeedsSpec)) treeNeedsCard

/-- THE SECOND FORM's CARD OF 'espalierlaw12.TreeNames'. -/
def treeNamesUptoCard : Claim7 := { stood := { row := treeNamesUptoRow, standIns := [], harness := (true, "7e9ba728a79dbfd2166c291c4bf87ecb2b7366fe2412a5e36b526c463b69746c"), looks := true }, kinds := [], alts := [], laidByText := true, laidKinds := [.data], laidTests := true, laidLooks := .later }
def TreeNamesUptoCardSaid : Prop := Claim7.holds Tryz.pinned (.plain (OpenSpec.upto treeNamesSpec)) treeNamesUptoCard

/-- THE SECOND FORM's CARD OF 'espalierlaw12.TreeNeeds'. -/
def treeNeedsUptoCard : Claim7 := { stood := { row := treeNeedsUptoRow, standIns := [], harness := (true, "7e9ba728a79dbfd2166c291c4bf87ecb2b7366fe2412a5e36b526c463b69746c"), looks := true }, kinds := [], alts := [], laidByText := true, laidKinds := [.data], laidTests := true, laidLooks := .later }
def TreeNeedsUptoCardSaid : Prop := Claim7.holds Tryz.pinned (.plain (OpenSpec.upto treeNeedsSpec)) treeNeedsUptoCard
end Rows
end Go.Proofs.YtfcbfombobelmaaGreatDoor
