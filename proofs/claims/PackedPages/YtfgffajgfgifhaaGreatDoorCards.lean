/-
  DERIVED. GIVEN WITH THE SEED: THE CARDS: each row of YtfgffajgfgifhaaGreatDoorRows.lean that lists a variable, with what it lists TIED to the program's text (the seventh form; the later family's looks); each row that meets fmt, with fmt's text TOLD by the authors' own Lean function (tested against real Go, not proved from fmt's source: count such statements apart). THE CARD IS WHAT COUNTS. Prove the row's statement (the work); the ties are given (YtfgffajgfgifhaaGreatDoorTie.lean); close each card by the builder's one call (the guide's Derived/Test/ToyasCard.lean, 'card_holds'). Laid BY PROGRAM, IN A SANDBOX (cutbox-door.mjs). By AI agents, Wed Nov 11 2026. No macro, syntax, notation, axiom, sorry.
-/
import Derived.Test.YtfgffajgfgifhaaGreatDoorRows
import GoSem.ClaimSeven
namespace Go.Proofs.YtfgffajgfgifhaaGreatDoor
namespace Rows

/-- THE TIED CARD OF 'espalierlaw07.PackedPages'. -/
def packedPagesCard : Claim7 := { stood := { row := packedPagesRow, standIns := [], harness := (true, "3de395f14cfceb1d01fc0e3901918ac32ef8c3177aa8cc43f3fc7cd3137c80b1"), looks := false }, kinds := [], alts := [], laidByText := true, laidKinds := [.data], laidTests := true, laidLooks := .later }
def PackedPagesCardSaid : Prop := Claim7.holds Tryz.pinned (.plain (OpenSpec.ofChange packedPagesSpec)) packedPagesCard

/-- THE TIED CARD OF 'espalierlaw07.PackedLists'. -/
def packedListsCard : Claim7 := { stood := { row := packedListsRow, standIns := [], harness := (true, "3de395f14cfceb1d01fc0e3901918ac32ef8c3177aa8cc43f3fc7cd3137c80b1"), looks := false }, kinds := [], alts := [], laidByText := true, laidKinds := [.data], laidTests := true, laidLooks := .later }
def PackedListsCardSaid : Prop := Claim7.holds Tryz.pinned (.plain (OpenSpec.ofChange packedListsSpec)) packedListsCard

/-- THE SECOND FORM's CARD OF 'espalierlaw07.PackedPages'. -/
def packedPagesUptoCard : Claim7 := { stood := { row := packedPagesUptoRow, standIns := [], harness := (true, "3de395f14cfceb1d01fc0e3901918ac32ef8c3177aa8cc43f3fc7cd3137c80b1"), looks := false }, kinds := [], alts := [], laidByText := true, laidKinds := [.data], laidTests := true, laidLooks := .later }
def PackedPagesUptoCardSaid : Prop := Claim7.holds Tryz.pinned (.plain (OpenSpec.upto packedPagesSpec)) packedPagesUptoCard

/-- THE SECOND FORM's CARD OF 'espalierlaw07.PackedLists'. -/
def packedListsUptoCard : Claim7 := { stood := { row := packedListsUptoRow, standIns := [], harness := (true, "3de395f14cfceb1d01fc0e3901918ac32ef8c3177aa8cc43f3fc7cd3137c80b1"), looks := false }, kinds := [], alts := [], laidByText := true, laidKinds := [.data], laidTests := true, laidLooks := .later }
def PackedListsUptoCardSaid : Prop := Claim7.holds Tryz.pinned (.plain (OpenSpec.upto packedListsSpec)) packedListsUptoCard
end Rows
end Go.Proofs.YtfgffajgfgifhaaGreatDoor
