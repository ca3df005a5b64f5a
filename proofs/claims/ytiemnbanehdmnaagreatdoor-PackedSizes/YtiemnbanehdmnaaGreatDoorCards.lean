/-
  DERIVED. GIVEN WITH THE SEED: THE CARDS: each row of YtiemnbanehdmnaaGreatDoorRows.lean that lists a variable, with what it lists TIED to the program's text (the seventh form; the later family's looks); each row that meets fmt, with fmt's text TOLD by the authors' own Lean function (tested against real Go, not proved from fmt's source: count such statements apart). THE CARD IS WHAT COUNTS. Prove the row's statement (the work); the ties are given (YtiemnbanehdmnaaGreatDoorTie.lean); close each card by the builder's one call (the guide's Derived/Test/ToyasCard.lean, 'card_holds'). Laid BY PROGRAM, IN A SANDBOX (cutbox-door.mjs). By AI agents, Wed Nov 11 2026. No macro, syntax, notation, axiom, sorry.
-/
import Derived.Test.YtiemnbanehdmnaaGreatDoorRows
import GoSem.ClaimSeven
namespace Go.Proofs.YtiemnbanehdmnaaGreatDoor
namespace Rows

/-- THE TIED CARD OF 'espalierlaw07.PackedSizes'. -/
def packedSizesCard : Claim7 := { stood := { row := packedSizesRow, standIns := [], harness := (true, "e402acee793c27daff94da9c857098b0e931a3d73f1291d3a695c4764de3b7ee"), looks := false }, kinds := [], alts := [], laidByText := true, laidKinds := [.data], laidTests := true, laidLooks := .later }
def PackedSizesCardSaid : Prop := Claim7.holds Tryz.pinned (.plain (OpenSpec.ofChange packedSizesSpec)) packedSizesCard

/-- THE TIED CARD OF 'espalierlaw07.PackedEncodes'. -/
def packedEncodesCard : Claim7 := { stood := { row := packedEncodesRow, standIns := [], harness := (true, "e402acee793c27daff94da9c857098b0e931a3d73f1291d3a695c4764de3b7ee"), looks := false }, kinds := [], alts := [], laidByText := true, laidKinds := [.data], laidTests := true, laidLooks := .later }
def PackedEncodesCardSaid : Prop := Claim7.holds Tryz.pinned (.plain (OpenSpec.ofChange packedEncodesSpec)) packedEncodesCard

/-- THE TIED CARD OF 'espalierlaw07.PackedDecodes'. -/
def packedDecodesCard : Claim7 := { stood := { row := packedDecodesRow, standIns := [], harness := (true, "e402acee793c27daff94da9c857098b0e931a3d73f1291d3a695c4764de3b7ee"), looks := false }, kinds := [], alts := [], laidByText := true, laidKinds := [.data], laidTests := true, laidLooks := .later }
def PackedDecodesCardSaid : Prop := Claim7.holds Tryz.pinned (.plain (OpenSpec.ofChange packedDecodesSpec)) packedDecodesCard

/-- THE TIED CARD OF 'espalierlaw07.PackedPages'. -/
def packedPagesCard : Claim7 := { stood := { row := packedPagesRow, standIns := [], harness := (true, "e402acee793c27daff94da9c857098b0e931a3d73f1291d3a695c4764de3b7ee"), looks := false }, kinds := [], alts := [], laidByText := true, laidKinds := [.data], laidTests := true, laidLooks := .later }
def PackedPagesCardSaid : Prop := Claim7.holds Tryz.pinned (.plain (OpenSpec.ofChange packedPagesSpec)) packedPagesCard

/-- THE SECOND FORM's CARD OF 'espalierlaw07.PackedSizes'. -/
def packedSizesUptoCard : Claim7 := { stood := { row := packedSizesUptoRow, standIns := [], harness := (true, "e402acee793c27daff94da9c857098b0e931a3d73f1291d3a695c4764de3b7ee"), looks := false }, kinds := [], alts := [], laidByText := true, laidKinds := [.data], laidTests := true, laidLooks := .later }
def PackedSizesUptoCardSaid : Prop := Claim7.holds Tryz.pinned (.plain (OpenSpec.upto packedSizesSpec)) packedSizesUptoCard

/-- THE SECOND FORM's CARD OF 'espalierlaw07.PackedEncodes'. -/
def packedEncodesUptoCard : Claim7 := { stood := { row := packedEncodesUptoRow, standIns := [], harness := (true, "e402acee793c27daff94da9c857098b0e931a3d73f1291d3a695c4764de3b7ee"), looks := false }, kinds := [], alts := [], laidByText := true, laidKinds := [.data], laidTests := true, laidLooks := .later }
def PackedEncodesUptoCardSaid : Prop := Claim7.holds Tryz.pinned (.plain (OpenSpec.upto packedEncodesSpec)) packedEncodesUptoCard

/-- THE SECOND FORM's CARD OF 'espalierlaw07.PackedDecodes'. -/
def packedDecodesUptoCard : Claim7 := { stood := { row := packedDecodesUptoRow, standIns := [], harness := (true, "e402acee793c27daff94da9c857098b0e931a3d73f1291d3a695c4764de3b7ee"), looks := false }, kinds := [], alts := [], laidByText := true, laidKinds := [.data], laidTests := true, laidLooks := .later }
def PackedDecodesUptoCardSaid : Prop := Claim7.holds Tryz.pinned (.plain (OpenSpec.upto packedDecodesSpec)) packedDecodesUptoCard

/-- THE SECOND FORM's CARD OF 'espalierlaw07.PackedPages'. -/
def packedPagesUptoCard : Claim7 := { stood := { row := packedPagesUptoRow, standIns := [], harness := (true, "e402acee793c27daff94da9c857098b0e931a3d73f1291d3a695c4764de3b7ee"), looks := false }, kinds := [], alts := [], laidByText := true, laidKinds := [.data], laidTests := true, laidLooks := .later }
def PackedPagesUptoCardSaid : Prop := Claim7.holds Tryz.pinned (.plain (OpenSpec.upto packedPagesSpec)) packedPagesUptoCard
end Rows
end Go.Proofs.YtiemnbanehdmnaaGreatDoor
