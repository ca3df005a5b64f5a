/-
  DERIVED. GIVEN WITH THE SEED: THE CARDS: each row of YtoifjcliepongaaDoorRows.lean that lists a variable, with what it lists TIED to the program's text (the seventh form; the later family's looks); each row that meets fmt, with fmt's text TOLD by the authors' own Lean function (tested against real Go, not proved from fmt's source: count such statements apart). THE CARD IS WHAT COUNTS. Prove the row's statement (the work); the ties are given (YtoifjcliepongaaDoorTie.lean); close each card by the builder's one call (the guide's Derived/Test/ToyasCard.lean, 'card_holds'). Laid BY PROGRAM, IN A SANDBOX (cutbox-door.mjs). By AI agents, Wed Nov 11 2026. No macro, syntax, notation, axiom, sorry.
-/
import Derived.Test.YtoifjcliepongaaDoorRows
import GoSem.ClaimSeven
namespace Go.Proofs.YtoifjcliepongaaDoor
namespace Rows

/-- THE TIED CARD OF 'espalierlaw05.MetaNames'. -/
def metaNamesCard : Claim7 := { stood := { row := metaNamesRow, standIns := [], harness := (true, "aff3d4495cf80dbf38ba431a647365461e5b1e152af6429b246f0c36917e6271"), looks := false }, kinds := [], alts := [], laidByText := true, laidKinds := [.data], laidTests := true, laidLooks := .later }
def MetaNamesCardSaid : Prop := Claim7.holds Tryd.pinned (.plain (OpenSpec.ofChange metaNamesSpec)) metaNamesCard

/-- THE TIED CARD OF 'espalierlaw05.MetaEncodes'. -/
def metaEncodesCard : Claim7 := { stood := { row := metaEncodesRow, standIns := [], harness := (true, "aff3d4495cf80dbf38ba431a647365461e5b1e152af6429b246f0c36917e6271"), looks := false }, kinds := [], alts := [], laidByText := true, laidKinds := [.data], laidTests := true, laidLooks := .later }
def MetaEncodesCardSaid : Prop := Claim7.holds Tryd.pinned (.plain (OpenSpec.ofChange metaEncodesSpec)) metaEncodesCard

/-- THE TIED CARD OF 'espalierlaw05.MetaDecodes'. -/
def metaDecodesCard : Claim7 := { stood := { row := metaDecodesRow, standIns := [], harness := (true, "aff3d4495cf80dbf38ba431a647365461e5b1e152af6429b246f0c36917e6271"), looks := false }, kinds := [], alts := [], laidByText := true, laidKinds := [.data], laidTests := true, laidLooks := .later }
def MetaDecodesCardSaid : Prop := Claim7.holds Tryd.pinned (.plain (OpenSpec.ofChange metaDecodesSpec)) metaDecodesCard

/-- THE TIED CARD OF 'espalierlaw05.MetaHolds'. -/
def metaHoldsCard : Claim7 := { stood := { row := metaHoldsRow, standIns := [], harness := (true, "aff3d4495cf80dbf38ba431a647365461e5b1e152af6429b246f0c36917e6271"), looks := false }, kinds := [], alts := [], laidByText := true, laidKinds := [.data], laidTests := true, laidLooks := .later }
def MetaHoldsCardSaid : Prop := Claim7.holds Tryd.pinned (.plain (OpenSpec.ofChange metaHoldsSpec)) metaHoldsCard

/-- THE SECOND FORM's CARD OF 'espalierlaw05.MetaNames'. -/
def metaNamesUptoCard : Claim7 := { stood := { row := metaNamesUptoRow, standIns := [], harness := (true, "aff3d4495cf80dbf38ba431a647365461e5b1e152af6429b246f0c36917e6271"), looks := false }, kinds := [], alts := [], laidByText := true, laidKinds := [.data], laidTests := true, laidLooks := .later }
def MetaNamesUptoCardSaid : Prop := Claim7.holds Tryd.pinned (.plain (OpenSpec.upto metaNamesSpec)) metaNamesUptoCard

/-- THE SECOND FORM's CARD OF 'espalierlaw05.MetaEncodes'. -/
def metaEncodesUptoCard : Claim7 := { stood := { row := metaEncodesUptoRow, standIns := [], harness := (true, "aff3d4495cf80dbf38ba431a647365461e5b1e152af6429b246f0c36917e6271"), looks := false }, kinds := [], alts := [], laidByText := true, laidKinds := [.data], laidTests := true, laidLooks := .later }
def MetaEncodesUptoCardSaid : Prop := Claim7.holds Tryd.pinned (.plain (OpenSpec.upto metaEncodesSpec)) metaEncodesUptoCard

/-- THE SECOND FORM's CARD OF 'espalierlaw05.MetaDecodes'. -/
def metaDecodesUptoCard : Claim7 := { stood := { row := metaDecodesUptoRow, standIns := [], harness := (true, "aff3d4495cf80dbf38ba431a647365461e5b1e152af6429b246f0c36917e6271"), looks := false }, kinds := [], alts := [], laidByText := true, laidKinds := [.data], laidTests := true, laidLooks := .later }
def MetaDecodesUptoCardSaid : Prop := Claim7.holds Tryd.pinned (.plain (OpenSpec.upto metaDecodesSpec)) metaDecodesUptoCard

/-- THE SECOND FORM's CARD OF 'espalierlaw05.MetaHolds'. -/
def metaHoldsUptoCard : Claim7 := { stood := { row := metaHoldsUptoRow, standIns := [], harness := (true, "aff3d4495cf80dbf38ba431a647365461e5b1e152af6429b246f0c36917e6271"), looks := false }, kinds := [], alts := [], laidByText := true, laidKinds := [.data], laidTests := true, laidLooks := .later }
def MetaHoldsUptoCardSaid : Prop := Claim7.holds Tryd.pinned (.plain (OpenSpec.upto metaHoldsSpec)) metaHoldsUptoCard
end Rows
end Go.Proofs.YtoifjcliepongaaDoor
