/-
  DERIVED. GIVEN WITH THE SEED: THE CARDS: each row of YtiemnbanehdmnaaDoorRows.lean that lists a variable, with what it lists TIED to the program's text (the seventh form; the later family's looks); each row that meets fmt, with fmt's text TOLD by the authors' own Lean function (tested against real Go, not proved from fmt's source: count such statements apart). THE CARD IS WHAT COUNTS. Prove the row's statement (the work); the ties are given (YtiemnbanehdmnaaDoorTie.lean); close each card by the builder's one call (the guide's Derived/Test/ToyasCard.lean, 'card_holds'). Laid BY PROGRAM, IN A SANDBOX (cutbox-door.mjs). By AI agents, Wed Nov 11 2026. No macro, syntax, notation, axiom, sorry.
-/
import Derived.Test.YtiemnbanehdmnaaDoorRows
import GoSem.ClaimSeven
namespace Go.Proofs.YtiemnbanehdmnaaDoor
namespace Rows

/-- THE TIED CARD OF 'espalierlaw07.PackedNumbers'. -/
def packedNumbersCard : Claim7 := { stood := { row := packedNumbersRow, standIns := [], harness := (true, "9923bf25204bfb68e685bdbb79cd2813a36673322d9a473f056a0200c9b6a223"), looks := false }, kinds := [], alts := [], laidByText := true, laidKinds := [.data], laidTests := true, laidLooks := .later }
def PackedNumbersCardSaid : Prop := Claim7.holds Tryd.pinned (.plain (OpenSpec.ofChange packedNumbersSpec)) packedNumbersCard

/-- THE TIED CARD OF 'espalierlaw07.PackedBack'. -/
def packedBackCard : Claim7 := { stood := { row := packedBackRow, standIns := [], harness := (true, "9923bf25204bfb68e685bdbb79cd2813a36673322d9a473f056a0200c9b6a223"), looks := false }, kinds := [], alts := [], laidByText := true, laidKinds := [.data], laidTests := true, laidLooks := .later }
def PackedBackCardSaid : Prop := Claim7.holds Tryd.pinned (.plain (OpenSpec.ofChange packedBackSpec)) packedBackCard

/-- THE SECOND FORM's CARD OF 'espalierlaw07.PackedNumbers'. -/
def packedNumbersUptoCard : Claim7 := { stood := { row := packedNumbersUptoRow, standIns := [], harness := (true, "9923bf25204bfb68e685bdbb79cd2813a36673322d9a473f056a0200c9b6a223"), looks := false }, kinds := [], alts := [], laidByText := true, laidKinds := [.data], laidTests := true, laidLooks := .later }
def PackedNumbersUptoCardSaid : Prop := Claim7.holds Tryd.pinned (.plain (OpenSpec.upto packedNumbersSpec)) packedNumbersUptoCard

/-- THE SECOND FORM's CARD OF 'espalierlaw07.PackedBack'. -/
def packedBackUptoCard : Claim7 := { stood := { row := packedBackUptoRow, standIns := [], harness := (true, "9923bf25204bfb68e685bdbb79cd2813a36673322d9a473f056a0200c9b6a223"), looks := false }, kinds := [], alts := [], laidByText := true, laidKinds := [.data], laidTests := true, laidLooks := .later }
def PackedBackUptoCardSaid : Prop := Claim7.holds Tryd.pinned (.plain (OpenSpec.upto packedBackSpec)) packedBackUptoCard
end Rows
end Go.Proofs.YtiemnbanehdmnaaDoor
