/-
  DERIVED. GIVEN WITH THE SEED: THE CARDS: each row of YtfofkgdhepdjeaaDoorRows.lean that lists a variable, with what it lists TIED to the program's text (the seventh form; the later family's looks); each row that meets fmt, with fmt's text TOLD by the authors' own Lean function (tested against real Go, not proved from fmt's source: count such statements apart). THE CARD IS WHAT COUNTS. Prove the row's statement (the work); the ties are given (YtfofkgdhepdjeaaDoorTie.lean); close each card by the builder's one call (the guide's Derived/Test/ToyasCard.lean, 'card_holds'). Laid BY PROGRAM, IN A SANDBOX (cutbox-door.mjs). By AI agents, Wed Nov 11 2026. No macro, syntax, notation, axiom, sorry.
-/
import Derived.Test.YtfofkgdhepdjeaaDoorRows
import GoSem.ClaimSeven
namespace Go.Proofs.YtfofkgdhepdjeaaDoor
namespace Rows

/-- THE TIED CARD OF 'espalierlaw01.InkNumbers'. -/
def inkNumbersCard : Claim7 := { stood := { row := inkNumbersRow, standIns := [], harness := (true, "0470c027ec495a1498637f0e979b83c06a5a62a08cab6de503dcd836aaf5bb00"), looks := false }, kinds := [], alts := [], laidByText := true, laidKinds := [.data], laidTests := true, laidLooks := .later }
def InkNumbersCardSaid : Prop := Claim7.holds Tryd.pinned (.plain (OpenSpec.ofChange inkNumbersSpec)) inkNumbersCard

/-- THE TIED CARD OF 'espalierlaw01.InkWrites'. -/
def inkWritesCard : Claim7 := { stood := { row := inkWritesRow, standIns := [], harness := (true, "0470c027ec495a1498637f0e979b83c06a5a62a08cab6de503dcd836aaf5bb00"), looks := false }, kinds := [], alts := [], laidByText := true, laidKinds := [.data], laidTests := true, laidLooks := .later }
def InkWritesCardSaid : Prop := Claim7.holds Tryd.pinned (.plain (OpenSpec.ofChange inkWritesSpec)) inkWritesCard

/-- THE TIED CARD OF 'espalierlaw01.InkReads'. -/
def inkReadsCard : Claim7 := { stood := { row := inkReadsRow, standIns := [], harness := (true, "0470c027ec495a1498637f0e979b83c06a5a62a08cab6de503dcd836aaf5bb00"), looks := false }, kinds := [], alts := [], laidByText := true, laidKinds := [.data], laidTests := true, laidLooks := .later }
def InkReadsCardSaid : Prop := Claim7.holds Tryd.pinned (.plain (OpenSpec.ofChange inkReadsSpec)) inkReadsCard

/-- THE TIED CARD OF 'espalierlaw01.InkBack'. -/
def inkBackCard : Claim7 := { stood := { row := inkBackRow, standIns := [], harness := (true, "0470c027ec495a1498637f0e979b83c06a5a62a08cab6de503dcd836aaf5bb00"), looks := false }, kinds := [], alts := [], laidByText := true, laidKinds := [.data], laidTests := true, laidLooks := .later }
def InkBackCardSaid : Prop := Claim7.holds Tryd.pinned (.plain (OpenSpec.ofChange inkBackSpec)) inkBackCard

/-- THE TIED CARD OF 'espalierlaw01.InkOne'. -/
def inkOneCard : Claim7 := { stood := { row := inkOneRow, standIns := [], harness := (true, "0470c027ec495a1498637f0e979b83c06a5a62a08cab6de503dcd836aaf5bb00"), looks := false }, kinds := [], alts := [], laidByText := true, laidKinds := [.data], laidTests := true, laidLooks := .later }
def InkOneCardSaid : Prop := Claim7.holds Tryd.pinned (.plain (OpenSpec.ofChange inkOneSpec)) inkOneCard

/-- THE TIED CARD OF 'espalierlaw01.InkOrder'. -/
def inkOrderCard : Claim7 := { stood := { row := inkOrderRow, standIns := [], harness := (true, "0470c027ec495a1498637f0e979b83c06a5a62a08cab6de503dcd836aaf5bb00"), looks := false }, kinds := [], alts := [], laidByText := true, laidKinds := [.data], laidTests := true, laidLooks := .later }
def InkOrderCardSaid : Prop := Claim7.holds Tryd.pinned (.plain (OpenSpec.ofChange inkOrderSpec)) inkOrderCard

/-- THE SECOND FORM's CARD OF 'espalierlaw01.InkNumbers'. -/
def inkNumbersUptoCard : Claim7 := { stood := { row := inkNumbersUptoRow, standIns := [], harness := (true, "0470c027ec495a1498637f0e979b83c06a5a62a08cab6de503dcd836aaf5bb00"), looks := false }, kinds := [], alts := [], laidByText := true, laidKinds := [.data], laidTests := true, laidLooks := .later }
def InkNumbersUptoCardSaid : Prop := Claim7.holds Tryd.pinned (.plain (OpenSpec.upto inkNumbersSpec)) inkNumbersUptoCard

/-- THE SECOND FORM's CARD OF 'espalierlaw01.InkWrites'. -/
def inkWritesUptoCard : Claim7 := { stood := { row := inkWritesUptoRow, standIns := [], harness := (true, "0470c027ec495a1498637f0e979b83c06a5a62a08cab6de503dcd836aaf5bb00"), looks := false }, kinds := [], alts := [], laidByText := true, laidKinds := [.data], laidTests := true, laidLooks := .later }
def InkWritesUptoCardSaid : Prop := Claim7.holds Tryd.pinned (.plain (OpenSpec.upto inkWritesSpec)) inkWritesUptoCard

/-- THE SECOND FORM's CARD OF 'espalierlaw01.InkReads'. -/
def inkReadsUptoCard : Claim7 := { stood := { row := inkReadsUptoRow, standIns := [], harness := (true, "0470c027ec495a1498637f0e979b83c06a5a62a08cab6de503dcd836aaf5bb00"), looks := false }, kinds := [], alts := [], laidByText := true, laidKinds := [.data], laidTests := true, laidLooks := .later }
def InkReadsUptoCardSaid : Prop := Claim7.holds Tryd.pinned (.plain (OpenSpec.upto inkReadsSpec)) inkReadsUptoCard

/-- THE SECOND FORM's CARD OF 'espalierlaw01.InkBack'. -/
def inkBackUptoCard : Claim7 := { stood := { row := inkBackUptoRow, standIns := [], harness := (true, "0470c027ec495a1498637f0e979b83c06a5a62a08cab6de503dcd836aaf5bb00"), looks := false }, kinds := [], alts := [], laidByText := true, laidKinds := [.data], laidTests := true, laidLooks := .later }
def InkBackUptoCardSaid : Prop := Claim7.holds Tryd.pinned (.plain (OpenSpec.upto inkBackSpec)) inkBackUptoCard

/-- THE SECOND FORM's CARD OF 'espalierlaw01.InkOne'. -/
def inkOneUptoCard : Claim7 := { stood := { row := inkOneUptoRow, standIns := [], harness := (true, "0470c027ec495a1498637f0e979b83c06a5a62a08cab6de503dcd836aaf5bb00"), looks := false }, kinds := [], alts := [], laidByText := true, laidKinds := [.data], laidTests := true, laidLooks := .later }
def InkOneUptoCardSaid : Prop := Claim7.holds Tryd.pinned (.plain (OpenSpec.upto inkOneSpec)) inkOneUptoCard

/-- THE SECOND FORM's CARD OF 'espalierlaw01.InkOrder'. -/
def inkOrderUptoCard : Claim7 := { stood := { row := inkOrderUptoRow, standIns := [], harness := (true, "0470c027ec495a1498637f0e979b83c06a5a62a08cab6de503dcd836aaf5bb00"), looks := false }, kinds := [], alts := [], laidByText := true, laidKinds := [.data], laidTests := true, laidLooks := .later }
def InkOrderUptoCardSaid : Prop := Claim7.holds Tryd.pinned (.plain (OpenSpec.upto inkOrderSpec)) inkOrderUptoCard
end Rows
end Go.Proofs.YtfofkgdhepdjeaaDoor
