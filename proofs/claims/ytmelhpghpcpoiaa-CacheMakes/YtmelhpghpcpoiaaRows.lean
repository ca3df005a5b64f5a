/-
  No cell of these rows narrows 'for every input' (looked for: loops, veiled, ifaces, maps, wideKeys, modest, calm, conditions, laid).
  DERIVED. THE GIVEN ROWS OF THIS SEAT. 6 by the template 'for every input the law returns true; each argument reads behind the call as it read before'; 0 by the template 'total and deterministic' (their statements: YtmelhpghpcpoiaaTotals.lean).
  GIVEN WITH THE SEED: the statements are not yours to turn. If you find one false, say at which input.
  Laid BY PROGRAM, IN A SANDBOX (cutbox-rows.mjs): the forced cells as the released guide's own fill.sh prints them over the translation 0ac7bf1f7bac6f6d… (all of the seat's roots in one cut). By AI agents, Wed Nov 11 2026. No macro, syntax, notation, axiom, sorry.
-/
import Derived.Test.YtmelhpghpcpoiaaChecked
import GoSem.Claim
import GoSem.ClaimJoined
import GoSem.ClaimMapViews
import Derived.JoinedTies
import Derived.KernelRfl
namespace Go.Proofs.Ytmelhpghpcpoiaa
/- THE CELL 'sum', in the pinned program and in every row, IS THE sha256 OF THE DUMP (.gsa) THAT YtmelhpghpcpoiaaProg.lean LOADS. Nothing in Lean hashes anything: it is a label: what it is worth is what the hold of that sum in a sandbox is worth. -/
noncomputable def Try.pinned : Pinned := { name := "ytmelhpghpcpoiaa", sum := "0ac7bf1f7bac6f6db406c73b2cabc8e4572102677b636711cd832846a90ecd5c", checked := Try.checked }
namespace Rows
def none {H : Type} : Left H := { results := [], args := [] }

/-- 'espalierlaw03.PlateNames': WHATEVER THE INPUT: true; the input reads as it did. -/
def plateNamesSpec : ChangeSpec := { name := "plateNames", fn := fun _ => fun
  | [] => { results := [.lit (.bool true)], args := [] }
  | _ => none }
def plateNamesRow : OpenClaim := { program := "ytmelhpghpcpoiaa", sum := "0ac7bf1f7bac6f6db406c73b2cabc8e4572102677b636711cd832846a90ecd5c", func := "espalier/espalierlaw03.PlateNames", spec := "plateNames", apart := false }
def PlateNamesSaid : Prop := plateNamesRow.holds Try.pinned (OpenSpec.ofChange plateNamesSpec)

/-- ITS FALSE NEIGHBOUR: 'it returns false'. Refute it at one input. -/
def plateNamesWrong : ChangeSpec := { name := "plateNames", fn := fun _ => fun
  | [] => { results := [.lit (.bool false)], args := [] }
  | _ => none }
def PlateNamesWrongFalsely : Prop := plateNamesRow.holds Try.pinned (OpenSpec.ofChange plateNamesWrong)

/-- 'espalierlaw03.PlatePlays': WHATEVER THE INPUT: true; the input reads as it did. -/
def platePlaysSpec : ChangeSpec := { name := "platePlays", fn := fun _ => fun
  | [d1, d2, d3] => { results := [.lit (.bool true)], args := [d1, d2, d3] }
  | _ => none }
def platePlaysRow : OpenClaim := { program := "ytmelhpghpcpoiaa", sum := "0ac7bf1f7bac6f6db406c73b2cabc8e4572102677b636711cd832846a90ecd5c", func := "espalier/espalierlaw03.PlatePlays", spec := "platePlays", apart := false }
def PlatePlaysSaid : Prop := platePlaysRow.holds Try.pinned (OpenSpec.ofChange platePlaysSpec)

/-- ITS FALSE NEIGHBOUR: 'it returns false'. Refute it at one input. -/
def platePlaysWrong : ChangeSpec := { name := "platePlays", fn := fun _ => fun
  | [d1, d2, d3] => { results := [.lit (.bool false)], args := [d1, d2, d3] }
  | _ => none }
def PlatePlaysWrongFalsely : Prop := platePlaysRow.holds Try.pinned (OpenSpec.ofChange platePlaysWrong)

/-- 'espalierlaw03.PlateMakes': WHATEVER THE INPUT: true; the input reads as it did. -/
def plateMakesSpec : ChangeSpec := { name := "plateMakes", fn := fun _ => fun
  | [d1, d2, d3] => { results := [.lit (.bool true)], args := [d1, d2, d3] }
  | _ => none }
def plateMakesRow : OpenClaim := { program := "ytmelhpghpcpoiaa", sum := "0ac7bf1f7bac6f6db406c73b2cabc8e4572102677b636711cd832846a90ecd5c", func := "espalier/espalierlaw03.PlateMakes", spec := "plateMakes", apart := false }
def PlateMakesSaid : Prop := plateMakesRow.holds Try.pinned (OpenSpec.ofChange plateMakesSpec)

/-- ITS FALSE NEIGHBOUR: 'it returns false'. Refute it at one input. -/
def plateMakesWrong : ChangeSpec := { name := "plateMakes", fn := fun _ => fun
  | [d1, d2, d3] => { results := [.lit (.bool false)], args := [d1, d2, d3] }
  | _ => none }
def PlateMakesWrongFalsely : Prop := plateMakesRow.holds Try.pinned (OpenSpec.ofChange plateMakesWrong)

/-- 'espalierlaw03.PlateLasts': WHATEVER THE INPUT: true; the input reads as it did. -/
def plateLastsSpec : ChangeSpec := { name := "plateLasts", fn := fun _ => fun
  | [d1, d2, d3] => { results := [.lit (.bool true)], args := [d1, d2, d3] }
  | _ => none }
def plateLastsRow : OpenClaim := { program := "ytmelhpghpcpoiaa", sum := "0ac7bf1f7bac6f6db406c73b2cabc8e4572102677b636711cd832846a90ecd5c", func := "espalier/espalierlaw03.PlateLasts", spec := "plateLasts", apart := false }
def PlateLastsSaid : Prop := plateLastsRow.holds Try.pinned (OpenSpec.ofChange plateLastsSpec)

/-- ITS FALSE NEIGHBOUR: 'it returns false'. Refute it at one input. -/
def plateLastsWrong : ChangeSpec := { name := "plateLasts", fn := fun _ => fun
  | [d1, d2, d3] => { results := [.lit (.bool false)], args := [d1, d2, d3] }
  | _ => none }
def PlateLastsWrongFalsely : Prop := plateLastsRow.holds Try.pinned (OpenSpec.ofChange plateLastsWrong)

/-- 'espalierlaw04.CacheNumbers': WHATEVER THE INPUT: true; the input reads as it did. -/
def cacheNumbersSpec : ChangeSpec := { name := "cacheNumbers", fn := fun _ => fun
  | [] => { results := [.lit (.bool true)], args := [] }
  | _ => none }
def cacheNumbersRow : OpenClaim := { program := "ytmelhpghpcpoiaa", sum := "0ac7bf1f7bac6f6db406c73b2cabc8e4572102677b636711cd832846a90ecd5c", func := "espalier/espalierlaw04.CacheNumbers", spec := "cacheNumbers", unfollowed := true, recurses := true, apart := false }
def CacheNumbersSaid : Prop := cacheNumbersRow.holds Try.pinned (OpenSpec.ofChange cacheNumbersSpec)

/-- ITS FALSE NEIGHBOUR: 'it returns false'. Refute it at one input. -/
def cacheNumbersWrong : ChangeSpec := { name := "cacheNumbers", fn := fun _ => fun
  | [] => { results := [.lit (.bool false)], args := [] }
  | _ => none }
def CacheNumbersWrongFalsely : Prop := cacheNumbersRow.holds Try.pinned (OpenSpec.ofChange cacheNumbersWrong)

/-- 'espalierlaw04.CacheMakes': WHATEVER THE INPUT: true; the input reads as it did. -/
def cacheMakesSpec : ChangeSpec := { name := "cacheMakes", fn := fun _ => fun
  | [d] => { results := [.lit (.bool true)], args := [d] }
  | _ => none }
def cacheMakesRow : OpenClaim := { program := "ytmelhpghpcpoiaa", sum := "0ac7bf1f7bac6f6db406c73b2cabc8e4572102677b636711cd832846a90ecd5c", func := "espalier/espalierlaw04.CacheMakes", spec := "cacheMakes", unfollowed := true, recurses := true, apart := false }
def CacheMakesSaid : Prop := cacheMakesRow.holds Try.pinned (OpenSpec.ofChange cacheMakesSpec)

/-- ITS FALSE NEIGHBOUR: 'it returns false'. Refute it at one input. -/
def cacheMakesWrong : ChangeSpec := { name := "cacheMakes", fn := fun _ => fun
  | [d] => { results := [.lit (.bool false)], args := [d] }
  | _ => none }
def CacheMakesWrongFalsely : Prop := cacheMakesRow.holds Try.pinned (OpenSpec.ofChange cacheMakesWrong)

/- THE SECOND FORM. 'bulk': how many values and letters a reading holds, each counted each time it is reached (what is shared counts as often as it is met; a slice's spare places count too). A statement '..UptoSaid' is the law's where the arguments, and the package variables that the reading takes, are together of bulk at most 1048576: NARROWER than '..Said'. Prove '..Said' where nothing that the law and all that it calls make is longer than what came in: it says more and counts as full. Else prove '..UptoSaid'. A law counts once. -/
mutual
def uptoBulk {H : Type} : DataW H → Nat
  | .lit (.string bytes) => bytes.length + 1
  | .lit _ => 1
  | .nil => 1
  | .ptr d => uptoBulk d + 1
  | .slice elems spare => uptoBulkAll elems + uptoBulkAll spare + 1
  | .agg parts => uptoBulkAll parts + 1
  | .iface _ d => uptoBulk d + 1
  | .map entries => uptoBulkEntries entries + 1
  | .held _ => 1
def uptoBulkAll {H : Type} : List (DataW H) → Nat
  | [] => 0
  | d :: r => uptoBulk d + uptoBulkAll r
def uptoBulkEntries {H : Type} : List (Lit × DataW H) → Nat
  | [] => 0
  | x :: r => uptoBulkEntry x + uptoBulkEntries r
def uptoBulkEntry {H : Type} : Lit × DataW H → Nat
  | (.string bytes, d) => bytes.length + uptoBulk d + 1
  | (_, d) => uptoBulk d + 1
 end
def uptoSmall : (H : Type) → List (DataW H) → Bool := fun _ ds => decide (uptoBulkAll ds ≤ 1048576)
def OpenSpec.upto (s : _root_.Go.ChangeSpec) : _root_.Go.OpenSpec := { _root_.Go.OpenSpec.ofChange s with cond := some uptoSmall }

/-- 'espalierlaw03.PlateNames', WHERE WHAT IT READS IS OF BULK AT MOST 1048576: true; the input reads as it did. -/
def plateNamesUptoRow : OpenClaim := { program := "ytmelhpghpcpoiaa", sum := "0ac7bf1f7bac6f6db406c73b2cabc8e4572102677b636711cd832846a90ecd5c", func := "espalier/espalierlaw03.PlateNames", spec := "plateNames", apart := false, narrowed := true }
def PlateNamesUptoSaid : Prop := plateNamesUptoRow.holds Try.pinned (OpenSpec.upto plateNamesSpec)

/-- 'espalierlaw03.PlatePlays', WHERE WHAT IT READS IS OF BULK AT MOST 1048576: true; the input reads as it did. -/
def platePlaysUptoRow : OpenClaim := { program := "ytmelhpghpcpoiaa", sum := "0ac7bf1f7bac6f6db406c73b2cabc8e4572102677b636711cd832846a90ecd5c", func := "espalier/espalierlaw03.PlatePlays", spec := "platePlays", apart := false, narrowed := true }
def PlatePlaysUptoSaid : Prop := platePlaysUptoRow.holds Try.pinned (OpenSpec.upto platePlaysSpec)

/-- 'espalierlaw03.PlateMakes', WHERE WHAT IT READS IS OF BULK AT MOST 1048576: true; the input reads as it did. -/
def plateMakesUptoRow : OpenClaim := { program := "ytmelhpghpcpoiaa", sum := "0ac7bf1f7bac6f6db406c73b2cabc8e4572102677b636711cd832846a90ecd5c", func := "espalier/espalierlaw03.PlateMakes", spec := "plateMakes", apart := false, narrowed := true }
def PlateMakesUptoSaid : Prop := plateMakesUptoRow.holds Try.pinned (OpenSpec.upto plateMakesSpec)

/-- 'espalierlaw03.PlateLasts', WHERE WHAT IT READS IS OF BULK AT MOST 1048576: true; the input reads as it did. -/
def plateLastsUptoRow : OpenClaim := { program := "ytmelhpghpcpoiaa", sum := "0ac7bf1f7bac6f6db406c73b2cabc8e4572102677b636711cd832846a90ecd5c", func := "espalier/espalierlaw03.PlateLasts", spec := "plateLasts", apart := false, narrowed := true }
def PlateLastsUptoSaid : Prop := plateLastsUptoRow.holds Try.pinned (OpenSpec.upto plateLastsSpec)

/-- 'espalierlaw04.CacheNumbers', WHERE WHAT IT READS IS OF BULK AT MOST 1048576: true; the input reads as it did. -/
def cacheNumbersUptoRow : OpenClaim := { program := "ytmelhpghpcpoiaa", sum := "0ac7bf1f7bac6f6db406c73b2cabc8e4572102677b636711cd832846a90ecd5c", func := "espalier/espalierlaw04.CacheNumbers", spec := "cacheNumbers", unfollowed := true, recurses := true, apart := false, narrowed := true }
def CacheNumbersUptoSaid : Prop := cacheNumbersUptoRow.holds Try.pinned (OpenSpec.upto cacheNumbersSpec)

/-- 'espalierlaw04.CacheMakes', WHERE WHAT IT READS IS OF BULK AT MOST 1048576: true; the input reads as it did. -/
def cacheMakesUptoRow : OpenClaim := { program := "ytmelhpghpcpoiaa", sum := "0ac7bf1f7bac6f6db406c73b2cabc8e4572102677b636711cd832846a90ecd5c", func := "espalier/espalierlaw04.CacheMakes", spec := "cacheMakes", unfollowed := true, recurses := true, apart := false, narrowed := true }
def CacheMakesUptoSaid : Prop := cacheMakesUptoRow.holds Try.pinned (OpenSpec.upto cacheMakesSpec)

end Rows
end Go.Proofs.Ytmelhpghpcpoiaa
