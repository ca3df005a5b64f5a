/- The Ops of a script that came in. -/
import Derived.Test.YtmelhpghpcpoiabBase
namespace Go.Proofs.Ytmelhpghpcpoiab
open Go.RowKit

/-- Ops that came in: of each its kind and its two numbers; the rest is there. -/
structure SlP (w : World) (a : Option Addr) (n : Nat) (l : List (Int × Int × Int)) : Prop where
  hl : l.length = n
  hn : n ≤ 2199023255552
  wf : ∀ i, i < n → -9223372036854775808 ≤ (l.getD i (0, 0, 0)).2.1 ∧ (l.getD i (0, 0, 0)).2.1 ≤ 9223372036854775807
  hat : n = 0 ∨ ∃ b off, a = some ⟨b, off, none⟩ ∧ b < w.heap.size ∧ ∀ i, i < n → ∃ ko kn kc tn ta, w.cell? ⟨b, off + i * 6, none⟩ = some (.int .i64 (l.getD i (0, 0, 0)).1) ∧ w.cell? ⟨b, off + i * 6 + 1, none⟩ = some (.int .i64 (l.getD i (0, 0, 0)).2.1) ∧ w.cell? ⟨b, off + i * 6 + 2, none⟩ = some (.int .i64 (l.getD i (0, 0, 0)).2.2) ∧ w.cell? ⟨b, off + i * 6 + 3, none⟩ = some (.slice ko kn kc) ∧ w.cell? ⟨b, off + i * 6 + 4, none⟩ = some (.int .i64 tn) ∧ w.cell? ⟨b, off + i * 6 + 5, none⟩ = some (.int .i64 ta)
end Go.Proofs.Ytmelhpghpcpoiab
