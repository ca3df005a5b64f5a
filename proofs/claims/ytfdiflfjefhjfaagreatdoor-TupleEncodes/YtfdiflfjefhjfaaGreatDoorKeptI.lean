/- espalierlaw02.kept: what was lent reads as it did, and is written over. -/
import Derived.Test.YtfdiflfjefhjfaaGreatDoorLentI2
import Derived.Test.YtfdiflfjefhjfaaGreatDoorCmp3
import Derived.Handy
namespace Go.Proofs.YtfdiflfjefhjfaaGreatDoor
open Go.RowKit

/-- Blocks from b up to hi alone have changed. -/
structure Outs (b hi : Nat) (w w' : World) : Prop where
  os : w'.os = w.os
  tape : w'.tape = w.tape
  output : w'.output = w.output
  size : w.heap.size ≤ w'.heap.size
  block : ∀ k, k < w.heap.size → (k < b ∨ hi ≤ k) → w'.heap[k]? = w.heap[k]?
set_option maxRecDepth 100000 in
theorem Outs.refl (b hi : Nat) (w : World) : Outs b hi w w := ⟨rfl, rfl, rfl, Nat.le_refl _, fun _ _ _ => rfl⟩
set_option maxRecDepth 100000 in
theorem Outs.trans {b hi : Nat} {w w' w'' : World} (h : Outs b hi w w') (k : Outs b hi w' w'') : Outs b hi w w'' :=
  ⟨k.os.trans h.os, k.tape.trans h.tape, k.output.trans h.output, Nat.le_trans h.size k.size, fun i h1 h2 => (k.block i (Nat.lt_of_lt_of_le h1 h.size) h2).trans (h.block i h1 h2)⟩
set_option maxRecDepth 100000 in
theorem Outs.mono {b hi b' hi' : Nat} {w w' : World} (h : Outs b' hi' w w') (h1 : b ≤ b') (h2 : hi' ≤ hi) : Outs b hi w w' :=
  ⟨h.os, h.tape, h.output, h.size, fun i x1 x2 => h.block i x1 (by omega)⟩
set_option maxRecDepth 100000 in
theorem Outs.of_below {b hi : Nat} {w w' : World} (h : Below w.heap.size w w') : Outs b hi w w' := ⟨h.os, h.tape, h.output, h.size, fun i x1 _ => h.block i x1⟩
set_option maxRecDepth 100000 in
theorem Outs.drewN (b hi : Nat) (w : World) (q : Nat) : Outs b hi w (w.drewN q) := Outs.of_below (below_draws (Below.refl _ _) q)
set_option maxRecDepth 100000 in
theorem Outs.sets {b hi j : Nat} {w : World} {x0 x1 x2 x3 : Value} (h : b < hi) : Outs b hi w (w.setCells b j [x0, x1, x2, x3]) := by
  have hb : Below b w (w.setCells b j [x0, x1, x2, x3]) := sets_below
  exact ⟨hb.os, hb.tape, hb.output, hb.size, fun i x1 x2 => World.heap_setCells_other _ _ _ _ x1 (by omega)⟩
set_option maxRecDepth 100000 in
theorem Outs.slI {b hi : Nat} {w w' : World} {ao : Option Addr} {n c : Nat} {l : Its} (h : Outs b hi w w') (hs : SlI w (fun k => k < b ∨ hi ≤ k) ao n c l) : SlI w' (fun k => k < b ∨ hi ≤ k) ao n c l :=
  hs.mono h.size (fun _ h1 h2 => cell_of_heap (h.block _ h1 h2)) (fun _ h _ => h)
/-- What is kept behind a round. -/
structure KeptR (w wr : World) (r : Its) (n b hi k lo : Nat) : Prop where
  ho : Outs b hi w wr
  hr : RowB wr b (n + 2)
  hl : r.Ln wr b (4 * k) lo hi
  hlo : b < lo
  hs : ∀ j, n ≤ j → j < n + 2 → k ≤ j → wr.cell? ⟨b, 4 * j, none⟩ = some (.int .i64 (-7 - (j : Int)))

set_option maxRecDepth 100000 in
theorem kept_step {w wr w2 v : World} {ra : Its} {n b hi k b' mid : Nat} {x0 x1 x2 x3 : Value} (ho : Outs b hi w wr) (hr : RowB wr b (n + 2)) (hl : ra.Ln wr b (4 * k + 4) mid hi)
    (hs : ∀ j, n ≤ j → j < n + 2 → k ≤ j → wr.cell? ⟨b, 4 * j, none⟩ = some (.int .i64 (-7 - (j : Int)))) (hb : b < b') (hm : b' ≤ mid) (hh : hi ≤ wr.heap.size) (h2 : Outs b' mid wr w2)
    (e : v = w2.setCells b (k * 4) [x0, x1, x2, x3]) : KeptR w v ra n b hi (k + 1) mid := by
  have hmh := Its.Ln.le _ _ _ _ _ hl
  have eb : w2.heap[b]? = wr.heap[b]? := h2.block b (by have := hr.lt; omega) (by omega)
  have hcell : ∀ j, 4 * k + 4 ≤ j → v.cell? ⟨b, j, none⟩ = wr.cell? ⟨b, j, none⟩ := by
    intro j hj
    rw [e, sets_out (fun _ => .inr (by show k * 4 + 4 ≤ j; omega))]
    exact cell_of_heap eb
  have hsz : wr.heap.size ≤ w2.heap.size := h2.size
  refine ⟨?_, ?_, ?_, by omega, ?_⟩
  · rw [e]
    exact (ho.trans (h2.mono (by omega) hmh)).trans (Outs.sets (by omega))
  · rw [e]
    exact RowB.sets _ _ _ (hr.same eb)
  · rw [show 4 * (k + 1) = 4 * k + 4 by omega]
    refine Its.Ln.keep _ _ _ _ _ hl (fun j h1 _ => hcell j h1) (fun i h1 h3 => ?_)
    rw [e, World.heap_setCells_other _ _ _ _ (by omega) (by omega), h2.block i (by omega) (by omega)]
  · intro j h1 h3 h4
    rw [hcell _ (by omega)]
    exact hs j h1 h3 (by omega)
end Go.Proofs.YtfdiflfjefhjfaaGreatDoor
