/- The document's device: a write more. -/
import Derived.Test.YtikpfcapnpppdaaRk
namespace Go.Proofs.Ytikpfcapnpppdaa
open Go.RowKit

set_option maxRecDepth 100000 in
theorem RRest.wrote {w w5 w7 : World} {F : Nat → Prop} {a page : Nat} {L : List (List Int)} {wild : List (Nat × List Int)} {keep : List Int} {vL vW vK : Value} {qs : List Nat} {xs : List Value} {n g5 c5 g' c' : Nat} {l : List Int} {o : Obj} (h : RRest w F a page L wild keep vL vW vK qs) (ha : a < w.heap.size)
    (hx1 : w.ownsRow 0 74 2 vW wild.length xs) (hx2 : ∀ (k : Nat) (x : Nat × List Int), wild[k]? = some x → xs[2 * k]? = some (.int .i64 (x.1 : Int)) ∧ ∃ q c, xs[2 * k + 1]? = some (.slice (some ⟨q, 0, none⟩) page c) ∧ page ≤ c ∧ F q ∧ q ≠ a ∧ q ∉ qs ∧ vL.ownBlock ≠ some q ∧ vW.ownBlock ≠ some q ∧ q < w.heap.size ∧ ∀ i, i < page → w.cell? ⟨q, i, none⟩ = some (.int .u8 (x.2.getD i 0)))
    (hn : n < L.length) (hl : l.length = page) (hwf : Wf l) (hfew : wild.length < 4398046511103)
    (o5 : w5.ownsRow w.heap.size 5 1 (.slice (some ⟨g5, 0, none⟩) page c5) page (By l)) (k5 : w.grownBy w5 none)
    (o7 : w7.ownsRow 0 74 2 (.slice (some ⟨g', 0, none⟩) (wild.length + 1) c') (wild.length + 1) (xs ++ [.int .i64 (n : Int), .slice (some ⟨g5, 0, none⟩) page c5])) (k7 : (w5.alloc o).grownBy w7 vW.ownBlock) (hv : some g' = vW.ownBlock ∨ g' = (w5.alloc o).heap.size) :
    RRest (w7.setCell ⟨a, 2, none⟩ (.slice (some ⟨g', 0, none⟩) (wild.length + 1) c')) (fun k => F k ∨ (w.heap.size ≤ k ∧ k < w7.heap.size)) a page L (wild ++ [(n, l)]) keep vL (.slice (some ⟨g', 0, none⟩) (wild.length + 1) c') vK qs := by
  have hz5 := k5.size
  have hz7 := k7.size
  have hza : (w5.alloc o).heap.size = w5.heap.size + 1 := by simp
  have hg5 : w.heap.size ≤ g5 ∧ g5 < w5.heap.size := o5.lt g5 rfl
  have hlW : ∀ g, vW.ownBlock = some g → g < w.heap.size := fun g e => (hx1.lt g e).2
  have hlL : ∀ g, vL.ownBlock = some g → g < w.heap.size := fun g e => (h.oL.lt g e).2
  have hg7 : g' < w7.heap.size := (o7.lt g' rfl).2
  have hzW : (w7.setCell ⟨a, 2, none⟩ (.slice (some ⟨g', 0, none⟩) (wild.length + 1) c')).heap.size = w7.heap.size := by simp [World.setCell]
  have keep' : ∀ k, k < w.heap.size → vW.ownBlock ≠ some k → k ≠ a → (w7.setCell ⟨a, 2, none⟩ (.slice (some ⟨g', 0, none⟩) (wild.length + 1) c')).heap[k]? = w.heap[k]? := fun k h1 h2 h3 => by
    rw [Below.heap_setCell _ _ _ _ h3, k7.block k (by omega) (fun e => h2 e.symm), Below.heap_alloc _ _ _ (by omega), k5.block k h1 (fun e => by cases e)]
  have keep5 : ∀ k, k < w5.heap.size → vW.ownBlock ≠ some k → k ≠ a → (w7.setCell ⟨a, 2, none⟩ (.slice (some ⟨g', 0, none⟩) (wild.length + 1) c')).heap[k]? = w5.heap[k]? := fun k h1 h2 h3 => by
    rw [Below.heap_setCell _ _ _ _ h3, k7.block k (by omega) (fun e => h2 e.symm), Below.heap_alloc _ _ _ h1]
  have gne : ∀ k, k < w.heap.size → vW.ownBlock ≠ some k → (Value.slice (some ⟨g', 0, none⟩) (wild.length + 1) c').ownBlock ≠ some k := by
    intro k h1 h2 e
    have e' : g' = k := by simpa [Value.ownBlock] using e
    rcases hv with hv | hv
    · exact h2 (by rw [← hv, e'])
    · omega
  have g5W : vW.ownBlock ≠ some g5 := fun e => by have := hlW g5 e; omega
  have g5g : (Value.slice (some ⟨g', 0, none⟩) (wild.length + 1) c').ownBlock ≠ some g5 := by
    intro e
    have e' : g' = g5 := by simpa [Value.ownBlock] using e
    rcases hv with hv | hv
    · exact g5W (by rw [← hv, e'])
    · omega
  have bWa : vW.ownBlock ≠ some a := fun e => (h.bW a e).2 rfl
  refine ⟨.inl h.fa, own_keep h.oL fun g e => keep' g (hlL g e) (h.bL g e).2.2 (h.bL g e).2.1, h.nq, h.nd, fun i q hi => ?_, fun g e => ⟨.inl (h.bL g e).1, (h.bL g e).2.1, gne g (hlL g e) (h.bL g e).2.2⟩, fun g e => ?_, ⟨xs ++ [.int .i64 (n : Int), .slice (some ⟨g5, 0, none⟩) page c5], ?_, fun k x hk => ?_⟩, fun x hx => ?_, ?_, h.p1, h.p2, h.q1, h.q2, h.q3, by simp; omega⟩
  · obtain ⟨b1, b2, b3, b4, b5, b6, b7⟩ := h.hq i q hi
    exact ⟨.inl b1, b2, b3, gne q (lt_of_some b5) b4, (keep' q (lt_of_some b5) b4 b2).trans b5, b6, b7⟩
  · have e' : g' = g := by simpa [Value.ownBlock] using e
    subst e'
    rcases hv with hv | hv
    · exact ⟨.inl (h.bW g' hv.symm).1, (h.bW g' hv.symm).2⟩
    · exact ⟨.inr ⟨by omega, hg7⟩, by omega⟩
  · rw [show (wild ++ [(n, l)]).length = wild.length + 1 by simp]
    refine own_keep o7 fun g e => ?_
    have e' : g' = g := by simpa [Value.ownBlock] using e
    subst e'
    refine Below.heap_setCell _ _ _ _ ?_
    show g' ≠ a
    intro e2
    exact gne a ha bWa (by simp [Value.ownBlock, e2])
  · have hlen : xs.length = wild.length * 2 := hx1.1
    by_cases hkl : k < wild.length
    · rw [List.getElem?_append_left hkl] at hk
      obtain ⟨c1, q, c, c2, c3, c4, c5', c6, c7, c8, c9, c10⟩ := hx2 k x hk
      refine ⟨by rw [List.getElem?_append_left (by omega)]; exact c1, q, c, by rw [List.getElem?_append_left (by omega)]; exact c2, c3, .inl c4, c5', c6, c7, gne q c9 c8, by omega, fun i hi => ?_⟩
      rw [World.cell?_of_block (w := w) (a := ⟨q, i, none⟩) (keep' q c9 c8 c5')]
      exact c10 i hi
    · have hke : k = wild.length := by
        have := (List.getElem?_eq_some_iff.1 hk).1
        simp at this
        omega
      subst hke
      have hxe : x = (n, l) := by simpa using hk.symm
      subst hxe
      refine ⟨?_, g5, c5, ?_, ?_, .inr ⟨hg5.1, by omega⟩, by omega, fun e => ?_, fun e => by have := hlL g5 e; omega, g5g, by omega, fun i hi => ?_⟩
      · rw [List.getElem?_append_right (by omega), show 2 * wild.length - xs.length = 0 by omega]; rfl
      · rw [List.getElem?_append_right (by omega), show 2 * wild.length + 1 - xs.length = 1 by omega]; rfl
      · obtain ⟨_, _, e, e'⟩ := own_val o5
        injection e with _ _ e3
        omega
      · obtain ⟨j, hj⟩ := List.getElem?_of_mem e
        have := lt_of_some (h.hq j g5 hj).2.2.2.2.1
        omega
      · rw [World.cell?_of_block (w := w5) (a := ⟨g5, i, none⟩) (keep5 g5 hg5.2 g5W (by omega)), World.ownsRow.cellAt o5 i (by omega)]
        exact getD_By _ _ (by omega)
  · rcases List.mem_append.1 hx with hx | hx
    · exact h.all x hx
    · obtain rfl : x = (n, l) := by simpa using hx
      exact ⟨hn, hl, hwf⟩
  · obtain ⟨ao, m, c, e, e1, e2, e3⟩ := h.ke
    refine ⟨ao, m, c, e, e1, e2, ?_⟩
    rcases e3 with e3 | ⟨g, off, g1, g2, g3, g4, g5', g6, g7, g8⟩
    · exact .inl e3
    · refine .inr ⟨g, off, g1, .inl g2, g3, g4, g5', gne g g7 g6, by omega, fun i hi => ?_⟩
      rw [World.cell?_of_block (w := w) (a := ⟨g, off + i, none⟩) (keep' g g7 g6 g3)]
      exact g8 i hi
end Go.Proofs.Ytikpfcapnpppdaa
