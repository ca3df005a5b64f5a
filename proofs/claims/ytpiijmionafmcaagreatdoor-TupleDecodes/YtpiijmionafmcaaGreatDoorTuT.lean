/- What bytes say of items; items that are owned, each List in a block of its own. -/
import Derived.Test.YtpiijmionafmcaaGreatDoorTuS
import Derived.Test.YtpiijmionafmcaaGreatDoorAwk
namespace Go.Proofs.YtpiijmionafmcaaGreatDoor
open Go.RowKit

/-- Items whose first cells are these; the blocks of their Lists are F, in order. -/
def Its.Ow (w : World) (B : Nat) : Its → List Value → List Nat → Prop
  | .nil, xs, F => xs = [] ∧ F = []
  | .cons k n t sub r, xs, F => ∃ (sv : Value) (ys xs' : List Value) (F1 F2 : List Nat), xs = [.int .i64 k, .int .i64 n, .string t, sv] ++ xs' ∧ w.ownsRow B 36 4 sv sub.len ys ∧ Its.Ow w B sub ys F1 ∧ Its.Ow w B r xs' F2 ∧ F = (sv.ownBlock.toList ++ F1) ++ F2
/-- Items that are owned: their blocks are F, none twice. -/
def OwI (w : World) (B : Nat) (v : Value) (l : Its) (F : List Nat) : Prop :=
  ∃ ys F1, w.ownsRow B 36 4 v l.len ys ∧ l.Ow w B ys F1 ∧ F = v.ownBlock.toList ++ F1 ∧ F.Nodup
set_option maxRecDepth 100000 in
theorem OwI.nil (w : World) (B : Nat) : OwI w B (.slice none 0 0) .nil [] := ⟨[], [], World.ownsRow_nil _ _ _ _, ⟨rfl, rfl⟩, rfl, List.nodup_nil⟩
set_option maxRecDepth 100000 in
theorem row_add (g i : Nat) : (⟨g, 0, none⟩ : Addr).add i = ⟨g, 0 + i, none⟩ := by
  unfold Addr.add
  split
  · rename_i h
    subst h
    rfl
  · rfl
set_option maxRecDepth 100000 in
theorem heap_lt {w : World} {g : Nat} {o : Obj} (h : w.heap[g]? = some o) : g < w.heap.size := by
  rcases Nat.lt_or_ge g w.heap.size with h1 | h1
  · exact h1
  · rw [Array.getElem?_eq_none h1] at h
    cases h
set_option maxRecDepth 100000 in
theorem row_keep {w w' : World} {B n : Nat} {v : Value} {xs : List Value} (h : w.ownsRow B 36 4 v n xs) (hk : ∀ g, v.ownBlock = some g → w'.heap[g]? = w.heap[g]?) : w'.ownsRow B 36 4 v n xs := by
  refine ⟨h.1, ?_⟩
  rcases h.2 with h0 | ⟨g, cap, cur, rfl, h1, h2, h3⟩
  · exact .inl h0
  · exact .inr ⟨g, cap, cur, rfl, h1, (hk g rfl).trans h2, h3⟩
set_option maxRecDepth 100000 in
theorem row_lift {w : World} {B C n : Nat} {v : Value} {xs : List Value} (h : w.ownsRow B 36 4 v n xs) (hC : C ≤ B) : w.ownsRow C 36 4 v n xs := by
  refine ⟨h.1, ?_⟩
  rcases h.2 with h0 | ⟨g, cap, cur, rfl, h1, h2, h3⟩
  · exact .inl h0
  · exact .inr ⟨g, cap, cur, rfl, by omega, h2, h3⟩
set_option maxRecDepth 100000 in
theorem row_lt {w : World} {B n : Nat} {v : Value} {xs : List Value} (h : w.ownsRow B 36 4 v n xs) {g : Nat} (hg : v.ownBlock = some g) : B ≤ g ∧ g < w.heap.size := by
  rcases h.2 with ⟨rfl, _⟩ | ⟨g', cap, cur, rfl, h1, h2, h3⟩
  · simp [Value.ownBlock] at hg
  · simp [Value.ownBlock] at hg
    subst hg
    exact ⟨h1, heap_lt h2⟩
set_option maxRecDepth 100000 in
theorem Its.Ow.keep {w w' : World} {B : Nat} : ∀ (l : Its) (xs : List Value) (F : List Nat), l.Ow w B xs F → (∀ g ∈ F, w'.heap[g]? = w.heap[g]?) → l.Ow w' B xs F
  | .nil, _, _, h, _ => h
  | .cons k n t sub r, xs, F, h, hk => by
    obtain ⟨sv, ys, xs', F1, F2, e, h1, h2, h3, rfl⟩ := h
    exact ⟨sv, ys, xs', F1, F2, e, row_keep h1 (fun g hg => hk g (by simp [hg])), Its.Ow.keep sub ys F1 h2 (fun g hg => hk g (by simp [hg])), Its.Ow.keep r xs' F2 h3 (fun g hg => hk g (by simp [hg])), rfl⟩
set_option maxRecDepth 100000 in
theorem Its.Ow.lift {w : World} {B C : Nat} (hC : C ≤ B) : ∀ (l : Its) (xs : List Value) (F : List Nat), l.Ow w B xs F → l.Ow w C xs F
  | .nil, _, _, h => h
  | .cons k n t sub r, xs, F, h => by
    obtain ⟨sv, ys, xs', F1, F2, e, h1, h2, h3, e2⟩ := h
    exact ⟨sv, ys, xs', F1, F2, e, row_lift h1 hC, Its.Ow.lift hC sub ys F1 h2, Its.Ow.lift hC r xs' F2 h3, e2⟩
set_option maxRecDepth 100000 in
theorem Its.Ow.lt {w : World} {B : Nat} : ∀ (l : Its) (xs : List Value) (F : List Nat), l.Ow w B xs F → ∀ g ∈ F, B ≤ g ∧ g < w.heap.size
  | .nil, _, _, h, g, hg => by rw [h.2] at hg; cases hg
  | .cons k n t sub r, xs, F, h, g, hg => by
    obtain ⟨sv, ys, xs', F1, F2, e, h1, h2, h3, rfl⟩ := h
    simp only [List.mem_append, Option.mem_toList] at hg
    rcases hg with (hg | hg) | hg
    · exact row_lt h1 hg
    · exact Its.Ow.lt sub ys F1 h2 g hg
    · exact Its.Ow.lt r xs' F2 h3 g hg
set_option maxRecDepth 100000 in
theorem OwI.keep {w w' : World} {B : Nat} {v : Value} {l : Its} {F : List Nat} (h : OwI w B v l F) (hk : ∀ g ∈ F, w'.heap[g]? = w.heap[g]?) : OwI w' B v l F := by
  obtain ⟨ys, F1, h1, h2, rfl, h4⟩ := h
  exact ⟨ys, F1, row_keep h1 (fun g hg => hk g (by simp [hg])), h2.keep l ys F1 (fun g hg => hk g (by simp [hg])), rfl, h4⟩
set_option maxRecDepth 100000 in
theorem OwI.lt {w : World} {B : Nat} {v : Value} {l : Its} {F : List Nat} (h : OwI w B v l F) : ∀ g ∈ F, B ≤ g ∧ g < w.heap.size := by
  obtain ⟨ys, F1, h1, h2, rfl, h4⟩ := h
  intro g hg
  simp only [List.mem_append, Option.mem_toList] at hg
  rcases hg with hg | hg
  · exact row_lt h1 hg
  · exact h2.lt l ys F1 g hg
set_option maxRecDepth 100000 in
theorem OwI.on {w w' : World} {B : Nat} {v : Value} {l : Its} {F : List Nat} (h : OwI w B v l F) (hb : Below w.heap.size w w') : OwI w' B v l F := h.keep fun g hg => hb.block g (h.lt g hg).2
set_option maxRecDepth 100000 in
theorem OwI.lift {w : World} {B C : Nat} {v : Value} {l : Its} {F : List Nat} (h : OwI w B v l F) (hC : C ≤ B) : OwI w C v l F := by
  obtain ⟨ys, F1, h1, h2, e, h4⟩ := h
  exact ⟨ys, F1, row_lift h1 hC, h2.lift hC l ys F1, e, h4⟩
/-- One item more. -/
def Its.snoc : Its → Int → Int → ByteArray → Its → Its
  | .nil, k, n, t, s => .cons k n t s .nil
  | .cons k' n' t' s' r, k, n, t, s => .cons k' n' t' s' (r.snoc k n t s)
def Its.app : Its → Its → Its
  | .nil, b => b
  | .cons k n t s r, b => .cons k n t s (r.app b)
set_option maxRecDepth 100000 in
theorem Its.snoc_len : ∀ (l : Its) (k n : Int) (t : ByteArray) (s : Its), (l.snoc k n t s).len = l.len + 1
  | .nil, _, _, _, _ => rfl
  | .cons _ _ _ _ r, k, n, t, s => by simp [Its.snoc, Its.len, Its.snoc_len r]
set_option maxRecDepth 100000 in
theorem Its.snoc_app : ∀ (l : Its) (k n : Int) (t : ByteArray) (s b : Its), (l.snoc k n t s).app b = l.app (.cons k n t s b)
  | .nil, _, _, _, _, _ => rfl
  | .cons _ _ _ _ r, k, n, t, s, b => by simp [Its.snoc, Its.app, Its.snoc_app r]
set_option maxRecDepth 100000 in
theorem Its.app_nil : ∀ l : Its, l.app .nil = l
  | .nil => rfl
  | .cons _ _ _ _ r => by simp [Its.app, Its.app_nil r]
set_option maxRecDepth 100000 in
theorem Its.Ow.snoc {w : World} {B : Nat} {k n : Int} {t : ByteArray} {s : Its} {sv : Value} {zs : List Value} {G : List Nat} (hs : w.ownsRow B 36 4 sv s.len zs) (hz : s.Ow w B zs G) :
    ∀ (l : Its) (xs : List Value) (F : List Nat), l.Ow w B xs F → (l.snoc k n t s).Ow w B (xs ++ [.int .i64 k, .int .i64 n, .string t, sv]) (F ++ (sv.ownBlock.toList ++ G))
  | .nil, xs, F, h => by
    obtain ⟨rfl, rfl⟩ := h
    exact ⟨sv, zs, [], G, [], rfl, hs, hz, ⟨rfl, rfl⟩, by simp⟩
  | .cons k' n' t' sub r, xs, F, h => by
    obtain ⟨sv', ys, xs', F1, F2, rfl, h1, h2, h3, rfl⟩ := h
    exact ⟨sv', ys, _, F1, _, by simp, h1, h2, Its.Ow.snoc hs hz r xs' F2 h3, by simp⟩
set_option maxRecDepth 100000 in
/-- What is owned reads as items. -/
theorem Its.Ow.at {w : World} {B : Nat} : ∀ (l : Its) (xs : List Value) (F : List Nat) (b off : Nat), l.Ow w B xs F → (∀ i u, xs[i]? = some u → w.cell? ⟨b, off + i, none⟩ = some u) → l.At w (B ≤ ·) b off
  | .nil, _, _, _, _, _, _ => trivial
  | .cons k n t sub r, xs, F, b, off, h, hc => by
    obtain ⟨sv, ys, xs', F1, F2, rfl, h1, h2, h3, rfl⟩ := h
    refine ⟨⟨hc 0 _ rfl, hc 1 _ rfl, hc 2 _ rfl, ?_⟩, Its.Ow.at r xs' F2 b (off + 4) h3 (fun i u hu => ?_)⟩
    · have h3' := hc 3 sv rfl
      rcases h1.2 with ⟨rfl, h0⟩ | ⟨g, cap, cur, rfl, g1, g2, g3, g4, g5, g6⟩
      · exact ⟨none, 0, 0, h3', h0, Nat.le_refl _, fun _ => rfl, .inl rfl⟩
      · refine ⟨some ⟨g, 0, none⟩, sub.len, cap, h3', rfl, g3, fun h => (by cases h), .inr ⟨g, 0, rfl, heap_lt g2, g1, Its.Ow.at sub ys F1 g 0 h2 (fun i u hu => ?_)⟩⟩
        have hh := World.ownsRow.cells h1 rfl i u hu
        exact (by rw [row_add] at hh; exact hh)
    · have := hc (4 + i) u (by rw [List.getElem?_append_right (by simp)]; simpa using hu)
      rw [show off + 4 + i = off + (4 + i) by omega]
      exact this
set_option maxRecDepth 100000 in
theorem OwI.sl {w : World} {B : Nat} {v : Value} {l : Its} {F : List Nat} (h : OwI w B v l F) (ho : l.Ok) (hl : l.len ≤ 140737488355328) : ∃ ao c, v = .slice ao l.len c ∧ SlI w (B ≤ ·) ao l.len c l := by
  obtain ⟨ys, F1, h1, h2, rfl, h4⟩ := h
  rcases h1.2 with ⟨rfl, h0⟩ | ⟨g, cap, cur, rfl, g1, g2, g3, g4, g5, g6⟩
  · rw [h0]
    exact ⟨none, 0, rfl, h0, Nat.le_refl _, fun _ => rfl, by omega, ho, .inl rfl⟩
  · refine ⟨_, cap, rfl, rfl, g3, fun h => (by cases h), hl, ho, .inr ⟨g, 0, rfl, heap_lt g2, g1, Its.Ow.at l ys F1 g 0 h2 (fun i u hu => ?_)⟩⟩
    have hh := World.ownsRow.cells h1 rfl i u hu
    exact (by rw [row_add] at hh; exact hh)
end Go.Proofs.YtpiijmionafmcaaGreatDoor
