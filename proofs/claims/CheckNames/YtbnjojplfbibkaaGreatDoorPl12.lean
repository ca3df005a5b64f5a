/- A run of calls upon one device: what is carried from call to call. -/
import Derived.Test.YtbnjojplfbibkaaGreatDoorPl11
import Derived.Test.YtbnjojplfbibkaaGreatDoorSame
namespace Go.Proofs.YtbnjojplfbibkaaGreatDoor
open Go.RowKit

set_option maxRecDepth 100000 in
theorem row_cells {w : World} {g : Nat} {l : List Int} {t : TypeId} (h : w.heap[g]? = some (.cells (By l).toArray t (0, 0))) : ∀ j v, (By l)[j]? = some v → w.cell? ((⟨g, 0, none⟩ : Addr).add j) = some v := by
  intro j v hv
  rw [Addr.add_lit, Nat.zero_add, cell_of_row h]
  exact hv
set_option maxRecDepth 100000 in
theorem row_sl {w : World} {g n : Nat} {l : List Int} {t : TypeId} (h : w.heap[g]? = some (.cells (By l).toArray t (0, 0))) (hl : l.length = n) (hw : Wf l) (hn : n ≤ 140737488355328) : Sl w (some ⟨g, 0, none⟩) n n l :=
  ⟨hl, Nat.le_refl _, hn, hw, (by intro h; cases h), .inr ⟨g, 0, rfl, lt_of_some h, fun i hi => by rw [Nat.zero_add, cell_of_row h]; exact getD_By _ _ (by omega)⟩⟩
set_option maxRecDepth 100000 in
theorem replicate_wf (n : Nat) (x : Int) (h : 0 ≤ x ∧ x ≤ 255) : Wf (List.replicate n x) := fun y hy => by rw [List.eq_of_mem_replicate hy]; exact h

/-- The device d at a, behind some calls since the world w0, which had B blocks. -/
structure St (w0 : World) (w : World) (X : Nat → Prop) (a : Nat) (d : D) : Prop where
  dw : Dw w w0.heap.size X a d
  xl : ∀ k, X k → k < w.heap.size
  be : Below w0.heap.size w0 w

set_option maxRecDepth 100000 in
theorem Ch.keepX {w u : World} {B g : Nat} {X : Nat → Prop} (h : Ch (Gx B X) w u) (hx : X g) (hl : ∀ k, X k → k < w.heap.size) : u.heap[g]? = w.heap[g]? := h.block g (hl g hx) fun hg => hg.2 hx
set_option maxRecDepth 100000 in
theorem St.ch {w0 w u : World} {X : Nat → Prop} {a : Nat} {d d' : D} (h : St w0 w X a d) (hD : Dw u w0.heap.size X a d') (hc : Ch (Gx w0.heap.size X) w u) : St w0 u X a d' :=
  ⟨hD, fun k hk => Nat.lt_of_lt_of_le (h.xl k hk) hc.size, h.be.trans (hc.below h.be.size fun k hk hg => by have := hg.1; omega)⟩
set_option maxRecDepth 100000 in
theorem St.page {w0 w u : World} {X : Nat → Prop} {a : Nat} {d : D} (h : St w0 w X a d) (hb : Below w.heap.size w u) : St w0 u (Xn X w u) a d :=
  ⟨h.dw.more hb, Xn_lt h.xl hb.size, h.be.trans (hb.mono h.be.size)⟩

set_option maxRecDepth 100000 in
theorem St_New (w : World) (x y : Nat) (h : dev x y = true) : Calls Tryz.prog 38 #[.int .i64 (x : Int), .int .i64 (y : Int)] w fun e w' => ∃ a, e = .returned (.pointer (some ⟨a, 0, none⟩)) ∧ St w w' (fun _ => False) a (d0 x y) := by
  refine (Dw_New x y w h (fun _ => False) (fun _ h => h.elim)).mono ?_
  rintro e u ⟨a, rfl, hD, hb⟩
  exact ⟨a, rfl, hD, fun _ h => h.elim, hb⟩
set_option maxRecDepth 100000 in
theorem St.dv {w0 w : World} {X : Nat → Prop} {a : Nat} {d : D} (h : St w0 w X a d) : ∃ F, Dv w F a d := by
  obtain ⟨F, hD, _⟩ := h.dw
  exact ⟨F, hD⟩
end Go.Proofs.YtbnjojplfbibkaaGreatDoor
