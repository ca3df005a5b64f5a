/- A run of calls upon one device: what is carried from call to call. -/
import Derived.Test.YtikpfcapnpppdaaPl11
import Derived.Test.YtikpfcapnpppdaaSame
namespace Go.Proofs.Ytikpfcapnpppdaa
open Go.RowKit

set_option maxRecDepth 100000 in
theorem row_cells {w : World} {g : Nat} {l : List Int} {t : TypeId} (h : w.heap[g]? = some (.cells (By l).toArray t (0, 0))) : ∀ j v, (By l)[j]? = some v → w.cell? ((⟨g, 0, none⟩ : Addr).add j) = some v := by
  intro j v hv
  rw [Addr.add_lit, Nat.zero_add, cell_of_row h]
  exact hv
set_option maxRecDepth 100000 in
theorem row_sl {w : World} {g n : Nat} {l : List Int} {t : TypeId} (h : w.heap[g]? = some (.cells (By l).toArray t (0, 0))) (hl : l.length = n) (hw : Wf l) (hn : n ≤ 140737488355328) : Sl w (some ⟨g, 0, none⟩) n n l :=
  ⟨hl, Nat.le_refl _, hn, hw, (by intro h; cases h), .inr ⟨g, 0, rfl, lt_of_some h, fun i hi => by rw [Nat.zero_add, cell_of_row h]; exact getD_By _ _ (by omega)⟩⟩
set_option maxRecDepth 100000 in
theorem replicate_wf (n : Nat) (x : Int) (h : 0 ≤ x ∧ x ≤ 255) : Wf (List.replicate n x) := fun y hy => by rw [List.eq_of_mem_replicate hy]; exact h

/-- The device d at a, behind some calls since the world w0, which had B blocks. -/
structure St (w0 : World) (w : World) (X : Nat → Prop) (a : Nat) (d : D) : Prop where
  dw : Dw w w0.heap.size X a d
  xl : ∀ k, X k → k < w.heap.size
  be : Below w0.heap.size w0 w

set_option maxRecDepth 100000 in
theorem Ch.keepX {w u : World} {B g : Nat} {X : Nat → Prop} (h : Ch (Gx B X) w u) (hx : X g) (hl : ∀ k, X k → k < w.heap.size) : u.heap[g]? = w.heap[g]? := h.block g (hl g hx) fun hg => hg.2 hx
set_option maxRecDepth 100000 in
theorem St.ch {w0 w u : World} {X : Nat → Prop} {a : Nat} {d d' : D} (h : St w0 w X a d) (hD : Dw u w0.heap.size X a d') (hc : Ch (Gx w0.heap.size X) w u) : St w0 u X a d' :=
  ⟨hD, fun k hk => Nat.lt_of_lt_of_le (h.xl k hk) hc.size, h.be.trans (hc.below h.be.size fun k hk hg => by have := hg.1; omega)⟩
set_option maxRecDepth 100000 in
theorem St.page {w0 w u : World} {X : Nat → Prop} {a : Nat} {d : D} (h : St w0 w X a d) (hb : Below w.heap.size w u) : St w0 u (Xn X w u) a d :=
  ⟨h.dw.more hb, Xn_lt h.xl hb.size, h.be.trans (hb.mono h.be.size)⟩

set_option maxRecDepth 100000 in
theorem St_New (w : World) (x y : Nat) (h : dev x y = true) : Calls Try.prog 6 #[.int .i64 (x : Int), .int .i64 (y : Int)] w fun e w' => ∃ a, e = .returned (.pointer (some ⟨a, 0, none⟩)) ∧ St w w' (fun _ => False) a (d0 x y) := by
  refine (Dw_New x y w h (fun _ => False) (fun _ h => h.elim)).mono ?_
  rintro e u ⟨a, rfl, hD, hb⟩
  exact ⟨a, rfl, hD, fun _ h => h.elim, hb⟩
set_option maxRecDepth 100000 in
theorem St_page (w0 w : World) (X : Nat → Prop) (a : Nat) (d : D) (h : St w0 w X a d) (n : Nat) (c : Int) (hn : n ≤ 67108864) : Calls Try.prog 17 #[.int .i64 (n : Int), .int .u8 c] w fun e u => ∃ g X', e = .returned (.slice (some ⟨g, 0, none⟩) n n) ∧ u.heap[g]? = some (.cells (By (List.replicate n c)).toArray 5 (0, 0)) ∧ St w0 u X' a d ∧ X' g ∧ (∀ k, X k → X' k ∧ u.heap[k]? = w.heap[k]?) := by
  refine (page_any w n c hn).mono ?_
  rintro e u ⟨rfl, hh, hb⟩
  exact ⟨_, _, rfl, hh, h.page hb, .inr ⟨Nat.le_refl _, lt_of_some hh⟩, fun k hk => ⟨.inl hk, hb.block k (h.xl k hk)⟩⟩
set_option maxRecDepth 100000 in
theorem St_Write (w0 w : World) (X : Nat → Prop) (a : Nat) (d : D) (h : St w0 w X a d) (n : Nat) (gb c : Nat) (l : List Int) (he : refu d n = 0) (hn : n < d.pages) (hlen : l.length = d.page) (hwf : Wf l)
    (hr : w.heap[gb]? = some (.cells (By l).toArray 5 (0, 0))) (hgX : X gb) (h1 : 0 ≤ d.cw) (h2 : d.cw < 4611686018427387904) (hfew : d.loose.length < 4398046511103) (har : d.armed = false) :
    Calls Try.prog 16 #[.pointer (some ⟨a, 0, none⟩), .int .i64 (n : Int), .slice (some ⟨gb, 0, none⟩) d.page c] w fun e u => e = .returned (.int .i64 0) ∧ St w0 u X a (d.wrote n l) ∧ ∀ k, X k → u.heap[k]? = w.heap[k]? := by
  refine (Dw_Write w _ X a d n gb 0 c l h.dw h.xl he hn hlen hwf (row_cells hr) hgX h.be.size h1 h2 hfew har).mono ?_
  rintro e u ⟨rfl, hD, hC⟩
  exact ⟨rfl, h.ch hD hC, fun k hk => hC.keepX hk h.xl⟩
set_option maxRecDepth 100000 in
theorem St_Read (w0 w : World) (X : Nat → Prop) (a : Nat) (d : D) (h : St w0 w X a d) (n : Nat) (he : refu d n = 0) (hn : n < d.pages) (h1 : 0 ≤ d.cr) (h2 : d.cr < 4611686018427387904) :
    Calls Try.prog 18 #[.pointer (some ⟨a, 0, none⟩), .int .i64 (n : Int)] w fun e u => ∃ g X', e = .returned (.tuple #[.slice (some ⟨g, 0, none⟩) d.page d.page, .int .i64 0]) ∧ u.heap[g]? = some (.cells (By (rd d n)).toArray 5 (0, 0)) ∧ St w0 u X' a { d with cr := d.cr + 1 } ∧ X' g ∧ (∀ k, X k → X' k ∧ u.heap[k]? = w.heap[k]?) := by
  refine (Dw_Read w _ X a d n h.dw he hn h1 h2).mono ?_
  rintro e u ⟨g, rfl, hg, hh, hD, hC⟩
  refine ⟨g, _, rfl, hh, ⟨hD, Xn_lt h.xl hC.size, h.be.trans (hC.below h.be.size fun k hk hg => by have := hg.1; omega)⟩, hg, fun k hk => ⟨.inl hk, hC.keepX hk h.xl⟩⟩
set_option maxRecDepth 100000 in
theorem St_Sync (w0 w : World) (X : Nat → Prop) (a : Nat) (d : D) (h : St w0 w X a d) (hd : d.down = false) (har : d.armed = false) (h1 : 0 ≤ d.cs) (h2 : d.cs < 4611686018427387904) :
    Calls Try.prog 20 #[.pointer (some ⟨a, 0, none⟩)] w fun e u => e = .returned (.int .i64 0) ∧ St w0 u X a d.synced ∧ ∀ k, X k → u.heap[k]? = w.heap[k]? := by
  refine (Dw_Sync w _ X a d h.dw hd har h1 h2).mono ?_
  rintro e u ⟨rfl, hD, hC⟩
  exact ⟨rfl, h.ch hD hC, fun k hk => hC.keepX hk h.xl⟩
set_option maxRecDepth 100000 in
theorem St_Crash (w0 w : World) (X : Nat → Prop) (a : Nat) (d : D) (h : St w0 w X a d) (ao : Option Addr) (n c : Nat) (ks : List Int) (tn ta : Int) (hk : Ks w ao n ks) (hd : d.down = false) :
    Calls Try.prog 21 #[.pointer (some ⟨a, 0, none⟩), .agg #[.slice ao n c, .int .i64 tn, .int .i64 ta]] w fun e u => e = .returned (.tuple #[]) ∧ St w0 u X a (d.fallen ks tn ta) ∧ ∀ k, X k → u.heap[k]? = w.heap[k]? := by
  refine (Dw_Crash w _ X a d ao n c ks tn ta h.dw hk hd).mono ?_
  rintro e u ⟨rfl, hD, hC⟩
  exact ⟨rfl, h.ch hD hC, fun k hk => hC.keepX hk h.xl⟩
set_option maxRecDepth 100000 in
theorem St_Start (w0 w : World) (X : Nat → Prop) (a : Nat) (d : D) (h : St w0 w X a d) : Calls Try.prog 22 #[.pointer (some ⟨a, 0, none⟩)] w fun e u => e = .returned (.tuple #[]) ∧ St w0 u X a { d with down := false } ∧ ∀ k, X k → u.heap[k]? = w.heap[k]? := by
  refine (Dw_Start w _ X a d h.dw).mono ?_
  rintro e u ⟨rfl, hD, hC⟩
  exact ⟨rfl, h.ch hD hC, fun k hk => hC.keepX hk h.xl⟩
set_option maxRecDepth 100000 in
theorem St.dv {w0 w : World} {X : Nat → Prop} {a : Nat} {d : D} (h : St w0 w X a d) : ∃ F, Dv w F a d := by
  obtain ⟨F, hD, _⟩ := h.dw
  exact ⟨F, hD⟩
end Go.Proofs.Ytikpfcapnpppdaa
