/- A Write while the power is armed; runs of calls. -/
import Derived.Test.YtikpfcapnpppdaaPa2
import Derived.Test.YtikpfcapnpppdaaPm1
namespace Go.Proofs.Ytikpfcapnpppdaa
open Go.RowKit

set_option maxRecDepth 100000 in
theorem St_Arm (w0 w : World) (X : Nat → Prop) (a : Nat) (d : D) (h : St w0 w X a d) (acts : Int) (ao : Option Addr) (n c : Nat) (ks : List Int) (tn ta : Int) (hd : d.down = false) (h0 : 0 ≤ acts) (hk : Ks w ao n ks) (hn : n ≤ 17592186044416) (hnil : ao = none → n = 0 ∧ c = 0) (hkB : n = 0 ∨ ∀ g, ao = some g → g.block < w0.heap.size) :
    Calls Try.prog 54 #[.pointer (some ⟨a, 0, none⟩), .int .i64 acts, .agg #[.slice ao n c, .int .i64 tn, .int .i64 ta]] w fun e u => e = .returned (.tuple #[]) ∧ St w0 u X a (d.arm acts ks tn ta) ∧ ∀ k, X k → u.heap[k]? = w.heap[k]? := by
  obtain ⟨F, hD, hF⟩ := h.dw
  refine (Arm_up w F a d acts ao n c ks tn ta hD (fun k hk => (hF k hk).2.1) hd h0 hk hn hnil (hkB.imp (fun h => h) fun hk g hg hf => by have := (hF _ hf).1; have := hk g hg; omega)).mono ?_
  rintro e u ⟨rfl, hD2, hC2⟩
  have hc := hC2.gx hF
  refine ⟨rfl, h.ch ⟨_, hD2, ?_⟩ hc, fun k hk => hc.keepX hk h.xl⟩
  rintro k (hk | hk)
  · obtain ⟨h1, h2, h3⟩ := hF k hk
    exact ⟨h1, Nat.lt_of_lt_of_le h2 hC2.size, h3⟩
  · exact ⟨by have := h.be.size; omega, hk.2, fun hx => by have := h.xl k hx; omega⟩

set_option maxRecDepth 100000 in
/-- A Write while the power is armed, in whatever act. -/
theorem St_WriteA (w0 w : World) (X : Nat → Prop) (a : Nat) (d : D) (h : St w0 w X a d) (n : Nat) (gb c : Nat) (l : List Int) (he : refu d n = 0) (hn : n < d.pages) (hlen : l.length = d.page) (hwf : Wf l)
    (hr : w.heap[gb]? = some (.cells (By l).toArray 5 (0, 0))) (hgX : X gb) (h1 : 0 ≤ d.cw) (h2 : d.cw < 4611686018427387904) (hfew : d.loose.length < 4398046511103) (har : d.armed = true) (hl0 : 0 ≤ d.left) (hl1 : d.left ≤ 9223372036854775807) :
    Calls Try.prog 16 #[.pointer (some ⟨a, 0, none⟩), .int .i64 (n : Int), .slice (some ⟨gb, 0, none⟩) d.page c] w fun e u => ∃ x d', e = .returned (.int .i64 x) ∧ St w0 u X a d' ∧ (∀ k, X k → u.heap[k]? = w.heap[k]?) ∧ d' = if 0 < d.left then { d.wrote n l with left := d.left - 1 } else (d.wrote n l).fallen d.keep d.torn d.tat := by
  obtain ⟨F, hD, hF⟩ := h.dw
  have hbe := h.be.size
  refine Write_yes w F a d n gb 0 c l hD he hn hlen hwf (row_cells hr) (fun hf => (hF gb hf).2.2 hgX) (h.xl gb hgX) h1 h2 hfew (fun k hk => (hF k hk).2.1) _ ?_
  intro u hDu hCu
  have hFu : ∀ k, (F k ∨ (w.heap.size ≤ k ∧ k < u.heap.size)) → w0.heap.size ≤ k ∧ k < u.heap.size ∧ ¬ X k := by
    rintro k (hk | hk)
    · obtain ⟨g1, g2, g3⟩ := hF k hk
      exact ⟨g1, Nat.lt_of_lt_of_le g2 hCu.size, g3⟩
    · exact ⟨by omega, hk.2, fun hx => by have := h.xl k hx; omega⟩
  have hcu := hCu.gx hF
  by_cases hl : 0 < d.left
  · refine (fails_more u _ a _ hDu har hl hl1).mono ?_
    rintro e w' ⟨rfl, hD', hC', hz'⟩
    have hc' := hC'.gx hFu
    refine ⟨false, rfl, _, _, rfl, (h.ch ⟨_, hDu, hFu⟩ hcu).ch ⟨_, hD', fun k hk => ?_⟩ hc', fun k hk => (hc'.keepX hk (fun j hj => Nat.lt_of_lt_of_le (h.xl j hj) hCu.size)).trans (hcu.keepX hk h.xl), by rw [if_pos hl]; rfl⟩
    obtain ⟨g1, g2, g3⟩ := hFu k hk
    exact ⟨g1, by rw [hz']; exact g2, g3⟩
  · refine (fails_now u _ a _ hDu (fun k hk => (hFu k hk).2.1) har (by show d.left = 0; omega)).mono ?_
    rintro e w' ⟨rfl, hD', hC'⟩
    have hc' := hC'.gx hFu
    refine ⟨true, rfl, _, _, rfl, (h.ch ⟨_, hDu, hFu⟩ hcu).ch ⟨_, hD', fun k hk => ?_⟩ hc', fun k hk => (hc'.keepX hk (fun j hj => Nat.lt_of_lt_of_le (h.xl j hj) hCu.size)).trans (hcu.keepX hk h.xl), by rw [if_neg hl]; rfl⟩
    obtain ⟨g1, g2, g3⟩ := hFu k hk
    exact ⟨g1, Nat.lt_of_lt_of_le g2 hC'.size, g3⟩
set_option maxRecDepth 100000 in
theorem St.dr {w0 w : World} {X : Nat → Prop} {a : Nat} {d : D} (h : St w0 w X a d) : St w0 w.drew X a d := by
  obtain ⟨F, hD, hF⟩ := h.dw
  exact ⟨⟨F, hD.dr, hF⟩, h.xl, h.be.drew⟩
set_option maxRecDepth 100000 in
theorem St_CrashD (w0 w : World) (X : Nat → Prop) (a : Nat) (d : D) (h : St w0 w X a d) (ao : Option Addr) (n c : Nat) (tn ta : Int) (hd : d.down = true) :
    Calls Try.prog 21 #[.pointer (some ⟨a, 0, none⟩), .agg #[.slice ao n c, .int .i64 tn, .int .i64 ta]] w fun e u => e = .returned (.tuple #[]) ∧ (∃ X', (∀ k, X k → X' k) ∧ St w0 u X' a d) ∧ ∀ k, X k → u.heap[k]? = w.heap[k]? := by
  obtain ⟨F, hD, hF⟩ := h.dw
  refine (Crash_down w F a d ao n c tn ta hD hd).mono ?_
  rintro e u ⟨rfl, hb⟩
  exact ⟨rfl, ⟨_, fun k hk => .inl hk, h.page hb⟩, fun k hk => hb.block k (h.xl k hk)⟩
set_option maxRecDepth 100000 in
theorem St_Safe (w0 w : World) (X : Nat → Prop) (a : Nat) (d : D) (h : St w0 w X a d) : Calls Try.prog 34 #[.pointer (some ⟨a, 0, none⟩)] w fun e u => ∃ g X', e = .returned (.slice (some ⟨g, 0, none⟩) (d.page * d.pages) (d.page * d.pages)) ∧ u.heap[g]? = some (.cells (By d.safe).toArray 5 (0, 0)) ∧ St w0 u X' a d ∧ X' g ∧ (∀ k, X k → X' k ∧ u.heap[k]? = w.heap[k]?) := by
  obtain ⟨F, hD, hF⟩ := h.dw
  refine (Safe_any w F a d hD).mono ?_
  rintro e u ⟨rfl, hh, hb⟩
  exact ⟨_, _, rfl, hh, h.page hb, .inr ⟨Nat.le_refl _, lt_of_some hh⟩, fun k hk => ⟨.inl hk, hb.block k (h.xl k hk)⟩⟩
set_option maxRecDepth 100000 in
theorem St_Image (w0 w : World) (X : Nat → Prop) (a : Nat) (d : D) (h : St w0 w X a d) (h0 : ∀ n, d.last.getD n 0 = 0) : Calls Try.prog 33 #[.pointer (some ⟨a, 0, none⟩)] w fun e u => ∃ g X', e = .returned (.slice (some ⟨g, 0, none⟩) (d.page * d.pages) (d.page * d.pages)) ∧ u.heap[g]? = some (.cells (By d.safe).toArray 5 (0, 0)) ∧ St w0 u X' a d ∧ X' g ∧ (∀ k, X k → X' k ∧ u.heap[k]? = w.heap[k]?) := by
  obtain ⟨F, hD, hF⟩ := h.dw
  refine (Image_calm w F a d hD h0).mono ?_
  rintro e u ⟨rfl, hh, hb⟩
  exact ⟨_, _, rfl, hh, h.page hb, .inr ⟨Nat.le_refl _, lt_of_some hh⟩, fun k hk => ⟨.inl hk, hb.block k (h.xl k hk)⟩⟩
end Go.Proofs.Ytikpfcapnpppdaa
