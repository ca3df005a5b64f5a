/- The document's device as it lies in memory, and its small calls. -/
import Derived.Test.YtikpfcapnpppdaaPa3
import Derived.Test.YtikpfcapnpppdaaPm4
namespace Go.Proofs.Ytikpfcapnpppdaa
open Go.RowKit

/-- What the document's device is. -/
structure R where
  page : Nat
  L : List (List Int)
  wild : List (Nat × List Int)
  down : Bool
  armed : Bool
  acts : Int
  keep : List Int
  torn : Int
  tat : Int
  cr : Int
  cw : Int
  cs : Int

def rcells (r : R) (vL vW vK : Value) : List Value := [.int .i64 r.page, vL, vW, .bool r.down, .bool r.armed, .int .i64 r.acts, vK, .int .i64 r.torn, .int .i64 r.tat, .int .i64 r.cr, .int .i64 r.cw, .int .i64 r.cs]

structure RRest (w : World) (F : Nat → Prop) (a page : Nat) (L : List (List Int)) (wild : List (Nat × List Int)) (keep : List Int) (vL vW vK : Value) (qs : List Nat) : Prop where
  fa : F a
  oL : w.ownsRow 0 35 1 vL L.length (qs.map fun q => Value.slice (some ⟨q, 0, none⟩) page page)
  nq : qs.length = L.length
  nd : qs.Nodup
  hq : ∀ (i : Nat) (q : Nat), qs[i]? = some q → F q ∧ q ≠ a ∧ vL.ownBlock ≠ some q ∧ vW.ownBlock ≠ some q ∧ w.heap[q]? = some (.cells (By (L.getD i [])).toArray 5 (0, 0)) ∧ (L.getD i []).length = page ∧ Wf (L.getD i [])
  bL : ∀ g, vL.ownBlock = some g → F g ∧ g ≠ a ∧ vW.ownBlock ≠ some g
  bW : ∀ g, vW.ownBlock = some g → F g ∧ g ≠ a
  hx : ∃ xs, w.ownsRow 0 74 2 vW wild.length xs ∧ ∀ (k : Nat) (x : Nat × List Int), wild[k]? = some x → xs[2 * k]? = some (.int .i64 (x.1 : Int)) ∧ ∃ q c, xs[2 * k + 1]? = some (.slice (some ⟨q, 0, none⟩) page c) ∧ page ≤ c ∧ F q ∧ q ≠ a ∧ q ∉ qs ∧ vL.ownBlock ≠ some q ∧ vW.ownBlock ≠ some q ∧ q < w.heap.size ∧ ∀ i, i < page → w.cell? ⟨q, i, none⟩ = some (.int .u8 (x.2.getD i 0))
  all : ∀ x ∈ wild, x.1 < L.length ∧ x.2.length = page ∧ Wf x.2
  ke : ∃ ao n c, vK = .slice ao n c ∧ keep.length = n ∧ n ≤ 17592186044416 ∧ (n = 0 ∨ ∃ g off, ao = some ⟨g, off, none⟩ ∧ F g ∧ g ≠ a ∧ g ∉ qs ∧ vL.ownBlock ≠ some g ∧ vW.ownBlock ≠ some g ∧ g < w.heap.size ∧ ∀ i, i < n → w.cell? ⟨g, off + i, none⟩ = some (.int .i64 (keep.getD i 0)))
  p1 : 512 ≤ page
  p2 : page ≤ 65536
  q1 : 4 ≤ L.length
  q2 : L.length ≤ 65536
  q3 : page * L.length ≤ 67108864
  few : wild.length ≤ 4398046511103

/-- THE DOCUMENT's DEVICE r LIES AT BLOCK a, all its blocks of F. -/
def Rv (w : World) (F : Nat → Prop) (a : Nat) (r : R) : Prop := ∃ vL vW vK qs, w.heap[a]? = some (.cells (rcells r vL vW vK).toArray 59 (0, 0)) ∧ RRest w F a r.page r.L r.wild r.keep vL vW vK qs

set_option maxRecDepth 100000 in
theorem own_keep {w w' : World} {B e size n : Nat} {v : Value} {xs : List Value} (h : w.ownsRow B e size v n xs) (hb : ∀ g, v.ownBlock = some g → w'.heap[g]? = w.heap[g]?) : w'.ownsRow B e size v n xs := by
  refine ⟨h.1, ?_⟩
  rcases h.2 with h0 | ⟨g, cap, cur, rfl, g1, g2, g3⟩
  · exact .inl h0
  · exact .inr ⟨g, cap, cur, rfl, g1, (hb g rfl).trans g2, g3⟩

set_option maxRecDepth 100000 in
/-- What stays, through what leaves its blocks but a alone. -/
theorem RRest.keep_ {w w' : World} {F G : Nat → Prop} {a page : Nat} {L : List (List Int)} {wild : List (Nat × List Int)} {keep : List Int} {vL vW vK : Value} {qs : List Nat} (h : RRest w F a page L wild keep vL vW vK qs) (hG : ∀ k, F k → k < w.heap.size → G k) (ha : a < w.heap.size) (hz : w.heap.size ≤ w'.heap.size)
    (hb : ∀ k, F k → k ≠ a → k < w.heap.size → w'.heap[k]? = w.heap[k]?) : RRest w' G a page L wild keep vL vW vK qs := by
  have lL : ∀ g, vL.ownBlock = some g → g < w.heap.size := fun g e => (h.oL.lt g e).2
  obtain ⟨xs, hx1, hx2⟩ := h.hx
  have lW : ∀ g, vW.ownBlock = some g → g < w.heap.size := fun g e => (hx1.lt g e).2
  refine ⟨hG a h.fa ha, own_keep h.oL fun g e => hb g (h.bL g e).1 (h.bL g e).2.1 (lL g e), h.nq, h.nd, fun i q hi => ?_, fun g e => ⟨hG g (h.bL g e).1 (lL g e), (h.bL g e).2⟩, fun g e => ⟨hG g (h.bW g e).1 (lW g e), (h.bW g e).2⟩, ⟨xs, own_keep hx1 fun g e => hb g (h.bW g e).1 (h.bW g e).2 (lW g e), fun k x hk => ?_⟩, h.all, ?_, h.p1, h.p2, h.q1, h.q2, h.q3, h.few⟩
  · obtain ⟨b1, b2, b3, b4, b5, b6, b7⟩ := h.hq i q hi
    exact ⟨hG q b1 (lt_of_some b5), b2, b3, b4, (hb q b1 b2 (lt_of_some b5)).trans b5, b6, b7⟩
  · obtain ⟨c1, q, c, c2, c3, c4, c5, c6, c7, c8, c9, c10⟩ := hx2 k x hk
    exact ⟨c1, q, c, c2, c3, hG q c4 c9, c5, c6, c7, c8, by omega, fun i hi => (World.cell?_of_block (w := w) (a := ⟨q, i, none⟩) (hb q c4 c5 c9)).trans (c10 i hi)⟩
  · obtain ⟨ao, n, c, e, e1, e2, e3⟩ := h.ke
    refine ⟨ao, n, c, e, e1, e2, ?_⟩
    rcases e3 with e3 | ⟨g, off, g1, g2, g3, g4, g5, g6, g7, g8⟩
    · exact .inl e3
    · exact .inr ⟨g, off, g1, hG g g2 g7, g3, g4, g5, g6, by omega, fun i hi => (World.cell?_of_block (w := w) (a := ⟨g, off + i, none⟩) (hb g g2 g3 g7)).trans (g8 i hi)⟩
set_option maxRecDepth 100000 in
theorem Rv.keep_ {w w' : World} {F G : Nat → Prop} {a : Nat} {r : R} (h : Rv w F a r) (hG : ∀ k, F k → k < w.heap.size → G k) (hz : w.heap.size ≤ w'.heap.size) (hb : ∀ k, F k → k < w.heap.size → w'.heap[k]? = w.heap[k]?) : Rv w' G a r := by
  obtain ⟨vL, vW, vK, qs, ha, hr⟩ := h
  exact ⟨vL, vW, vK, qs, (hb a hr.fa (lt_of_some ha)).trans ha, hr.keep_ hG (lt_of_some ha) hz fun k f _ l => hb k f l⟩
set_option maxRecDepth 100000 in
theorem Rv.ch {w w' : World} {F H : Nat → Prop} {a : Nat} {r : R} (h : Rv w F a r) (hc : Ch H w w') (hd : ∀ k, k < w.heap.size → F k → ¬ H k) : Rv w' F a r := h.keep_ (fun _ f _ => f) hc.size fun k f l => hc.block k l (hd k l f)
set_option maxRecDepth 100000 in
theorem Rv.on {w w' : World} {F : Nat → Prop} {a : Nat} {r : R} (h : Rv w F a r) (hb : Below w.heap.size w w') : Rv w' F a r := h.keep_ (fun _ f _ => f) hb.size fun k _ l => hb.block k l
set_option maxRecDepth 100000 in
theorem RRest.self {w : World} {F : Nat → Prop} {a page : Nat} {L : List (List Int)} {wild : List (Nat × List Int)} {keep : List Int} {vL vW vK : Value} {qs : List Nat} (h : RRest w F a page L wild keep vL vW vK qs) (ha : a < w.heap.size) (i : Nat) (u : Value) : RRest (w.setCell ⟨a, i, none⟩ u) F a page L wild keep vL vW vK qs :=
  h.keep_ (fun _ f _ => f) ha (by simp [World.setCell]) fun k _ n _ => Below.heap_setCell _ _ _ _ n
set_option maxRecDepth 100000 in
theorem Rv.c {w : World} {F : Nat → Prop} {a : Nat} {r : R} (h : Rv w F a r) : ∃ vL vW vK qs, (∀ i, w.cell? ⟨a, i, none⟩ = (rcells r vL vW vK)[i]?) ∧ (∀ i, w.frozen? ⟨a, i, none⟩ = false) ∧ RRest w F a r.page r.L r.wild r.keep vL vW vK qs ∧ w.heap[a]? = some (.cells (rcells r vL vW vK).toArray 59 (0, 0)) := by
  obtain ⟨vL, vW, vK, qs, ha, hr⟩ := h
  exact ⟨vL, vW, vK, qs, fun i => cell_of_row ha, fun i => free_of_row ha, hr, ha⟩
set_option maxRecDepth 100000 in
theorem own_val {w : World} {B e size n : Nat} {v : Value} {xs : List Value} (h : w.ownsRow B e size v n xs) : ∃ ao c, v = .slice ao n c ∧ n ≤ c := by
  rcases h.2 with ⟨rfl, h0⟩ | ⟨g, cap, cur, rfl, _, _, h1, _⟩
  · exact ⟨none, 0, by rw [h0], by omega⟩
  · exact ⟨_, cap, rfl, h1⟩

set_option maxRecDepth 100000 in
theorem rUp_any (w : World) (F : Nat → Prop) (a : Nat) (r : R) (h : Rv w F a r) : Calls Try.prog 10 #[.pointer (some ⟨a, 0, none⟩)] w fun e w' => e = .returned (.bool (!r.down)) ∧ w' = w := by
  obtain ⟨vL, vW, vK, qs, hc, hf, hr, ha⟩ := h.c
  have c3 : w.cell? ⟨a, 3, none⟩ = some (.bool r.down) := hc 3
  clear hc hf hr ha h
  go_enter Try.func10, Try.ntmps10
  go_wp2
  go_ret
  exact ⟨rfl, rfl⟩
set_option maxRecDepth 100000 in
theorem rPage_any (w : World) (F : Nat → Prop) (a : Nat) (r : R) (h : Rv w F a r) : Calls Try.prog 12 #[.pointer (some ⟨a, 0, none⟩)] w fun e w' => e = .returned (.int .i64 r.page) ∧ w' = w := by
  obtain ⟨vL, vW, vK, qs, hc, hf, hr, ha⟩ := h.c
  have c0 : w.cell? ⟨a, 0, none⟩ = some (.int .i64 r.page) := hc 0
  clear hc hf hr ha h
  go_enter Try.func12, Try.ntmps12
  go_wp2
  go_ret
  exact ⟨rfl, rfl⟩
set_option maxRecDepth 100000 in
theorem rPgs_any (w : World) (F : Nat → Prop) (a : Nat) (r : R) (h : Rv w F a r) : Calls Try.prog 14 #[.pointer (some ⟨a, 0, none⟩)] w fun e w' => e = .returned (.int .i64 r.L.length) ∧ w' = w := by
  obtain ⟨vL, vW, vK, qs, hc, hf, hr, ha⟩ := h.c
  obtain ⟨ao, c, hv, _⟩ := own_val hr.oL
  have c1 : w.cell? ⟨a, 1, none⟩ = some (.slice ao r.L.length c) := by rw [← hv]; exact hc 1
  clear hc hf hr ha h hv
  generalize r.L.length = n at *
  go_enter Try.func14, Try.ntmps14
  go_wp2
  go_ret
  exact ⟨rfl, rfl⟩
set_option maxRecDepth 100000 in
theorem rLoose_any (w : World) (F : Nat → Prop) (a : Nat) (r : R) (h : Rv w F a r) : Calls Try.prog 39 #[.pointer (some ⟨a, 0, none⟩)] w fun e w' => e = .returned (.int .i64 r.wild.length) ∧ w' = w := by
  obtain ⟨vL, vW, vK, qs, hc, hf, hr, ha⟩ := h.c
  obtain ⟨xs, hx, _⟩ := hr.hx
  obtain ⟨ao, c, hv, _⟩ := own_val hx
  have c2 : w.cell? ⟨a, 2, none⟩ = some (.slice ao r.wild.length c) := by rw [← hv]; exact hc 2
  clear hc hf hr ha h hv hx
  generalize r.wild.length = n at *
  go_enter Try.func39, Try.ntmps39
  go_wp2
  go_ret
  exact ⟨rfl, rfl⟩
set_option maxRecDepth 100000 in
theorem rStart_any (w : World) (F : Nat → Prop) (a : Nat) (r : R) (h : Rv w F a r) : Calls Try.prog 32 #[.pointer (some ⟨a, 0, none⟩)] w fun e w' => e = .returned (.tuple #[]) ∧ Rv w' F a { r with down := false } ∧ Ch F w w' ∧ w'.heap.size = w.heap.size := by
  obtain ⟨vL, vW, vK, qs, hc, hf, hr, ha⟩ := h.c
  have f3 := hf 3
  obtain ⟨y, c3⟩ : ∃ y, w.cell? ⟨a, 3, none⟩ = some y := ⟨_, hc 3⟩
  have HR := hidden hr
  have HA := hidden ha
  clear hc hf hr ha h
  go_enter Try.func32, Try.ntmps32
  go_wp2
  go_end0
  exact ⟨rfl, ⟨vL, vW, vK, qs, heap_setCell_self HA.out, HR.out.self (lt_of_some HA.out) 3 _⟩, Ch.setCell w HR.out.fa _, by simp [World.setCell]⟩
set_option maxRecDepth 100000 in
theorem rCounts_any (w : World) (F : Nat → Prop) (a : Nat) (r : R) (h : Rv w F a r) : Calls Try.prog 40 #[.pointer (some ⟨a, 0, none⟩)] w fun e w' => e = .returned (.agg #[.int .i64 r.cr, .int .i64 r.cw, .int .i64 r.cs]) ∧ Below w.heap.size w w' := by
  obtain ⟨vL, vW, vK, qs, hc, hf, hr, ha⟩ := h.c
  have c9 : w.cell? ⟨a, 9, none⟩ = some (.int .i64 r.cr) := hc 9
  have c10 : w.cell? ⟨a, 10, none⟩ = some (.int .i64 r.cw) := hc 10
  have c11 : w.cell? ⟨a, 11, none⟩ = some (.int .i64 r.cs) := hc 11
  have hal := lt_of_some ha
  have hane : ¬ a = w.heap.size := by omega
  clear hc hf hr ha h
  go_enter Try.func40, Try.ntmps40
  go_wp2
  exact bodyPost_ret (v := .agg #[.int .i64 r.cr, .int .i64 r.cw, .int .i64 r.cs]) (by simp [results, Try.results40, go_sem]) rfl ⟨rfl, (Below.refl _ _).alloc (Nat.le_refl _) _⟩
end Go.Proofs.Ytikpfcapnpppdaa
