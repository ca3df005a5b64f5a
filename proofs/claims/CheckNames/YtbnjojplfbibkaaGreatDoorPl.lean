/- A device of package plate as it lies in memory, and what its calls leave alone. -/
import Derived.Test.YtbnjojplfbibkaaGreatDoorBase
import Derived.Laws.CopyOwn
import Derived.Deep.Draws
namespace Go.Proofs.YtbnjojplfbibkaaGreatDoor
open Go.RowKit

/-- Behind w' all blocks that w had are as they were, but those of F. -/
structure Ch (F : Nat → Prop) (w w' : World) : Prop where
  os : w'.os = w.os
  tape : w'.tape = w.tape
  output : w'.output = w.output
  size : w.heap.size ≤ w'.heap.size
  block : ∀ k, k < w.heap.size → ¬ F k → w'.heap[k]? = w.heap[k]?

set_option maxRecDepth 100000 in
theorem Ch.refl (F : Nat → Prop) (w : World) : Ch F w w := ⟨rfl, rfl, rfl, Nat.le_refl _, fun _ _ _ => rfl⟩
set_option maxRecDepth 100000 in
theorem Ch.trans {F G : Nat → Prop} {a b c : World} (h : Ch F a b) (k : Ch G b c) (hG : ∀ i, i < a.heap.size → G i → F i) : Ch F a c :=
  ⟨k.os.trans h.os, k.tape.trans h.tape, k.output.trans h.output, Nat.le_trans h.size k.size, fun i hi hf => (k.block i (Nat.lt_of_lt_of_le hi h.size) fun g => hf (hG i hi g)).trans (h.block i hi hf)⟩
set_option maxRecDepth 100000 in
theorem Ch.mono {F G : Nat → Prop} {a b : World} (h : Ch G a b) (hG : ∀ i, i < a.heap.size → G i → F i) : Ch F a b := (Ch.refl F a).trans h hG
set_option maxRecDepth 100000 in
theorem Ch.of_below {F : Nat → Prop} {a b : World} (h : Below a.heap.size a b) : Ch F a b := ⟨h.os, h.tape, h.output, h.size, fun k hk _ => h.block k hk⟩
set_option maxRecDepth 100000 in
theorem Ch.below {F : Nat → Prop} {a b : World} {B : Nat} (h : Ch F a b) (hB : B ≤ a.heap.size) (hF : ∀ k, k < B → ¬ F k) : Below B a b := ⟨h.os, h.tape, h.output, h.size, fun k hk => h.block k (by omega) (hF k hk)⟩
set_option maxRecDepth 100000 in
theorem Ch.alloc (F : Nat → Prop) (w : World) (o : Obj) : Ch F w (w.alloc o) := ⟨rfl, rfl, rfl, by simp, fun k hk _ => Below.heap_alloc _ _ _ hk⟩
set_option maxRecDepth 100000 in
theorem Ch.setCell {F : Nat → Prop} (w : World) {p : Addr} (hp : F p.block) (u : Value) : Ch F w (w.setCell p u) :=
  ⟨rfl, rfl, rfl, by simp [World.setCell], fun k _ hk => Below.heap_setCell _ _ _ _ fun e => hk (e ▸ hp)⟩
set_option maxRecDepth 100000 in
theorem Ch.setRow {F : Nat → Prop} (w : World) {g : Nat} (hp : F g) (cs : Array Value) : Ch F w (w.setRow g cs) :=
  ⟨rfl, rfl, rfl, by simp [World.setRow], fun k _ hk => setRow_other w g k cs fun e => hk (e ▸ hp)⟩
set_option maxRecDepth 100000 in
theorem Ch.grown {F : Nat → Prop} {w w' : World} {row : Option Nat} (hg : w.grownBy w' row) (hr : ∀ k, row = some k → F k) : Ch F w w' :=
  ⟨hg.os, hg.tape, hg.output, hg.size, fun k hk hf => hg.block k hk fun e => hf (hr k e.symm)⟩
set_option maxRecDepth 100000 in
theorem Ch.drew (F : Nat → Prop) (w : World) (n : Nat) : Ch F w (w.drewN n) := ⟨rfl, rfl, rfl, Nat.le_refl _, fun _ _ _ => rfl⟩

/-- Whole numbers as cells. -/
def In (l : List Int) : List Value := l.map (Value.int .i64)
set_option maxRecDepth 100000 in
theorem In_length (a : List Int) : (In a).length = a.length := by simp [In]

/-- What a device is. -/
structure D where
  page : Nat
  pages : Nat
  safe : List Int
  loose : List (Nat × List Int)
  last : List Int
  cr : Int
  cw : Int
  cs : Int
  down : Bool
  armed : Bool
  left : Int
  torn : Int
  tat : Int
  keep : List Int

/-- The struct's cells. -/
def row (d : D) (bs bl : Nat) (vL vK : Value) : List Value :=
  [.int .i64 d.page, .int .i64 d.pages, .slice (some ⟨bs, 0, none⟩) (d.page * d.pages) (d.page * d.pages), vL, .slice (some ⟨bl, 0, none⟩) d.pages d.pages, .int .i64 d.cr, .int .i64 d.cw, .int .i64 d.cs, .bool d.down, .bool d.armed, .int .i64 d.left, vK, .int .i64 d.torn, .int .i64 d.tat]

/-- The loose writes. -/
structure Lo (w : World) (F : Nat → Prop) (a bs bl page pages : Nat) (vL : Value) (l : List (Nat × List Int)) : Prop where
  hx : ∃ xs, w.ownsRow 0 267 2 vL l.length xs ∧ ∀ k x, l[k]? = some x → xs[2 * k]? = some (.int .i64 (x.1 : Int)) ∧ ∃ q, xs[2 * k + 1]? = some (.slice (some ⟨q, 0, none⟩) page page) ∧ F q ∧ q ≠ a ∧ q ≠ bs ∧ q ≠ bl ∧ vL.ownBlock ≠ some q ∧ w.heap[q]? = some (.cells (By x.2).toArray 5 (0, 0))
  own : ∀ g, vL.ownBlock = some g → F g ∧ g ≠ a ∧ g ≠ bs ∧ g ≠ bl
  all : ∀ x ∈ l, x.1 < pages ∧ x.2.length = page ∧ Wf x.2

/-- The numbers of a plan that are kept. -/
def Ke (w : World) (F : Nat → Prop) (a bs bl : Nat) (vL vK : Value) (l : List Int) : Prop :=
  ∃ ao n c, vK = .slice ao n c ∧ l.length = n ∧ n ≤ c ∧ n ≤ 140737488355328 ∧ (ao = none → c = 0) ∧ (n = 0 ∨ ∃ g off, ao = some ⟨g, off, none⟩ ∧ F g ∧ g ≠ a ∧ g ≠ bs ∧ g ≠ bl ∧ vL.ownBlock ≠ some g ∧ g < w.heap.size ∧ ∀ i, i < n → w.cell? ⟨g, off + i, none⟩ = some (.int .i64 (l.getD i 0)))

structure Rest (w : World) (F : Nat → Prop) (a : Nat) (page pages : Nat) (safe : List Int) (loose : List (Nat × List Int)) (last keep : List Int) (bs bl : Nat) (vL vK : Value) : Prop where
  fa : F a
  fs : F bs
  fl : F bl
  n1 : bs ≠ a
  n2 : bl ≠ a
  n3 : bl ≠ bs
  hs : w.heap[bs]? = some (.cells (By safe).toArray 5 (0, 0))
  hl : w.heap[bl]? = some (.cells (In last).toArray 3 (0, 0))
  ns : safe.length = page * pages
  nl : last.length = pages
  ws : Wf safe
  p1 : 512 ≤ page
  p2 : page ≤ 65536
  q1 : 4 ≤ pages
  q2 : pages ≤ 65536
  q3 : page * pages ≤ 67108864
  lo : Lo w F a bs bl page pages vL loose
  ke : Ke w F a bs bl vL vK keep
  lst : ∀ n, n < pages → 0 ≤ last.getD n 0 ∧ last.getD n 0 ≤ loose.length ∧ (0 < last.getD n 0 → (loose.getD ((last.getD n 0).toNat - 1) (0, [])).1 = n)
  few : loose.length ≤ 4398046511103

/-- THE DEVICE d LIES AT BLOCK a, and all its blocks are of F. -/
def Dv (w : World) (F : Nat → Prop) (a : Nat) (d : D) : Prop :=
  ∃ bs bl vL vK, w.heap[a]? = some (.cells (row d bs bl vL vK).toArray 99 (0, 0)) ∧ Rest w F a d.page d.pages d.safe d.loose d.last d.keep bs bl vL vK

set_option maxRecDepth 100000 in
theorem lt_of_some {w : World} {k : Nat} {o : Obj} (h : w.heap[k]? = some o) : k < w.heap.size := (Array.getElem?_eq_some_iff.1 h).1

set_option maxRecDepth 100000 in
theorem Lo.keep {w w' : World} {F G : Nat → Prop} {a bs bl page pages : Nat} {vL : Value} {l : List (Nat × List Int)} (h : Lo w F a bs bl page pages vL l) (hG : ∀ k, F k → k < w.heap.size → G k)
    (hb : ∀ k, F k → k ≠ a → k ≠ bs → k ≠ bl → k < w.heap.size → w'.heap[k]? = w.heap[k]?) : Lo w' G a bs bl page pages vL l := by
  obtain ⟨⟨xs, ho, hk⟩, hown, hall⟩ := h
  have hlt : ∀ g, vL.ownBlock = some g → g < w.heap.size := fun g hg => (ho.lt g hg).2
  refine ⟨⟨xs, ⟨ho.1, ?_⟩, fun k x hx => ?_⟩, fun g hg => ?_, hall⟩
  · rcases ho.2 with h0 | ⟨g, cap, cur, rfl, h1, h2, h3⟩
    · exact .inl h0
    · obtain ⟨f1, f2, f3, f4⟩ := hown g rfl
      exact .inr ⟨g, cap, cur, rfl, h1, (hb g f1 f2 f3 f4 (lt_of_some h2)).trans h2, h3⟩
  · obtain ⟨h1, q, h2, h3, h4, h5, h6, h7, h8⟩ := hk k x hx
    exact ⟨h1, q, h2, hG q h3 (lt_of_some h8), h4, h5, h6, h7, (hb q h3 h4 h5 h6 (lt_of_some h8)).trans h8⟩
  · obtain ⟨f1, f2⟩ := hown g hg
    exact ⟨hG g f1 (hlt g hg), f2⟩
set_option maxRecDepth 100000 in
theorem Ke.keep {w w' : World} {F G : Nat → Prop} {a bs bl : Nat} {vL vK vL' : Value} {l : List Int} (h : Ke w F a bs bl vL vK l) (hG : ∀ k, F k → k < w.heap.size → G k) (hz : w.heap.size ≤ w'.heap.size) (hL : ∀ g, g < w.heap.size → vL.ownBlock ≠ some g → vL'.ownBlock ≠ some g)
    (hb : ∀ k, F k → k ≠ a → k ≠ bs → k ≠ bl → vL.ownBlock ≠ some k → k < w.heap.size → w'.heap[k]? = w.heap[k]?) : Ke w' G a bs bl vL' vK l := by
  obtain ⟨ao, n, c, e, h1, h2, h3, h4, h5⟩ := h
  refine ⟨ao, n, c, e, h1, h2, h3, h4, ?_⟩
  rcases h5 with h5 | ⟨g, off, e, g1, g2, g3, g4, g7, g5, g6⟩
  · exact .inl h5
  · exact .inr ⟨g, off, e, hG g g1 g5, g2, g3, g4, hL g g5 g7, by omega, fun i hi => (World.cell?_of_block (w := w) (a := ⟨g, off + i, none⟩) (hb g g1 g2 g3 g4 g7 g5)).trans (g6 i hi)⟩
set_option maxRecDepth 100000 in
theorem Rest.keep {w w' : World} {F G : Nat → Prop} {a page pages : Nat} {safe : List Int} {loose : List (Nat × List Int)} {last keep : List Int} {bs bl : Nat} {vL vK : Value} (h : Rest w F a page pages safe loose last keep bs bl vL vK)
    (hG : ∀ k, F k → k < w.heap.size → G k) (ha : a < w.heap.size) (hz : w.heap.size ≤ w'.heap.size) (hb : ∀ k, F k → k ≠ a → k < w.heap.size → w'.heap[k]? = w.heap[k]?) : Rest w' G a page pages safe loose last keep bs bl vL vK :=
  ⟨hG a h.fa ha, hG bs h.fs (lt_of_some h.hs), hG bl h.fl (lt_of_some h.hl), h.n1, h.n2, h.n3, (hb bs h.fs h.n1 (lt_of_some h.hs)).trans h.hs, (hb bl h.fl h.n2 (lt_of_some h.hl)).trans h.hl, h.ns, h.nl, h.ws, h.p1, h.p2, h.q1, h.q2, h.q3,
    h.lo.keep hG fun k f1 f2 _ _ f5 => hb k f1 f2 f5, h.ke.keep hG hz (fun _ _ h => h) fun k f1 f2 _ _ _ f5 => hb k f1 f2 f5, h.lst, h.few⟩

set_option maxRecDepth 100000 in
/-- The device stays through what leaves its blocks alone. -/
theorem Dv.keep {w w' : World} {F G : Nat → Prop} {a : Nat} {d : D} (h : Dv w F a d) (hG : ∀ k, F k → k < w.heap.size → G k) (hz : w.heap.size ≤ w'.heap.size) (hb : ∀ k, F k → k < w.heap.size → w'.heap[k]? = w.heap[k]?) : Dv w' G a d := by
  obtain ⟨bs, bl, vL, vK, ha, hr⟩ := h
  exact ⟨bs, bl, vL, vK, (hb a hr.fa (lt_of_some ha)).trans ha, hr.keep hG (lt_of_some ha) hz fun k f _ l => hb k f l⟩
set_option maxRecDepth 100000 in
theorem Dv.ch {w w' : World} {F H : Nat → Prop} {a : Nat} {d : D} (h : Dv w F a d) (hc : Ch H w w') (hd : ∀ k, k < w.heap.size → F k → ¬ H k) : Dv w' F a d :=
  h.keep (fun _ f _ => f) hc.size fun k f l => hc.block k l (hd k l f)
set_option maxRecDepth 100000 in
theorem Dv.on {w w' : World} {F : Nat → Prop} {a : Nat} {d : D} (h : Dv w F a d) {B : Nat} (hB : w.heap.size ≤ B) (hb : Below B w w') : Dv w' F a d :=
  h.keep (fun _ f _ => f) hb.size fun k _ l => hb.block k (by omega)
set_option maxRecDepth 100000 in
theorem Dv.drew {w : World} {F : Nat → Prop} {a : Nat} {d : D} (h : Dv w F a d) (n : Nat) : Dv (w.drewN n) F a d := h.keep (fun _ f _ => f) (Nat.le_refl _) fun _ _ _ => rfl

set_option maxRecDepth 100000 in
/-- A store into the struct itself. -/
theorem heap_setCell_self {w : World} {a i : Nat} {cs : List Value} {t : TypeId} {u : Value} (h : w.heap[a]? = some (.cells cs.toArray t (0, 0))) : (w.setCell ⟨a, i, none⟩ u).heap[a]? = some (.cells (cs.set i u).toArray t (0, 0)) := by
  have := setCell_eq_setRow w a i cs.toArray t (0, 0) u h
  rw [this, setRow_heap w a _ _ t _ h]
  simp
set_option maxRecDepth 100000 in
theorem cell_of_row {w : World} {a i : Nat} {cs : List Value} {t : TypeId} (h : w.heap[a]? = some (.cells cs.toArray t (0, 0))) : w.cell? ⟨a, i, none⟩ = cs[i]? := by simp [World.cell?, h]
set_option maxRecDepth 100000 in
theorem free_of_row {w : World} {a i : Nat} {cs : List Value} {t : TypeId} (h : w.heap[a]? = some (.cells cs.toArray t (0, 0))) : w.frozen? ⟨a, i, none⟩ = false := by simp [World.frozen?, h]

set_option maxRecDepth 100000 in
theorem Rest.self {w : World} {F : Nat → Prop} {a page pages : Nat} {safe : List Int} {loose : List (Nat × List Int)} {last keep : List Int} {bs bl : Nat} {vL vK : Value} (h : Rest w F a page pages safe loose last keep bs bl vL vK) (ha : a < w.heap.size) (i : Nat) (u : Value) : Rest (w.setCell ⟨a, i, none⟩ u) F a page pages safe loose last keep bs bl vL vK :=
  h.keep (fun _ f _ => f) ha (by simp [World.setCell]) fun k _ n _ => Below.heap_setCell _ _ _ _ n
end Go.Proofs.YtbnjojplfbibkaaGreatDoor
