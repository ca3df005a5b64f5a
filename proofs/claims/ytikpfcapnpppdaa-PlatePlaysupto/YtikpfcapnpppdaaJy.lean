/- What the texts on espalierref03.Book ask, in layer 3. -/
import Derived.Test.YtikpfcapnpppdaaPl
import Derived.Laws.AppendOwnNone
import Derived.Maps.AppendAt
import Derived.Maps.OwnSet
import Derived.Laws.OwnMore
import Derived.Handy
import Derived.Deep.RegionLaw
import Derived.Deep.QuietTactic
import Derived.BigQuiet
namespace Go.Proofs.Ytikpfcapnpppdaa
open Go.RowKit Go.Maps

set_option maxRecDepth 100000 in
theorem bl_al {B : Nat} {a w : World} (h : Below B a w) (hB : B ≤ a.heap.size) (o : Obj) : Below B a (w.alloc o) := h.alloc (Nat.le_trans hB h.size) o
set_option maxRecDepth 100000 in
theorem lt_some {w : World} {g : Nat} {o : Obj} (h : w.heap[g]? = some o) : g < w.heap.size := by
  rcases Nat.lt_or_ge g w.heap.size with hx | hx
  · exact hx
  · rw [Array.getElem?_eq_none hx] at h; cases h
set_option maxRecDepth 100000 in
theorem set_row {w : World} {a i : Nat} {cs : List Value} {t : TypeId} {u : Value} (h : w.heap[a]? = some (.cells cs.toArray t (0, 0))) : (w.setCell ⟨a, i, none⟩ u).heap[a]? = some (.cells (cs.set i u).toArray t (0, 0)) := by
  have := setCell_eq_setRow w a i cs.toArray t (0, 0) u h
  rw [this, setRow_heap w a _ _ t _ h]
  simp
set_option maxRecDepth 100000 in
theorem drop_cons (l : List Int) (k : Nat) (h : k < l.length) : l.drop k = l.getD k 0 :: l.drop (k + 1) := by
  rw [List.drop_eq_getElem_cons h]
  simp [List.getD, List.getElem?_eq_getElem h]
/-- What was grown lies where it lay, or in a new block; nothing else has turned. -/
structure Gr (w : World) (v : Value) (w' : World) (v' : Value) : Prop where
  grow : w.grownBy w' v.ownBlock
  own : v'.ownBlock = v.ownBlock ∨ ∃ k, v'.ownBlock = some k ∧ w.heap.size ≤ k
set_option maxRecDepth 100000 in
theorem Gr.ofBelow {w w' : World} (v : Value) (h : Below w.heap.size w w') : Gr w v w' v := ⟨⟨h.os, h.tape, h.output, h.size, fun k hk _ => h.block k hk⟩, .inl rfl⟩
set_option maxRecDepth 100000 in
theorem Gr.refl (w : World) (v : Value) : Gr w v w v := Gr.ofBelow v (Below.refl _ _)
set_option maxRecDepth 100000 in
theorem Gr.alloc (w : World) (v : Value) (o : Obj) : Gr w v (w.alloc o) v := Gr.ofBelow v ((Below.refl _ _).alloc (Nat.le_refl _) o)
set_option maxRecDepth 100000 in
theorem Gr.trans {w w1 w2 : World} {v v1 v2 : Value} (a : Gr w v w1 v1) (b : Gr w1 v1 w2 v2) : Gr w v w2 v2 := by
  have hs := a.grow.size
  refine ⟨⟨b.grow.os.trans a.grow.os, b.grow.tape.trans a.grow.tape, b.grow.output.trans a.grow.output, Nat.le_trans hs b.grow.size, fun k hk hne => ?_⟩, ?_⟩
  · refine (b.grow.block k (Nat.lt_of_lt_of_le hk hs) ?_).trans (a.grow.block k hk hne)
    rcases a.own with h | ⟨k', h, hk'⟩
    · rw [h]; exact hne
    · rw [h]; intro e; cases e; omega
  · rcases b.own with h | ⟨k', h, hk'⟩
    · rcases a.own with h' | ⟨k'', h', hk''⟩
      · exact .inl (h.trans h')
      · exact .inr ⟨k'', h.trans h', hk''⟩
    · exact .inr ⟨k', h, by omega⟩
set_option maxRecDepth 100000 in
theorem Gr.below {w w' : World} {v v' : Value} {B : Nat} {l : List Int} (h : Gr w v w' v') (hown : OwnB w B v l) (hB : B ≤ w.heap.size) : Below B w w' := own_below hown hB h.grow
/-- A slice that does not lie in what an owned value has. -/
def Far (ao : Option Addr) (n : Nat) (v : Value) : Prop := n = 0 ∨ ∀ p, ao = some p → v.ownBlock ≠ some p.block
set_option maxRecDepth 100000 in
theorem Sl.gr {w w' : World} {v v' : Value} {ao : Option Addr} {n cap : Nat} {l : List Int} (h : Sl w ao n cap l) (hg : Gr w v w' v') (hf : Far ao n v) : Sl w' ao n cap l := by
  refine ⟨h.hlen, h.hcap, h.hroom, h.wf, h.hnil, ?_⟩
  rcases h.hat with h0 | ⟨b, off, e, hlt, hc⟩
  · exact .inl h0
  · rcases hf with h0 | hf
    · exact .inl h0
    · refine .inr ⟨b, off, e, Nat.lt_of_lt_of_le hlt hg.grow.size, fun i hi => ?_⟩
      rw [← hc i hi]
      exact World.cell?_of_block (hg.grow.block b hlt (fun e2 => hf _ e e2.symm))
set_option maxRecDepth 100000 in
theorem Far.gr {w w' : World} {v v' : Value} {ao : Option Addr} {n cap : Nat} {l : List Int} (hf : Far ao n v) (h : Sl w ao n cap l) (hg : Gr w v w' v') : Far ao n v' := by
  rcases hf with h0 | hf
  · exact .inl h0
  · rcases h.hat with h0 | ⟨b, off, rfl, hlt, hc⟩
    · exact .inl h0
    · right
      intro p hp
      injection hp with hp
      subst hp
      rcases hg.own with e | ⟨k, e, hk⟩
      · rw [e]; exact hf _ rfl
      · rw [e]; intro h; injection h with h; simp only at h; omega
set_option maxRecDepth 100000 in
theorem OwnB.low {w : World} {B C : Nat} {v : Value} {l : List Int} (h : OwnB w C v l) (hB : B ≤ C) : OwnB w B v l := by
  unfold OwnB at *
  rcases h.2 with h2 | ⟨g, cap, cur, e, hg, rest⟩
  · exact ⟨h.1, .inl h2⟩
  · exact ⟨h.1, .inr ⟨g, cap, cur, e, Nat.le_trans hB hg, rest⟩⟩
set_option maxRecDepth 100000 in
theorem OwnB.far {w : World} {B : Nat} {v : Value} {l : List Int} (h : OwnB w B v l) {ao : Option Addr} {n : Nat} (hb : ∀ p, ao = some p → p.block < B) : Far ao n v := by
  right
  intro p hp e
  have := hb p hp
  unfold OwnB at h
  have h2 := (h.lt p.block e).1
  omega

/-- Behind w' all blocks that w had are as they were, but those of F. -/
structure Cf (F : Nat → Prop) (w w' : World) : Prop where
  os : w'.os = w.os
  tape : w'.tape = w.tape
  output : w'.output = w.output
  size : w.heap.size ≤ w'.heap.size
  block : ∀ k, k < w.heap.size → ¬ F k → w'.heap[k]? = w.heap[k]?
set_option maxRecDepth 100000 in
theorem Cf.refl (F : Nat → Prop) (w : World) : Cf F w w := ⟨rfl, rfl, rfl, Nat.le_refl _, fun _ _ _ => rfl⟩
set_option maxRecDepth 100000 in
theorem Cf.trans {F G : Nat → Prop} {a b c : World} (h : Cf F a b) (k : Cf G b c) (hG : ∀ i, i < a.heap.size → G i → F i) : Cf F a c :=
  ⟨k.os.trans h.os, k.tape.trans h.tape, k.output.trans h.output, Nat.le_trans h.size k.size, fun i hi hf => (k.block i (Nat.lt_of_lt_of_le hi h.size) fun g => hf (hG i hi g)).trans (h.block i hi hf)⟩
set_option maxRecDepth 100000 in
theorem Cf.go {F : Nat → Prop} {a b c : World} (h : Cf F a b) (k : Cf F b c) : Cf F a c := h.trans k fun _ _ g => g
set_option maxRecDepth 100000 in
theorem Cf.of_below {F : Nat → Prop} {a b : World} (h : Below a.heap.size a b) : Cf F a b := ⟨h.os, h.tape, h.output, h.size, fun k hk _ => h.block k hk⟩
set_option maxRecDepth 100000 in
theorem Cf.below {F : Nat → Prop} {a b : World} {B : Nat} (h : Cf F a b) (hB : B ≤ a.heap.size) (hF : ∀ k, k < B → ¬ F k) : Below B a b := ⟨h.os, h.tape, h.output, h.size, fun k hk => h.block k (by omega) (hF k hk)⟩
set_option maxRecDepth 100000 in
theorem Cf.alloc (F : Nat → Prop) (w : World) (o : Obj) : Cf F w (w.alloc o) := ⟨rfl, rfl, rfl, by simp, fun k hk _ => Below.heap_alloc _ _ _ hk⟩
set_option maxRecDepth 100000 in
theorem Cf.setCell {F : Nat → Prop} (w : World) {p : Addr} (hp : F p.block) (u : Value) : Cf F w (w.setCell p u) :=
  ⟨rfl, rfl, rfl, by simp [World.setCell], fun k _ hk => Below.heap_setCell _ _ _ _ fun e => hk (e ▸ hp)⟩
set_option maxRecDepth 100000 in
theorem Cf.drew (F : Nat → Prop) (w : World) (n : Nat) : Cf F w (w.drewN n) := ⟨rfl, rfl, rfl, Nat.le_refl _, fun _ _ _ => rfl⟩
set_option maxRecDepth 100000 in
theorem Cf.turned {F : Nat → Prop} {w w' : World} {m : Nat} (h : w.mapTurned w' m) (hm : F m) : Cf F w w' := by
  have hg := h.grown
  exact ⟨hg.os, hg.tape, hg.output, hg.size, fun k hk hf => hg.block k hk (fun e => by cases e; exact hf hm)⟩
set_option maxRecDepth 100000 in
theorem Sl.cf {w w' : World} {ao : Option Addr} {n cap : Nat} {l : List Int} {F : Nat → Prop} (h : Sl w ao n cap l) (hc : Cf F w w') (hf : n = 0 ∨ ∀ p, ao = some p → ¬ F p.block) : Sl w' ao n cap l := by
  refine ⟨h.hlen, h.hcap, h.hroom, h.wf, h.hnil, ?_⟩
  rcases h.hat with h0 | ⟨b, off, e, hlt, hcc⟩
  · exact .inl h0
  · rcases hf with h0 | hf
    · exact .inl h0
    · refine .inr ⟨b, off, e, Nat.lt_of_lt_of_le hlt hc.size, fun i hi => ?_⟩
      rw [← hcc i hi]
      exact World.cell?_of_block (hc.block b hlt (hf _ e))


set_option maxRecDepth 100000 in
theorem Gr.cf {w w' : World} {v v' : Value} (h : Gr w v w' v') : Cf (fun k => v.ownBlock = some k) w w' := ⟨h.grow.os, h.grow.tape, h.grow.output, h.grow.size, fun k hk hf => h.grow.block k hk (fun e => hf e.symm)⟩
set_option maxRecDepth 100000 in
theorem Cf.wide {F G : Nat → Prop} {a b : World} (h : Cf F a b) (hg : ∀ k, F k → G k) : Cf G a b := ⟨h.os, h.tape, h.output, h.size, fun k hk hf => h.block k hk (fun e => hf (hg k e))⟩
set_option maxRecDepth 100000 in
theorem Cf.thenB {F : Nat → Prop} {a b c : World} (h : Cf F a b) (k : Below a.heap.size b c) : Cf F a c :=
  ⟨k.os.trans h.os, k.tape.trans h.tape, k.output.trans h.output, Nat.le_trans h.size k.size, fun i hi hf => (k.block i hi).trans (h.block i hi hf)⟩
set_option maxRecDepth 100000 in
theorem OwnB.cf {w w' : World} {B : Nat} {v : Value} {l : List Int} {F : Nat → Prop} (h : OwnB w B v l) (hc : Cf F w w') (hf : ∀ k, v.ownBlock = some k → ¬ F k) : OwnB w' B v l := by
  unfold OwnB at *
  rcases h.2 with h2 | ⟨g, cap, cur, e, hg, hh, rest⟩
  · exact ⟨h.1, .inl h2⟩
  · refine ⟨h.1, .inr ⟨g, cap, cur, e, hg, ?_, rest⟩⟩
    rw [hc.block g (lt_some hh) (hf g (by rw [e]; rfl))]
    exact hh
set_option maxRecDepth 100000 in
theorem OwnB.cfX {w w' : World} {B : Nat} {v : Value} {l : List Int} {F : Nat → Prop} (h : OwnB w B v l) (hc : Cf F w w') (hf : ∀ k, v.ownBlock = some k → ¬ F k) : OwnB w' B v l := h.cf hc hf
set_option maxRecDepth 100000 in
theorem OwnB.sl2 {w : World} {B : Nat} {ao : Option Addr} {n c : Nat} {l : List Int} (h : OwnB w B (.slice ao n c) l) (hw : Wf l) (hl : l.length ≤ 140737488355328) : Sl w ao n c l := by
  obtain ⟨ao', c', e, hs, _⟩ := h.sl hw hl
  injection e with e1 e2 e3
  subst e1 e3
  rw [← e2] at hs
  exact hs
set_option maxRecDepth 100000 in
theorem OwnB.blk {w : World} {B : Nat} {v : Value} {l : List Int} (h : OwnB w B v l) {k : Nat} (hk : v.ownBlock = some k) : B ≤ k ∧ k < w.heap.size := by
  unfold OwnB at h
  exact h.lt k hk
end Go.Proofs.Ytikpfcapnpppdaa

/- espalierref03.Book, in layer 3: the marks. -/

namespace Go.Proofs.Ytikpfcapnpppdaa
open Go.RowKit

/-- The k-th byte of the i-th list. -/
def mqB (i k : Nat) : Int := (((i + k / 251) % 256 : Nat) : Int)
def mkL (i : Nat) : Nat → List Int
  | 0 => []
  | n + 1 => mkL i n ++ [mqB i n]
set_option maxRecDepth 100000 in
theorem mqB_ok (i k : Nat) : 0 ≤ mqB i k ∧ mqB i k ≤ 255 := by
  unfold mqB
  omega
set_option maxRecDepth 100000 in
theorem mkL_length (i : Nat) : ∀ n, (mkL i n).length = n
  | 0 => rfl
  | n + 1 => by simp [mkL, mkL_length i n]
set_option maxRecDepth 100000 in
theorem mkL_wf (i : Nat) : ∀ n, Wf (mkL i n)
  | 0 => Wf.nil
  | n + 1 => (mkL_wf i n).append (Wf.cons (mqB_ok i n) Wf.nil)
set_option maxRecDepth 100000 in
theorem mkL_get (i : Nat) : ∀ n k, k < n → (mkL i n).getD k 0 = mqB i k
  | 0, k, h => by omega
  | n + 1, k, h => by
    unfold mkL
    by_cases e : k < n
    · rw [show (mkL i n ++ [mqB i n]).getD k 0 = (mkL i n).getD k 0 from by simp [List.getD, List.getElem?_append_left (show k < (mkL i n).length by rw [mkL_length]; exact e)]]
      exact mkL_get i n k e
    · obtain rfl : k = n := by omega
      simp [List.getD, mkL_length]
set_option maxRecDepth 100000 in
theorem mark_run (i k : Nat) (_ : i ≤ 1000000) (_ : k ≤ 140737488355328) : Int.tdiv (k : Int) 251 = ((k / 251 : Nat) : Int) ∧ IntKind.u8.wrap ((i : Int) + ((k / 251 : Nat) : Int)) = mqB i k := by
  constructor
  · rw [Int.tdiv_eq_ediv_of_nonneg (by omega)]
    rfl
  · rw [IntKind.wrap_u8]
    unfold mqB
    omega
set_option maxRecDepth 100000 in
theorem marked_any (ao : Option Addr) (n cap i : Nat) (w : World) (hs : Sl w ao n cap (mkL i n)) (hi : i ≤ 1000000) : Calls Try.prog 59 #[.slice ao n cap, .int .i64 (i : Int)] w fun e u => e = .returned (.bool true) ∧ u = w := by
  have HS := hidden hs
  have hr := hs.hroom
  have hrI : (n : Int) ≤ 140737488355328 := by omega
  have hiI : (i : Int) ≤ 1000000 := by omega
  clear hs
  go_enter Try.func59, Try.ntmps59
  go_wp2_with fail
  go_loop [5] (fun x => ∃ k : Nat, k ≤ n ∧ x = .int .i64 (k : Int)) (fun x => n - (RowKit.intOf x).toNat)
  case atStart => exact ⟨0, by omega, rfl⟩
  case round =>
    obtain ⟨k, hk, rfl⟩ := hrel
    by_cases hlt : k < n
    · have hltI : (k : Int) < (n : Int) := by omega
      obtain ⟨b, off, rfl, hb, hc⟩ : ∃ b off, ao = some ⟨b, off, none⟩ ∧ b < w.heap.size ∧ ∀ j, j < n → w.cell? ⟨b, off + j, none⟩ = some (.int .u8 ((mkL i n).getD j 0)) := by
        rcases HS.out.hat with h | h
        · omega
        · exact h
      have hck := hc k hlt
      rw [mkL_get i n k hlt] at hck
      obtain ⟨m1, m2⟩ := mark_run i k hi (by omega)
      have m3 := mqB_ok i k
      obtain ⟨q, hq⟩ : ∃ q, k / 251 = q := ⟨_, rfl⟩
      rw [hq] at m1 m2
      have hqk : (q : Int) ≤ (k : Int) := by have := Nat.div_le_self k 251; omega
      have m4 : IntKind.i64.wrap ((i : Int) + (q : Int)) = (i : Int) + (q : Int) := by rw [IntKind.wrap_i64]; omega
      have m5 : IntKind.i64.wrap (q : Int) = (q : Int) := by rw [IntKind.wrap_i64]; omega
      generalize mqB i k = y at *
      clear hc hq
      go_wp2
      go_round
      case rel => exact ⟨k + 1, by omega, by go_num⟩
      case measure => simp [RowKit.intOf]; omega
    · obtain rfl : k = n := by omega
      have hlI : ¬ (k : Int) < (k : Int) := by omega
      go_wp2
      go_ret
      exact ⟨rfl, rfl⟩
set_option maxRecDepth 100000 in
/-- append(x, y): in its place, or anew. -/
theorem app_one (w : World) (B : Nat) (ty : TypeId) (v : Value) (l : List Int) (y : Int) (b : Nat) (hown : OwnB w B v l) (hc : w.cell? ⟨b, 0, none⟩ = some (.int .u8 y)) (hb : l.length + 1 ≤ 140737488355328) (hB : B ≤ w.heap.size) :
    ∃ v' w', (Builtin.append_ #[35, 35] ty #[v, .slice (some ⟨b, 0, none⟩) 1 1]).run Try.prog w = .ok v' w' ∧ OwnB w' B v' (l ++ [y]) ∧
      ((v'.ownBlock = v.ownBlock ∧ w.grownBy w' v.ownBlock) ∨ (Below w.heap.size w w' ∧ ∀ k, v'.ownBlock = some k → w.heap.size ≤ k)) := by
  obtain ⟨i0, hi, hz0, hz1, hz2⟩ := info_parts info5
  have hnews : ∀ j u, (By [y])[j]? = some u → w.cell? ((⟨b, 0, none⟩ : Addr).add j) = some u := fun j u hu => by
    obtain ⟨h1, rfl⟩ := getElem?_By [y] j u hu
    have hj : j = 0 := by simpa using h1
    subst hj
    simpa [Addr.add_lit] using hc
  obtain ⟨v', w', hr, h2, h3, h4⟩ := run_append_own (P := Try.prog) w B 35 ty 5 i0 (.int .u8 0) 1 1 Try.underlying35 hi hz0 hz1 hz2 rfl (by decide) v l.length (By l) hown ⟨b, 0, none⟩ 1 1 (By [y]) rfl hnews (By_one [y]) (by unfold maxLen; omega) (by omega) hB
  refine ⟨v', w', hr, ?_, ?_⟩
  · unfold OwnB
    rw [By_append, List.length_append]
    exact h2
  · rcases hown.2 with ⟨rfl, h0⟩ | ⟨g, cap, cur, rfl, hbg, hg, hnc, hcm, hcs, htake⟩
    · have hr' := run_append_nil (P := Try.prog) w 35 ty 5 i0 (.int .u8 0) Try.underlying35 hi hz0 ⟨b, 0, none⟩ 1 1 (By [y]) (by rw [hz1]; rfl) hnews (by omega) (by omega) (by rw [hz2]; omega)
      rw [hr] at hr'
      injection hr' with e1 e2
      refine .inr ⟨by rw [e2]; exact (Below.refl _ _).drew.alloc (Nat.le_refl _) _, fun k hk => ?_⟩
      rw [e1] at hk
      injection hk with hk
      have : w.heap.size = k := hk
      omega
    · by_cases hroom : l.length + 1 ≤ cap
      · have hr' := run_append_room (P := Try.prog) w 35 ty 5 i0 Try.underlying35 hi g l.length cap cur hg ⟨b, 0, none⟩ 1 1 (By [y]) (by rw [hz1]; rfl) hnews (By_one [y]) hroom (by rw [hz1]; simp only [By_length, List.length_cons, List.length_nil]; omega)
        rw [hr] at hr'
        injection hr' with e1 e2
        exact .inl ⟨by rw [e1]; rfl, h3⟩
      · have holds : ∀ j u, (By l)[j]? = some u → w.cell? ((⟨g, 0, none⟩ : Addr).add j) = some u := World.ownsRow.cells (show w.ownsRow B 5 1 _ _ _ from hown) (g := g) rfl
        have hr' := run_append_grow (P := Try.prog) w 35 ty 5 i0 (.int .u8 0) Try.underlying35 hi hz0 ⟨g, 0, none⟩ l.length cap (By l) (by rw [hz1]; simp [By]) holds ⟨b, 0, none⟩ 1 1 (By [y]) (by rw [hz1]; rfl) hnews (by omega) (by omega) (by rw [hz2]; exact growslice_fits (by omega) (by omega))
        rw [hr] at hr'
        injection hr' with e1 e2
        refine .inr ⟨by rw [e2]; exact (Below.refl _ _).drew.alloc (Nat.le_refl _) _, fun k hk => ?_⟩
        rw [e1] at hk
        injection hk with hk
        have : w.heap.size = k := hk
        omega
/-- A slice of the marks i that is not touched, or that what is grown begins with. -/
structure Pk (w : World) (x : Value) (i L : Nat) (ao : Option Addr) (n cap j : Nat) : Prop where
  sl : Sl w ao n cap (mkL j n)
  far : Far ao n x ∨ (j = i ∧ n ≤ L ∧ ∃ g, ao = some ⟨g, 0, none⟩ ∧ x.ownBlock = some g)
set_option maxRecDepth 100000 in
theorem OwnB.marks {w : World} {B : Nat} {x : Value} {i L g : Nat} (h : OwnB w B x (mkL i L)) (hg : x.ownBlock = some g) {n cap : Nat} (hn : n ≤ L) (hc : n ≤ cap) (hr : n ≤ 140737488355328) : Sl w (some ⟨g, 0, none⟩) n cap (mkL i n) := by
  have hb := h
  unfold OwnB at hb
  rcases hb.2 with ⟨rfl, _⟩ | ⟨g', c, cur, rfl, _, hh, _⟩
  · cases hg
  · injection hg with hg
    have hg' : g' = g := hg
    subst hg'
    refine ⟨mkL_length i n, hc, hr, mkL_wf i n, (by intro h; cases h), .inr ⟨g', 0, rfl, lt_some hh, fun k hk => ?_⟩⟩
    rw [Nat.zero_add, own_cell h rfl (by rw [mkL_length]; omega), mkL_get i L k (by omega), mkL_get i n k hk]
set_option maxRecDepth 100000 in
theorem Pk.app {w w' : World} {B : Nat} {x x' : Value} {i L : Nat} {ao : Option Addr} {n cap j : Nat} (h : Pk w x i L ao n cap j) (ho : OwnB w' B x' (mkL i (L + 1)))
    (hc : (x'.ownBlock = x.ownBlock ∧ w.grownBy w' x.ownBlock) ∨ (Below w.heap.size w w' ∧ ∀ k, x'.ownBlock = some k → w.heap.size ≤ k)) : Pk w' x' i (L + 1) ao n cap j := by
  rcases hc with ⟨e, hg⟩ | ⟨hb, hn⟩
  · rcases h.far with hf | ⟨rfl, hl, g, rfl, hx⟩
    · refine ⟨h.sl.gr (v' := x') ⟨hg, .inl e⟩ hf, .inl ?_⟩
      rcases hf with hf | hf
      · exact .inl hf
      · right
        rw [e]
        exact hf
    · exact ⟨ho.marks (by rw [e]; exact hx) (by omega) h.sl.hcap h.sl.hroom, .inr ⟨rfl, by omega, g, rfl, by rw [e]; exact hx⟩⟩
  · refine ⟨h.sl.on (Nat.le_refl _) hb, .inl ?_⟩
    rcases h.sl.hat with h0 | ⟨b, off, rfl, hlt, _⟩
    · exact .inl h0
    · right
      intro p hp e
      cases hp
      have := hn _ e
      simp only at this
      omega
set_option maxRecDepth 100000 in
theorem Pk.on {w w' : World} {x : Value} {i L : Nat} {ao : Option Addr} {n cap j : Nat} (h : Pk w x i L ao n cap j) (hb : Below w.heap.size w w') : Pk w' x i L ao n cap j := ⟨h.sl.on (Nat.le_refl _) hb, h.far⟩
end Go.Proofs.Ytikpfcapnpppdaa

/- espalierref03.Book, in layer 3 (Ob). -/

namespace Go.Proofs.Ytikpfcapnpppdaa
open Go.RowKit

set_option maxRecDepth 100000 in
theorem infoSl9 : (Try.prog.info? 35).map (fun i => (i.zero, i.size, i.bytes)) = some (some (.slice none 0 0), 1, 24) := by kernel_rfl
/-- The slice value v owns the values xs. -/
def OwnX (w : World) (B : Nat) (v : Value) (xs : List Value) : Prop := w.ownsRow B 35 1 v xs.length xs
set_option maxRecDepth 100000 in
theorem OwnX.nil (w : World) (B : Nat) : OwnX w B (.slice none 0 0) [] := World.ownsRow_nil w B 35 1
set_option maxRecDepth 100000 in
theorem u8_neX : 5 ≠ 35 := by decide
set_option maxRecDepth 100000 in
theorem bk_neX : 67 ≠ 35 := by decide
set_option maxRecDepth 100000 in
theorem bk_ne8 : 67 ≠ 5 := by decide
set_option maxRecDepth 100000 in
/-- A row of values is not a block of another type. -/
theorem OwnX.noty {w : World} {B : Nat} {v : Value} {xs : List Value} (h : OwnX w B v xs) {g : Nat} {c : Array Value} {t : TypeId} {fz : Nat × Nat} (hg : w.heap[g]? = some (.cells c t fz)) (ht : t ≠ 35) : v.ownBlock ≠ some g := by
  intro e
  rcases h.2 with ⟨rfl, _⟩ | ⟨k, cap, cur, rfl, _, hk, _⟩
  · cases e
  · injection e with e
    have e' : k = g := e
    rw [← e', hk] at hg
    injection hg with hg
    injection hg with _ h2 _
    exact ht h2.symm
set_option maxRecDepth 100000 in
theorem OwnB.noty {w : World} {B : Nat} {v : Value} {l : List Int} (h : OwnB w B v l) {g : Nat} {c : Array Value} {t : TypeId} {fz : Nat × Nat} (hg : w.heap[g]? = some (.cells c t fz)) (ht : t ≠ 5) : v.ownBlock ≠ some g := by
  intro e
  unfold OwnB at h
  rcases h.2 with ⟨rfl, _⟩ | ⟨k, cap, cur, rfl, _, hk, _⟩
  · cases e
  · injection e with e
    have e' : k = g := e
    rw [← e', hk] at hg
    injection hg with hg
    injection hg with _ h2 _
    exact ht h2.symm
set_option maxRecDepth 100000 in
theorem OwnX.noB {w : World} {B C : Nat} {v u : Value} {xs : List Value} {l : List Int} (h : OwnX w B v xs) (k : OwnB w C u l) : v.ownBlock = none ∨ v.ownBlock ≠ u.ownBlock := by
  have k2 := k
  unfold OwnB at k2
  rcases k2.2 with ⟨rfl, _⟩ | ⟨g, cap, cur, rfl, _, hk, _⟩
  · cases e : v.ownBlock with
    | none => exact .inl rfl
    | some _ => right; simp [Value.ownBlock]
  · exact .inr (h.noty hk u8_neX)
set_option maxRecDepth 100000 in
theorem OwnX.kept {w w' : World} {B : Nat} {v : Value} {xs : List Value} {row : Option Nat} (h : OwnX w B v xs) (hg : w.grownBy w' row) (hne : v.ownBlock = none ∨ v.ownBlock ≠ row) : OwnX w' B v xs := World.ownsRow.kept h hg hne
set_option maxRecDepth 100000 in
theorem OwnX.on {w w' : World} {B : Nat} {v : Value} {xs : List Value} (h : OwnX w B v xs) (hb : Below w.heap.size w w') : OwnX w' B v xs := h.kept (row := none) ⟨hb.os, hb.tape, hb.output, hb.size, fun k hk _ => hb.block k hk⟩ (by
  cases e : v.ownBlock with
  | none => exact .inl rfl
  | some k => exact .inr (by simp))
set_option maxRecDepth 100000 in
theorem OwnX.cells {w : World} {B : Nat} {v : Value} {xs : List Value} (h : OwnX w B v xs) : ∃ ao cap, v = .slice ao xs.length cap ∧ (xs.length = 0 ∨ ∃ g, ao = some ⟨g, 0, none⟩ ∧ xs.length ≤ cap ∧ ∀ (t : Nat) (u : Value), xs[t]? = some u → w.cell? ⟨g, t, none⟩ = some u) := by
  rcases h.2 with ⟨rfl, h0⟩ | ⟨g, cap, cur, rfl, hg, hh, hnc, hm, hs, ht⟩
  · exact ⟨none, 0, by rw [h0], .inl h0⟩
  · refine ⟨_, cap, rfl, .inr ⟨g, rfl, hnc, fun t u hu => ?_⟩⟩
    have hlt := (List.getElem?_eq_some_iff.1 hu).1
    have := World.ownsRow.cellAt h t (by omega)
    rw [this]
    exact hu
set_option maxRecDepth 100000 in
/-- 'append(got, b)'. -/
theorem app_x {ops : Array Oper} {rest : List Oper} {o : Oper} {a : Act} {Q : Exit → Act → World → Prop} (w : World) (hgd : o.guard = none) (s x : Operand)
    (ho : o.op = .call { callee := .builtin .append, args := #[s, x], argTypes := #[30, 30] }) (B : Nat) (xs : List Value) (v y : Value) (hs : a.eval s = v) (h1 : y.oneCell' = true)
    (hown : OwnX w B v xs) (b : Nat) (hx : a.eval x = .slice (some ⟨b, 0, none⟩) 1 1) (hc : w.cell? ⟨b, 0, none⟩ = some y) (hb : xs.length + 1 ≤ 100000000) (hbase : B ≤ w.heap.size)
    (h : ∀ v' w', OwnX w' B v' (xs ++ [y]) → Gr w v w' v' → wpList Try.prog ops Q rest (a.put o.dst v') w') : wpList Try.prog ops Q (o :: rest) a w := by
  obtain ⟨i0, hi, hz0, hz1, hz2⟩ := info_parts infoSl9
  refine wpList_append_own_at w hgd s x 30 ho B 35 i0 (.slice none 0 0) 1 24 Try.underlying30 hi hz0 hz1 hz2 rfl (by decide) v xs.length xs hs hown ⟨b, 0, none⟩ 1 1 [y] hx rfl
    (fun j u hu => by
      have hj : j = 0 := by
        have := (List.getElem?_eq_some_iff.1 hu).1
        simpa using this
      subst hj
      simp at hu
      subst hu
      simpa [Addr.add_lit] using hc) (fun u hu => by simp at hu; subst hu; exact h1) (by unfold maxLen; omega) (by omega) hbase ?_
  intro v' w' h1 h2 _ h4
  refine h v' w' ?_ ⟨h2, h4.imp id fun e => ⟨_, e, Nat.le_refl _⟩⟩
  unfold OwnX
  rw [List.length_append]
  exact h1
/-- A BOOK IN MEMORY: the lists V, list t has the bytes D t. -/
structure Bo9 (w : World) (B bk : Nat) (v : Value) (V : List Value) (D : Nat → List Int) : Prop where
  box : w.heap[bk]? = some (.cells #[v] 67 (0, 0))
  row : OwnX w B v V
  own : ∀ (t : Nat) (u : Value), V[t]? = some u → OwnB w B u (D t) ∧ Wf (D t) ∧ (D t).length ≤ 67108864
  ne : ∀ (t t' : Nat) (u u' : Value), V[t]? = some u → V[t']? = some u' → t ≠ t' → u.ownBlock = none ∨ u.ownBlock ≠ u'.ownBlock
set_option maxRecDepth 100000 in
theorem own_shape {w : World} {B : Nat} {u : Value} {l : List Int} (h : OwnB w B u l) : ∃ ao c, u = .slice ao l.length c ∧ (l.length = 0 ∨ ∃ g, ao = some ⟨g, 0, none⟩ ∧ B ≤ g) := by
  have h2 := h
  unfold OwnB at h2
  rcases h2.2 with ⟨rfl, h0⟩ | ⟨g, cap, cur, rfl, hg, _⟩
  · exact ⟨none, 0, by rw [h0], .inl h0⟩
  · exact ⟨_, cap, rfl, .inr ⟨g, rfl, hg⟩⟩
set_option maxRecDepth 100000 in
theorem Bo9.set {w : World} {B bk : Nat} {v : Value} {V : List Value} {D : Nat → List Int} (h : Bo9 w B bk v V D) {i g n c k : Nat} {y : Int} (hi : V[i]? = some (.slice (some ⟨g, 0, none⟩) n c)) (hn : (D i).length = n) (hk : k < n) (hy : 0 ≤ y ∧ y ≤ 255) :
    Bo9 (w.setCell ⟨g, k, none⟩ (.int .u8 y)) B bk v V (fun t => if t = i then (D i).set k y else D t) := by
  obtain ⟨ho, hw, hl⟩ := h.own i _ hi
  have hgu : (Value.slice (some ⟨g, 0, none⟩) n c).ownBlock = some g := rfl
  have hc : Cf (· = g) w (w.setCell ⟨g, k, none⟩ (.int .u8 y)) := Cf.setCell (F := (· = g)) w (p := ⟨g, k, none⟩) rfl _
  have hgr : w.grownBy (w.setCell ⟨g, k, none⟩ (.int .u8 y)) (some g) := ⟨hc.os, hc.tape, hc.output, hc.size, fun q hq hne => hc.block q hq (fun e => hne (by rw [e]))⟩
  refine ⟨(hc.block bk (lt_some h.box) (fun e => ho.noty h.box bk_ne8 (by rw [hgu, e]))).trans h.box, h.row.kept hgr ?_, fun t u ht => ?_, h.ne⟩
  · rcases h.row.noB ho with e | e
    · exact .inl e
    · exact .inr e
  · by_cases e : t = i
    · subst e
      rw [hi] at ht
      cases ht
      simp only [if_true]
      refine ⟨own_set ho hn hk, ?_, by rw [List.length_set]; exact hl⟩
      intro z hz
      rcases List.mem_or_eq_of_mem_set hz with hz | hz
      · exact hw z hz
      · rw [hz]; exact hy
    · simp only [if_neg e]
      obtain ⟨o2, w2, l2⟩ := h.own t u ht
      exact ⟨World.ownsRow.kept o2 hgr (by
        rcases h.ne t i u _ ht hi e with e2 | e2
        · exact .inl e2
        · exact .inr e2), w2, l2⟩
set_option maxRecDepth 100000 in
theorem Bo9.on {w w' : World} {B bk : Nat} {v : Value} {V : List Value} {D : Nat → List Int} (h : Bo9 w B bk v V D) (hb : Below w.heap.size w w') : Bo9 w' B bk v V D :=
  ⟨(hb.block _ (lt_some h.box)).trans h.box, h.row.on hb, fun t u ht => ⟨(h.own t u ht).1.on (Nat.le_refl _) hb, (h.own t u ht).2⟩, h.ne⟩
set_option maxRecDepth 100000 in
theorem Bo9.cong {w : World} {B bk : Nat} {v : Value} {V : List Value} {D E : Nat → List Int} (h : Bo9 w B bk v V D) (he : ∀ t, t < V.length → D t = E t) : Bo9 w B bk v V E :=
  ⟨h.box, h.row, fun t u ht => by rw [← he t (List.getElem?_eq_some_iff.1 ht).1]; exact h.own t u ht, h.ne⟩
set_option maxRecDepth 100000 in
/-- Take. -/
theorem take9 (w : World) (B bk : Nat) (v : Value) (V : List Value) (D : Nat → List Int) (ao : Option Addr) (n c : Nat) (l : List Int) (h : Bo9 w B bk v V D) (hn : V.length ≤ 1000000) (hB : B ≤ w.heap.size) (ho : OwnB w B (.slice ao n c) l) (hw : Wf l) (hl : l.length ≤ 67108864)
    (hne : ∀ (t : Nat) (u : Value), V[t]? = some u → u.ownBlock = none ∨ u.ownBlock ≠ (Value.slice ao n c).ownBlock) :
    Calls Try.prog 41 #[.pointer (some ⟨bk, 0, none⟩), .slice ao n c] w fun e w' => e = .returned (.tuple #[]) ∧ Hid (∃ v', Bo9 w' B bk v' (V ++ [.slice ao n c]) (fun t => if t < V.length then D t else l) ∧ Cf (fun k => k = bk ∨ v.ownBlock = some k) w w') := by
  have hbx := h.box
  have c0 : w.cell? ⟨bk, 0, none⟩ = some v := by rw [_root_.Go.cell_of_row _ _ 0 _ _ _ hbx]; rfl
  have f0 : w.frozen? ⟨bk, 0, none⟩ = false := by simp [World.frozen?, hbx]
  obtain ⟨x, hx⟩ : ∃ x, w.alloc (.cells #[.slice ao n c] 35) = x := ⟨_, rfl⟩
  have hbx2 : Below w.heap.size w x := by rw [← hx]; exact bl_al (Below.refl _ _) (Nat.le_refl _) _
  have hcx : x.cell? ⟨w.heap.size, 0, none⟩ = some (.slice ao n c) := by rw [← hx]; simp
  have HX := hidden (h.on hbx2)
  have HOX : Hid (OwnB x B (.slice ao n c) l) := hidden (ho.on (Nat.le_refl _) hbx2)
  have hxs : B ≤ x.heap.size := Nat.le_trans hB hbx2.size
  have HBX := hidden hbx2
  have HNE := hidden hne
  have c0x : x.cell? ⟨bk, 0, none⟩ = some v := (hbx2.cell (p := ⟨bk, 0, none⟩) (lt_some hbx)).trans c0
  clear h ho hne hbx hbx2
  go_enter Try.func41, Try.ntmps41
  go_wp2_with (at_builtin; refine app_x _ rfl _ _ rfl B V v (.slice ao n c) rfl rfl HX.out.row w.heap.size rfl hcx (by omega) hxs ?_; refine Hid.out ?_)
  apply hidden
  intro v' w1 ho1 hg1
  obtain ⟨vo, vn, vc, rfl⟩ : ∃ vo vn vc, v' = .slice vo vn vc := by
    obtain ⟨vo, vc, e, _⟩ := ho1.cells
    exact ⟨vo, _, vc, e⟩
  have hbk1 : v.ownBlock ≠ some bk := HX.out.row.noty HX.out.box bk_neX
  have hbox1 : w1.heap[bk]? = some (.cells #[v] 67 (0, 0)) := (hg1.cf.block bk (lt_some HX.out.box) hbk1).trans HX.out.box
  have c1 : ∃ z, w1.cell? ⟨bk, 0, none⟩ = some z := ⟨v, by rw [_root_.Go.cell_of_row _ _ 0 _ _ _ hbox1]; rfl⟩
  obtain ⟨z, c1⟩ := c1
  have f1 : w1.frozen? ⟨bk, 0, none⟩ = false := by simp [World.frozen?, hbox1]
  have hbk2 : (Value.slice vo vn vc).ownBlock ≠ some bk := ho1.noty hbox1 bk_neX
  have HF : Hid (Bo9 (w1.setCell ⟨bk, 0, none⟩ (.slice vo vn vc)) B bk (.slice vo vn vc) (V ++ [.slice ao n c]) (fun t => if t < V.length then D t else l) ∧ Cf (fun k => k = bk ∨ v.ownBlock = some k) w (w1.setCell ⟨bk, 0, none⟩ (.slice vo vn vc))) := hidden (by
    have hc2 : Cf (· = bk) w1 (w1.setCell ⟨bk, 0, none⟩ (.slice vo vn vc)) := Cf.setCell (F := (· = bk)) w1 (p := ⟨bk, 0, none⟩) rfl _
    have hgr2 : w1.grownBy (w1.setCell ⟨bk, 0, none⟩ (.slice vo vn vc)) (some bk) := ⟨hc2.os, hc2.tape, hc2.output, hc2.size, fun q hq hne => hc2.block q hq (fun e => hne (by rw [e]))⟩
    have keep : ∀ u d, OwnB x B u d → OwnB (w1.setCell ⟨bk, 0, none⟩ (.slice vo vn vc)) B u d := by
      intro u d hu
      have h1 : OwnB w1 B u d := World.ownsRow.kept hu hg1.grow (by
        rcases HX.out.row.noB hu with e | e
        · rw [e]
          cases e2 : u.ownBlock with
          | none => exact .inl rfl
          | some _ => exact .inr (by simp)
        · exact .inr fun e2 => e e2.symm)
      exact World.ownsRow.kept h1 hgr2 (.inr (h1.noty hbox1 bk_ne8))
    refine ⟨⟨?_, ho1.kept hgr2 (.inr hbk2), fun t u ht => ?_, fun t t' u u' ht ht' hne => ?_⟩, ((Cf.of_below HBX.out).go (hg1.cf.wide (fun k hk => .inr hk))).go (hc2.wide (fun k hk => .inl hk))⟩
    · have := set_row (w := w1) (a := bk) (cs := [v]) (i := 0) (u := .slice vo vn vc) hbox1
      simpa using this
    · by_cases e : t < V.length
      · rw [List.getElem?_append_left e] at ht
        rw [if_pos e]
        obtain ⟨a1, a2, a3⟩ := HX.out.own t u ht
        exact ⟨keep u _ a1, a2, a3⟩
      · have hlt := (List.getElem?_eq_some_iff.1 ht).1
        rw [List.length_append] at hlt
        simp only [List.length_cons, List.length_nil] at hlt
        obtain rfl : t = V.length := by omega
        rw [List.getElem?_concat_length] at ht
        cases ht
        rw [if_neg e]
        exact ⟨keep _ _ HOX.out, hw, hl⟩
    · have l1 := (List.getElem?_eq_some_iff.1 ht).1
      have l2 := (List.getElem?_eq_some_iff.1 ht').1
      rw [List.length_append] at l1 l2
      simp only [List.length_cons, List.length_nil] at l1 l2
      by_cases e : t < V.length
      · rw [List.getElem?_append_left e] at ht
        by_cases e' : t' < V.length
        · rw [List.getElem?_append_left e'] at ht'
          exact HX.out.ne t t' u u' ht ht' hne
        · obtain rfl : t' = V.length := by omega
          rw [List.getElem?_concat_length] at ht'
          cases ht'
          exact HNE.out t u ht
      · obtain rfl : t = V.length := by omega
        rw [List.getElem?_concat_length] at ht
        cases ht
        have e' : t' < V.length := by omega
        rw [List.getElem?_append_left e'] at ht'
        rcases HNE.out t' u' ht' with e2 | e2
        · rw [e2]
          cases e3 : (Value.slice ao n c).ownBlock with
          | none => exact .inl rfl
          | some _ => exact .inr (by simp)
        · exact .inr fun e3 => e2 e3.symm)
  clear ho1 hg1 hx hcx c0 f0
  go_wp2
  go_end0
  exact ⟨rfl, hidden ⟨_, HF.out⟩⟩
end Go.Proofs.Ytikpfcapnpppdaa

/- espalierref03.Book, in layer 3 (Oc). -/

namespace Go.Proofs.Ytikpfcapnpppdaa
open Go.RowKit

set_option maxRecDepth 100000 in
theorem app_run9 {ops : Array Oper} {rest : List Oper} {o : Oper} {a : Act} {w : World} {Q : Exit → Act → World → Prop} (hgd : o.guard = none) (s x : Operand) (t1 t2 : TypeId)
    (ho : o.op = .call { callee := .builtin .append, args := #[s, x], argTypes := #[t1, t2] }) (v u : Value) (hs : a.eval s = v) (hx : a.eval x = u) {v' : Value} {w' : World}
    (hr : (Builtin.append_ #[t1, t2] o.type #[v, u]).run Try.prog w = .ok v' w') (h : wpList Try.prog ops Q rest (a.put o.dst v') w') : wpList Try.prog ops Q (o :: rest) a w := by
  refine wpList_plain hgd fun K hK => ?_
  unfold Oper.wp execOp
  simp only [ho, resolve, invoke, builtin, Sem.run_bind, Sem.run_pure, Result.andThen_ok, List.map_toArray, List.map_cons, List.map_nil, hs, hx, hr]
  exact hK _ _ h
/-- The bytes lie in a block of bytes. -/
def U8 (w : World) (ao : Option Addr) (n : Nat) : Prop := n = 0 ∨ ∀ p, ao = some p → ∃ cs fz, w.heap[p.block]? = some (.cells cs 5 fz)
set_option maxRecDepth 100000 in
theorem U8.on {w w' : World} {ao : Option Addr} {n : Nat} (h : U8 w ao n) (hb : Below w.heap.size w w') : U8 w' ao n := h.imp id fun h p hp => by
  obtain ⟨cs, fz, e⟩ := h p hp
  exact ⟨cs, fz, (hb.block _ (lt_some e)).trans e⟩
set_option maxRecDepth 100000 in
theorem OwnB.u8 {w : World} {B : Nat} {x : Value} {l : List Int} (h : OwnB w B x l) {g : Nat} (hg : x.ownBlock = some g) : ∃ cs fz, w.heap[g]? = some (.cells cs 5 fz) := by
  unfold OwnB at h
  rcases h.2 with ⟨rfl, _⟩ | ⟨g', c, cur, rfl, _, hh, _⟩
  · cases hg
  · injection hg with hg
    have hg' : g' = g := hg
    rw [← hg']
    exact ⟨_, _, hh⟩
set_option maxRecDepth 100000 in
theorem U8.app {w w' : World} {B : Nat} {x x' : Value} {l : List Int} {ao : Option Addr} {n : Nat} (h : U8 w ao n) (ho : OwnB w' B x' l)
    (hc : (x'.ownBlock = x.ownBlock ∧ w.grownBy w' x.ownBlock) ∨ (Below w.heap.size w w' ∧ ∀ k, x'.ownBlock = some k → w.heap.size ≤ k)) : U8 w' ao n := by
  rcases hc with ⟨e, hg⟩ | ⟨hb, _⟩
  · refine h.imp id fun h p hp => ?_
    by_cases e2 : x.ownBlock = some p.block
    · exact ho.u8 (by rw [e]; exact e2)
    · obtain ⟨cs, fz, e3⟩ := h p hp
      exact ⟨cs, fz, (hg.block _ (lt_some e3) (fun e4 => e2 e4.symm)).trans e3⟩
  · exact h.on hb
/-- A slice of marks, as it stands while x is grown. -/
structure Pq9 (w : World) (x : Value) (i L : Nat) (u : Value) (n j : Nat) : Prop where
  ex : ∃ ao c, u = .slice ao n c ∧ Pk w x i L ao n c j ∧ U8 w ao n
set_option maxRecDepth 100000 in
theorem Pq9.app {w w' : World} {B : Nat} {x x' : Value} {i L : Nat} {u : Value} {n j : Nat} (h : Pq9 w x i L u n j) (ho : OwnB w' B x' (mkL i (L + 1)))
    (hc : (x'.ownBlock = x.ownBlock ∧ w.grownBy w' x.ownBlock) ∨ (Below w.heap.size w w' ∧ ∀ k, x'.ownBlock = some k → w.heap.size ≤ k)) : Pq9 w' x' i (L + 1) u n j := by
  obtain ⟨ao, c, rfl, h1, h2⟩ := h.ex
  exact ⟨ao, c, rfl, h1.app ho hc, h2.app ho hc⟩
set_option maxRecDepth 100000 in
theorem Pq9.on {w w' : World} {x : Value} {i L : Nat} {u : Value} {n j : Nat} (h : Pq9 w x i L u n j) (hb : Below w.heap.size w w') : Pq9 w' x i L u n j := by
  obtain ⟨ao, c, rfl, h1, h2⟩ := h.ex
  exact ⟨ao, c, rfl, h1.on hb, h2.on hb⟩
set_option maxRecDepth 100000 in
/-- A row of values is grown: slices of bytes stay. -/
theorem Pq9.grow {w w' : World} {B : Nat} {vG vG' : Value} {H : List Value} {x : Value} {i L : Nat} {u : Value} {n j : Nat} (h : Pq9 w x i L u n j) (hG : OwnX w B vG H) (hg : Gr w vG w' vG') : Pq9 w' x i L u n j := by
  obtain ⟨ao, c, rfl, h1, h2⟩ := h.ex
  have hf : n = 0 ∨ ∀ p, ao = some p → vG.ownBlock ≠ some p.block := h2.imp id fun h p hp => by
    obtain ⟨cs, fz, e⟩ := h p hp
    exact hG.noty e u8_neX
  refine ⟨ao, c, rfl, ⟨h1.sl.gr hg hf, h1.far⟩, ?_⟩
  rcases h2 with h0 | h2
  · exact .inl h0
  · rcases hf with h0 | hf
    · exact .inl h0
    · right
      intro p hp
      obtain ⟨cs, fz, e⟩ := h2 p hp
      exact ⟨cs, fz, (hg.grow.block _ (lt_some e) (fun e4 => hf p hp e4.symm)).trans e⟩
/-- Where the second pair of loops stands. -/
structure P9 (w : World) (B bk : Nat) (v : Value) (V : List Value) (nn : Nat → Nat) (i k : Nat) (x vG : Value) (H : List Value) : Prop where
  box : w.heap[bk]? = some (.cells #[v] 67 (0, 0))
  row : OwnX w B v V
  rowG : OwnX w B vG H
  gne : v.ownBlock = none ∨ v.ownBlock ≠ vG.ownBlock
  xo : OwnB w B x (mkL i (nn i + k))
  lst : ∀ (t : Nat) (u : Value), V[t]? = some u → Pq9 w x i (nn i + k) u (nn t) t
  own : ∀ (t : Nat) (u : Value), V[t]? = some u → i < t → OwnB w B u (mkL t (nn t)) ∧ (u.ownBlock = none ∨ u.ownBlock ≠ x.ownBlock)
  gr : ∀ (s : Nat) (u : Value), H[s]? = some u → ∃ n, Pq9 w x i (nn i + k) u n (s / 5)
  gfar : ∀ (s : Nat) (y : Value), H[s]? = some y → ∀ (t : Nat) (u : Value), V[t]? = some u → i < t → y.ownBlock = none ∨ y.ownBlock ≠ u.ownBlock
set_option maxRecDepth 100000 in
theorem P9.on {w w' : World} {B bk : Nat} {v : Value} {V : List Value} {nn : Nat → Nat} {i k : Nat} {x vG : Value} {H : List Value} (h : P9 w B bk v V nn i k x vG H) (hb : Below w.heap.size w w') : P9 w' B bk v V nn i k x vG H :=
  ⟨(hb.block _ (lt_some h.box)).trans h.box, h.row.on hb, h.rowG.on hb, h.gne, h.xo.on (Nat.le_refl _) hb, fun t u ht => (h.lst t u ht).on hb, fun t u ht hi => ⟨(h.own t u ht hi).1.on (Nat.le_refl _) hb, (h.own t u ht hi).2⟩, fun s u hs => by
    obtain ⟨n, h1⟩ := h.gr s u hs
    exact ⟨n, h1.on hb⟩, h.gfar⟩
set_option maxRecDepth 100000 in
theorem P9.appX {w w' : World} {B bk : Nat} {v : Value} {V : List Value} {nn : Nat → Nat} {i k : Nat} {x x' vG : Value} {H : List Value} (h : P9 w B bk v V nn i k x vG H) (ho : OwnB w' B x' (mkL i (nn i + k + 1)))
    (hc : (x'.ownBlock = x.ownBlock ∧ w.grownBy w' x.ownBlock) ∨ (Below w.heap.size w w' ∧ ∀ q, x'.ownBlock = some q → w.heap.size ≤ q)) : P9 w' B bk v V nn i (k + 1) x' vG H := by
  have hXx : ∀ {y : Value} {ys : List Value}, OwnX w B y ys → OwnX w' B y ys := by
    intro y ys hy
    rcases hc with ⟨_, hg⟩ | ⟨hb, _⟩
    · exact hy.kept hg (hy.noB h.xo)
    · exact hy.on hb
  refine ⟨?_, hXx h.row, hXx h.rowG, h.gne, ho, fun t u ht => (h.lst t u ht).app ho hc, fun t u ht hi => ?_, fun s u hs => ?_, h.gfar⟩
  · rcases hc with ⟨_, hg⟩ | ⟨hb, _⟩
    · exact (hg.block bk (lt_some h.box) (fun e => h.xo.noty h.box bk_ne8 e.symm)).trans h.box
    · exact (hb.block _ (lt_some h.box)).trans h.box
  · obtain ⟨o1, n1⟩ := h.own t u ht hi
    rcases hc with ⟨e, hg⟩ | ⟨hb, hn⟩
    · exact ⟨World.ownsRow.kept o1 hg n1, by rw [e]; exact n1⟩
    · refine ⟨o1.on (Nat.le_refl _) hb, ?_⟩
      cases e : u.ownBlock with
      | none => exact .inl rfl
      | some q =>
        right
        intro e2
        have h1 := (o1.blk e).2
        have h2 := hn q e2.symm
        omega
  · obtain ⟨n, h1⟩ := h.gr s u hs
    exact ⟨n, h1.app ho hc⟩
set_option maxRecDepth 100000 in
theorem P9.appG {w w' : World} {B bk : Nat} {v : Value} {V : List Value} {nn : Nat → Nat} {i k : Nat} {x vG vG' : Value} {H : List Value} (h : P9 w B bk v V nn i k x vG H) (hG : OwnX w' B vG' (H ++ [x])) (hg : Gr w vG w' vG') (hs : H.length / 5 = i) (h0 : 0 < nn i + k) (hl : nn i + k ≤ 140737488355328) : P9 w' B bk v V nn i k x vG' (H ++ [x]) := by
  have hkeep : ∀ {y : Value} {l : List Int}, OwnB w B y l → OwnB w' B y l := by
    intro y l hy
    refine World.ownsRow.kept hy hg.grow ?_
    rcases h.rowG.noB hy with e | e
    · rw [e]
      cases e2 : y.ownBlock with
      | none => exact .inl rfl
      | some _ => exact .inr (by simp)
    · exact .inr fun e2 => e e2.symm
  have hxo := hkeep h.xo
  refine ⟨(hg.grow.block bk (lt_some h.box) (fun e => h.rowG.noty h.box bk_neX e.symm)).trans h.box, h.row.kept hg.grow h.gne, hG, ?_, hxo, fun t u ht => (h.lst t u ht).grow h.rowG hg, fun t u ht hi => ⟨hkeep (h.own t u ht hi).1, (h.own t u ht hi).2⟩, fun s u hsu => ?_, fun s y hsy t u ht hi => ?_⟩
  · rcases h.gne with e | e
    · exact .inl e
    · rcases hg.own with e2 | ⟨q, e2, hq⟩
      · rw [e2]; exact .inr e
      · cases e3 : v.ownBlock with
        | none => exact .inl rfl
        | some z =>
          right
          rw [e2]
          intro e4
          injection e4 with e4
          have hr := h.row
          unfold OwnX at hr
          have := (hr.lt z e3).2
          omega
  · by_cases e : s < H.length
    · rw [List.getElem?_append_left e] at hsu
      obtain ⟨n, h1⟩ := h.gr s u hsu
      exact ⟨n, h1.grow h.rowG hg⟩
    · have hlt := (List.getElem?_eq_some_iff.1 hsu).1
      rw [List.length_append] at hlt
      simp only [List.length_cons, List.length_nil] at hlt
      obtain rfl : s = H.length := by omega
      rw [List.getElem?_concat_length] at hsu
      cases hsu
      obtain ⟨ao, c, e5, _, _⟩ := hxo.sl (mkL_wf _ _) (by rw [mkL_length]; exact hl)
      rw [mkL_length] at e5
      obtain ⟨ao2, c2, e6, h7⟩ := own_shape hxo
      rw [mkL_length] at e6 h7
      rcases h7 with h7 | ⟨g, rfl, _⟩
      · omega
      have hob : x.ownBlock = some g := by rw [e6]; rfl
      have hcap : nn i + k ≤ c2 := by
        have h8 := hxo
        unfold OwnB at h8
        rcases h8.2 with ⟨e9, _⟩ | ⟨g', cap', cur, e9, _, _, hnc, _⟩
        · rw [e6] at e9; cases e9
        · rw [e6] at e9
          rw [mkL_length] at hnc e9
          injection e9 with _ _ e10
          omega
      refine ⟨nn i + k, ⟨some ⟨g, 0, none⟩, c2, e6, ⟨?_, .inr ⟨hs, Nat.le_refl _, g, rfl, hob⟩⟩, .inr fun p hp => ?_⟩⟩
      · rw [hs]
        exact hxo.marks hob (Nat.le_refl _) hcap hl
      · cases hp
        exact hxo.u8 hob
  · by_cases e : s < H.length
    · rw [List.getElem?_append_left e] at hsy
      exact h.gfar s y hsy t u ht hi
    · have hlt := (List.getElem?_eq_some_iff.1 hsy).1
      rw [List.length_append] at hlt
      simp only [List.length_cons, List.length_nil] at hlt
      obtain rfl : s = H.length := by omega
      rw [List.getElem?_concat_length] at hsy
      cases hsy
      rcases (h.own t u ht hi).2 with e2 | e2
      · rw [e2]
        cases e3 : x.ownBlock with
        | none => exact .inl rfl
        | some _ => exact .inr (by simp)
      · exact .inr fun e3 => e2 e3.symm
/-- A slice of marks. -/
def Sq (w : World) (u : Value) (n j : Nat) : Prop := ∃ ao c, u = .slice ao n c ∧ Sl w ao n c (mkL j n) ∧ U8 w ao n
/-- Between two lists. -/
structure Q9 (w : World) (B bk : Nat) (v : Value) (V : List Value) (nn : Nat → Nat) (i : Nat) (vG : Value) (H : List Value) : Prop where
  box : w.heap[bk]? = some (.cells #[v] 67 (0, 0))
  row : OwnX w B v V
  rowG : OwnX w B vG H
  gne : v.ownBlock = none ∨ v.ownBlock ≠ vG.ownBlock
  lst : ∀ (t : Nat) (u : Value), V[t]? = some u → Sq w u (nn t) t
  own : ∀ (t : Nat) (u : Value), V[t]? = some u → i ≤ t → OwnB w B u (mkL t (nn t))
  ne : ∀ (t t' : Nat) (u u' : Value), V[t]? = some u → V[t']? = some u' → t ≠ t' → u.ownBlock = none ∨ u.ownBlock ≠ u'.ownBlock
  gr : ∀ (s : Nat) (u : Value), H[s]? = some u → ∃ n, Sq w u n (s / 5)
  gfar : ∀ (s : Nat) (y : Value), H[s]? = some y → ∀ (t : Nat) (u : Value), V[t]? = some u → i ≤ t → y.ownBlock = none ∨ y.ownBlock ≠ u.ownBlock
set_option maxRecDepth 100000 in
theorem far_of {ao : Option Addr} {n c : Nat} {x : Value} (h : (Value.slice ao n c).ownBlock = none ∨ (Value.slice ao n c).ownBlock ≠ x.ownBlock) : Far ao n x := by
  right
  rintro p rfl e
  rcases h with h | h
  · cases h
  · exact h (by rw [e]; rfl)
set_option maxRecDepth 100000 in
theorem Q9.into {w : World} {B bk : Nat} {v : Value} {V : List Value} {nn : Nat → Nat} {i : Nat} {vG : Value} {H : List Value} (h : Q9 w B bk v V nn i vG H) {x : Value} (hx : V[i]? = some x) : P9 w B bk v V nn i 0 x vG H := by
  have hxo := h.own i x hx (Nat.le_refl _)
  refine ⟨h.box, h.row, h.rowG, h.gne, hxo, fun t u ht => ?_, fun t u ht hi => ⟨h.own t u ht (by omega), h.ne t i u x ht hx (by omega)⟩, fun s u hs => ?_, fun s y hs t u ht hi => h.gfar s y hs t u ht (by omega)⟩
  · obtain ⟨ao, c, rfl, h1, h2⟩ := h.lst t u ht
    refine ⟨ao, c, rfl, ⟨h1, ?_⟩, h2⟩
    by_cases e : t = i
    · subst e
      rw [hx] at ht
      cases ht
      rcases own_shape hxo with ⟨ao2, c2, e2, h3⟩
      injection e2 with e3 e4 e5
      rw [mkL_length] at e4 h3
      rcases h3 with h3 | ⟨g, e6, _⟩
      · exact .inl (.inl h3)
      · refine .inr ⟨rfl, by omega, g, by rw [e3, e6], by rw [e3, e6]; rfl⟩
    · exact .inl (far_of (h.ne t i _ x ht hx e))
  · obtain ⟨n, ao, c, rfl, h1, h2⟩ := h.gr s u hs
    exact ⟨n, ⟨ao, c, rfl, ⟨h1, .inl (far_of (h.gfar s _ hs i x hx (Nat.le_refl _)))⟩, h2⟩⟩
set_option maxRecDepth 100000 in
theorem P9.out {w : World} {B bk : Nat} {v : Value} {V : List Value} {nn : Nat → Nat} {i k : Nat} {x vG : Value} {H : List Value} (h : P9 w B bk v V nn i k x vG H) (hne : ∀ (t t' : Nat) (u u' : Value), V[t]? = some u → V[t']? = some u' → t ≠ t' → u.ownBlock = none ∨ u.ownBlock ≠ u'.ownBlock) : Q9 w B bk v V nn (i + 1) vG H :=
  ⟨h.box, h.row, h.rowG, h.gne, fun t u ht => by
    obtain ⟨ao, c, e, h1, h2⟩ := (h.lst t u ht).ex
    exact ⟨ao, c, e, h1.sl, h2⟩, fun t u ht hi => (h.own t u ht (by omega)).1, hne, fun s u hs => by
    obtain ⟨n, h0⟩ := h.gr s u hs
    obtain ⟨ao, c, e, h1, h2⟩ := h0.ex
    exact ⟨n, ao, c, e, h1.sl, h2⟩, fun s y hs t u ht hi => h.gfar s y hs t u ht (by omega)⟩
set_option maxRecDepth 100000 in
theorem Bo9.start {w : World} {B bk : Nat} {v : Value} {V : List Value} {nn : Nat → Nat} (h : Bo9 w B bk v V (fun t => mkL t (nn t))) : Q9 w B bk v V nn 0 (.slice none 0 0) [] := by
  refine ⟨h.box, h.row, OwnX.nil _ _, ?_, fun t u ht => ?_, fun t u ht _ => (h.own t u ht).1, h.ne, fun s u hs => by simp at hs, fun s y hs => by simp at hs⟩
  · cases e : v.ownBlock with
    | none => exact .inl rfl
    | some _ => exact .inr (by simp [Value.ownBlock])
  · obtain ⟨o, w1, l1⟩ := h.own t u ht
    rw [mkL_length] at l1
    obtain ⟨ao, c, e, hs, _⟩ := o.sl w1 (by rw [mkL_length]; omega)
    rw [mkL_length] at e hs
    refine ⟨ao, c, e, hs, ?_⟩
    right
    rintro p rfl
    exact o.u8 (by rw [e]; rfl)
end Go.Proofs.Ytikpfcapnpppdaa

/- espalierref03.Book.Owned, in layer 3. -/

namespace Go.Proofs.Ytikpfcapnpppdaa
open Go.RowKit

def D1 (D : Nat → List Int) (i t : Nat) : List Int := if t < i then mkL t (D t).length else D t
def D2 (D : Nat → List Int) (i k t : Nat) : List Int := if t < i then mkL t (D t).length else if t = i then mkL i k ++ (D i).drop k else D t
set_option maxRecDepth 100000 in
theorem D2_set (D : Nat → List Int) (i k : Nat) (hk : k < (D i).length) (t : Nat) : (if t = i then (D2 D i k i).set k (mqB i k) else D2 D i k t) = D2 D i (k + 1) t := by
  unfold D2
  by_cases e : t = i
  · subst e
    simp only [if_true, Nat.lt_irrefl, if_false]
    rw [drop_cons (D t) k hk]
    have hl := mkL_length t k
    rw [List.set_append_right _ _ (by omega), hl, Nat.sub_self]
    simp [mkL]
  · simp only [if_neg e]
set_option maxRecDepth 100000 in
theorem D2_len (D : Nat → List Int) (i k : Nat) (hk : k ≤ (D i).length) : (D2 D i k i).length = (D i).length := by
  unfold D2
  simp only [Nat.lt_irrefl, if_false, if_true]
  rw [List.length_append, mkL_length, List.length_drop]
  omega
set_option maxRecDepth 100000 in
theorem D2_last (D : Nat → List Int) (i t : Nat) : D2 D i (D i).length t = D1 D (i + 1) t := by
  unfold D2 D1
  by_cases e : t < i
  · rw [if_pos e, if_pos (by omega)]
  · rw [if_neg e]
    by_cases e2 : t = i
    · subst e2
      rw [if_pos rfl, if_pos (by omega), List.drop_length, List.append_nil]
    · rw [if_neg e2, if_neg (by omega)]
set_option maxRecDepth 100000 in
theorem D2_first (D : Nat → List Int) (i t : Nat) : D1 D i t = D2 D i 0 t := by
  unfold D2 D1
  by_cases e : t < i
  · rw [if_pos e, if_pos e]
  · rw [if_neg e, if_neg e]
    by_cases e2 : t = i
    · subst e2
      rw [if_pos rfl]
      rfl
    · rw [if_neg e2]
/-- How many of the first k growths are kept. -/
def cnt : Nat → Nat
  | 0 => 0
  | k + 1 => cnt k + (if k < 3 ∨ k = 8 ∨ k = 19 then 1 else 0)
set_option maxRecDepth 100000 in
theorem cnt_bound {k : Nat} (h : k < 20) (h2 : k < 3 ∨ k = 8 ∨ k = 19) : cnt k < 5 := by
  have : ∀ k : Fin 20, (k.val < 3 ∨ k.val = 8 ∨ k.val = 19) → cnt k.val < 5 := by decide
  exact this ⟨k, h⟩ h2
set_option maxRecDepth 100000 in
theorem cnt_all : cnt 20 = 5 := by decide
set_option maxRecDepth 100000 in
theorem cell_at {V : List Value} {N i : Nat} (hN : V.length = N) (hi : i < N) : ∃ u, V[i]? = some u := ⟨_, List.getElem?_eq_getElem (by omega)⟩

/-- F, or made later. -/
def Fw (F : Nat → Prop) (w : World) (z : Nat) : Prop := F z ∨ w.heap.size ≤ z
set_option maxRecDepth 100000 in
theorem Cf.narrow {F : Nat → Prop} {w u : World} (h : Cf (Fw F w) w u) : Cf F w u := ⟨h.os, h.tape, h.output, h.size, fun k hk hf => h.block k hk (fun e => e.elim hf (fun e => by omega))⟩
/-- The slice's own block is one of F's. -/
def Fo (F : Nat → Prop) (w : World) (x : Value) : Prop := ∀ z, x.ownBlock = some z → Fw F w z
set_option maxRecDepth 100000 in
theorem own_in {w : World} {B : Nat} {v : Value} {l : List Int} {k : Nat} (h : OwnB w B v l) (hk : v.ownBlock = some k) : B ≤ k ∧ k < w.heap.size := by
  unfold OwnB at h
  rcases h.2 with ⟨rfl, _⟩ | ⟨g, cap, cur, rfl, hg, hh, _⟩
  · cases hk
  · cases hk
    exact ⟨hg, lt_some hh⟩
set_option maxRecDepth 100000 in
theorem ownX_in {w : World} {B : Nat} {v : Value} {l : List Value} {k : Nat} (h : OwnX w B v l) (hk : v.ownBlock = some k) : B ≤ k ∧ k < w.heap.size := by
  unfold OwnX at h
  rcases h.2 with ⟨rfl, _⟩ | ⟨g, cap, cur, rfl, hg, hh, _⟩
  · cases hk
  · cases hk
    exact ⟨hg, lt_some hh⟩
set_option maxRecDepth 100000 in
/-- Two blocks, the one made behind the other. -/
theorem own_two {w u : World} {B C : Nat} {v x : Value} {l m : List Int} (h : OwnB w B v l) (k : OwnB u C x m) (hC : w.heap.size ≤ C) : v.ownBlock = none ∨ v.ownBlock ≠ x.ownBlock := by
  cases hv : v.ownBlock with
  | none => exact .inl rfl
  | some a =>
    right
    intro e
    have h1 := own_in h hv
    have h2 := own_in k e.symm
    omega
set_option maxRecDepth 100000 in
theorem box9 {w : World} {B bk : Nat} (h : w.heap[bk]? = some (.cells #[.slice none 0 0] 67 (0, 0))) : Bo9 w B bk (.slice none 0 0) [] (fun _ => []) :=
  ⟨h, OwnX.nil _ _, fun t u ht => by simp at ht, fun t t' u u' ht => by simp at ht⟩
set_option maxRecDepth 100000 in
set_option maxHeartbeats 8000000 in
theorem owned9F (F : Nat → Prop) (w : World) (B bk N : Nat) (v : Value) (V : List Value) (D : Nat → List Int) (h : Bo9 w B bk v V D) (hF : ∀ (t : Nat) (u : Value), V[t]? = some u → Fo F w u) (hN : V.length = N) (hN2 : N ≤ 1000000) (hB : B ≤ w.heap.size) :
    Calls Try.prog 42 #[.pointer (some ⟨bk, 0, none⟩)] w fun e u => e = .returned (.bool true) ∧ Hid (Cf F w u) := by
  have HB0 := hidden h
  have HFO := hidden hF
  clear hF
  have hNI : (N : Int) ≤ 1000000 := by omega
  obtain ⟨lo, lc, rfl, hcells⟩ := h.row.cells
  rw [hN] at hcells
  have HN := hidden hN
  have HV : Hid (N = 0 ∨ ∃ R, lo = some ⟨R, 0, none⟩ ∧ ∀ (wr : World) (D' : Nat → List Int), Bo9 wr B bk (.slice lo V.length lc) V D' → ∀ (t : Nat) (u : Value), V[t]? = some u → wr.cell? ⟨R, t, none⟩ = some u) := hidden (by
    rcases hcells with h0 | ⟨R, rfl, _, _⟩
    · exact .inl h0
    · refine .inr ⟨R, rfl, fun wr D' hb t u ht => ?_⟩
      obtain ⟨ao, c, e, hc⟩ := hb.row.cells
      injection e with e1 _ _
      subst e1
      rcases hc with h0 | ⟨g, e2, _, hc⟩
      · have := (List.getElem?_eq_some_iff.1 ht).1
        omega
      · cases e2
        exact hc t u ht)
  rw [hN] at HB0
  rw [hN] at HV
  clear h hcells hN
  go_enter Try.func42, Try.ntmps42
  go_wp2_with fail
  go_loopw [3] (fun x wr => ∃ i : Nat, i ≤ N ∧ x = .int .i64 (i : Int) ∧ Hid (Bo9 wr B bk (.slice lo N lc) V (D1 D i)) ∧ Hid (Cf (Fw F w) w wr)) (fun x _ => N - (RowKit.intOf x).toNat)
  case atStart => exact ⟨0, by omega, rfl, hidden (HB0.out.cong (fun t _ => by simp [D1])), hidden (Cf.refl _ _)⟩
  case round =>
    obtain ⟨i, hi, rfl, HBi, HCi⟩ := hrel
    have hbx := HBi.out.box
    have c0 : wr.cell? ⟨bk, 0, none⟩ = some (.slice lo N lc) := by rw [_root_.Go.cell_of_row _ _ 0 _ _ _ hbx]; rfl
    clear hbx
    by_cases hlt : i < N
    · have hltI : (i : Int) < (N : Int) := by omega
      obtain ⟨u, hu⟩ := cell_at HN.out hlt
      obtain ⟨R, rfl, hR⟩ : ∃ R, lo = some ⟨R, 0, none⟩ ∧ ∀ (wr : World) (D' : Nat → List Int), Bo9 wr B bk (.slice lo N lc) V D' → ∀ (t : Nat) (u : Value), V[t]? = some u → wr.cell? ⟨R, t, none⟩ = some u := by
        rcases HV.out with h0 | h0
        · omega
        · exact h0
      have cR := hR wr _ HBi.out i u hu
      have hdl : (D1 D i i).length = (D i).length := by simp [D1]
      obtain ⟨ho, _, hlb⟩ := HBi.out.own i u hu
      obtain ⟨ao, c, rfl, hsh⟩ := own_shape ho
      rw [hdl] at hsh hlb
      obtain ⟨n, hn⟩ : ∃ n, (D i).length = n := ⟨_, rfl⟩
      rw [hdl, hn] at cR hu
      rw [hn] at hsh hlb
      have HNL := hidden hn
      have HU := hidden hu
      have hnI : (n : Int) ≤ 67108864 := by omega
      have HB2 : Hid (Bo9 wr B bk (.slice (some ⟨R, 0, none⟩) N lc) V (D2 D i 0)) := hidden (HBi.out.cong (fun t _ => D2_first D i t))
      clear ho hdl hn hu HBi hR
      go_wp2_with fail
      go_loopw [5] (fun y wr2 => ∃ k : Nat, k ≤ n ∧ y = .int .i64 (k : Int) ∧ Hid (Bo9 wr2 B bk (.slice (some ⟨R, 0, none⟩) N lc) V (D2 D i k)) ∧ Hid (Cf (Fw F w) w wr2)) (fun y _ => n - (RowKit.intOf y).toNat)
      case atStart => exact ⟨0, by omega, rfl, HB2, HCi⟩
      case round =>
        obtain ⟨k, hk, rfl, HBk, HCk⟩ := hrel
        by_cases hkn : k < n
        · have hkI : (k : Int) < (n : Int) := by omega
          obtain ⟨g, rfl, hgB⟩ : ∃ g, ao = some ⟨g, 0, none⟩ ∧ B ≤ g := by
            rcases hsh with h0 | h0
            · omega
            · exact h0
          obtain ⟨hok, _, _⟩ := HBk.out.own i _ HU.out
          have hl2 : (D2 D i k i).length = n := by rw [D2_len D i k (by rw [HNL.out]; exact hk), HNL.out]
          have ck : ∃ z, wr.cell? ⟨g, k, none⟩ = some z := ⟨_, own_cell hok hl2 hkn⟩
          obtain ⟨z, ck⟩ := ck
          have fk := own_free hok hl2 k
          obtain ⟨m1, m2⟩ := mark_run i k (by omega) (by omega)
          have m3 := mqB_ok i k
          have HST : Hid (Bo9 (wr.setCell ⟨g, k, none⟩ (.int .u8 (mqB i k))) B bk (.slice (some ⟨R, 0, none⟩) N lc) V (D2 D i (k + 1))) := hidden ((HBk.out.set HU.out hl2 hkn m3).cong (fun t _ => D2_set D i k (by rw [HNL.out]; exact hkn) t))
          have HCS : Hid (Cf (Fw F w) w (wr.setCell ⟨g, k, none⟩ (.int .u8 (mqB i k)))) := hidden (HCk.out.go (Cf.setCell (F := Fw F w) wr (p := ⟨g, k, none⟩) (HFO.out i _ HU.out g rfl) _))
          obtain ⟨q, hq⟩ : ∃ q, k / 251 = q := ⟨_, rfl⟩
          rw [hq] at m1 m2
          have hqk : (q : Int) ≤ (k : Int) := by have := Nat.div_le_self k 251; omega
          have m4 : IntKind.i64.wrap ((i : Int) + (q : Int)) = (i : Int) + (q : Int) := by rw [IntKind.wrap_i64]; omega
          have m5 : IntKind.i64.wrap (q : Int) = (q : Int) := by rw [IntKind.wrap_i64]; omega
          generalize mqB i k = y at *
          clear hok hq
          go_wp2
          go_roundw
          case rel => exact ⟨k + 1, by omega, by go_num, HST, HCS⟩
          case measure => simp [RowKit.intOf]; omega
        · obtain rfl : k = n := by omega
          have hkI : ¬ (k : Int) < (k : Int) := by omega
          have HB3 : Hid (Bo9 wr B bk (.slice (some ⟨R, 0, none⟩) N lc) V (D1 D (i + 1))) := hidden (HBk.out.cong (fun t _ => by rw [← HNL.out]; exact D2_last D i t))
          go_wp2
          go_roundw
          case rel => exact ⟨i + 1, by omega, by go_num, HB3, HCk⟩
          case measure => simp [RowKit.intOf]; omega
    · have hlI : ¬ (i : Int) < (N : Int) := by omega
      obtain ⟨nn, hnn⟩ : ∃ nn : Nat → Nat, (fun t => (D t).length) = nn := ⟨_, rfl⟩
      have HNN : Hid (∀ t, t < N → nn t ≤ 67108864) := hidden (by
        intro t ht
        obtain ⟨u, hu⟩ := cell_at HN.out ht
        rw [← hnn]
        exact (HB0.out.own t u hu).2.2)
      have HQ0 : Hid (Q9 wr B bk (.slice lo N lc) V nn 0 (.slice none 0 0) []) := hidden (by
        rw [← hnn]
        exact Bo9.start (HBi.out.cong (fun t ht => by unfold D1; rw [if_pos (by rw [HN.out] at ht; omega)])))
      have HNE := hidden HB0.out.ne
      clear HBi hnn HV
      go_wp2_with fail
      clear hlI hi
      go_loopw [6, 7] (fun vg x wr => ∃ (i : Nat) (H : List Value), i ≤ N ∧ x = .int .i64 (i : Int) ∧ Hid (Q9 wr B bk (.slice lo N lc) V nn i vg H) ∧ Hid (H.length = 5 * i) ∧ Hid (Cf (Fw F w) w wr) ∧ Hid (Fo F w vg)) (fun _ x _ => N - (RowKit.intOf x).toNat)
      case atStart => exact ⟨0, [], by omega, rfl, HQ0, hidden rfl, HCi, hidden (fun z hz => by cases hz)⟩
      case round =>
        obtain ⟨i, H, hi, rfl, HQ, HL, HC, HFG⟩ := hrel
        clear HQ0 HCi c0
        have hbx := HQ.out.box
        have c0 : wr.cell? ⟨bk, 0, none⟩ = some (.slice lo N lc) := by rw [_root_.Go.cell_of_row _ _ 0 _ _ _ hbx]; rfl
        clear hbx
        by_cases hlt : i < N
        · have hltI : (i : Int) < (N : Int) := by omega
          obtain ⟨u, hu⟩ := cell_at HN.out hlt
          obtain ⟨R, rfl, cR⟩ : ∃ R, lo = some ⟨R, 0, none⟩ ∧ wr.cell? ⟨R, i, none⟩ = some u := by
            obtain ⟨ao, c, e, hc⟩ := HQ.out.row.cells
            injection e with e1 e2 _
            subst e1
            rcases hc with h0 | ⟨g, e3, _, hc⟩
            · omega
            · exact ⟨g, e3, hc i u hu⟩
          obtain ⟨xo0, xc0, rfl, _, _⟩ := HQ.out.lst i u hu
          have HP0 := hidden (HQ.out.into hu)
          have HFX0 := hidden (HFO.out i _ hu)
          have hni := HNN.out i hlt
          have hniI : (nn i : Int) ≤ 67108864 := by omega
          clear hu HQ
          go_wp2_with fail
          go_loopw [6, 8, 9] (fun vg x kk wr => ∃ (k : Nat) (xo : Option Addr) (xc : Nat) (H : List Value), k ≤ 20 ∧ kk = .int .i64 (k : Int) ∧ x = .slice xo (nn i + k) xc ∧ Hid (P9 wr B bk (.slice (some ⟨R, 0, none⟩) N lc) V nn i k (.slice xo (nn i + k) xc) vg H) ∧ Hid (H.length = 5 * i + cnt k) ∧ Hid (Cf (Fw F w) w wr) ∧ Hid (Fo F w vg) ∧ Hid (Fo F w x)) (fun _ _ kk _ => 20 - (RowKit.intOf kk).toNat)
          case atStart => exact ⟨0, xo0, xc0, H, by omega, rfl, rfl, HP0, hidden HL.out, HC, HFG, HFX0⟩
          case round =>
            obtain ⟨k, xo, xc, H, hk, rfl, rfl, HP, HL2, HC2, HFG2, HFX⟩ := hrel
            clear HP0 HC HL c0 cR HFG HFX0
            by_cases hk20 : k < 20
            · have hkI : (k : Int) < 20 := by omega
              obtain ⟨L, hL⟩ : ∃ L, nn i + k = L := ⟨_, rfl⟩
              have HLE := hidden hL
              have hL2 : L ≤ 67108884 := by omega
              have hL2I : (L : Int) ≤ 67108884 := by omega
              rw [hL] at HP HFX ⊢
              obtain ⟨m1, m2⟩ := mark_run i L (by omega) (by omega)
              have m3 := mqB_ok i L
              obtain ⟨q, hq⟩ : ∃ q, L / 251 = q := ⟨_, rfl⟩
              rw [hq] at m1 m2
              have hqk : (q : Int) ≤ (L : Int) := by have := Nat.div_le_self L 251; omega
              have m4 : IntKind.i64.wrap ((i : Int) + (q : Int)) = (i : Int) + (q : Int) := by rw [IntKind.wrap_i64]; omega
              have m5 : IntKind.i64.wrap (q : Int) = (q : Int) := by rw [IntKind.wrap_i64]; omega
              obtain ⟨x, hx⟩ : ∃ x, wr.alloc (.cells #[.int .u8 (mqB i L)] 5) = x := ⟨_, rfl⟩
              have hbx : Below wr.heap.size wr x := by rw [← hx]; exact bl_al (Below.refl _ _) (Nat.le_refl _) _
              have hcx : x.cell? ⟨wr.heap.size, 0, none⟩ = some (.int .u8 (mqB i L)) := by rw [← hx]; simp
              have hBx : B ≤ x.heap.size := Nat.le_trans hB (Nat.le_trans HC2.out.size hbx.size)
              have HPX := hidden (HP.out.on hbx)
              have hxo : OwnB x B (.slice xo L xc) (mkL i L) := by have := HPX.out.xo; rwa [hL] at this
              obtain ⟨v1, w1, hr, ho1, hcase⟩ := app_one x B 35 (.slice xo L xc) (mkL i L) (mqB i L) wr.heap.size hxo hcx (by rw [mkL_length]; omega) hBx
              have ho2 : OwnB w1 B v1 (mkL i (L + 1)) := ho1
              obtain ⟨yo, yc, rfl, _⟩ := own_shape ho2
              rw [mkL_length] at ho2 hcase hr
              have HP1 : Hid (P9 w1 B bk (.slice (some ⟨R, 0, none⟩) N lc) V nn i (k + 1) (.slice yo (L + 1) yc) _ H) := hidden (HPX.out.appX (by rw [hL]; exact ho2) hcase)
              have HC1 : Hid (Cf (Fw F w) w w1) := hidden ((HC2.out.go (Cf.of_below hbx)).go (by
                rcases hcase with ⟨_, hg⟩ | ⟨hb, _⟩
                · refine ⟨hg.os, hg.tape, hg.output, hg.size, fun z hz hf => hg.block z hz (fun e => hf ?_)⟩
                  exact HFX.out z e.symm
                · exact Cf.of_below hb))
              have HFY : Hid (Fo F w (.slice yo (L + 1) yc)) := hidden (fun z hz => by
                rcases hcase with ⟨e, _⟩ | ⟨_, hn⟩
                · exact HFX.out z (by rw [← e]; exact hz)
                · exact .inr (Nat.le_trans (Nat.le_trans HC2.out.size hbx.size) (hn z hz)))
              clear hcase ho1 ho2 hxo hbx hq hL HP HPX HC2
              generalize mqB i L = mb at *
              go_wp2_with (at_builtin; refine app_run9 rfl _ _ _ _ rfl _ _ rfl rfl hr ?_; refine Hid.out ?_)
              apply hidden
              clear hr hx hcx m1 m2 m3 m4 m5
              by_cases hkeep : k < 3 ∨ k = 8 ∨ k = 19
              · have HCN : Hid (cnt (k + 1) = cnt k + 1) := hidden (by show cnt k + _ = _; rw [if_pos hkeep])
                have hcb := cnt_bound hk20 hkeep
                obtain ⟨y, hy⟩ : ∃ y, w1.alloc (.cells #[.slice yo (L + 1) yc] 35) = y := ⟨_, rfl⟩
                have hby : Below w1.heap.size w1 y := by rw [← hy]; exact bl_al (Below.refl _ _) (Nat.le_refl _) _
                have hcy : y.cell? ⟨w1.heap.size, 0, none⟩ = some (.slice yo (L + 1) yc) := by rw [← hy]; simp
                have HPY := hidden (HP1.out.on hby)
                have hBy : B ≤ y.heap.size := Nat.le_trans hB (Nat.le_trans HC1.out.size hby.size)
                have HCY : Hid (Cf (Fw F w) w y) := hidden (HC1.out.go (Cf.of_below hby))
                have hHl : H.length + 1 ≤ 100000000 := by rw [HL2.out]; omega
                have HDV : Hid (H.length / 5 = i) := hidden (by rw [HL2.out]; omega)
                clear hby HP1 HC1
                by_cases g1 : k < 3
                · have d1 : decide ((k : Int) < 3) = true := by simp; omega
                  have e1 : (k : Int) < 3 := by omega
                  clear hkeep
                  go_wp2_with (at_builtin; refine app_x _ rfl _ _ rfl B H _ (.slice yo (L + 1) yc) rfl rfl HPY.out.rowG w1.heap.size rfl hcy hHl hBy ?_; refine Hid.out ?_)
                  apply hidden
                  intro vG2 w2 hG2 hgr2
                  have HP2 : Hid (P9 w2 B bk (.slice (some ⟨R, 0, none⟩) N lc) V nn i (k + 1) (.slice yo (L + 1) yc) vG2 (H ++ [.slice yo (L + 1) yc])) := hidden (HPY.out.appG hG2 hgr2 HDV.out (by omega) (by omega))
                  have HC3 : Hid (Cf (Fw F w) w w2) := hidden (HCY.out.go ⟨hgr2.grow.os, hgr2.grow.tape, hgr2.grow.output, hgr2.grow.size, fun z hz hf => hgr2.grow.block z hz (fun e => hf (HFG2.out z e.symm))⟩)
                  have HFG3 : Hid (Fo F w vG2) := hidden (fun z hz => by
                    rcases hgr2.own with e | ⟨q, e, hq⟩
                    · exact HFG2.out z (by rw [← e]; exact hz)
                    · rw [e] at hz
                      cases hz
                      exact .inr (Nat.le_trans HCY.out.size hq))
                  have HL3 : Hid ((H ++ [Value.slice yo (L + 1) yc]).length = 5 * i + cnt (k + 1)) := hidden (by rw [List.length_append, HL2.out, HCN.out]; rfl)
                  have HLK : Hid (nn i + (k + 1) = L + 1) := hidden (by have := HLE.out; omega)
                  clear hG2 hgr2 hy hcy HPY
                  go_wp2
                  go_roundw
                  case rel => exact ⟨k + 1, yo, yc, H ++ [.slice yo (L + 1) yc], by omega, by go_num, by rw [HLK.out], by rw [HLK.out]; exact HP2, HL3, HC3, HFG3, HFY⟩
                  case measure => simp [RowKit.intOf]; omega
                · have d1 : decide ((k : Int) < 3) = false := by simp; omega
                  have e1 : ¬ (k : Int) < 3 := by omega
                  by_cases g2 : k = 8
                  · have d2 : ((k : Int) == 8) = true := by rw [beq_iff_eq]; omega
                    have e2 : (k : Int) = 8 := by omega
                    clear hkeep
                    go_wp2_with (at_builtin; refine app_x _ rfl _ _ rfl B H _ (.slice yo (L + 1) yc) rfl rfl HPY.out.rowG w1.heap.size rfl hcy hHl hBy ?_; refine Hid.out ?_)
                    apply hidden
                    intro vG2 w2 hG2 hgr2
                    have HP2 : Hid (P9 w2 B bk (.slice (some ⟨R, 0, none⟩) N lc) V nn i (k + 1) (.slice yo (L + 1) yc) vG2 (H ++ [.slice yo (L + 1) yc])) := hidden (HPY.out.appG hG2 hgr2 HDV.out (by omega) (by omega))
                    have HC3 : Hid (Cf (Fw F w) w w2) := hidden (HCY.out.go ⟨hgr2.grow.os, hgr2.grow.tape, hgr2.grow.output, hgr2.grow.size, fun z hz hf => hgr2.grow.block z hz (fun e => hf (HFG2.out z e.symm))⟩)
                    have HFG3 : Hid (Fo F w vG2) := hidden (fun z hz => by
                      rcases hgr2.own with e | ⟨q, e, hq⟩
                      · exact HFG2.out z (by rw [← e]; exact hz)
                      · rw [e] at hz
                        cases hz
                        exact .inr (Nat.le_trans HCY.out.size hq))
                    have HL3 : Hid ((H ++ [Value.slice yo (L + 1) yc]).length = 5 * i + cnt (k + 1)) := hidden (by rw [List.length_append, HL2.out, HCN.out]; rfl)
                    have HLK : Hid (nn i + (k + 1) = L + 1) := hidden (by have := HLE.out; omega)
                    clear hG2 hgr2 hy hcy HPY
                    go_wp2
                    go_roundw
                    case rel => exact ⟨k + 1, yo, yc, H ++ [.slice yo (L + 1) yc], by omega, by go_num, by rw [HLK.out], by rw [HLK.out]; exact HP2, HL3, HC3, HFG3, HFY⟩
                    case measure => simp [RowKit.intOf]; omega
                  · have d2 : ((k : Int) == 8) = false := by rw [beq_eq_false_iff_ne]; omega
                    have d3 : ((k : Int) == 19) = true := by rw [beq_iff_eq]; omega
                    have e2 : ¬ (k : Int) = 8 := by omega
                    have e3 : (k : Int) = 19 := by omega
                    clear hkeep
                    go_wp2_with (at_builtin; refine app_x _ rfl _ _ rfl B H _ (.slice yo (L + 1) yc) rfl rfl HPY.out.rowG w1.heap.size rfl hcy hHl hBy ?_; refine Hid.out ?_)
                    apply hidden
                    intro vG2 w2 hG2 hgr2
                    have HP2 : Hid (P9 w2 B bk (.slice (some ⟨R, 0, none⟩) N lc) V nn i (k + 1) (.slice yo (L + 1) yc) vG2 (H ++ [.slice yo (L + 1) yc])) := hidden (HPY.out.appG hG2 hgr2 HDV.out (by omega) (by omega))
                    have HC3 : Hid (Cf (Fw F w) w w2) := hidden (HCY.out.go ⟨hgr2.grow.os, hgr2.grow.tape, hgr2.grow.output, hgr2.grow.size, fun z hz hf => hgr2.grow.block z hz (fun e => hf (HFG2.out z e.symm))⟩)
                    have HFG3 : Hid (Fo F w vG2) := hidden (fun z hz => by
                      rcases hgr2.own with e | ⟨q, e, hq⟩
                      · exact HFG2.out z (by rw [← e]; exact hz)
                      · rw [e] at hz
                        cases hz
                        exact .inr (Nat.le_trans HCY.out.size hq))
                    have HL3 : Hid ((H ++ [Value.slice yo (L + 1) yc]).length = 5 * i + cnt (k + 1)) := hidden (by rw [List.length_append, HL2.out, HCN.out]; rfl)
                    have HLK : Hid (nn i + (k + 1) = L + 1) := hidden (by have := HLE.out; omega)
                    clear hG2 hgr2 hy hcy HPY
                    go_wp2
                    go_roundw
                    case rel => exact ⟨k + 1, yo, yc, H ++ [.slice yo (L + 1) yc], by omega, by go_num, by rw [HLK.out], by rw [HLK.out]; exact HP2, HL3, HC3, HFG3, HFY⟩
                    case measure => simp [RowKit.intOf]; omega
              · have HCN : Hid (cnt (k + 1) = cnt k) := hidden (by show cnt k + _ = _; rw [if_neg hkeep]; rfl)
                have d1 : decide ((k : Int) < 3) = false := by simp; omega
                have d2 : ((k : Int) == 8) = false := by rw [beq_eq_false_iff_ne]; omega
                have d3 : ((k : Int) == 19) = false := by rw [beq_eq_false_iff_ne]; omega
                have e1 : ¬ (k : Int) < 3 := by omega
                have e2 : ¬ (k : Int) = 8 := by omega
                have e3 : ¬ (k : Int) = 19 := by omega
                have HLK : Hid (nn i + (k + 1) = L + 1) := hidden (by have := HLE.out; omega)
                clear hkeep
                go_wp2
                go_roundw
                case rel => exact ⟨k + 1, yo, yc, H, by omega, by go_num, by rw [HLK.out], by rw [HLK.out]; exact HP1, by rw [HCN.out]; exact HL2, HC1, HFG2, HFY⟩
                case measure => simp [RowKit.intOf]; omega
            · obtain rfl : k = 20 := by omega
              have HQ1 : Hid (Q9 wr B bk (.slice (some ⟨R, 0, none⟩) N lc) V nn (i + 1) _ H) := hidden (HP.out.out HNE.out)
              have HL3 : Hid (H.length = 5 * (i + 1)) := hidden (by rw [HL2.out, cnt_all]; omega)
              clear HP
              go_wp2
              go_roundw
              case rel => exact ⟨i + 1, H, by omega, by go_num, HQ1, HL3, HC2, HFG2⟩
              case measure => simp [RowKit.intOf]; omega
        · have hlI : ¬ (i : Int) < (N : Int) := by omega
          obtain ⟨go, gc, rfl, hgc⟩ := HQ.out.rowG.cells
          have hHl : H.length ≤ 5000000 := by rw [HL.out]; omega
          have HGC := hidden hgc
          obtain ⟨hn, hhn⟩ : ∃ hn, H.length = hn := ⟨_, rfl⟩
          have HHN := hidden hhn
          have HQ2 := hidden HQ.out
          rw [hhn] at HGC HQ2 ⊢
          have hhnI : (hn : Int) ≤ 5000000 := by omega
          clear hgc HQ HL hhn
          go_wp2_with fail
          go_loop [10] (fun x => ∃ t : Nat, t ≤ N ∧ x = .int .i64 (t : Int)) (fun x => N - (RowKit.intOf x).toNat)
          case atStart => exact ⟨0, by omega, rfl⟩
          case round =>
            obtain ⟨t, ht, rfl⟩ := hrel
            by_cases htN : t < N
            · have htI : (t : Int) < (N : Int) := by omega
              obtain ⟨u, hu⟩ := cell_at HN.out htN
              obtain ⟨R, rfl, cR⟩ : ∃ R, lo = some ⟨R, 0, none⟩ ∧ wr.cell? ⟨R, t, none⟩ = some u := by
                obtain ⟨ao, c, e, hc⟩ := HQ2.out.row.cells
                injection e with e1 e2 _
                subst e1
                rcases hc with h0 | ⟨g, e3, _, hc⟩
                · omega
                · exact ⟨g, e3, hc t u hu⟩
              obtain ⟨ao, c, rfl, hs, _⟩ := HQ2.out.lst t u hu
              have HM := hidden (marked_any ao (nn t) c t wr hs (by omega))
              clear hs hu
              go_wp2_with (first | (go_at_call 59; refine same_call HM.out ?_))
              go_round
              case rel => exact ⟨t + 1, by omega, by go_num⟩
              case measure => simp [RowKit.intOf]; omega
            · have htI : ¬ (t : Int) < (N : Int) := by omega
              go_wp2_with fail
              go_loop [12] (fun x => ∃ s : Nat, s ≤ hn ∧ x = .int .i64 (s : Int)) (fun x => hn - (RowKit.intOf x).toNat)
              case atStart => exact ⟨0, by omega, rfl⟩
              case round =>
                obtain ⟨s, hs, rfl⟩ := hrel
                by_cases hsN : s < hn
                · have hsI : (s : Int) < (hn : Int) := by omega
                  obtain ⟨u, hu⟩ := cell_at HHN.out hsN
                  obtain ⟨G, rfl, cG⟩ : ∃ G, go = some ⟨G, 0, none⟩ ∧ wr.cell? ⟨G, s, none⟩ = some u := by
                    rcases HGC.out with h0 | ⟨g, e3, _, hc⟩
                    · omega
                    · exact ⟨g, e3, hc s u hu⟩
                  obtain ⟨n, ao, c, rfl, hsl, _⟩ := HQ2.out.gr s u hu
                  have HM := hidden (marked_any ao n c (s / 5) wr hsl (by omega))
                  have hq5 : Int.tdiv (s : Int) 5 = ((s / 5 : Nat) : Int) := by
                    rw [Int.tdiv_eq_ediv_of_nonneg (by omega)]
                    rfl
                  obtain ⟨q, hq⟩ : ∃ q, s / 5 = q := ⟨_, rfl⟩
                  rw [hq] at HM hq5
                  have hqs : (q : Int) ≤ 5000000 := by omega
                  have hqw : IntKind.i64.wrap (q : Int) = (q : Int) := by rw [IntKind.wrap_i64]; omega
                  clear hsl hu hq
                  go_wp2_with (first | (go_at_call 59; refine same_call HM.out ?_))
                  go_round
                  case rel => exact ⟨s + 1, by omega, by go_num⟩
                  case measure => simp [RowKit.intOf]; omega
                · have hsI : ¬ (s : Int) < (hn : Int) := by omega
                  go_wp2
                  go_ret
                  exact ⟨rfl, hidden HC.out.narrow⟩
end Go.Proofs.Ytikpfcapnpppdaa
