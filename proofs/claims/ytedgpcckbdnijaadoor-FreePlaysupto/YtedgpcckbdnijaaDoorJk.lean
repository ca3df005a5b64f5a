/- What the texts on espalierref03.Book ask besides Ub (of layer 9's texts). -/
import Derived.Test.YtedgpcckbdnijaaDoorUb
import Derived.Test.YtedgpcckbdnijaaDoorJw
namespace Go.Proofs.YtedgpcckbdnijaaDoor
open Go.RowKit

set_option maxRecDepth 100000 in
theorem Gr.cf {w w' : World} {v v' : Value} (h : Gr w v w' v') : Cf (fun k => v.ownBlock = some k) w w' := ⟨h.grow.os, h.grow.tape, h.grow.output, h.grow.size, fun k hk hf => h.grow.block k hk (fun e => hf e.symm)⟩
set_option maxRecDepth 100000 in
theorem Cf.wide {F G : Nat → Prop} {a b : World} (h : Cf F a b) (hg : ∀ k, F k → G k) : Cf G a b := ⟨h.os, h.tape, h.output, h.size, fun k hk hf => h.block k hk (fun e => hf (hg k e))⟩
set_option maxRecDepth 100000 in
theorem Cf.thenB {F : Nat → Prop} {a b c : World} (h : Cf F a b) (k : Below a.heap.size b c) : Cf F a c :=
  ⟨k.os.trans h.os, k.tape.trans h.tape, k.output.trans h.output, Nat.le_trans h.size k.size, fun i hi hf => (k.block i hi).trans (h.block i hi hf)⟩
set_option maxRecDepth 100000 in
theorem OwnB.cf {w w' : World} {B : Nat} {v : Value} {l : List Int} {F : Nat → Prop} (h : OwnB w B v l) (hc : Cf F w w') (hf : ∀ k, v.ownBlock = some k → ¬ F k) : OwnB w' B v l := by
  unfold OwnB at *
  rcases h.2 with h2 | ⟨g, cap, cur, e, hg, hh, rest⟩
  · exact ⟨h.1, .inl h2⟩
  · refine ⟨h.1, .inr ⟨g, cap, cur, e, hg, ?_, rest⟩⟩
    rw [hc.block g (lt_some hh) (hf g (by rw [e]; rfl))]
    exact hh
set_option maxRecDepth 100000 in
theorem OwnB.cfX {w w' : World} {B : Nat} {v : Value} {l : List Int} {F : Nat → Prop} (h : OwnB w B v l) (hc : Cf F w w') (hf : ∀ k, v.ownBlock = some k → ¬ F k) : OwnB w' B v l := h.cf hc hf
set_option maxRecDepth 100000 in
theorem OwnB.sl2 {w : World} {B : Nat} {ao : Option Addr} {n c : Nat} {l : List Int} (h : OwnB w B (.slice ao n c) l) (hw : Wf l) (hl : l.length ≤ 140737488355328) : Sl w ao n c l := by
  obtain ⟨ao', c', e, hs, _⟩ := h.sl hw hl
  injection e with e1 e2 e3
  subst e1 e3
  rw [← e2] at hs
  exact hs
set_option maxRecDepth 100000 in
theorem OwnB.blk {w : World} {B : Nat} {v : Value} {l : List Int} (h : OwnB w B v l) {k : Nat} (hk : v.ownBlock = some k) : B ≤ k ∧ k < w.heap.size := by
  unfold OwnB at h
  exact h.lt k hk
end Go.Proofs.YtedgpcckbdnijaaDoor

/- What the law's kept asks of the texts on espalierref03.Book, where there is none. -/

namespace Go.Proofs.YtedgpcckbdnijaaDoor
open Go.RowKit

/-- F, or made later. -/
def Fw (F : Nat → Prop) (w : World) (z : Nat) : Prop := F z ∨ w.heap.size ≤ z
set_option maxRecDepth 100000 in
theorem Cf.narrow {F : Nat → Prop} {w u : World} (h : Cf (Fw F w) w u) : Cf F w u := ⟨h.os, h.tape, h.output, h.size, fun k hk hf => h.block k hk (fun e => e.elim hf (fun e => by omega))⟩
/-- The slice's own block is one of F's. -/
def Fo (F : Nat → Prop) (w : World) (x : Value) : Prop := ∀ z, x.ownBlock = some z → Fw F w z
set_option maxRecDepth 100000 in
theorem app_run9 {ops : Array Oper} {rest : List Oper} {o : Oper} {a : Act} {w : World} {Q : Exit → Act → World → Prop} (hgd : o.guard = none) (s x : Operand) (t1 t2 : TypeId)
    (ho : o.op = .call { callee := .builtin .append, args := #[s, x], argTypes := #[t1, t2] }) (v u : Value) (hs : a.eval s = v) (hx : a.eval x = u) {v' : Value} {w' : World}
    (hr : (Builtin.append_ #[t1, t2] o.type #[v, u]).run Tryd.prog w = .ok v' w') (h : wpList Tryd.prog ops Q rest (a.put o.dst v') w') : wpList Tryd.prog ops Q (o :: rest) a w := by
  refine wpList_plain hgd fun K hK => ?_
  unfold Oper.wp execOp
  simp only [ho, resolve, invoke, builtin, Sem.run_bind, Sem.run_pure, Result.andThen_ok, List.map_toArray, List.map_cons, List.map_nil, hs, hx, hr]
  exact hK _ _ h
set_option maxRecDepth 100000 in
theorem cell_at {V : List Value} {N i : Nat} (hN : V.length = N) (hi : i < N) : ∃ u, V[i]? = some u := ⟨_, List.getElem?_eq_getElem (by omega)⟩
end Go.Proofs.YtedgpcckbdnijaaDoor

/- The law's kept: lists of ints; what they are written to and grown by. -/

namespace Go.Proofs.YtedgpcckbdnijaaDoor
open Go.RowKit

/-- The mark of the i-th list. -/
def jkB (i : Nat) : Int := -1000 - (i : Int)
def jkL (i : Nat) : Nat → List Int
  | 0 => []
  | n + 1 => jkL i n ++ [jkB i]
set_option maxRecDepth 100000 in
theorem jkL_length (i : Nat) : ∀ n, (jkL i n).length = n
  | 0 => rfl
  | n + 1 => by simp [jkL, jkL_length i n]
set_option maxRecDepth 100000 in
theorem jkL_get (i : Nat) : ∀ n k, k < n → (jkL i n).getD k 0 = jkB i
  | 0, k, h => by omega
  | n + 1, k, h => by
    unfold jkL
    by_cases e : k < n
    · rw [show (jkL i n ++ [jkB i]).getD k 0 = (jkL i n).getD k 0 from by simp [List.getD, List.getElem?_append_left (show k < (jkL i n).length by rw [jkL_length]; exact e)]]
      exact jkL_get i n k e
    · obtain rfl : k = n := by omega
      simp [List.getD, jkL_length]
set_option maxRecDepth 100000 in
theorem jkL_wf (i : Nat) (hi : i ≤ 2000000) (n : Nat) : ∀ x ∈ jkL i n, -9223372036854775808 ≤ x ∧ x ≤ 9223372036854775807 := by
  intro x hx
  obtain ⟨k, hk, rfl⟩ := List.mem_iff_getElem.1 hx
  have h := jkL_get i n k (by rw [jkL_length] at hk; exact hk)
  rw [List.getD, List.getElem?_eq_getElem hk] at h
  have h2 : (jkL i n)[k] = jkB i := h
  rw [h2]
  unfold jkB
  omega
set_option maxRecDepth 100000 in
theorem SlZ.gr {w w' : World} {v v' : Value} {ao : Option Addr} {n cap : Nat} {l : List Int} (h : SlZ w ao n cap l) (hg : Gr w v w' v') (hf : Far ao n v) : SlZ w' ao n cap l := by
  refine ⟨h.hlen, h.hbig, h.wf, h.hcap, ?_⟩
  rcases h.hat with h0 | ⟨b, off, e, hlt, hcc⟩
  · exact .inl h0
  · rcases hf with h0 | hf
    · exact .inl h0
    · refine .inr ⟨b, off, e, Nat.lt_of_lt_of_le hlt hg.grow.size, fun i hi => ?_⟩
      rw [← hcc i hi]
      exact World.cell?_of_block (hg.grow.block b hlt (fun e2 => hf _ e e2.symm))
set_option maxRecDepth 100000 in
theorem own_setJ {w : World} {B g k n cap : Nat} {l : List Int} {x : Int} (h : OwnJ w B (.slice (some ⟨g, 0, none⟩) n cap) l) (hn : l.length = n) (hk : k < n) :
    OwnJ (w.setCell ⟨g, k, none⟩ (.int .i64 x)) B (.slice (some ⟨g, 0, none⟩) n cap) (l.set k x) := by
  subst hn
  unfold OwnJ at *
  have := (World.ownsRow.stored h k (.int .i64 x)).1
  simp only [List.length_set]
  rw [show IV (l.set k x) = (IV l).set k (.int .i64 x) from by simp [IV, List.map_set]]
  exact this
set_option maxRecDepth 100000 in
theorem own_cellJ {w : World} {B g k n cap : Nat} {l : List Int} (h : OwnJ w B (.slice (some ⟨g, 0, none⟩) n cap) l) (hn : l.length = n) (hk : k < n) : w.cell? ⟨g, k, none⟩ = some (.int .i64 (l.getD k 0)) := by
  subst hn
  unfold OwnJ at h
  rw [World.ownsRow.cellAt h k (by omega)]
  simp [IV, List.getD, List.getElem?_eq_getElem hk]
set_option maxRecDepth 100000 in
theorem own_freeJ {w : World} {B g n cap : Nat} {l : List Int} (h : OwnJ w B (.slice (some ⟨g, 0, none⟩) n cap) l) (hn : l.length = n) (k : Nat) : w.frozen? ⟨g, k, none⟩ = false := by
  subst hn
  exact World.ownsRow.frozenAt h k
set_option maxRecDepth 100000 in
theorem OwnJ.on {w w' : World} {B C : Nat} {v : Value} {l : List Int} (h : OwnJ w B v l) (_ : w.heap.size ≤ C) (hb : Below C w w') : OwnJ w' B v l := h.below ⟨hb.os, hb.tape, hb.output, hb.size, fun k hk => hb.block k (by omega)⟩
set_option maxRecDepth 100000 in
/-- append(x, y): in its place, or anew. -/
theorem app_oneJ (w : World) (B : Nat) (ty : TypeId) (v : Value) (l : List Int) (y : Int) (b : Nat) (hown : OwnJ w B v l) (hc : w.cell? ⟨b, 0, none⟩ = some (.int .i64 y)) (hb : l.length + 1 ≤ 2000000) (hB : B ≤ w.heap.size) :
    ∃ v' w', (Builtin.append_ #[22, 22] ty #[v, .slice (some ⟨b, 0, none⟩) 1 1]).run Tryd.prog w = .ok v' w' ∧ OwnJ w' B v' (l ++ [y]) ∧
      ((v'.ownBlock = v.ownBlock ∧ w.grownBy w' v.ownBlock) ∨ (Below w.heap.size w w' ∧ ∀ k, v'.ownBlock = some k → w.heap.size ≤ k)) := by
  obtain ⟨i0, hi, hz0, hz1, hz2⟩ := info_parts info64
  have hnews : ∀ j u, (IV [y])[j]? = some u → w.cell? ((⟨b, 0, none⟩ : Addr).add j) = some u := fun j u hu => by
    have hj : j = 0 := by
      have := (List.getElem?_eq_some_iff.1 hu).1
      simp [IV] at this
      omega
    subst hj
    simp [IV] at hu
    rw [← hu]
    simpa [Addr.add] using hc
  obtain ⟨v', w', hr, h2, h3, h4⟩ := run_append_own (P := Tryd.prog) w B 22 ty 3 i0 (.int .i64 0) 1 8 Tryd.underlying22 hi hz0 hz1 hz2 rfl (by decide) v l.length (IV l) hown ⟨b, 0, none⟩ 1 1 (IV [y]) rfl hnews (IV_one [y]) (by unfold maxLen; omega) (by omega) hB
  refine ⟨v', w', hr, ?_, ?_⟩
  · unfold OwnJ
    rw [show IV (l ++ [y]) = IV l ++ IV [y] from by simp [IV], List.length_append]
    exact h2
  · rcases hown.2 with ⟨rfl, h0⟩ | ⟨g, cap, cur, rfl, hbg, hg, hnc, hcm, hcs, htake⟩
    · have hr' := run_append_nil (P := Tryd.prog) w 22 ty 3 i0 (.int .i64 0) Tryd.underlying22 hi hz0 ⟨b, 0, none⟩ 1 1 (IV [y]) (by rw [hz1]; rfl) hnews (by omega) (by omega) (by rw [hz2]; omega)
      rw [hr] at hr'
      injection hr' with e1 e2
      refine .inr ⟨by rw [e2]; exact (Below.refl _ _).drew.alloc (Nat.le_refl _) _, fun k hk => ?_⟩
      rw [e1] at hk
      injection hk with hk
      have : w.heap.size = k := hk
      omega
    · by_cases hroom : l.length + 1 ≤ cap
      · have hr' := run_append_room (P := Tryd.prog) w 22 ty 3 i0 Tryd.underlying22 hi g l.length cap cur hg ⟨b, 0, none⟩ 1 1 (IV [y]) (by rw [hz1]; rfl) hnews (IV_one [y]) hroom (by rw [hz1]; simp only [IV_length, List.length_cons, List.length_nil]; omega)
        rw [hr] at hr'
        injection hr' with e1 e2
        exact .inl ⟨by rw [e1]; rfl, h3⟩
      · have holds : ∀ j u, (IV l)[j]? = some u → w.cell? ((⟨g, 0, none⟩ : Addr).add j) = some u := World.ownsRow.cells (show w.ownsRow B 3 1 _ _ _ from hown) (g := g) rfl
        have hr' := run_append_grow (P := Tryd.prog) w 22 ty 3 i0 (.int .i64 0) Tryd.underlying22 hi hz0 ⟨g, 0, none⟩ l.length cap (IV l) (by rw [hz1]; simp [IV]) holds ⟨b, 0, none⟩ 1 1 (IV [y]) (by rw [hz1]; rfl) hnews (by omega) (by omega) (by rw [hz2]; exact growslice_fits (by omega) (by omega))
        rw [hr] at hr'
        injection hr' with e1 e2
        refine .inr ⟨by rw [e2]; exact (Below.refl _ _).drew.alloc (Nat.le_refl _) _, fun k hk => ?_⟩
        rw [e1] at hk
        injection hk with hk
        have : w.heap.size = k := hk
        omega
/-- A slice of the marks i that is not touched, or that what is grown begins with. -/
structure Jk (w : World) (x : Value) (i L : Nat) (ao : Option Addr) (n cap j : Nat) : Prop where
  sl : SlZ w ao n cap (jkL j n)
  far : Far ao n x ∨ (j = i ∧ n ≤ L ∧ ∃ g, ao = some ⟨g, 0, none⟩ ∧ x.ownBlock = some g)
set_option maxRecDepth 100000 in
theorem OwnJ.marks {w : World} {B : Nat} {x : Value} {i L g : Nat} (hi : i ≤ 2000000) (h : OwnJ w B x (jkL i L)) (hg : x.ownBlock = some g) {n cap : Nat} (hn : n ≤ L) (hc : n ≤ cap) (hr : n ≤ 140737488355328) : SlZ w (some ⟨g, 0, none⟩) n cap (jkL i n) := by
  have hb := h
  unfold OwnJ at hb
  rcases hb.2 with ⟨rfl, _⟩ | ⟨g', c, cur, rfl, _, hh, _⟩
  · cases hg
  · injection hg with hg
    have hg' : g' = g := hg
    subst hg'
    refine ⟨jkL_length i n, hr, jkL_wf i hi n, hc, .inr ⟨g', 0, rfl, lt_some hh, fun k hk => ?_⟩⟩
    rw [Nat.zero_add, own_cellJ h rfl (by rw [jkL_length]; omega), jkL_get i L k (by omega), jkL_get i n k hk]
set_option maxRecDepth 100000 in
theorem Jk.app {w w' : World} {B : Nat} {x x' : Value} {i L : Nat} {ao : Option Addr} {n cap j : Nat} (hi : i ≤ 2000000) (h : Jk w x i L ao n cap j) (ho : OwnJ w' B x' (jkL i (L + 1)))
    (hc : (x'.ownBlock = x.ownBlock ∧ w.grownBy w' x.ownBlock) ∨ (Below w.heap.size w w' ∧ ∀ k, x'.ownBlock = some k → w.heap.size ≤ k)) : Jk w' x' i (L + 1) ao n cap j := by
  rcases hc with ⟨e, hg⟩ | ⟨hb, hn⟩
  · rcases h.far with hf | ⟨rfl, hl, g, rfl, hx⟩
    · refine ⟨h.sl.gr (v' := x') ⟨hg, .inl e⟩ hf, .inl ?_⟩
      rcases hf with hf | hf
      · exact .inl hf
      · right
        rw [e]
        exact hf
    · exact ⟨ho.marks hi (by rw [e]; exact hx) (by omega) h.sl.hcap h.sl.hbig, .inr ⟨rfl, by omega, g, rfl, by rw [e]; exact hx⟩⟩
  · refine ⟨h.sl.on (Nat.le_refl _) hb, .inl ?_⟩
    rcases h.sl.hat with h0 | ⟨b, off, rfl, hlt, _⟩
    · exact .inl h0
    · right
      intro p hp e
      cases hp
      have := hn _ e
      simp only at this
      omega
set_option maxRecDepth 100000 in
theorem Jk.on {w w' : World} {x : Value} {i L : Nat} {ao : Option Addr} {n cap j : Nat} (h : Jk w x i L ao n cap j) (hb : Below w.heap.size w w') : Jk w' x i L ao n cap j := ⟨h.sl.on (Nat.le_refl _) hb, h.far⟩
set_option maxRecDepth 100000 in
theorem infoSlJ : (Tryd.prog.info? 22).map (fun i => (i.zero, i.size, i.bytes)) = some (some (.slice none 0 0), 1, 24) := by kernel_rfl
/-- The slice value v owns the values xs. -/
def OwnW (w : World) (B : Nat) (v : Value) (xs : List Value) : Prop := w.ownsRow B 22 1 v xs.length xs
set_option maxRecDepth 100000 in
theorem OwnW.nil (w : World) (B : Nat) : OwnW w B (.slice none 0 0) [] := World.ownsRow_nil w B 22 1
set_option maxRecDepth 100000 in
theorem i_neW : 3 ≠ 22 := by decide
set_option maxRecDepth 100000 in
theorem kp_neW : 35 ≠ 22 := by decide
set_option maxRecDepth 100000 in
theorem kp_neI : 35 ≠ 3 := by decide
set_option maxRecDepth 100000 in
/-- A row of values is not a block of another type. -/
theorem OwnW.noty {w : World} {B : Nat} {v : Value} {xs : List Value} (h : OwnW w B v xs) {g : Nat} {c : Array Value} {t : TypeId} {fz : Nat × Nat} (hg : w.heap[g]? = some (.cells c t fz)) (ht : t ≠ 22) : v.ownBlock ≠ some g := by
  intro e
  rcases h.2 with ⟨rfl, _⟩ | ⟨k, cap, cur, rfl, _, hk, _⟩
  · cases e
  · injection e with e
    have e' : k = g := e
    rw [← e', hk] at hg
    injection hg with hg
    injection hg with _ h2 _
    exact ht h2.symm
set_option maxRecDepth 100000 in
theorem OwnJ.noty {w : World} {B : Nat} {v : Value} {l : List Int} (h : OwnJ w B v l) {g : Nat} {c : Array Value} {t : TypeId} {fz : Nat × Nat} (hg : w.heap[g]? = some (.cells c t fz)) (ht : t ≠ 3) : v.ownBlock ≠ some g := by
  intro e
  unfold OwnJ at h
  rcases h.2 with ⟨rfl, _⟩ | ⟨k, cap, cur, rfl, _, hk, _⟩
  · cases e
  · injection e with e
    have e' : k = g := e
    rw [← e', hk] at hg
    injection hg with hg
    injection hg with _ h2 _
    exact ht h2.symm
set_option maxRecDepth 100000 in
theorem OwnW.noB {w : World} {B C : Nat} {v u : Value} {xs : List Value} {l : List Int} (h : OwnW w B v xs) (k : OwnJ w C u l) : v.ownBlock = none ∨ v.ownBlock ≠ u.ownBlock := by
  have k2 := k
  unfold OwnJ at k2
  rcases k2.2 with ⟨rfl, _⟩ | ⟨g, cap, cur, rfl, _, hk, _⟩
  · cases e : v.ownBlock with
    | none => exact .inl rfl
    | some _ => right; simp [Value.ownBlock]
  · exact .inr (h.noty hk i_neW)
set_option maxRecDepth 100000 in
theorem OwnW.kept {w w' : World} {B : Nat} {v : Value} {xs : List Value} {row : Option Nat} (h : OwnW w B v xs) (hg : w.grownBy w' row) (hne : v.ownBlock = none ∨ v.ownBlock ≠ row) : OwnW w' B v xs := World.ownsRow.kept h hg hne
set_option maxRecDepth 100000 in
theorem OwnW.on {w w' : World} {B : Nat} {v : Value} {xs : List Value} (h : OwnW w B v xs) (hb : Below w.heap.size w w') : OwnW w' B v xs := h.kept (row := none) ⟨hb.os, hb.tape, hb.output, hb.size, fun k hk _ => hb.block k hk⟩ (by
  cases e : v.ownBlock with
  | none => exact .inl rfl
  | some k => exact .inr (by simp))
set_option maxRecDepth 100000 in
theorem OwnW.cells {w : World} {B : Nat} {v : Value} {xs : List Value} (h : OwnW w B v xs) : ∃ ao cap, v = .slice ao xs.length cap ∧ (xs.length = 0 ∨ ∃ g, ao = some ⟨g, 0, none⟩ ∧ xs.length ≤ cap ∧ ∀ (t : Nat) (u : Value), xs[t]? = some u → w.cell? ⟨g, t, none⟩ = some u) := by
  rcases h.2 with ⟨rfl, h0⟩ | ⟨g, cap, cur, rfl, hg, hh, hnc, hm, hs, ht⟩
  · exact ⟨none, 0, by rw [h0], .inl h0⟩
  · refine ⟨_, cap, rfl, .inr ⟨g, rfl, hnc, fun t u hu => ?_⟩⟩
    have hlt := (List.getElem?_eq_some_iff.1 hu).1
    have := World.ownsRow.cellAt h t (by omega)
    rw [this]
    exact hu
set_option maxRecDepth 100000 in
/-- 'append(got, b)'. -/
theorem app_w {ops : Array Oper} {rest : List Oper} {o : Oper} {a : Act} {Q : Exit → Act → World → Prop} (w : World) (hgd : o.guard = none) (s x : Operand)
    (ho : o.op = .call { callee := .builtin .append, args := #[s, x], argTypes := #[33, 33] }) (B : Nat) (xs : List Value) (v y : Value) (hs : a.eval s = v) (h1 : y.oneCell' = true)
    (hown : OwnW w B v xs) (b : Nat) (hx : a.eval x = .slice (some ⟨b, 0, none⟩) 1 1) (hc : w.cell? ⟨b, 0, none⟩ = some y) (hb : xs.length + 1 ≤ 2000000) (hbase : B ≤ w.heap.size)
    (h : ∀ v' w', OwnW w' B v' (xs ++ [y]) → Gr w v w' v' → wpList Tryd.prog ops Q rest (a.put o.dst v') w') : wpList Tryd.prog ops Q (o :: rest) a w := by
  obtain ⟨i0, hi, hz0, hz1, hz2⟩ := info_parts infoSlJ
  refine wpList_append_own_at w hgd s x 33 ho B 22 i0 (.slice none 0 0) 1 24 Tryd.underlying33 hi hz0 hz1 hz2 rfl (by decide) v xs.length xs hs hown ⟨b, 0, none⟩ 1 1 [y] hx rfl
    (fun j u hu => by
      have hj : j = 0 := by
        have := (List.getElem?_eq_some_iff.1 hu).1
        simpa using this
      subst hj
      simp at hu
      subst hu
      simpa [Addr.add_lit] using hc) (fun u hu => by simp at hu; subst hu; exact h1) (by unfold maxLen; omega) (by omega) hbase ?_
  intro v' w' h1 h2 _ h4
  refine h v' w' ?_ ⟨h2, h4.imp id fun e => ⟨_, e, Nat.le_refl _⟩⟩
  unfold OwnW
  rw [List.length_append]
  exact h1
/-- The law's kept in memory: its lists' slice. -/
def KBox (w : World) (bk : Nat) (v : Value) : Prop := ∃ kn kw, w.heap[bk]? = some (.cells #[kn, v, kw] 35 (0, 0))
set_option maxRecDepth 100000 in
theorem KBox.lt {w : World} {bk : Nat} {v : Value} (h : KBox w bk v) : bk < w.heap.size := by obtain ⟨_, _, h⟩ := h; exact lt_some h
set_option maxRecDepth 100000 in
theorem KBox.mv {w w' : World} {bk : Nat} {v : Value} (h : KBox w bk v) (e : w'.heap[bk]? = w.heap[bk]?) : KBox w' bk v := by obtain ⟨a, b, h⟩ := h; exact ⟨a, b, e.trans h⟩
set_option maxRecDepth 100000 in
theorem KBox.noI {w : World} {bk B : Nat} {v x : Value} {l : List Int} (h : KBox w bk v) (ho : OwnJ w B x l) : x.ownBlock ≠ some bk := by obtain ⟨a, b, h⟩ := h; exact ho.noty h kp_neI
set_option maxRecDepth 100000 in
theorem KBox.noW {w : World} {bk B : Nat} {v x : Value} {l : List Value} (h : KBox w bk v) (ho : OwnW w B x l) : x.ownBlock ≠ some bk := by obtain ⟨a, b, h⟩ := h; exact ho.noty h kp_neW
set_option maxRecDepth 100000 in
theorem KBox.cell {w : World} {bk : Nat} {v : Value} (h : KBox w bk v) : w.cell? ⟨bk, 1, none⟩ = some v := by obtain ⟨a, b, h⟩ := h; rw [cell_of_row _ _ 1 _ _ _ h]; rfl
/-- THE LISTS THAT ARE KEPT: the lists V, list t has the bytes D t. -/
structure Ko9 (w : World) (B bk : Nat) (v : Value) (V : List Value) (D : Nat → List Int) : Prop where
  box : KBox w bk v
  row : OwnW w B v V
  own : ∀ (t : Nat) (u : Value), V[t]? = some u → OwnJ w B u (D t) ∧ (D t).length ≤ 65536
  ne : ∀ (t t' : Nat) (u u' : Value), V[t]? = some u → V[t']? = some u' → t ≠ t' → u.ownBlock = none ∨ u.ownBlock ≠ u'.ownBlock
set_option maxRecDepth 100000 in
theorem own_shapeJ {w : World} {B : Nat} {u : Value} {l : List Int} (h : OwnJ w B u l) : ∃ ao c, u = .slice ao l.length c ∧ (l.length = 0 ∨ ∃ g, ao = some ⟨g, 0, none⟩ ∧ B ≤ g) := by
  have h2 := h
  unfold OwnJ at h2
  rcases h2.2 with ⟨rfl, h0⟩ | ⟨g, cap, cur, rfl, hg, _⟩
  · exact ⟨none, 0, by rw [h0], .inl h0⟩
  · exact ⟨_, cap, rfl, .inr ⟨g, rfl, hg⟩⟩
set_option maxRecDepth 100000 in
theorem Ko9.set {w : World} {B bk : Nat} {v : Value} {V : List Value} {D : Nat → List Int} (h : Ko9 w B bk v V D) {i g n c k : Nat} {y : Int} (hi : V[i]? = some (.slice (some ⟨g, 0, none⟩) n c)) (hn : (D i).length = n) (hk : k < n) :
    Ko9 (w.setCell ⟨g, k, none⟩ (.int .i64 y)) B bk v V (fun t => if t = i then (D i).set k y else D t) := by
  obtain ⟨ho, hl⟩ := h.own i _ hi
  have hgu : (Value.slice (some ⟨g, 0, none⟩) n c).ownBlock = some g := rfl
  have hc : Cf (· = g) w (w.setCell ⟨g, k, none⟩ (.int .i64 y)) := Cf.setCell (F := (· = g)) w (p := ⟨g, k, none⟩) rfl _
  have hgr : w.grownBy (w.setCell ⟨g, k, none⟩ (.int .i64 y)) (some g) := ⟨hc.os, hc.tape, hc.output, hc.size, fun q hq hne => hc.block q hq (fun e => hne (by rw [e]))⟩
  refine ⟨h.box.mv (hc.block bk h.box.lt (fun e => h.box.noI ho (by rw [hgu, e]))), h.row.kept hgr ?_, fun t u ht => ?_, h.ne⟩
  · rcases h.row.noB ho with e | e
    · exact .inl e
    · exact .inr e
  · by_cases e : t = i
    · subst e
      rw [hi] at ht
      cases ht
      simp only [if_true]
      exact ⟨own_setJ ho hn hk, by rw [List.length_set]; exact hl⟩
    · simp only [if_neg e]
      obtain ⟨o2, l2⟩ := h.own t u ht
      exact ⟨World.ownsRow.kept o2 hgr (by
        rcases h.ne t i u _ ht hi e with e2 | e2
        · exact .inl e2
        · exact .inr e2), l2⟩
set_option maxRecDepth 100000 in
theorem Ko9.on {w w' : World} {B bk : Nat} {v : Value} {V : List Value} {D : Nat → List Int} (h : Ko9 w B bk v V D) (hb : Below w.heap.size w w') : Ko9 w' B bk v V D :=
  ⟨h.box.mv (hb.block _ h.box.lt), h.row.on hb, fun t u ht => ⟨(h.own t u ht).1.on (Nat.le_refl _) hb, (h.own t u ht).2⟩, h.ne⟩
set_option maxRecDepth 100000 in
theorem Ko9.cong {w : World} {B bk : Nat} {v : Value} {V : List Value} {D E : Nat → List Int} (h : Ko9 w B bk v V D) (he : ∀ t, t < V.length → D t = E t) : Ko9 w B bk v V E :=
  ⟨h.box, h.row, fun t u ht => by rw [← he t (List.getElem?_eq_some_iff.1 ht).1]; exact h.own t u ht, h.ne⟩
end Go.Proofs.YtedgpcckbdnijaaDoor

/- kept.stands: what stands while it runs. -/

namespace Go.Proofs.YtedgpcckbdnijaaDoor
open Go.RowKit

/-- The ints lie in a block of ints. -/
def U6 (w : World) (ao : Option Addr) (n : Nat) : Prop := n = 0 ∨ ∀ p, ao = some p → ∃ cs fz, w.heap[p.block]? = some (.cells cs 3 fz)
set_option maxRecDepth 100000 in
theorem U6.on {w w' : World} {ao : Option Addr} {n : Nat} (h : U6 w ao n) (hb : Below w.heap.size w w') : U6 w' ao n := h.imp id fun h p hp => by
  obtain ⟨cs, fz, e⟩ := h p hp
  exact ⟨cs, fz, (hb.block _ (lt_some e)).trans e⟩
set_option maxRecDepth 100000 in
theorem OwnJ.u6 {w : World} {B : Nat} {x : Value} {l : List Int} (h : OwnJ w B x l) {g : Nat} (hg : x.ownBlock = some g) : ∃ cs fz, w.heap[g]? = some (.cells cs 3 fz) := by
  unfold OwnJ at h
  rcases h.2 with ⟨rfl, _⟩ | ⟨g', c, cur, rfl, _, hh, _⟩
  · cases hg
  · injection hg with hg
    have hg' : g' = g := hg
    rw [← hg']
    exact ⟨_, _, hh⟩
set_option maxRecDepth 100000 in
theorem U6.app {w w' : World} {B : Nat} {x x' : Value} {l : List Int} {ao : Option Addr} {n : Nat} (h : U6 w ao n) (ho : OwnJ w' B x' l)
    (hc : (x'.ownBlock = x.ownBlock ∧ w.grownBy w' x.ownBlock) ∨ (Below w.heap.size w w' ∧ ∀ k, x'.ownBlock = some k → w.heap.size ≤ k)) : U6 w' ao n := by
  rcases hc with ⟨e, hg⟩ | ⟨hb, _⟩
  · refine h.imp id fun h p hp => ?_
    by_cases e2 : x.ownBlock = some p.block
    · exact ho.u6 (by rw [e]; exact e2)
    · obtain ⟨cs, fz, e3⟩ := h p hp
      exact ⟨cs, fz, (hg.block _ (lt_some e3) (fun e4 => e2 e4.symm)).trans e3⟩
  · exact h.on hb
/-- A slice of marks, as it stands while x is grown. -/
structure Js (w : World) (x : Value) (i L : Nat) (u : Value) (n j : Nat) : Prop where
  ex : ∃ ao c, u = .slice ao n c ∧ Jk w x i L ao n c j ∧ U6 w ao n
set_option maxRecDepth 100000 in
theorem Js.app {w w' : World} {B : Nat} {x x' : Value} {i L : Nat} {u : Value} {n j : Nat} (hi : i ≤ 2000000) (h : Js w x i L u n j) (ho : OwnJ w' B x' (jkL i (L + 1)))
    (hc : (x'.ownBlock = x.ownBlock ∧ w.grownBy w' x.ownBlock) ∨ (Below w.heap.size w w' ∧ ∀ k, x'.ownBlock = some k → w.heap.size ≤ k)) : Js w' x' i (L + 1) u n j := by
  obtain ⟨ao, c, rfl, h1, h2⟩ := h.ex
  exact ⟨ao, c, rfl, h1.app hi ho hc, h2.app ho hc⟩
set_option maxRecDepth 100000 in
theorem Js.on {w w' : World} {x : Value} {i L : Nat} {u : Value} {n j : Nat} (h : Js w x i L u n j) (hb : Below w.heap.size w w') : Js w' x i L u n j := by
  obtain ⟨ao, c, rfl, h1, h2⟩ := h.ex
  exact ⟨ao, c, rfl, h1.on hb, h2.on hb⟩
set_option maxRecDepth 100000 in
/-- A row of values is grown: slices of ints stay. -/
theorem Js.grow {w w' : World} {B : Nat} {vG vG' : Value} {H : List Value} {x : Value} {i L : Nat} {u : Value} {n j : Nat} (h : Js w x i L u n j) (hG : OwnW w B vG H) (hg : Gr w vG w' vG') : Js w' x i L u n j := by
  obtain ⟨ao, c, rfl, h1, h2⟩ := h.ex
  have hf : n = 0 ∨ ∀ p, ao = some p → vG.ownBlock ≠ some p.block := h2.imp id fun h p hp => by
    obtain ⟨cs, fz, e⟩ := h p hp
    exact hG.noty e i_neW
  refine ⟨ao, c, rfl, ⟨h1.sl.gr hg hf, h1.far⟩, ?_⟩
  rcases h2 with h0 | h2
  · exact .inl h0
  · rcases hf with h0 | hf
    · exact .inl h0
    · right
      intro p hp
      obtain ⟨cs, fz, e⟩ := h2 p hp
      exact ⟨cs, fz, (hg.grow.block _ (lt_some e) (fun e4 => hf p hp e4.symm)).trans e⟩
/-- Where the second pair of loops stands. -/
structure J9 (w : World) (B bk : Nat) (v : Value) (V : List Value) (nn : Nat → Nat) (i k : Nat) (x vG : Value) (H : List Value) : Prop where
  box : KBox w bk v
  row : OwnW w B v V
  rowG : OwnW w B vG H
  gne : v.ownBlock = none ∨ v.ownBlock ≠ vG.ownBlock
  xo : OwnJ w B x (jkL i (nn i + k))
  lst : ∀ (t : Nat) (u : Value), V[t]? = some u → Js w x i (nn i + k) u (nn t) t
  own : ∀ (t : Nat) (u : Value), V[t]? = some u → i < t → OwnJ w B u (jkL t (nn t)) ∧ (u.ownBlock = none ∨ u.ownBlock ≠ x.ownBlock)
  gr : ∀ (s : Nat) (u : Value), H[s]? = some u → ∃ n, Js w x i (nn i + k) u n (s / 9)
  gfar : ∀ (s : Nat) (y : Value), H[s]? = some y → ∀ (t : Nat) (u : Value), V[t]? = some u → i < t → y.ownBlock = none ∨ y.ownBlock ≠ u.ownBlock
set_option maxRecDepth 100000 in
theorem J9.on {w w' : World} {B bk : Nat} {v : Value} {V : List Value} {nn : Nat → Nat} {i k : Nat} {x vG : Value} {H : List Value} (h : J9 w B bk v V nn i k x vG H) (hb : Below w.heap.size w w') : J9 w' B bk v V nn i k x vG H :=
  ⟨h.box.mv (hb.block _ h.box.lt), h.row.on hb, h.rowG.on hb, h.gne, h.xo.on (Nat.le_refl _) hb, fun t u ht => (h.lst t u ht).on hb, fun t u ht hi => ⟨(h.own t u ht hi).1.on (Nat.le_refl _) hb, (h.own t u ht hi).2⟩, fun s u hs => by
    obtain ⟨n, h1⟩ := h.gr s u hs
    exact ⟨n, h1.on hb⟩, h.gfar⟩
set_option maxRecDepth 100000 in
theorem J9.appX {w w' : World} {B bk : Nat} {v : Value} {V : List Value} {nn : Nat → Nat} {i k : Nat} {x x' vG : Value} {H : List Value} (hi0 : i ≤ 2000000) (h : J9 w B bk v V nn i k x vG H) (ho : OwnJ w' B x' (jkL i (nn i + k + 1)))
    (hc : (x'.ownBlock = x.ownBlock ∧ w.grownBy w' x.ownBlock) ∨ (Below w.heap.size w w' ∧ ∀ q, x'.ownBlock = some q → w.heap.size ≤ q)) : J9 w' B bk v V nn i (k + 1) x' vG H := by
  have hXx : ∀ {y : Value} {ys : List Value}, OwnW w B y ys → OwnW w' B y ys := by
    intro y ys hy
    rcases hc with ⟨_, hg⟩ | ⟨hb, _⟩
    · exact hy.kept hg (hy.noB h.xo)
    · exact hy.on hb
  refine ⟨?_, hXx h.row, hXx h.rowG, h.gne, ho, fun t u ht => (h.lst t u ht).app hi0 ho hc, fun t u ht hi => ?_, fun s u hs => ?_, h.gfar⟩
  · rcases hc with ⟨_, hg⟩ | ⟨hb, _⟩
    · exact h.box.mv (hg.block bk h.box.lt (fun e => h.box.noI h.xo e.symm))
    · exact h.box.mv (hb.block _ h.box.lt)
  · obtain ⟨o1, n1⟩ := h.own t u ht hi
    rcases hc with ⟨e, hg⟩ | ⟨hb, hn⟩
    · exact ⟨World.ownsRow.kept o1 hg n1, by rw [e]; exact n1⟩
    · refine ⟨o1.on (Nat.le_refl _) hb, ?_⟩
      cases e : u.ownBlock with
      | none => exact .inl rfl
      | some q =>
        right
        intro e2
        have h1 := (o1.lt e).2
        have h2 := hn q e2.symm
        omega
  · obtain ⟨n, h1⟩ := h.gr s u hs
    exact ⟨n, h1.app hi0 ho hc⟩
set_option maxRecDepth 100000 in
theorem J9.appY {w w' : World} {B bk : Nat} {v : Value} {V : List Value} {nn : Nat → Nat} {i k : Nat} {x y vG vG' : Value} {H : List Value} (h : J9 w B bk v V nn i k x vG H) (hG : OwnW w' B vG' (H ++ [y])) (hg : Gr w vG w' vG')
    (hy : ∃ n, Js w x i (nn i + k) y n (H.length / 9)) (hyf : ∀ (t : Nat) (u : Value), V[t]? = some u → i < t → y.ownBlock = none ∨ y.ownBlock ≠ u.ownBlock) : J9 w' B bk v V nn i k x vG' (H ++ [y]) := by
  have hkeep : ∀ {y : Value} {l : List Int}, OwnJ w B y l → OwnJ w' B y l := by
    intro y l hy
    refine World.ownsRow.kept hy hg.grow ?_
    rcases h.rowG.noB hy with e | e
    · rw [e]
      cases e2 : y.ownBlock with
      | none => exact .inl rfl
      | some _ => exact .inr (by simp)
    · exact .inr fun e2 => e e2.symm
  have hxo := hkeep h.xo
  refine ⟨h.box.mv (hg.grow.block bk h.box.lt (fun e => h.box.noW h.rowG e.symm)), h.row.kept hg.grow h.gne, hG, ?_, hxo, fun t u ht => (h.lst t u ht).grow h.rowG hg, fun t u ht hi => ⟨hkeep (h.own t u ht hi).1, (h.own t u ht hi).2⟩, fun s u hsu => ?_, fun s y hsy t u ht hi => ?_⟩
  · rcases h.gne with e | e
    · exact .inl e
    · rcases hg.own with e2 | ⟨q, e2, hq⟩
      · rw [e2]; exact .inr e
      · cases e3 : v.ownBlock with
        | none => exact .inl rfl
        | some z =>
          right
          rw [e2]
          intro e4
          injection e4 with e4
          have hr := h.row
          unfold OwnW at hr
          have := (hr.lt z e3).2
          omega
  · by_cases e : s < H.length
    · rw [List.getElem?_append_left e] at hsu
      obtain ⟨n, h1⟩ := h.gr s u hsu
      exact ⟨n, h1.grow h.rowG hg⟩
    · have hlt := (List.getElem?_eq_some_iff.1 hsu).1
      rw [List.length_append] at hlt
      simp only [List.length_cons, List.length_nil] at hlt
      obtain rfl : s = H.length := by omega
      rw [List.getElem?_concat_length] at hsu
      cases hsu
      obtain ⟨n, h1⟩ := hy
      exact ⟨n, h1.grow h.rowG hg⟩
  · by_cases e : s < H.length
    · rw [List.getElem?_append_left e] at hsy
      exact h.gfar s y hsy t u ht hi
    · have hlt := (List.getElem?_eq_some_iff.1 hsy).1
      rw [List.length_append] at hlt
      simp only [List.length_cons, List.length_nil] at hlt
      obtain rfl : s = H.length := by omega
      rw [List.getElem?_concat_length] at hsy
      cases hsy
      exact hyf t u ht hi
set_option maxRecDepth 100000 in
/-- What is grown is such a slice itself. -/
theorem J9.self {w : World} {B bk : Nat} {v : Value} {V : List Value} {nn : Nat → Nat} {i k : Nat} {x vG : Value} {H : List Value} (h : J9 w B bk v V nn i k x vG H) (hi : i ≤ 2000000) (hs : H.length / 9 = i) (h0 : 0 < nn i + k) (hl : nn i + k ≤ 140737488355328) : ∃ n, Js w x i (nn i + k) x n (H.length / 9) := by
  obtain ⟨ao2, c2, e6, h7⟩ := own_shapeJ h.xo
  rw [jkL_length] at e6 h7
  rcases h7 with h7 | ⟨g, rfl, _⟩
  · omega
  have hob : x.ownBlock = some g := by rw [e6]; rfl
  have hcap : nn i + k ≤ c2 := by
    have h8 := h.xo
    unfold OwnJ at h8
    rcases h8.2 with ⟨e9, _⟩ | ⟨g', cap', cur, e9, _, _, hnc, _⟩
    · rw [e6] at e9; cases e9
    · rw [e6] at e9
      rw [jkL_length] at hnc e9
      injection e9 with _ _ e10
      omega
  refine ⟨nn i + k, ⟨some ⟨g, 0, none⟩, c2, e6, ⟨?_, .inr ⟨hs, Nat.le_refl _, g, rfl, hob⟩⟩, .inr fun p hp => ?_⟩⟩
  · rw [hs]
    exact h.xo.marks hi hob (Nat.le_refl _) hcap hl
  · cases hp
    exact h.xo.u6 hob
set_option maxRecDepth 100000 in
theorem J9.selff {w : World} {B bk : Nat} {v : Value} {V : List Value} {nn : Nat → Nat} {i k : Nat} {x vG : Value} {H : List Value} (h : J9 w B bk v V nn i k x vG H) : ∀ (t : Nat) (u : Value), V[t]? = some u → i < t → x.ownBlock = none ∨ x.ownBlock ≠ u.ownBlock := by
  intro t u ht hi
  rcases (h.own t u ht hi).2 with e2 | e2
  · rw [e2]
    cases e3 : x.ownBlock with
    | none => exact .inl rfl
    | some _ => exact .inr (by simp)
  · exact .inr fun e3 => e2 e3.symm
/-- A slice of marks. -/
def Jq (w : World) (u : Value) (n j : Nat) : Prop := ∃ ao c, u = .slice ao n c ∧ SlZ w ao n c (jkL j n) ∧ U6 w ao n
/-- Between two lists. -/
structure K9 (w : World) (B bk : Nat) (v : Value) (V : List Value) (nn : Nat → Nat) (i : Nat) (vG : Value) (H : List Value) : Prop where
  box : KBox w bk v
  row : OwnW w B v V
  rowG : OwnW w B vG H
  gne : v.ownBlock = none ∨ v.ownBlock ≠ vG.ownBlock
  lst : ∀ (t : Nat) (u : Value), V[t]? = some u → Jq w u (nn t) t
  own : ∀ (t : Nat) (u : Value), V[t]? = some u → i ≤ t → OwnJ w B u (jkL t (nn t))
  ne : ∀ (t t' : Nat) (u u' : Value), V[t]? = some u → V[t']? = some u' → t ≠ t' → u.ownBlock = none ∨ u.ownBlock ≠ u'.ownBlock
  gr : ∀ (s : Nat) (u : Value), H[s]? = some u → ∃ n, Jq w u n (s / 9)
  gfar : ∀ (s : Nat) (y : Value), H[s]? = some y → ∀ (t : Nat) (u : Value), V[t]? = some u → i ≤ t → y.ownBlock = none ∨ y.ownBlock ≠ u.ownBlock
set_option maxRecDepth 100000 in
theorem far_ofJ {ao : Option Addr} {n c : Nat} {x : Value} (h : (Value.slice ao n c).ownBlock = none ∨ (Value.slice ao n c).ownBlock ≠ x.ownBlock) : Far ao n x := by
  right
  rintro p rfl e
  rcases h with h | h
  · cases h
  · exact h (by rw [e]; rfl)
set_option maxRecDepth 100000 in
theorem K9.into {w : World} {B bk : Nat} {v : Value} {V : List Value} {nn : Nat → Nat} {i : Nat} {vG : Value} {H : List Value} (h : K9 w B bk v V nn i vG H) {x : Value} (hx : V[i]? = some x) : J9 w B bk v V nn i 0 x vG H := by
  have hxo := h.own i x hx (Nat.le_refl _)
  refine ⟨h.box, h.row, h.rowG, h.gne, hxo, fun t u ht => ?_, fun t u ht hi => ⟨h.own t u ht (by omega), h.ne t i u x ht hx (by omega)⟩, fun s u hs => ?_, fun s y hs t u ht hi => h.gfar s y hs t u ht (by omega)⟩
  · obtain ⟨ao, c, rfl, h1, h2⟩ := h.lst t u ht
    refine ⟨ao, c, rfl, ⟨h1, ?_⟩, h2⟩
    by_cases e : t = i
    · subst e
      rw [hx] at ht
      cases ht
      rcases own_shapeJ hxo with ⟨ao2, c2, e2, h3⟩
      injection e2 with e3 e4 e5
      rw [jkL_length] at e4 h3
      rcases h3 with h3 | ⟨g, e6, _⟩
      · exact .inl (.inl h3)
      · refine .inr ⟨rfl, by omega, g, by rw [e3, e6], by rw [e3, e6]; rfl⟩
    · exact .inl (far_ofJ (h.ne t i _ x ht hx e))
  · obtain ⟨n, ao, c, rfl, h1, h2⟩ := h.gr s u hs
    exact ⟨n, ⟨ao, c, rfl, ⟨h1, .inl (far_ofJ (h.gfar s _ hs i x hx (Nat.le_refl _)))⟩, h2⟩⟩
set_option maxRecDepth 100000 in
theorem J9.out {w : World} {B bk : Nat} {v : Value} {V : List Value} {nn : Nat → Nat} {i k : Nat} {x vG : Value} {H : List Value} (h : J9 w B bk v V nn i k x vG H) (hne : ∀ (t t' : Nat) (u u' : Value), V[t]? = some u → V[t']? = some u' → t ≠ t' → u.ownBlock = none ∨ u.ownBlock ≠ u'.ownBlock) : K9 w B bk v V nn (i + 1) vG H :=
  ⟨h.box, h.row, h.rowG, h.gne, fun t u ht => by
    obtain ⟨ao, c, e, h1, h2⟩ := (h.lst t u ht).ex
    exact ⟨ao, c, e, h1.sl, h2⟩, fun t u ht hi => (h.own t u ht (by omega)).1, hne, fun s u hs => by
    obtain ⟨n, h0⟩ := h.gr s u hs
    obtain ⟨ao, c, e, h1, h2⟩ := h0.ex
    exact ⟨n, ao, c, e, h1.sl, h2⟩, fun s y hs t u ht hi => h.gfar s y hs t u ht (by omega)⟩
set_option maxRecDepth 100000 in
theorem Ko9.start {w : World} {B bk : Nat} {v : Value} {V : List Value} {nn : Nat → Nat} (hV : V.length ≤ 200000) (h : Ko9 w B bk v V (fun t => jkL t (nn t))) : K9 w B bk v V nn 0 (.slice none 0 0) [] := by
  refine ⟨h.box, h.row, OwnW.nil _ _, ?_, fun t u ht => ?_, fun t u ht _ => (h.own t u ht).1, h.ne, fun s u hs => by simp at hs, fun s y hs => by simp at hs⟩
  · cases e : v.ownBlock with
    | none => exact .inl rfl
    | some _ => exact .inr (by simp [Value.ownBlock])
  · obtain ⟨o, l1⟩ := h.own t u ht
    have htl := (List.getElem?_eq_some_iff.1 ht).1
    obtain ⟨ao, c, e, hs⟩ := o.slz l1 (jkL_wf t (by omega) _)
    rw [jkL_length] at e hs
    refine ⟨ao, c, e, hs, ?_⟩
    right
    rintro p rfl
    exact o.u6 (by rw [e]; rfl)
end Go.Proofs.YtedgpcckbdnijaaDoor

/- kept.stands: what was kept reads as it came, and is its owner's. -/

namespace Go.Proofs.YtedgpcckbdnijaaDoor
open Go.RowKit

def E1 (D : Nat → List Int) (i t : Nat) : List Int := if t < i then jkL t (D t).length else D t
def E2 (D : Nat → List Int) (i k t : Nat) : List Int := if t < i then jkL t (D t).length else if t = i then jkL i k ++ (D i).drop k else D t
set_option maxRecDepth 100000 in
theorem E2_set (D : Nat → List Int) (i k : Nat) (hk : k < (D i).length) (t : Nat) : (if t = i then (E2 D i k i).set k (jkB i) else E2 D i k t) = E2 D i (k + 1) t := by
  unfold E2
  by_cases e : t = i
  · subst e
    simp only [if_true, Nat.lt_irrefl, if_false]
    rw [drop_cons (D t) k hk]
    have hl := jkL_length t k
    rw [List.set_append_right _ _ (by omega), hl, Nat.sub_self]
    simp [jkL]
  · simp only [if_neg e]
set_option maxRecDepth 100000 in
theorem E2_len (D : Nat → List Int) (i k : Nat) (hk : k ≤ (D i).length) : (E2 D i k i).length = (D i).length := by
  unfold E2
  simp only [Nat.lt_irrefl, if_false, if_true]
  rw [List.length_append, jkL_length, List.length_drop]
  omega
set_option maxRecDepth 100000 in
theorem E2_last (D : Nat → List Int) (i t : Nat) : E2 D i (D i).length t = E1 D (i + 1) t := by
  unfold E2 E1
  by_cases e : t < i
  · rw [if_pos e, if_pos (by omega)]
  · rw [if_neg e]
    by_cases e2 : t = i
    · subst e2
      rw [if_pos rfl, if_pos (by omega), List.drop_length, List.append_nil]
    · rw [if_neg e2, if_neg (by omega)]
set_option maxRecDepth 100000 in
theorem E2_first (D : Nat → List Int) (i t : Nat) : E1 D i t = E2 D i 0 t := by
  unfold E2 E1
  by_cases e : t < i
  · rw [if_pos e, if_pos e]
  · rw [if_neg e, if_neg e]
    by_cases e2 : t = i
    · subst e2
      rw [if_pos rfl]
      rfl
    · rw [if_neg e2]
/-- What each list that was kept must be: the second row. -/
structure Wer (w : World) (B bk : Nat) (vw : Value) (W : List Value) (D : Nat → List Int) : Prop where
  cell : w.cell? ⟨bk, 2, none⟩ = some vw
  row : OwnW w B vw W
  sl : ∀ (t : Nat) (u : Value), W[t]? = some u → ∃ ao c, u = .slice ao (D t).length c ∧ SlZ w ao (D t).length c (D t)
set_option maxRecDepth 100000 in
theorem own_slZ {w : World} {B : Nat} {u : Value} {l : List Int} (h : OwnJ w B u l) (hl : l.length ≤ 65536) (hx : ∀ x ∈ l, -9223372036854775808 ≤ x ∧ x ≤ 9223372036854775807) : ∃ ao c, u = .slice ao l.length c ∧ SlZ w ao l.length c l := h.slz hl hx
set_option maxRecDepth 100000 in
set_option maxHeartbeats 16000000 in
theorem stands_any (F : Nat → Prop) (w : World) (B bk N : Nat) (v vw : Value) (V W : List Value) (D : Nat → List Int) (h : Ko9 w B bk v V D) (hW : Wer w B bk vw W D) (hWN : W.length = N) (hF : ∀ (t : Nat) (u : Value), V[t]? = some u → Fo F w u) (hN : V.length = N) (hN2 : N ≤ 200000) (hB : B ≤ w.heap.size) :
    Calls Tryd.prog 9 #[pB bk] w fun e u => e = .returned (.bool true) ∧ Hid (Cf F w u) := by
  have HB0 := hidden h
  have HFO := hidden hF
  have hNI : (N : Int) ≤ 200000 := by omega
  obtain ⟨lo, lc, rfl, hcells⟩ := h.row.cells
  obtain ⟨wo, wc, rfl, hwcells⟩ := hW.row.cells
  rw [hN] at hcells
  rw [hWN] at hwcells
  have HN := hidden hN
  have HWN := hidden hWN
  have HV : Hid (N = 0 ∨ ∃ R, lo = some ⟨R, 0, none⟩ ∧ ∀ (wr : World) (D' : Nat → List Int), Ko9 wr B bk (.slice lo V.length lc) V D' → ∀ (t : Nat) (u : Value), V[t]? = some u → wr.cell? ⟨R, t, none⟩ = some u) := hidden (by
    rcases hcells with h0 | ⟨R, rfl, _, _⟩
    · exact .inl h0
    · refine .inr ⟨R, rfl, fun wr D' hb t u ht => ?_⟩
      obtain ⟨ao, c, e, hc⟩ := hb.row.cells
      injection e with e1 _ _
      subst e1
      rcases hc with h0 | ⟨g, e2, _, hc⟩
      · have := (List.getElem?_eq_some_iff.1 ht).1
        omega
      · cases e2
        exact hc t u ht)
  have HWC := hidden hwcells
  have HWS := hidden hW.sl
  have HWX := hidden hW.cell
  rw [hWN] at HWX
  rw [hN] at HB0
  rw [hN] at HV
  clear h hcells hN hF hW hwcells hWN
  go_enter Tryd.func9, Tryd.ntmps9
  go_wp2_with fail
  go_loopw [3] (fun x wr => ∃ (i q : Nat), i ≤ N ∧ x = .int .i64 (i : Int) ∧ Hid (wr = w.drewN q)) (fun x _ => N - (RowKit.intOf x).toNat)
  case atStart => exact ⟨0, 0, by omega, rfl, hidden rfl⟩
  case round =>
    obtain ⟨i, q, hi, rfl, HQ⟩ := hrel
    have c1 : wr.cell? ⟨bk, 1, none⟩ = some (.slice lo N lc) := by rw [HQ.out]; simpa using HB0.out.box.cell
    have c2 : wr.cell? ⟨bk, 2, none⟩ = some (.slice wo N wc) := by rw [HQ.out]; simpa using HWX.out
    by_cases hlt : i < N
    · have hltI : (i : Int) < (N : Int) := by omega
      obtain ⟨u, hu⟩ := cell_at HN.out hlt
      obtain ⟨y, hy⟩ := cell_at HWN.out hlt
      obtain ⟨R, rfl, hR⟩ : ∃ R, lo = some ⟨R, 0, none⟩ ∧ ∀ (wr : World) (D' : Nat → List Int), Ko9 wr B bk (.slice lo N lc) V D' → ∀ (t : Nat) (u : Value), V[t]? = some u → wr.cell? ⟨R, t, none⟩ = some u := by
        rcases HV.out with h0 | h0
        · omega
        · exact h0
      obtain ⟨Rw, rfl, hRw⟩ : ∃ R, wo = some ⟨R, 0, none⟩ ∧ ∀ (t : Nat) (u : Value), W[t]? = some u → w.cell? ⟨R, t, none⟩ = some u := by
        rcases HWC.out with h0 | ⟨g, e, _, h0⟩
        · omega
        · exact ⟨g, e, h0⟩
      have cR : wr.cell? ⟨R, i, none⟩ = some u := by rw [HQ.out]; simpa using hR w _ HB0.out i u hu
      have cW : wr.cell? ⟨Rw, i, none⟩ = some y := by rw [HQ.out]; simpa using hRw i y hy
      obtain ⟨yo, yc, rfl, hsy⟩ := HWS.out i y hy
      obtain ⟨ho, hlb⟩ := HB0.out.own i u hu
      obtain ⟨ao, c, rfl, hsu⟩ := own_slZ ho hlb hsy.wf
      have HSM : Hid (∀ n, Calls Tryd.prog 15 #[.slice ao (D i).length c, .slice yo (D i).length yc] (wr.drewN n) fun e w' => e = .returned (.bool true) ∧ ∃ m, w' = (wr.drewN n).drewN m) := hidden (fun n => by
        have h1 : SlZ (wr.drewN n) ao (D i).length c (D i) := by rw [HQ.out]; exact (hsu.drew q).drew n
        have h2 : SlZ (wr.drewN n) yo (D i).length yc (D i) := by rw [HQ.out]; exact (hsy.drew q).drew n
        refine (sameZ_any _ _ _ _ _ _ _ _ _ h1 h2).mono ?_
        rintro e w' ⟨rfl, m, rfl⟩
        exact ⟨by simp, m, rfl⟩)
      generalize (D i).length = n at *
      clear hR hRw hu hy hsy ho hlb hsu
      go_wp2_with fail
      go_quiet (first | (go_at_call 15; exact Calls.quiet_of (HSM.out _)))
      go_wp2_with fail
      go_roundw
      case rel => exact ⟨i + 1, q + nq, by omega, by go_num, hidden (by rw [HQ.out, World.drewN_drewN])⟩
      case measure => simp [RowKit.intOf]; omega
    · have hlI : ¬ (i : Int) < (N : Int) := by omega
      have HK0 : Hid (Ko9 wr B bk (.slice lo N lc) V (E1 D 0)) := hidden (by rw [HQ.out]; exact (HB0.out.on (bl_dr (Below.refl _ _) q)).cong (fun t _ => by simp [E1]))
      have HC0 : Hid (Cf (Fw F w) w wr) := hidden (by rw [HQ.out]; exact Cf.drew _ w q)
      clear c2 HQ HWX HWS HWC HWN hi
      go_wp2_with fail
      clear c1 hlI
      go_loopw [5] (fun x wr => ∃ i : Nat, i ≤ N ∧ x = .int .i64 (i : Int) ∧ Hid (Ko9 wr B bk (.slice lo N lc) V (E1 D i)) ∧ Hid (Cf (Fw F w) w wr)) (fun x _ => N - (RowKit.intOf x).toNat)
      case atStart => exact ⟨0, by omega, rfl, HK0, HC0⟩
      case round =>
        obtain ⟨i, hi, rfl, HBi, HCi⟩ := hrel
        clear HK0 HC0
        have c0 := HBi.out.box.cell
        by_cases hlt : i < N
        · have hltI : (i : Int) < (N : Int) := by omega
          obtain ⟨u, hu⟩ := cell_at HN.out hlt
          obtain ⟨R, rfl, hR⟩ : ∃ R, lo = some ⟨R, 0, none⟩ ∧ ∀ (wr : World) (D' : Nat → List Int), Ko9 wr B bk (.slice lo N lc) V D' → ∀ (t : Nat) (u : Value), V[t]? = some u → wr.cell? ⟨R, t, none⟩ = some u := by
            rcases HV.out with h0 | h0
            · omega
            · exact h0
          have hdl : (E1 D i i).length = (D i).length := by simp [E1]
          obtain ⟨ho, hlb⟩ := HBi.out.own i u hu
          obtain ⟨ao, c, rfl, hsh⟩ := own_shapeJ ho
          rw [hdl] at hsh hlb
          obtain ⟨n, hn⟩ : ∃ n, (D i).length = n := ⟨_, rfl⟩
          rw [hdl, hn] at hu
          rw [hn] at hsh hlb
          have HNL := hidden hn
          have HU := hidden hu
          have HR := hidden hR
          have hnI : (n : Int) ≤ 65536 := by omega
          have HB2 : Hid (Ko9 wr B bk (.slice (some ⟨R, 0, none⟩) N lc) V (E2 D i 0)) := hidden (HBi.out.cong (fun t _ => E2_first D i t))
          clear ho hdl hn hu HBi hR
          go_wp2_with fail
          clear c0
          go_loopw [6] (fun y wr2 => ∃ k : Nat, k ≤ n ∧ y = .int .i64 (k : Int) ∧ Hid (Ko9 wr2 B bk (.slice (some ⟨R, 0, none⟩) N lc) V (E2 D i k)) ∧ Hid (Cf (Fw F w) w wr2)) (fun y _ => n - (RowKit.intOf y).toNat)
          case atStart => exact ⟨0, by omega, rfl, HB2, HCi⟩
          case round =>
            obtain ⟨k, hk, rfl, HBk, HCk⟩ := hrel
            clear HB2 HCi
            have c0 := HBk.out.box.cell
            have cR := HR.out _ _ HBk.out i _ HU.out
            by_cases hkn : k < n
            · have hkI : (k : Int) < (n : Int) := by omega
              obtain ⟨g, rfl, hgB⟩ : ∃ g, ao = some ⟨g, 0, none⟩ ∧ B ≤ g := by
                rcases hsh with h0 | h0
                · omega
                · exact h0
              obtain ⟨hok, _⟩ := HBk.out.own i _ HU.out
              have hl2 : (E2 D i k i).length = n := by rw [E2_len D i k (by rw [HNL.out]; exact hk), HNL.out]
              have ck : ∃ z, wr.cell? ⟨g, k, none⟩ = some z := ⟨_, own_cellJ hok hl2 hkn⟩
              obtain ⟨z, ck⟩ := ck
              have fk := own_freeJ hok hl2 k
              have HST : Hid (Ko9 (wr.setCell ⟨g, k, none⟩ (.int .i64 (jkB i))) B bk (.slice (some ⟨R, 0, none⟩) N lc) V (E2 D i (k + 1))) := hidden ((HBk.out.set HU.out hl2 hkn).cong (fun t _ => E2_set D i k (by rw [HNL.out]; exact hkn) t))
              have HCS : Hid (Cf (Fw F w) w (wr.setCell ⟨g, k, none⟩ (.int .i64 (jkB i)))) := hidden (HCk.out.go (Cf.setCell (F := Fw F w) wr (p := ⟨g, k, none⟩) (HFO.out i _ HU.out g rfl) _))
              have hjb : -1000 - (i : Int) = jkB i := rfl
              generalize jkB i = y at *
              clear hok
              go_wp2
              go_roundw
              case rel => exact ⟨k + 1, by omega, by go_num, HST, HCS⟩
              case measure => simp [RowKit.intOf]; omega
            · obtain rfl : k = n := by omega
              have hkI : ¬ (k : Int) < (k : Int) := by omega
              have HB3 : Hid (Ko9 wr B bk (.slice (some ⟨R, 0, none⟩) N lc) V (E1 D (i + 1))) := hidden (HBk.out.cong (fun t _ => by rw [← HNL.out]; exact E2_last D i t))
              go_wp2
              go_roundw
              case rel => exact ⟨i + 1, by omega, by go_num, HB3, HCk⟩
              case measure => simp [RowKit.intOf]; omega
        · have hlI : ¬ (i : Int) < (N : Int) := by omega
          obtain ⟨nn, hnn⟩ : ∃ nn : Nat → Nat, (fun t => (D t).length) = nn := ⟨_, rfl⟩
          have HNN : Hid (∀ t, t < N → nn t ≤ 65536) := hidden (by
            intro t ht
            obtain ⟨u, hu⟩ := cell_at HN.out ht
            rw [← hnn]
            exact (HB0.out.own t u hu).2)
          have HQ0 : Hid (K9 wr B bk (.slice lo N lc) V nn 0 (.slice none 0 0) []) := hidden (by
            rw [← hnn]
            exact Ko9.start (by rw [HN.out]; exact hN2) (HBi.out.cong (fun t ht => by unfold E1; rw [if_pos (by rw [HN.out] at ht; omega)])))
          have HNE := hidden HB0.out.ne
          clear HBi hnn HV
          go_wp2_with fail
          clear hlI hi
          go_loopw [7, 8] (fun vg x wr => ∃ (i : Nat) (H : List Value), i ≤ N ∧ x = .int .i64 (i : Int) ∧ Hid (K9 wr B bk (.slice lo N lc) V nn i vg H) ∧ Hid (H.length = 9 * i) ∧ Hid (Cf (Fw F w) w wr) ∧ Hid (Fo F w vg)) (fun _ x _ => N - (RowKit.intOf x).toNat)
          case atStart => exact ⟨0, [], by omega, rfl, HQ0, hidden rfl, HCi, hidden (fun z hz => by cases hz)⟩
          case round =>
            obtain ⟨i, H, hi, rfl, HQ, HL, HC, HFG⟩ := hrel
            clear HQ0 HCi c0
            have c0 := HQ.out.box.cell
            by_cases hlt : i < N
            · have hltI : (i : Int) < (N : Int) := by omega
              obtain ⟨u, hu⟩ := cell_at HN.out hlt
              obtain ⟨R, rfl, hR⟩ : ∃ R, lo = some ⟨R, 0, none⟩ ∧ ∀ (wr : World), OwnW wr B (.slice lo N lc) V → wr.cell? ⟨R, i, none⟩ = some u := by
                obtain ⟨ao, c, e, hc⟩ := HQ.out.row.cells
                injection e with e1 e2 _
                subst e1
                rcases hc with h0 | ⟨g, e3, _, hc⟩
                · omega
                · refine ⟨g, e3, fun wr hr => ?_⟩
                  obtain ⟨ao, c, e, hc2⟩ := hr.cells
                  injection e with e4 e5 _
                  rcases hc2 with h0 | ⟨g2, e6, _, hc2⟩
                  · omega
                  · rw [e3, e6] at e4
                    cases e4
                    exact hc2 i u hu
              have cR := hR _ HQ.out.row
              obtain ⟨xo0, xc0, rfl, _, _⟩ := HQ.out.lst i u hu
              have HP0 := hidden (HQ.out.into hu)
              have HFX0 := hidden (HFO.out i _ hu)
              have hni := HNN.out i hlt
              have hniI : (nn i : Int) ≤ 65536 := by omega
              have HU := hidden hu
              have HR := hidden hR
              clear hu HQ hR
              go_wp2_with fail
              clear c0 cR
              go_loopw [7, 9, 10] (fun vg x kk wr => ∃ (k : Nat) (xo : Option Addr) (xc : Nat) (H : List Value), k ≤ 8 ∧ kk = .int .i64 (k : Int) ∧ x = .slice xo (nn i + k) xc ∧ Hid (J9 wr B bk (.slice (some ⟨R, 0, none⟩) N lc) V nn i k (.slice xo (nn i + k) xc) vg H) ∧ Hid (H.length = 9 * i + k) ∧ Hid (Cf (Fw F w) w wr) ∧ Hid (Fo F w vg) ∧ Hid (Fo F w x)) (fun _ _ kk _ => 8 - (RowKit.intOf kk).toNat)
              case atStart => exact ⟨0, xo0, xc0, H, by omega, rfl, rfl, HP0, hidden HL.out, HC, HFG, HFX0⟩
              case round =>
                obtain ⟨k, xo, xc, H, hk, rfl, rfl, HP, HL2, HC2, HFG2, HFX⟩ := hrel
                clear HP0 HC HL HFG HFX0
                have HDV : Hid (H.length / 9 = i) := hidden (by rw [HL2.out]; omega)
                by_cases hk8 : k < 8
                · have hkI : (k : Int) < 8 := by omega
                  obtain ⟨L, hL⟩ : ∃ L, nn i + k = L := ⟨_, rfl⟩
                  have HLE := hidden hL
                  have hL2 : L ≤ 65544 := by omega
                  rw [hL] at HP HFX ⊢
                  obtain ⟨x, hx⟩ : ∃ x, wr.alloc (.cells #[.int .i64 (jkB i)] 3) = x := ⟨_, rfl⟩
                  have hbx : Below wr.heap.size wr x := by rw [← hx]; exact bl_al (Below.refl _ _) (Nat.le_refl _) _
                  have hcx : x.cell? ⟨wr.heap.size, 0, none⟩ = some (.int .i64 (jkB i)) := by rw [← hx]; simp
                  have hBx : B ≤ x.heap.size := Nat.le_trans hB (Nat.le_trans HC2.out.size hbx.size)
                  have HPX := hidden (HP.out.on hbx)
                  have hxo : OwnJ x B (.slice xo L xc) (jkL i L) := by have := HPX.out.xo; rwa [hL] at this
                  obtain ⟨v1, w1, hr, ho1, hcase⟩ := app_oneJ x B 22 (.slice xo L xc) (jkL i L) (jkB i) wr.heap.size hxo hcx (by rw [jkL_length]; omega) hBx
                  have ho2 : OwnJ w1 B v1 (jkL i (L + 1)) := ho1
                  obtain ⟨yo, yc, rfl, _⟩ := own_shapeJ ho2
                  rw [jkL_length] at ho2 hcase hr
                  have HP1 : Hid (J9 w1 B bk (.slice (some ⟨R, 0, none⟩) N lc) V nn i (k + 1) (.slice yo (L + 1) yc) _ H) := hidden (HPX.out.appX (by omega) (by rw [hL]; exact ho2) hcase)
                  have HC1 : Hid (Cf (Fw F w) w w1) := hidden ((HC2.out.go (Cf.of_below hbx)).go (by
                    rcases hcase with ⟨_, hg⟩ | ⟨hb, _⟩
                    · refine ⟨hg.os, hg.tape, hg.output, hg.size, fun z hz hf => hg.block z hz (fun e => hf ?_)⟩
                      exact HFX.out z e.symm
                    · exact Cf.of_below hb))
                  have HFY : Hid (Fo F w (.slice yo (L + 1) yc)) := hidden (fun z hz => by
                    rcases hcase with ⟨e, _⟩ | ⟨_, hn⟩
                    · exact HFX.out z (by rw [← e]; exact hz)
                    · exact .inr (Nat.le_trans (Nat.le_trans HC2.out.size hbx.size) (hn z hz)))
                  have hjb : -1000 - (i : Int) = jkB i := rfl
                  clear hcase ho1 ho2 hxo hbx hL HP HPX HC2
                  generalize jkB i = mb at *
                  go_wp2_with (at_builtin; refine app_run9 rfl _ _ _ _ rfl _ _ rfl rfl hr ?_; refine Hid.out ?_)
                  apply hidden
                  clear hr hx hcx hjb
                  obtain ⟨y, hy⟩ : ∃ y, w1.alloc (.cells #[.slice yo (L + 1) yc] 22) = y := ⟨_, rfl⟩
                  have hby : Below w1.heap.size w1 y := by rw [← hy]; exact bl_al (Below.refl _ _) (Nat.le_refl _) _
                  have hcy : y.cell? ⟨w1.heap.size, 0, none⟩ = some (.slice yo (L + 1) yc) := by rw [← hy]; simp
                  have HPY := hidden (HP1.out.on hby)
                  have hBy : B ≤ y.heap.size := Nat.le_trans hB (Nat.le_trans HC1.out.size hby.size)
                  have HCY : Hid (Cf (Fw F w) w y) := hidden (HC1.out.go (Cf.of_below hby))
                  have hHl : H.length + 1 ≤ 2000000 := by rw [HL2.out]; omega
                  clear hby HP1 HC1
                  go_wp2_with (at_builtin; refine app_w _ rfl _ _ rfl B H _ (.slice yo (L + 1) yc) rfl rfl HPY.out.rowG w1.heap.size rfl hcy hHl hBy ?_; refine Hid.out ?_)
                  apply hidden
                  intro vG2 w2 hG2 hgr2
                  have HP2 : Hid (J9 w2 B bk (.slice (some ⟨R, 0, none⟩) N lc) V nn i (k + 1) (.slice yo (L + 1) yc) vG2 (H ++ [.slice yo (L + 1) yc])) := hidden (HPY.out.appY hG2 hgr2 (HPY.out.self (by omega) HDV.out (by omega) (by omega)) HPY.out.selff)
                  have HC3 : Hid (Cf (Fw F w) w w2) := hidden (HCY.out.go ⟨hgr2.grow.os, hgr2.grow.tape, hgr2.grow.output, hgr2.grow.size, fun z hz hf => hgr2.grow.block z hz (fun e => hf (HFG2.out z e.symm))⟩)
                  have HFG3 : Hid (Fo F w vG2) := hidden (fun z hz => by
                    rcases hgr2.own with e | ⟨q, e, hq⟩
                    · exact HFG2.out z (by rw [← e]; exact hz)
                    · rw [e] at hz
                      cases hz
                      exact .inr (Nat.le_trans HCY.out.size hq))
                  have HL3 : Hid ((H ++ [Value.slice yo (L + 1) yc]).length = 9 * i + (k + 1)) := hidden (by rw [List.length_append, HL2.out]; rfl)
                  have HLK : Hid (nn i + (k + 1) = L + 1) := hidden (by have := HLE.out; omega)
                  clear hG2 hgr2 hy hcy HPY
                  go_wp2
                  go_roundw
                  case rel => exact ⟨k + 1, yo, yc, H ++ [.slice yo (L + 1) yc], by omega, by go_num, by rw [HLK.out], by rw [HLK.out]; exact HP2, HL3, HC3, HFG3, HFY⟩
                  case measure => simp [RowKit.intOf]; omega
                · obtain rfl : k = 8 := by omega
                  have c0 := HP.out.box.cell
                  have cR := HR.out _ HP.out.row
                  obtain ⟨y, hy⟩ : ∃ y, wr.alloc (.cells #[.slice xo0 (nn i) xc0] 22) = y := ⟨_, rfl⟩
                  have hby : Below wr.heap.size wr y := by rw [← hy]; exact bl_al (Below.refl _ _) (Nat.le_refl _) _
                  have hcy : y.cell? ⟨wr.heap.size, 0, none⟩ = some (.slice xo0 (nn i) xc0) := by rw [← hy]; simp
                  have HPY := hidden (HP.out.on hby)
                  have hBy : B ≤ y.heap.size := Nat.le_trans hB (Nat.le_trans HC2.out.size hby.size)
                  have HCY : Hid (Cf (Fw F w) w y) := hidden (HC2.out.go (Cf.of_below hby))
                  have hHl : H.length + 1 ≤ 2000000 := by rw [HL2.out]; omega
                  clear hby HP HC2
                  go_wp2_with (at_builtin; refine app_w _ rfl _ _ rfl B H _ (.slice xo0 (nn i) xc0) rfl rfl HPY.out.rowG wr.heap.size rfl hcy hHl hBy ?_; refine Hid.out ?_)
                  apply hidden
                  intro vG2 w2 hG2 hgr2
                  have HP2 := hidden (HPY.out.appY hG2 hgr2 ⟨nn i, by rw [HDV.out]; exact HPY.out.lst i _ HU.out⟩ (fun t u ht hit => HNE.out i t _ u HU.out ht (by omega)))
                  have HC3 : Hid (Cf (Fw F w) w w2) := hidden (HCY.out.go ⟨hgr2.grow.os, hgr2.grow.tape, hgr2.grow.output, hgr2.grow.size, fun z hz hf => hgr2.grow.block z hz (fun e => hf (HFG2.out z e.symm))⟩)
                  have HFG3 : Hid (Fo F w vG2) := hidden (fun z hz => by
                    rcases hgr2.own with e | ⟨q, e, hq⟩
                    · exact HFG2.out z (by rw [← e]; exact hz)
                    · rw [e] at hz
                      cases hz
                      exact .inr (Nat.le_trans HCY.out.size hq))
                  have HQ1 := hidden (HP2.out.out HNE.out)
                  have HL3 : Hid ((H ++ [Value.slice xo0 (nn i) xc0]).length = 9 * (i + 1)) := hidden (by rw [List.length_append, HL2.out]; simp; omega)
                  clear hG2 hgr2 hy hcy HPY HP2
                  go_wp2
                  go_roundw
                  case rel => exact ⟨i + 1, _, by omega, by go_num, HQ1, HL3, HC3, HFG3⟩
                  case measure => simp [RowKit.intOf]; omega
            · have hlI : ¬ (i : Int) < (N : Int) := by omega
              obtain ⟨go, gc, rfl, hgc⟩ := HQ.out.rowG.cells
              have hHl : H.length ≤ 1800000 := by rw [HL.out]; omega
              have HGC := hidden hgc
              obtain ⟨hn, hhn⟩ : ∃ hn, H.length = hn := ⟨_, rfl⟩
              have HHN := hidden hhn
              have HQ2 := hidden HQ.out
              rw [hhn] at HGC HQ2 ⊢
              have hhnI : (hn : Int) ≤ 1800000 := by omega
              have hhnN : hn ≤ 1800000 := by omega
              clear hgc HQ HL hhn hHl
              go_wp2_with fail
              go_loop [11] (fun x => ∃ s : Nat, s ≤ hn ∧ x = .int .i64 (s : Int)) (fun x => hn - (RowKit.intOf x).toNat)
              case atStart => exact ⟨0, by omega, rfl⟩
              case round =>
                obtain ⟨s, hs, rfl⟩ := hrel
                by_cases hsN : s < hn
                · have hsI : (s : Int) < (hn : Int) := by omega
                  obtain ⟨u, hu⟩ := cell_at HHN.out hsN
                  obtain ⟨G, rfl, cG⟩ : ∃ G, go = some ⟨G, 0, none⟩ ∧ wr.cell? ⟨G, s, none⟩ = some u := by
                    rcases HGC.out with h0 | ⟨g, e3, _, hc⟩
                    · omega
                    · exact ⟨g, e3, hc s u hu⟩
                  obtain ⟨n, ao, c, rfl, hsl, _⟩ := HQ2.out.gr s u hu
                  have HSL := hidden hsl
                  have hnb := hsl.hbig
                  have hq9 : Int.tdiv (s : Int) 9 = ((s / 9 : Nat) : Int) := by
                    rw [Int.tdiv_eq_ediv_of_nonneg (by omega)]
                    rfl
                  obtain ⟨q, hq⟩ : ∃ q, s / 9 = q := ⟨_, rfl⟩
                  rw [hq] at HSL hq9
                  have hqs : (q : Int) ≤ 1800000 := by omega
                  have hqw : IntKind.i64.wrap (q : Int) = (q : Int) := by rw [IntKind.wrap_i64]; omega
                  clear hsl hu hq
                  go_wp2_with fail
                  go_loop [12] (fun x => ∃ t : Nat, t ≤ n ∧ x = .int .i64 (t : Int)) (fun x => n - (RowKit.intOf x).toNat)
                  case atStart => exact ⟨0, by omega, rfl⟩
                  case round =>
                    obtain ⟨t, ht, rfl⟩ := hrel
                    by_cases htn : t < n
                    · have htI : (t : Int) < (n : Int) := by omega
                      obtain ⟨b, off, rfl, hc⟩ := HSL.out.at htn
                      rw [jkL_get q n t htn] at hc
                      have hjb : -1000 - (q : Int) = jkB q := rfl
                      generalize jkB q = y at *
                      have hyy : (y == y) = true := by simp
                      go_wp2
                      go_round
                      case rel => exact ⟨t + 1, by omega, by go_num⟩
                      case measure => simp [RowKit.intOf]; omega
                    · have htI : ¬ (t : Int) < (n : Int) := by omega
                      go_wp2
                      go_round
                      case rel => exact ⟨s + 1, by omega, by go_num⟩
                      case measure => simp [RowKit.intOf]; omega
                · have hsI : ¬ (s : Int) < (hn : Int) := by omega
                  go_wp2
                  go_ret
                  exact ⟨rfl, hidden HC.out.narrow⟩
end Go.Proofs.YtedgpcckbdnijaaDoor

/- kept.take of a list that is kept. -/

namespace Go.Proofs.YtedgpcckbdnijaaDoor
open Go.RowKit

/-- The law's kept whole. -/
structure Kp (w : World) (B bk : Nat) (kn : Int) (v vw : Value) (V W : List Value) : Prop where
  box : w.heap[bk]? = some (.cells #[.int .i64 kn, v, vw] 35 (0, 0))
  row : OwnW w B v V
  wrow : OwnW w B vw W
  ne : v.ownBlock = none ∨ v.ownBlock ≠ vw.ownBlock
set_option maxRecDepth 100000 in
theorem OwnW.lt {w : World} {B : Nat} {v : Value} {xs : List Value} (h : OwnW w B v xs) {k : Nat} (hk : v.ownBlock = some k) : B ≤ k ∧ k < w.heap.size := by
  unfold OwnW at h
  exact World.ownsRow.lt h k hk
set_option maxRecDepth 100000 in
theorem OwnW.cf {w w' : World} {B : Nat} {v : Value} {xs : List Value} {F : Nat → Prop} (h : OwnW w B v xs) (hc : Cf F w w') (hf : ∀ k, v.ownBlock = some k → ¬ F k) : OwnW w' B v xs := by
  unfold OwnW at *
  rcases h.2 with h2 | ⟨g, cap, cur, e, hg, hh, rest⟩
  · exact ⟨h.1, .inl h2⟩
  · refine ⟨h.1, .inr ⟨g, cap, cur, e, hg, ?_, rest⟩⟩
    rw [hc.block g (lt_some hh) (hf g (by rw [e]; rfl))]
    exact hh
set_option maxRecDepth 100000 in
theorem flip_ne {a b : Option Nat} (h : a = none ∨ a ≠ b) : b = none ∨ b ≠ a := by
  cases b with
  | none => exact .inl rfl
  | some y =>
    right
    intro e
    rcases h with h | h
    · rw [h] at e; cases e
    · exact h e.symm
set_option maxRecDepth 100000 in
theorem ne_grow {a b b' : Option Nat} {s : Nat} (h : a = none ∨ a ≠ b) (ha : ∀ k, a = some k → k < s) (hb : b' = b ∨ ∃ q, b' = some q ∧ s ≤ q) : a = none ∨ a ≠ b' := by
  rcases hb with rfl | ⟨q, rfl, hq⟩
  · exact h
  · cases a with
    | none => exact .inl rfl
    | some k =>
      right
      intro e
      have := ha k rfl
      injection e with e
      omega
set_option maxRecDepth 100000 in
set_option maxHeartbeats 4000000 in
theorem take_even (w : World) (B bk : Nat) (kn : Int) (v vw : Value) (V W : List Value) (lo wo : Option Addr) (ln lc wn wc : Nat) (h : Kp w B bk kn v vw V W) (h0 : 0 ≤ kn ∧ kn ≤ 2000000) (hm : Int.tmod (kn + 1) 2 = 0) (hV : V.length + 1 ≤ 2000000) (hW : W.length + 1 ≤ 2000000) (hB : B ≤ w.heap.size) :
    Calls Tryd.prog 33 #[pB bk, .slice lo ln lc, .slice wo wn wc] w fun e u => e = .returned (.tuple #[]) ∧ ∃ v' vw', Hid (Kp u B bk (kn + 1) v' vw' (V ++ [.slice lo ln lc]) (W ++ [.slice wo wn wc])) ∧ Hid (Cf (fun k => k = bk ∨ v.ownBlock = some k ∨ vw.ownBlock = some k) w u) := by
  have hbx := h.box
  have c0 : w.cell? ⟨bk, 0, none⟩ = some (.int .i64 kn) := by rw [cell_of_row _ _ 0 _ _ _ hbx]; rfl
  have f0 : w.frozen? ⟨bk, 0, none⟩ = false := by simp [World.frozen?, hbx]
  obtain ⟨x0, hx0⟩ : ∃ x, w.setCell ⟨bk, 0, none⟩ (.int .i64 (kn + 1)) = x := ⟨_, rfl⟩
  have hb0 : x0.heap[bk]? = some (.cells #[.int .i64 (kn + 1), v, vw] 35 (0, 0)) := by rw [← hx0]; exact set_row (cs := [.int .i64 kn, v, vw]) hbx
  have hc0 : Cf (· = bk) w x0 := by rw [← hx0]; exact Cf.setCell (F := (· = bk)) w (p := ⟨bk, 0, none⟩) rfl _
  have r0 : OwnW x0 B v V := h.row.cf hc0 (fun k hk e => h.row.noty hbx kp_neW (by rw [hk, e]))
  have q0 : OwnW x0 B vw W := h.wrow.cf hc0 (fun k hk e => h.wrow.noty hbx kp_neW (by rw [hk, e]))
  have d0 : x0.cell? ⟨bk, 0, none⟩ = some (.int .i64 (kn + 1)) := by rw [cell_of_row _ _ 0 _ _ _ hb0]; rfl
  have d1 : x0.cell? ⟨bk, 1, none⟩ = some v := by rw [cell_of_row _ _ 1 _ _ _ hb0]; rfl
  obtain ⟨x, hx⟩ : ∃ x, x0.alloc (.cells #[.slice lo ln lc] 22) = x := ⟨_, rfl⟩
  have hbx2 : Below x0.heap.size x0 x := by rw [← hx]; exact bl_al (Below.refl _ _) (Nat.le_refl _) _
  have hcx : x.cell? ⟨x0.heap.size, 0, none⟩ = some (.slice lo ln lc) := by rw [← hx]; simp
  have HR := hidden (r0.on hbx2)
  have HQ := hidden (q0.on hbx2)
  have HBX : Hid (x.heap[bk]? = some (.cells #[.int .i64 (kn + 1), v, vw] 35 (0, 0))) := hidden ((hbx2.block bk (lt_some hb0)).trans hb0)
  have hBx : B ≤ x.heap.size := Nat.le_trans hB (Nat.le_trans hc0.size hbx2.size)
  have HC0 : Hid (Cf (fun k => k = bk ∨ v.ownBlock = some k ∨ vw.ownBlock = some k) w x) := hidden ((hc0.wide (fun k hk => .inl hk)).go (Cf.of_below hbx2))
  have HNE := hidden h.ne
  have HVL : Hid (∀ k, v.ownBlock = some k → k < w.heap.size) := hidden (fun k hk => (h.row.lt hk).2)
  have HWL : Hid (∀ k, vw.ownBlock = some k → k < w.heap.size) := hidden (fun k hk => (h.wrow.lt hk).2)
  have HSX : Hid (w.heap.size ≤ x.heap.size) := hidden (Nat.le_trans hc0.size hbx2.size)
  clear h hbx hb0 hc0 r0 q0 hbx2
  go_enter Tryd.func33, Tryd.ntmps33
  go_wp2_with (at_builtin; refine app_w _ rfl _ _ rfl B V v (.slice lo ln lc) rfl rfl HR.out x0.heap.size rfl hcx hV hBx ?_; refine Hid.out ?_)
  apply hidden
  intro v1 w1 ho1 hg1
  obtain ⟨vo, vn, vc, rfl⟩ : ∃ vo vn vc, v1 = .slice vo vn vc := by
    obtain ⟨vo, vc, e, _⟩ := ho1.cells
    exact ⟨vo, _, vc, e⟩
  have hk1 : v.ownBlock ≠ some bk := HR.out.noty HBX.out kp_neW
  have hb1 : w1.heap[bk]? = some (.cells #[.int .i64 (kn + 1), v, vw] 35 (0, 0)) := (hg1.grow.block bk (lt_some HBX.out) (fun e => hk1 e.symm)).trans HBX.out
  have y1 : ∃ z, w1.cell? ⟨bk, 1, none⟩ = some z := ⟨v, by rw [cell_of_row _ _ 1 _ _ _ hb1]; rfl⟩
  obtain ⟨z1, y1⟩ := y1
  have g1 : w1.frozen? ⟨bk, 1, none⟩ = false := by simp [World.frozen?, hb1]
  have q1 : OwnW w1 B vw W := HQ.out.kept hg1.grow (flip_ne HNE.out)
  have hn1 : vw.ownBlock = none ∨ vw.ownBlock ≠ (Value.slice vo vn vc).ownBlock := ne_grow (flip_ne HNE.out) HWL.out (hg1.own.imp id fun ⟨q, e, hq⟩ => ⟨q, e, Nat.le_trans HSX.out hq⟩)
  have hk2 : (Value.slice vo vn vc).ownBlock ≠ some bk := ho1.noty hb1 kp_neW
  obtain ⟨x2, hx2⟩ : ∃ x, w1.setCell ⟨bk, 1, none⟩ (.slice vo vn vc) = x := ⟨_, rfl⟩
  have hb2 : x2.heap[bk]? = some (.cells #[.int .i64 (kn + 1), .slice vo vn vc, vw] 35 (0, 0)) := by rw [← hx2]; exact set_row (cs := [.int .i64 (kn + 1), v, vw]) hb1
  have hc2 : Cf (· = bk) w1 x2 := by rw [← hx2]; exact Cf.setCell (F := (· = bk)) w1 (p := ⟨bk, 1, none⟩) rfl _
  have r2 : OwnW x2 B (.slice vo vn vc) (V ++ [.slice lo ln lc]) := ho1.cf hc2 (fun k hk e => hk2 (by rw [hk, e]))
  have q2 : OwnW x2 B vw W := q1.cf hc2 (fun k hk e => q1.noty hb1 kp_neW (by rw [hk, e]))
  have d2 : x2.cell? ⟨bk, 2, none⟩ = some vw := by rw [cell_of_row _ _ 2 _ _ _ hb2]; rfl
  have HC2 : Hid (Cf (fun k => k = bk ∨ v.ownBlock = some k ∨ vw.ownBlock = some k) w x2) := hidden ((HC0.out.go ⟨hg1.grow.os, hg1.grow.tape, hg1.grow.output, hg1.grow.size, fun k hk hf => hg1.grow.block k hk (fun e => hf (.inr (.inl e.symm)))⟩).go (hc2.wide (fun k hk => .inl hk)))
  obtain ⟨y, hy⟩ : ∃ x, x2.alloc (.cells #[.slice wo wn wc] 22) = x := ⟨_, rfl⟩
  have hby2 : Below x2.heap.size x2 y := by rw [← hy]; exact bl_al (Below.refl _ _) (Nat.le_refl _) _
  have hcy : y.cell? ⟨x2.heap.size, 0, none⟩ = some (.slice wo wn wc) := by rw [← hy]; simp
  have HR2 := hidden (r2.on hby2)
  have HQ2 := hidden (q2.on hby2)
  have HBY : Hid (y.heap[bk]? = some (.cells #[.int .i64 (kn + 1), .slice vo vn vc, vw] 35 (0, 0))) := hidden ((hby2.block bk (lt_some hb2)).trans hb2)
  have hBy : B ≤ y.heap.size := Nat.le_trans hB (Nat.le_trans HC2.out.size hby2.size)
  have HCY : Hid (Cf (fun k => k = bk ∨ v.ownBlock = some k ∨ vw.ownBlock = some k) w y) := hidden (HC2.out.go (Cf.of_below hby2))
  have HN1 := hidden hn1
  have HVY : Hid (∀ k, (Value.slice vo vn vc).ownBlock = some k → k < y.heap.size) := hidden (fun k hk => (HR2.out.lt hk).2)
  clear ho1 hg1 hb1 q1 hn1 hk1 hk2 hb2 hc2 r2 q2 hby2 HR HQ HBX HC0 HC2
  go_wp2_with (at_builtin; refine app_w _ rfl _ _ rfl B W vw (.slice wo wn wc) rfl rfl HQ2.out x2.heap.size rfl hcy hW hBy ?_; refine Hid.out ?_)
  apply hidden
  intro v3 w3 ho3 hg3
  obtain ⟨uo, un, uc, rfl⟩ : ∃ vo vn vc, v3 = .slice vo vn vc := by
    obtain ⟨vo, vc, e, _⟩ := ho3.cells
    exact ⟨vo, _, vc, e⟩
  have hk3 : vw.ownBlock ≠ some bk := HQ2.out.noty HBY.out kp_neW
  have hb3 : w3.heap[bk]? = some (.cells #[.int .i64 (kn + 1), .slice vo vn vc, vw] 35 (0, 0)) := (hg3.grow.block bk (lt_some HBY.out) (fun e => hk3 e.symm)).trans HBY.out
  have y3 : ∃ z, w3.cell? ⟨bk, 2, none⟩ = some z := ⟨vw, by rw [cell_of_row _ _ 2 _ _ _ hb3]; rfl⟩
  obtain ⟨z3, y3⟩ := y3
  have g3 : w3.frozen? ⟨bk, 2, none⟩ = false := by simp [World.frozen?, hb3]
  have r3 : OwnW w3 B (.slice vo vn vc) (V ++ [.slice lo ln lc]) := HR2.out.kept hg3.grow (flip_ne HN1.out)
  have hk4 : (Value.slice uo un uc).ownBlock ≠ some bk := ho3.noty hb3 kp_neW
  have HFIN : Hid (Kp (w3.setCell ⟨bk, 2, none⟩ (.slice uo un uc)) B bk (kn + 1) (.slice vo vn vc) (.slice uo un uc) (V ++ [.slice lo ln lc]) (W ++ [.slice wo wn wc]) ∧ Cf (fun k => k = bk ∨ v.ownBlock = some k ∨ vw.ownBlock = some k) w (w3.setCell ⟨bk, 2, none⟩ (.slice uo un uc))) := hidden (by
    have hc4 : Cf (· = bk) w3 (w3.setCell ⟨bk, 2, none⟩ (.slice uo un uc)) := Cf.setCell (F := (· = bk)) w3 (p := ⟨bk, 2, none⟩) rfl _
    refine ⟨⟨set_row (cs := [.int .i64 (kn + 1), .slice vo vn vc, vw]) hb3, r3.cf hc4 (fun k hk e => r3.noty hb3 kp_neW (by rw [hk, e])), ho3.cf hc4 (fun k hk e => hk4 (by rw [hk, e])), ?_⟩, ?_⟩
    · exact ne_grow (flip_ne HN1.out) HVY.out hg3.own
    · exact (HCY.out.go ⟨hg3.grow.os, hg3.grow.tape, hg3.grow.output, hg3.grow.size, fun k hk hf => hg3.grow.block k hk (fun e => hf (.inr (.inr e.symm)))⟩).go (hc4.wide (fun k hk => .inl hk)))
  clear ho3 hg3 hb3 r3 hk4 hk3 HR2 HQ2 HBY HCY HN1
  go_wp2_with fail
  go_end0
  exact ⟨rfl, _, _, hidden HFIN.out.1, hidden HFIN.out.2⟩
end Go.Proofs.YtedgpcckbdnijaaDoor

/- The law's over, and kept.take of a list that is written over. -/

namespace Go.Proofs.YtedgpcckbdnijaaDoor
open Go.RowKit

set_option maxRecDepth 100000 in
set_option maxHeartbeats 4000000 in
theorem take_even2 (w : World) (B bk : Nat) (kn : Int) (v vw : Value) (V W : List Value) (lo wo : Option Addr) (ln lc wn wc : Nat) (h : Kp w B bk kn v vw V W) (h0 : 0 ≤ kn ∧ kn ≤ 2000000) (hm : Int.tmod (kn + 1) 2 = 0) (hV : V.length + 1 ≤ 2000000) (hW : W.length + 1 ≤ 2000000) (hB : B ≤ w.heap.size) :
    Calls Tryd.prog 33 #[pB bk, .slice lo ln lc, .slice wo wn wc] w fun e u => e = .returned (.tuple #[]) ∧ ∃ v' vw', Hid (Kp u B bk (kn + 1) v' vw' (V ++ [.slice lo ln lc]) (W ++ [.slice wo wn wc])) ∧ Hid (Cf (fun k => k = bk ∨ v.ownBlock = some k ∨ vw.ownBlock = some k) w u) ∧ Hid ((∀ k, v'.ownBlock = some k → v.ownBlock = some k ∨ w.heap.size ≤ k) ∧ (∀ k, vw'.ownBlock = some k → vw.ownBlock = some k ∨ w.heap.size ≤ k)) := by
  have hbx := h.box
  have c0 : w.cell? ⟨bk, 0, none⟩ = some (.int .i64 kn) := by rw [cell_of_row _ _ 0 _ _ _ hbx]; rfl
  have f0 : w.frozen? ⟨bk, 0, none⟩ = false := by simp [World.frozen?, hbx]
  obtain ⟨x0, hx0⟩ : ∃ x, w.setCell ⟨bk, 0, none⟩ (.int .i64 (kn + 1)) = x := ⟨_, rfl⟩
  have hb0 : x0.heap[bk]? = some (.cells #[.int .i64 (kn + 1), v, vw] 35 (0, 0)) := by rw [← hx0]; exact set_row (cs := [.int .i64 kn, v, vw]) hbx
  have hc0 : Cf (· = bk) w x0 := by rw [← hx0]; exact Cf.setCell (F := (· = bk)) w (p := ⟨bk, 0, none⟩) rfl _
  have r0 : OwnW x0 B v V := h.row.cf hc0 (fun k hk e => h.row.noty hbx kp_neW (by rw [hk, e]))
  have q0 : OwnW x0 B vw W := h.wrow.cf hc0 (fun k hk e => h.wrow.noty hbx kp_neW (by rw [hk, e]))
  have d0 : x0.cell? ⟨bk, 0, none⟩ = some (.int .i64 (kn + 1)) := by rw [cell_of_row _ _ 0 _ _ _ hb0]; rfl
  have d1 : x0.cell? ⟨bk, 1, none⟩ = some v := by rw [cell_of_row _ _ 1 _ _ _ hb0]; rfl
  obtain ⟨x, hx⟩ : ∃ x, x0.alloc (.cells #[.slice lo ln lc] 22) = x := ⟨_, rfl⟩
  have hbx2 : Below x0.heap.size x0 x := by rw [← hx]; exact bl_al (Below.refl _ _) (Nat.le_refl _) _
  have hcx : x.cell? ⟨x0.heap.size, 0, none⟩ = some (.slice lo ln lc) := by rw [← hx]; simp
  have HR := hidden (r0.on hbx2)
  have HQ := hidden (q0.on hbx2)
  have HBX : Hid (x.heap[bk]? = some (.cells #[.int .i64 (kn + 1), v, vw] 35 (0, 0))) := hidden ((hbx2.block bk (lt_some hb0)).trans hb0)
  have hBx : B ≤ x.heap.size := Nat.le_trans hB (Nat.le_trans hc0.size hbx2.size)
  have HC0 : Hid (Cf (fun k => k = bk ∨ v.ownBlock = some k ∨ vw.ownBlock = some k) w x) := hidden ((hc0.wide (fun k hk => .inl hk)).go (Cf.of_below hbx2))
  have HNE := hidden h.ne
  have HVL : Hid (∀ k, v.ownBlock = some k → k < w.heap.size) := hidden (fun k hk => (h.row.lt hk).2)
  have HWL : Hid (∀ k, vw.ownBlock = some k → k < w.heap.size) := hidden (fun k hk => (h.wrow.lt hk).2)
  have HSX : Hid (w.heap.size ≤ x.heap.size) := hidden (Nat.le_trans hc0.size hbx2.size)
  clear h hbx hb0 hc0 r0 q0 hbx2
  go_enter Tryd.func33, Tryd.ntmps33
  go_wp2_with (at_builtin; refine app_w _ rfl _ _ rfl B V v (.slice lo ln lc) rfl rfl HR.out x0.heap.size rfl hcx hV hBx ?_; refine Hid.out ?_)
  apply hidden
  intro v1 w1 ho1 hg1
  obtain ⟨vo, vn, vc, rfl⟩ : ∃ vo vn vc, v1 = .slice vo vn vc := by
    obtain ⟨vo, vc, e, _⟩ := ho1.cells
    exact ⟨vo, _, vc, e⟩
  have hk1 : v.ownBlock ≠ some bk := HR.out.noty HBX.out kp_neW
  have hb1 : w1.heap[bk]? = some (.cells #[.int .i64 (kn + 1), v, vw] 35 (0, 0)) := (hg1.grow.block bk (lt_some HBX.out) (fun e => hk1 e.symm)).trans HBX.out
  have y1 : ∃ z, w1.cell? ⟨bk, 1, none⟩ = some z := ⟨v, by rw [cell_of_row _ _ 1 _ _ _ hb1]; rfl⟩
  obtain ⟨z1, y1⟩ := y1
  have g1 : w1.frozen? ⟨bk, 1, none⟩ = false := by simp [World.frozen?, hb1]
  have q1 : OwnW w1 B vw W := HQ.out.kept hg1.grow (flip_ne HNE.out)
  have hn1 : vw.ownBlock = none ∨ vw.ownBlock ≠ (Value.slice vo vn vc).ownBlock := ne_grow (flip_ne HNE.out) HWL.out (hg1.own.imp id fun ⟨q, e, hq⟩ => ⟨q, e, Nat.le_trans HSX.out hq⟩)
  have HVN : Hid (∀ k, (Value.slice vo vn vc).ownBlock = some k → v.ownBlock = some k ∨ w.heap.size ≤ k) := hidden (fun k hk => by
    rcases hg1.own with e | ⟨q, e, hq⟩
    · exact .inl (by rw [← e]; exact hk)
    · right
      rw [e] at hk
      injection hk with hk
      have := HSX.out
      omega)
  have hk2 : (Value.slice vo vn vc).ownBlock ≠ some bk := ho1.noty hb1 kp_neW
  obtain ⟨x2, hx2⟩ : ∃ x, w1.setCell ⟨bk, 1, none⟩ (.slice vo vn vc) = x := ⟨_, rfl⟩
  have hb2 : x2.heap[bk]? = some (.cells #[.int .i64 (kn + 1), .slice vo vn vc, vw] 35 (0, 0)) := by rw [← hx2]; exact set_row (cs := [.int .i64 (kn + 1), v, vw]) hb1
  have hc2 : Cf (· = bk) w1 x2 := by rw [← hx2]; exact Cf.setCell (F := (· = bk)) w1 (p := ⟨bk, 1, none⟩) rfl _
  have r2 : OwnW x2 B (.slice vo vn vc) (V ++ [.slice lo ln lc]) := ho1.cf hc2 (fun k hk e => hk2 (by rw [hk, e]))
  have q2 : OwnW x2 B vw W := q1.cf hc2 (fun k hk e => q1.noty hb1 kp_neW (by rw [hk, e]))
  have d2 : x2.cell? ⟨bk, 2, none⟩ = some vw := by rw [cell_of_row _ _ 2 _ _ _ hb2]; rfl
  have HC2 : Hid (Cf (fun k => k = bk ∨ v.ownBlock = some k ∨ vw.ownBlock = some k) w x2) := hidden ((HC0.out.go ⟨hg1.grow.os, hg1.grow.tape, hg1.grow.output, hg1.grow.size, fun k hk hf => hg1.grow.block k hk (fun e => hf (.inr (.inl e.symm)))⟩).go (hc2.wide (fun k hk => .inl hk)))
  obtain ⟨y, hy⟩ : ∃ x, x2.alloc (.cells #[.slice wo wn wc] 22) = x := ⟨_, rfl⟩
  have hby2 : Below x2.heap.size x2 y := by rw [← hy]; exact bl_al (Below.refl _ _) (Nat.le_refl _) _
  have hcy : y.cell? ⟨x2.heap.size, 0, none⟩ = some (.slice wo wn wc) := by rw [← hy]; simp
  have HR2 := hidden (r2.on hby2)
  have HQ2 := hidden (q2.on hby2)
  have HBY : Hid (y.heap[bk]? = some (.cells #[.int .i64 (kn + 1), .slice vo vn vc, vw] 35 (0, 0))) := hidden ((hby2.block bk (lt_some hb2)).trans hb2)
  have hBy : B ≤ y.heap.size := Nat.le_trans hB (Nat.le_trans HC2.out.size hby2.size)
  have HCY : Hid (Cf (fun k => k = bk ∨ v.ownBlock = some k ∨ vw.ownBlock = some k) w y) := hidden (HC2.out.go (Cf.of_below hby2))
  have HN1 := hidden hn1
  have HVY : Hid (∀ k, (Value.slice vo vn vc).ownBlock = some k → k < y.heap.size) := hidden (fun k hk => (HR2.out.lt hk).2)
  clear ho1 hg1 hb1 q1 hn1 hk1 hk2 hb2 hc2 r2 q2 hby2 HR HQ HBX HC0 HC2
  go_wp2_with (at_builtin; refine app_w _ rfl _ _ rfl B W vw (.slice wo wn wc) rfl rfl HQ2.out x2.heap.size rfl hcy hW hBy ?_; refine Hid.out ?_)
  apply hidden
  intro v3 w3 ho3 hg3
  obtain ⟨uo, un, uc, rfl⟩ : ∃ vo vn vc, v3 = .slice vo vn vc := by
    obtain ⟨vo, vc, e, _⟩ := ho3.cells
    exact ⟨vo, _, vc, e⟩
  have hk3 : vw.ownBlock ≠ some bk := HQ2.out.noty HBY.out kp_neW
  have hb3 : w3.heap[bk]? = some (.cells #[.int .i64 (kn + 1), .slice vo vn vc, vw] 35 (0, 0)) := (hg3.grow.block bk (lt_some HBY.out) (fun e => hk3 e.symm)).trans HBY.out
  have y3 : ∃ z, w3.cell? ⟨bk, 2, none⟩ = some z := ⟨vw, by rw [cell_of_row _ _ 2 _ _ _ hb3]; rfl⟩
  obtain ⟨z3, y3⟩ := y3
  have g3 : w3.frozen? ⟨bk, 2, none⟩ = false := by simp [World.frozen?, hb3]
  have r3 : OwnW w3 B (.slice vo vn vc) (V ++ [.slice lo ln lc]) := HR2.out.kept hg3.grow (flip_ne HN1.out)
  have HWN : Hid (∀ k, (Value.slice uo un uc).ownBlock = some k → vw.ownBlock = some k ∨ w.heap.size ≤ k) := hidden (fun k hk => by
    rcases hg3.own with e | ⟨q, e, hq⟩
    · exact .inl (by rw [← e]; exact hk)
    · right
      rw [e] at hk
      injection hk with hk
      have := HCY.out.size
      omega)
  have hk4 : (Value.slice uo un uc).ownBlock ≠ some bk := ho3.noty hb3 kp_neW
  have HFIN : Hid (Kp (w3.setCell ⟨bk, 2, none⟩ (.slice uo un uc)) B bk (kn + 1) (.slice vo vn vc) (.slice uo un uc) (V ++ [.slice lo ln lc]) (W ++ [.slice wo wn wc]) ∧ Cf (fun k => k = bk ∨ v.ownBlock = some k ∨ vw.ownBlock = some k) w (w3.setCell ⟨bk, 2, none⟩ (.slice uo un uc))) := hidden (by
    have hc4 : Cf (· = bk) w3 (w3.setCell ⟨bk, 2, none⟩ (.slice uo un uc)) := Cf.setCell (F := (· = bk)) w3 (p := ⟨bk, 2, none⟩) rfl _
    refine ⟨⟨set_row (cs := [.int .i64 (kn + 1), .slice vo vn vc, vw]) hb3, r3.cf hc4 (fun k hk e => r3.noty hb3 kp_neW (by rw [hk, e])), ho3.cf hc4 (fun k hk e => hk4 (by rw [hk, e])), ?_⟩, ?_⟩
    · exact ne_grow (flip_ne HN1.out) HVY.out hg3.own
    · exact (HCY.out.go ⟨hg3.grow.os, hg3.grow.tape, hg3.grow.output, hg3.grow.size, fun k hk hf => hg3.grow.block k hk (fun e => hf (.inr (.inr e.symm)))⟩).go (hc4.wide (fun k hk => .inl hk)))
  clear ho3 hg3 hb3 r3 hk4 hk3 HR2 HQ2 HBY HCY HN1
  go_wp2_with fail
  go_end0
  exact ⟨rfl, _, _, hidden HFIN.out.1, hidden HFIN.out.2, hidden ⟨HVN.out, HWN.out⟩⟩
set_option maxRecDepth 100000 in
theorem run_app3 (w : World) (B : Nat) (ty : TypeId) (v : Value) (l : List Int) (b : Nat) (hown : OwnJ w B v l) (hc : ∀ j, j < 3 → w.cell? ⟨b, j, none⟩ = some (.int .i64 (-8))) (hb : l.length ≤ 1000000) (hB : B ≤ w.heap.size) :
    ∃ v' w', (Builtin.append_ #[22, 22] ty #[v, .slice (some ⟨b, 0, none⟩) 3 3]).run Tryd.prog w = .ok v' w' ∧ w.grownBy w' v.ownBlock := by
  obtain ⟨i0, hi, hz0, hz1, hz2⟩ := info_parts info64
  have hnews : ∀ j u, (IV [-8, -8, -8])[j]? = some u → w.cell? ((⟨b, 0, none⟩ : Addr).add j) = some u := fun j u hu => by
    have hj : j < 3 := by
      have := (List.getElem?_eq_some_iff.1 hu).1
      simp [IV] at this
      omega
    have hu2 : u = .int .i64 (-8) := by
      have : j = 0 ∨ j = 1 ∨ j = 2 := by omega
      rcases this with rfl | rfl | rfl <;> (simp [IV] at hu; exact hu.symm)
    rw [hu2]
    have := hc j hj
    simpa [Addr.add_lit] using this
  obtain ⟨v', w', hr, h2, h3, h4⟩ := run_append_own (P := Tryd.prog) w B 22 ty 3 i0 (.int .i64 0) 1 8 Tryd.underlying22 hi hz0 hz1 hz2 rfl (by decide) v l.length (IV l) hown ⟨b, 0, none⟩ 3 3 (IV [-8, -8, -8]) rfl hnews (IV_one [-8, -8, -8]) (by unfold maxLen; omega) (by omega) hB
  exact ⟨v', w', hr, h3⟩
set_option maxRecDepth 100000 in
set_option maxHeartbeats 2000000 in
theorem over_any (w : World) (v : Value) (l : List Int) (h : OwnJ w 0 v l) (hl : l.length ≤ 65536) :
    Calls Tryd.prog 57 #[v] w fun e u => e = .returned (.tuple #[]) ∧ Hid (Cf (fun k => v.ownBlock = some k) w u) := by
  obtain ⟨ao, c, rfl, hsh⟩ := own_shapeJ h
  obtain ⟨n, hn⟩ : ∃ n, l.length = n := ⟨_, rfl⟩
  rw [hn] at h hsh hl ⊢
  have hnI : (n : Int) ≤ 65536 := by omega
  have H0 : Hid (∃ L : List Int, L.length = n ∧ OwnJ w 0 (.slice ao n c) L) := hidden ⟨l, hn, h⟩
  clear h hn
  go_enter Tryd.func57, Tryd.ntmps57
  go_wp2_with fail
  go_loopw [2] (fun i wr => ∃ k : Nat, k ≤ n ∧ i = .int .i64 (k : Int) ∧ Hid (∃ L : List Int, L.length = n ∧ OwnJ wr 0 (.slice ao n c) L) ∧ Hid (Cf (fun k => (Value.slice ao n c).ownBlock = some k) w wr)) (fun i _ => n - (RowKit.intOf i).toNat)
  case atStart => exact ⟨0, by omega, rfl, H0, hidden (Cf.refl _ _)⟩
  case round =>
    obtain ⟨k, hk, rfl, HL, HC⟩ := hrel
    clear H0
    obtain ⟨L, hL, hO⟩ := HL.out
    by_cases hlt : k < n
    · have hltI : (k : Int) < (n : Int) := by omega
      rcases hsh with h0 | ⟨g, rfl, _⟩
      · omega
      obtain ⟨z, e1⟩ : ∃ z, wr.cell? ⟨g, k, none⟩ = some z := ⟨_, own_cellJ hO hL hlt⟩
      have f1 := own_freeJ hO hL k
      have HN : Hid (∃ L' : List Int, L'.length = n ∧ OwnJ (wr.setCell ⟨g, k, none⟩ (.int .i64 (-7))) 0 (.slice (some ⟨g, 0, none⟩) n c) L') := hidden ⟨L.set k (-7), by rw [List.length_set]; exact hL, own_setJ hO hL hlt⟩
      have HC2 : Hid (Cf (fun k => (Value.slice (some ⟨g, 0, none⟩) n c).ownBlock = some k) w (wr.setCell ⟨g, k, none⟩ (.int .i64 (-7)))) := hidden (HC.out.go (Cf.setCell (F := fun k => (Value.slice (some ⟨g, 0, none⟩) n c).ownBlock = some k) wr (p := ⟨g, k, none⟩) rfl _))
      clear hO hL HL HC
      go_wp2_with fail
      go_roundw
      case rel => exact ⟨k + 1, by omega, by go_num, HN, HC2⟩
      case measure => simp [RowKit.intOf]; omega
    · obtain rfl : k = n := by omega
      obtain ⟨x, hx⟩ : ∃ x, wr.alloc (.cells #[.int .i64 (-8), .int .i64 (-8), .int .i64 (-8)] 3) = x := ⟨_, rfl⟩
      have hbx : Below wr.heap.size wr x := by rw [← hx]; exact bl_al (Below.refl _ _) (Nat.le_refl _) _
      have hxb : x.heap[wr.heap.size]? = some (.cells #[.int .i64 (-8), .int .i64 (-8), .int .i64 (-8)] 3 (0, 0)) := by rw [← hx]; exact al_row _ _
      obtain ⟨v', w', hr, hg⟩ := run_app3 x 0 22 (.slice ao k c) L wr.heap.size (hO.below hbx) (fun j hj => by
        have : j = 0 ∨ j = 1 ∨ j = 2 := by omega
        unfold World.cell?
        rw [hxb]
        rcases this with rfl | rfl | rfl <;> rfl) (by omega) (Nat.zero_le _)
      have HF : Hid (Cf (fun q => (Value.slice ao k c).ownBlock = some q) w w') := hidden ((HC.out.go (Cf.of_below hbx)).go (Cf.ofGrown hg))
      clear hO hL HL HC hbx hxb hg hlt
      go_wp2_with (at_builtin; refine app_run9 rfl _ _ _ _ rfl _ _ rfl rfl hr ?_; refine Hid.out ?_)
      apply hidden
      go_wp2_with fail
      go_end0
      exact ⟨rfl, HF⟩
set_option maxRecDepth 100000 in
set_option maxHeartbeats 2000000 in
theorem take_odd (w : World) (bk : Nat) (kn : Int) (v vw : Value) (V W : List Value) (lv wv : Value) (L : List Int) (h : Kp w 0 bk kn v vw V W) (h0 : 0 ≤ kn ∧ kn ≤ 2000000) (hm : Int.tmod (kn + 1) 2 = 1) (hL : OwnJ w 0 lv L) (hl : L.length ≤ 65536) (hlv : ∀ k, lv.ownBlock = some k → v.ownBlock ≠ some k ∧ vw.ownBlock ≠ some k) :
    Calls Tryd.prog 33 #[pB bk, lv, wv] w fun e u => e = .returned (.tuple #[]) ∧ Hid (Kp u 0 bk (kn + 1) v vw V W) ∧ Hid (Cf (fun k => k = bk ∨ lv.ownBlock = some k) w u) := by
  have hbx := h.box
  have c0 : w.cell? ⟨bk, 0, none⟩ = some (.int .i64 kn) := by rw [cell_of_row _ _ 0 _ _ _ hbx]; rfl
  have f0 : w.frozen? ⟨bk, 0, none⟩ = false := by simp [World.frozen?, hbx]
  obtain ⟨x, hx⟩ : ∃ x, w.setCell ⟨bk, 0, none⟩ (.int .i64 (kn + 1)) = x := ⟨_, rfl⟩
  have hxb : x.heap[bk]? = some (.cells #[.int .i64 (kn + 1), v, vw] 35 (0, 0)) := by rw [← hx]; exact set_row (cs := [.int .i64 kn, v, vw]) hbx
  have hcx : Cf (· = bk) w x := by rw [← hx]; exact Cf.setCell (F := (· = bk)) w (p := ⟨bk, 0, none⟩) rfl _
  have r0 : OwnW x 0 v V := h.row.cf hcx (fun k hk e => h.row.noty hbx kp_neW (by rw [hk, e]))
  have q0 : OwnW x 0 vw W := h.wrow.cf hcx (fun k hk e => h.wrow.noty hbx kp_neW (by rw [hk, e]))
  have d0 : x.cell? ⟨bk, 0, none⟩ = some (.int .i64 (kn + 1)) := by rw [cell_of_row _ _ 0 _ _ _ hxb]; rfl
  have hlx : OwnJ x 0 lv L := by
    have hne := hL.noty hbx kp_neI
    unfold OwnJ at *
    rcases hL.2 with h2 | ⟨g, cap, cur, e, hg, hh, rest⟩
    · exact ⟨hL.1, .inl h2⟩
    · refine ⟨hL.1, .inr ⟨g, cap, cur, e, hg, ?_, rest⟩⟩
      rw [hcx.block g (lt_some hh) (fun e2 => hne (by rw [e, ← e2]; rfl))]
      exact hh
  have HOV := hidden (over_any x lv L hlx hl)
  have HFIN : Hid (∀ u, Cf (fun k => lv.ownBlock = some k) x u → Kp u 0 bk (kn + 1) v vw V W ∧ Cf (fun k => k = bk ∨ lv.ownBlock = some k) w u) := hidden (fun u hu => by
    refine ⟨⟨(hu.block bk (lt_some hxb) (hlx.noty hxb kp_neI)).trans hxb, r0.cf hu (fun k hk e => (hlv k e).1 hk), q0.cf hu (fun k hk e => (hlv k e).2 hk), h.ne⟩, (hcx.wide (fun k hk => .inl hk)).go (hu.wide (fun k hk => .inr hk))⟩)
  obtain ⟨lo, lc, rfl, _⟩ := own_shapeJ hL
  clear h hbx hxb hcx r0 q0 hlx hL hlv
  go_enter Tryd.func33, Tryd.ntmps33
  go_wp2_with (go_at_call 57; refine HOV.out.mono ?_; rintro e u ⟨rfl, HU⟩)
  try simp only [Exit.inBlock, Exit.then]
  first | refine bodyPost_end (results_none rfl _ _ _) rfl ?_ | refine bodyPost_ret (results_none rfl _ _ _) rfl ?_
  exact ⟨rfl, hidden (HFIN.out u HU.out).1, hidden (HFIN.out u HU.out).2⟩
end Go.Proofs.YtedgpcckbdnijaaDoor
