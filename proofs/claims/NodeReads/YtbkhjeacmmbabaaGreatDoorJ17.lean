import Derived.Test.YtbkhjeacmmbabaaGreatDoorJ16
namespace Go.Proofs.YtbkhjeacmmbabaaGreatDoor
set_option maxRecDepth 100000
open Go.RowKit
theorem app_run9 {ops : Array Oper} {rest : List Oper} {o : Oper} {a : Act} {w : World} {Q : Exit → Act → World → Prop} (A : o.guard = none) (s x : Operand) (t1 t2 : TypeId)
  (ho : o.op = .call { callee := .builtin .append, args := #[s, x], argTypes := #[t1, t2] }) (v u : Value) (hs : a.eval s = v) (hx : a.eval x = u) {v' : Value} {w' : World}
  (hr : (Builtin.append_ #[t1, t2] o.type #[v, u]).run Tryz.prog w = .ok v' w') (h : wpList Tryz.prog ops Q rest (a.put o.dst v') w') : wpList Tryz.prog ops Q (o :: rest) a w := by
 refine wpList_plain A fun K hK => ?_
 unfold Oper.wp execOp
 simp only [ho, resolve, invoke, builtin, Sem.run_bind, Sem.run_pure, Result.andThen_ok, List.map_toArray, List.map_cons, List.map_nil, hs, hx, hr]
 exact hK _ _ h
def U8 (w : World) (ao : Option Addr) (n : Nat) : Prop := n = 0 ∨ ∀ p, ao = some p → ∃ cs fz, w.heap[p.block]? = some (.cells cs 5 fz)
theorem U8.on {w w' : World} {ao : Option Addr} {n : Nat} (h : U8 w ao n) (hb : Below w.heap.size w w') : U8 w' ao n := h.imp id fun h p hp => by
 obtain ⟨cs, fz, e⟩ := h p hp
 exact ⟨cs, fz, (hb.block _ (zaf e)).trans e⟩
theorem OwnB.u8 {w : World} {B : Nat} {x : Value} {l : List Int} (h : OwnB w B x l) {g : Nat} (hg : x.ownBlock = some g) : ∃ cs fz, w.heap[g]? = some (.cells cs 5 fz) := by
 unfold OwnB at h
 rcases h.2 with ⟨rfl, _⟩ | ⟨g', c, cur, rfl, _, hh, _⟩
 ·cases hg
 ·injection hg with hg
  have hg' : g' = g := hg
  rw [← hg']
  exact ⟨_, _, hh⟩
theorem U8.app {w w' : World} {B : Nat} {x x' : Value} {l : List Int} {ao : Option Addr} {n : Nat} (h : U8 w ao n) (ho : OwnB w' B x' l)
  (hc : (x'.ownBlock = x.ownBlock ∧ w.grownBy w' x.ownBlock) ∨ (Below w.heap.size w w' ∧ ∀ k, x'.ownBlock = some k → w.heap.size ≤ k)) : U8 w' ao n := by
 rcases hc with ⟨e, hg⟩ | ⟨hb, _⟩
 ·refine h.imp id fun h p hp => ?_
  by_cases e2 : x.ownBlock = some p.block
  ·exact ho.u8 (by rw [e]; exact e2)
  ·obtain ⟨cs, fz, e3⟩ := h p hp
   exact ⟨cs, fz, (hg.block _ (zaf e3) (fun e4 => e2 e4.symm)).trans e3⟩
 ·exact h.on hb
structure Ps (w : World) (x : Value) (i L : Nat) (u : Value) (n j : Nat) : Prop where
 ex : ∃ ao c, u = .slice ao n c ∧ Pk9 w x i L ao n c j ∧ U8 w ao n
theorem Ps.app {w w' : World} {B : Nat} {x x' : Value} {i L : Nat} {u : Value} {n j : Nat} (h : Ps w x i L u n j) (ho : OwnB w' B x' (mkL i (L + 1)))
  (hc : (x'.ownBlock = x.ownBlock ∧ w.grownBy w' x.ownBlock) ∨ (Below w.heap.size w w' ∧ ∀ k, x'.ownBlock = some k → w.heap.size ≤ k)) : Ps w' x' i (L + 1) u n j := by
 obtain ⟨ao, c, rfl, h1, h2⟩ := h.ex
 exact ⟨ao, c, rfl, h1.app ho hc, h2.app ho hc⟩
theorem Ps.on {w w' : World} {x : Value} {i L : Nat} {u : Value} {n j : Nat} (h : Ps w x i L u n j) (hb : Below w.heap.size w w') : Ps w' x i L u n j := by
 obtain ⟨ao, c, rfl, h1, h2⟩ := h.ex
 exact ⟨ao, c, rfl, h1.on hb, h2.on hb⟩
theorem Ps.grow {w w' : World} {B : Nat} {vG vG' : Value} {H : List Value} {x : Value} {i L : Nat} {u : Value} {n j : Nat} (h : Ps w x i L u n j) (hG : OwnX w B vG H) (hg : Gr w vG w' vG') : Ps w' x i L u n j := by
 obtain ⟨ao, c, rfl, h1, h2⟩ := h.ex
 have hf : n = 0 ∨ ∀ p, ao = some p → vG.ownBlock ≠ some p.block := h2.imp id fun h p hp => by
  obtain ⟨cs, fz, e⟩ := h p hp
  exact hG.noty e u8_neX
 refine ⟨ao, c, rfl, ⟨h1.sl.gr hg hf, h1.far⟩, ?_⟩
 rcases h2 with h0 | h2
 ·exact .inl h0
 ·rcases hf with h0 | hf
  ·exact .inl h0
  ·right
   intro p hp
   obtain ⟨cs, fz, e⟩ := h2 p hp
   exact ⟨cs, fz, (hg.grow.block _ (zaf e) (fun e4 => hf p hp e4.symm)).trans e⟩
structure P9 (w : World) (B bk : Nat) (v : Value) (V : List Value) (nn : Nat → Nat) (i k : Nat) (x vG : Value) (H : List Value) : Prop where
 box : w.heap[bk]? = some (.cells #[v] 39 (0, 0))
 row : OwnX w B v V
 rowG : OwnX w B vG H
 gne : v.ownBlock = none ∨ v.ownBlock ≠ vG.ownBlock
 xo : OwnB w B x (mkL i (nn i + k))
 lst : ∀ (t : Nat) (u : Value), V[t]? = some u → Ps w x i (nn i + k) u (nn t) t
 own : ∀ (t : Nat) (u : Value), V[t]? = some u → i < t → OwnB w B u (mkL t (nn t)) ∧ (u.ownBlock = none ∨ u.ownBlock ≠ x.ownBlock)
 gr : ∀ (s : Nat) (u : Value), H[s]? = some u → ∃ n, Ps w x i (nn i + k) u n (s / 5)
 gfar : ∀ (s : Nat) (y : Value), H[s]? = some y → ∀ (t : Nat) (u : Value), V[t]? = some u → i < t → y.ownBlock = none ∨ y.ownBlock ≠ u.ownBlock
theorem P9.on {w w' : World} {B bk : Nat} {v : Value} {V : List Value} {nn : Nat → Nat} {i k : Nat} {x vG : Value} {H : List Value} (h : P9 w B bk v V nn i k x vG H) (hb : Below w.heap.size w w') : P9 w' B bk v V nn i k x vG H :=
 ⟨(hb.block _ (zaf h.box)).trans h.box, h.row.on hb, h.rowG.on hb, h.gne, h.xo.on Lr hb, fun t u ht => (h.lst t u ht).on hb, fun t u ht hi => ⟨(h.own t u ht hi).1.on Lr hb, (h.own t u ht hi).2⟩, fun s u hs => by
  obtain ⟨n, h1⟩ := h.gr s u hs
  exact ⟨n, h1.on hb⟩, h.gfar⟩
theorem P9.appX {w w' : World} {B bk : Nat} {v : Value} {V : List Value} {nn : Nat → Nat} {i k : Nat} {x x' vG : Value} {H : List Value} (h : P9 w B bk v V nn i k x vG H) (ho : OwnB w' B x' (mkL i (nn i + k + 1)))
  (hc : (x'.ownBlock = x.ownBlock ∧ w.grownBy w' x.ownBlock) ∨ (Below w.heap.size w w' ∧ ∀ q, x'.ownBlock = some q → w.heap.size ≤ q)) : P9 w' B bk v V nn i (k + 1) x' vG H := by
 have A : ∀ {y : Value} {ys : List Value}, OwnX w B y ys → OwnX w' B y ys := by
  intro y ys hy
  rcases hc with ⟨_, hg⟩ | ⟨hb, _⟩
  ·exact hy.kept hg (hy.noB h.xo)
  ·exact hy.on hb
 refine ⟨?_, A h.row, A h.rowG, h.gne, ho, fun t u ht => (h.lst t u ht).app ho hc, fun t u ht hi => ?_, fun s u hs => ?_, h.gfar⟩
 ·rcases hc with ⟨_, hg⟩ | ⟨hb, _⟩
  ·exact (hg.block bk (zaf h.box) (fun e => h.xo.noty h.box bk_ne8 e.symm)).trans h.box
  ·exact (hb.block _ (zaf h.box)).trans h.box
 ·obtain ⟨o1, n1⟩ := h.own t u ht hi
  rcases hc with ⟨e, hg⟩ | ⟨hb, hn⟩
  ·exact ⟨World.ownsRow.kept o1 hg n1, by rw [e]; exact n1⟩
  ·refine ⟨o1.on Lr hb, ?_⟩
   cases e : u.ownBlock with
   | none => exact .inl rfl
   | some q =>
    right
    intro e2
    have h1 := (o1.blk e).2
    have h2 := hn q e2.symm
    omega
 ·obtain ⟨n, h1⟩ := h.gr s u hs
  exact ⟨n, h1.app ho hc⟩
theorem P9.appG {w w' : World} {B bk : Nat} {v : Value} {V : List Value} {nn : Nat → Nat} {i k : Nat} {x vG vG' : Value} {H : List Value} (h : P9 w B bk v V nn i k x vG H) (hG : OwnX w' B vG' (H ++ [x])) (hg : Gr w vG w' vG') (hs : H.length / 5 = i) (h0 : 0 < nn i + k) (hl : nn i + k ≤ 140737488355328) : P9 w' B bk v V nn i k x vG' (H ++ [x]) := by
 have F : ∀ {y : Value} {l : List Int}, OwnB w B y l → OwnB w' B y l := by
  intro y l hy
  refine World.ownsRow.kept hy hg.grow ?_
  rcases h.rowG.noB hy with e | e
  ·rw [e]
   cases e2 : y.ownBlock with
   | none => exact .inl rfl
   | some _ => exact .inr zv
  ·exact .inr fun e2 => e e2.symm
 have A := F h.xo
 refine ⟨(hg.grow.block bk (zaf h.box) (fun e => h.rowG.noty h.box bk_neX e.symm)).trans h.box, h.row.kept hg.grow h.gne, hG, ?_, A, fun t u ht => (h.lst t u ht).grow h.rowG hg, fun t u ht hi => ⟨F (h.own t u ht hi).1, (h.own t u ht hi).2⟩, fun s u C => ?_, fun s y D t u ht hi => ?_⟩
 ·rcases h.gne with e | e
  ·exact .inl e
  ·rcases hg.own with e2 | ⟨q, e2, hq⟩
   ·rw [e2]; exact .inr e
   ·cases e3 : v.ownBlock with
    | none => exact .inl rfl
    | some z =>
     right
     rw [e2]
     intro e4
     injection e4 with e4
     have hr := h.row
     unfold OwnX at hr
     have := (hr.lt z e3).2
     omega
 ·by_cases e : s < H.length
  ·rw [zL e] at C
   obtain ⟨n, h1⟩ := h.gr s u C
   exact ⟨n, h1.grow h.rowG hg⟩
  ·have E := (zH.1 C).1
   rw [zG] at E
   simp only [List.length_cons, List.length_nil] at E
   obtain rfl : s = H.length := zq
   rw [List.getElem?_concat_length] at C
   cases C
   obtain ⟨ao, c, e5, _, _⟩ := A.sl (mkL_wf _ _) (by rw [zav]; exact hl)
   rw [zav] at e5
   obtain ⟨ao2, c2, e6, h7⟩ := zcq A
   rw [zav] at e6 h7
   rcases h7 with h7 | ⟨g, rfl, _⟩
   ·omega
   have G : x.ownBlock = some g := by rw [e6]; rfl
   have I : nn i + k ≤ c2 := by
    have h8 := A
    unfold OwnB at h8
    rcases h8.2 with ⟨e9, _⟩ | ⟨g', cap', cur, e9, _, _, J, _⟩
    ·rw [e6] at e9; cases e9
    ·rw [e6] at e9
     rw [zav] at J e9
     injection e9 with _ _ e10
     omega
   refine ⟨nn i + k, ⟨some ⟨g, 0, none⟩, c2, e6, ⟨?_, .inr ⟨hs, Lr, g, rfl, G⟩⟩, .inr fun p hp => ?_⟩⟩
   ·rw [hs]
    exact A.marks G Lr I hl
   ·cases hp
    exact A.u8 G
 ·by_cases e : s < H.length
  ·rw [zL e] at D
   exact h.gfar s y D t u ht hi
  ·have E := (zH.1 D).1
   rw [zG] at E
   simp only [List.length_cons, List.length_nil] at E
   obtain rfl : s = H.length := zq
   rw [List.getElem?_concat_length] at D
   cases D
   rcases (h.own t u ht hi).2 with e2 | e2
   ·rw [e2]
    cases e3 : x.ownBlock with
    | none => exact .inl rfl
    | some _ => exact .inr zv
   ·exact .inr fun e3 => e2 e3.symm
def Sq (w : World) (u : Value) (n j : Nat) : Prop := ∃ ao c, u = .slice ao n c ∧ Sl w ao n c (mkL j n) ∧ U8 w ao n
structure Q9 (w : World) (B bk : Nat) (v : Value) (V : List Value) (nn : Nat → Nat) (i : Nat) (vG : Value) (H : List Value) : Prop where
 box : w.heap[bk]? = some (.cells #[v] 39 (0, 0))
 row : OwnX w B v V
 rowG : OwnX w B vG H
 gne : v.ownBlock = none ∨ v.ownBlock ≠ vG.ownBlock
 lst : ∀ (t : Nat) (u : Value), V[t]? = some u → Sq w u (nn t) t
 own : ∀ (t : Nat) (u : Value), V[t]? = some u → i ≤ t → OwnB w B u (mkL t (nn t))
 ne : ∀ (t t' : Nat) (u u' : Value), V[t]? = some u → V[t']? = some u' → t ≠ t' → u.ownBlock = none ∨ u.ownBlock ≠ u'.ownBlock
 gr : ∀ (s : Nat) (u : Value), H[s]? = some u → ∃ n, Sq w u n (s / 5)
 gfar : ∀ (s : Nat) (y : Value), H[s]? = some y → ∀ (t : Nat) (u : Value), V[t]? = some u → i ≤ t → y.ownBlock = none ∨ y.ownBlock ≠ u.ownBlock
theorem far_of {ao : Option Addr} {n c : Nat} {x : Value} (h : (Value.slice ao n c).ownBlock = none ∨ (Value.slice ao n c).ownBlock ≠ x.ownBlock) : Far ao n x := by
 right
 rintro p rfl e
 rcases h with h | h
 ·cases h
 ·exact h (by rw [e]; rfl)
theorem Q9.into {w : World} {B bk : Nat} {v : Value} {V : List Value} {nn : Nat → Nat} {i : Nat} {vG : Value} {H : List Value} (h : Q9 w B bk v V nn i vG H) {x : Value} (hx : V[i]? = some x) : P9 w B bk v V nn i 0 x vG H := by
 have A := h.own i x hx Lr
 refine ⟨h.box, h.row, h.rowG, h.gne, A, fun t u ht => ?_, fun t u ht hi => ⟨h.own t u ht zq, h.ne t i u x ht hx zq⟩, fun s u hs => ?_, fun s y hs t u ht hi => h.gfar s y hs t u ht zq⟩
 ·obtain ⟨ao, c, rfl, h1, h2⟩ := h.lst t u ht
  refine ⟨ao, c, rfl, ⟨h1, ?_⟩, h2⟩
  by_cases e : t = i
  ·subst e
   rw [hx] at ht
   cases ht
   rcases zcq A with ⟨ao2, c2, e2, h3⟩
   injection e2 with e3 e4 e5
   rw [zav] at e4 h3
   rcases h3 with h3 | ⟨g, e6, _⟩
   ·exact .inl (.inl h3)
   ·refine .inr ⟨rfl, zq, g, by rw [e3, e6], by rw [e3, e6]; rfl⟩
  ·exact .inl (far_of (h.ne t i _ x ht hx e))
 ·obtain ⟨n, ao, c, rfl, h1, h2⟩ := h.gr s u hs
  exact ⟨n, ⟨ao, c, rfl, ⟨h1, .inl (far_of (h.gfar s _ hs i x hx Lr))⟩, h2⟩⟩
theorem P9.out {w : World} {B bk : Nat} {v : Value} {V : List Value} {nn : Nat → Nat} {i k : Nat} {x vG : Value} {H : List Value} (h : P9 w B bk v V nn i k x vG H) (A : ∀ (t t' : Nat) (u u' : Value), V[t]? = some u → V[t']? = some u' → t ≠ t' → u.ownBlock = none ∨ u.ownBlock ≠ u'.ownBlock) : Q9 w B bk v V nn (i + 1) vG H :=
 ⟨h.box, h.row, h.rowG, h.gne, fun t u ht => by
  obtain ⟨ao, c, e, h1, h2⟩ := (h.lst t u ht).ex
  exact ⟨ao, c, e, h1.sl, h2⟩, fun t u ht hi => (h.own t u ht zq).1, A, fun s u hs => by
  obtain ⟨n, h0⟩ := h.gr s u hs
  obtain ⟨ao, c, e, h1, h2⟩ := h0.ex
  exact ⟨n, ao, c, e, h1.sl, h2⟩, fun s y hs t u ht hi => h.gfar s y hs t u ht zq⟩
theorem Bo9.start {w : World} {B bk : Nat} {v : Value} {V : List Value} {nn : Nat → Nat} (h : Bo9 w B bk v V (fun t => mkL t (nn t))) : Q9 w B bk v V nn 0 (.slice none 0 0) [] := by
 refine ⟨h.box, h.row, OwnX.nil _ _, ?_, fun t u ht => ?_, fun t u ht _ => (h.own t u ht).1, h.ne, fun s u hs => by simp at hs, fun s y hs => by simp at hs⟩
 ·cases e : v.ownBlock with
  | none => exact .inl rfl
  | some _ => exact .inr zsv
 ·obtain ⟨o, w1, l1⟩ := h.own t u ht
  rw [zav] at l1
  obtain ⟨ao, c, e, hs, _⟩ := o.sl w1 (by rw [zav]; omega)
  rw [zav] at e hs
  refine ⟨ao, c, e, hs, ?_⟩
  right
  rintro p rfl
  exact o.u8 (by rw [e]; rfl)
def D1 (D : Nat → List Int) (i t : Nat) : List Int := if t < i then mkL t (D t).length else D t
def D2 (D : Nat → List Int) (i k t : Nat) : List Int := if t < i then mkL t (D t).length else if t = i then mkL i k ++ (D i).drop k else D t
theorem D2_set (D : Nat → List Int) (i k : Nat) (hk : k < (D i).length) (t : Nat) : (if t = i then (D2 D i k i).set k (mkB i k) else D2 D i k t) = D2 D i (k + 1) t := by
 unfold D2
 by_cases e : t = i
 ·subst e
  simp only [if_true, Nat.lt_irrefl, if_false]
  rw [zbu (D t) k hk]
  have hl := zav t k
  rw [List.set_append_right _ _ zq, hl, Nat.sub_self]
  simp [mkL]
 ·simp only [if_neg e]
theorem D2_len (D : Nat → List Int) (i k : Nat) (hk : k ≤ (D i).length) : (D2 D i k i).length = (D i).length := by
 unfold D2
 simp only [Nat.lt_irrefl, if_false, if_true]
 rw [zG, zav, zK]
 omega
theorem D2_last (D : Nat → List Int) (i t : Nat) : D2 D i (D i).length t = D1 D (i + 1) t := by
 unfold D2 D1
 by_cases e : t < i
 ·rw [if_pos e, if_pos zq]
 ·rw [if_neg e]
  by_cases e2 : t = i
  ·subst e2
   rw [if_pos rfl, if_pos zq, List.drop_length, List.append_nil]
  ·rw [if_neg e2, if_neg zq]
theorem D2_first (D : Nat → List Int) (i t : Nat) : D1 D i t = D2 D i 0 t := by
 unfold D2 D1
 by_cases e : t < i
 ·rw [if_pos e, if_pos e]
 ·rw [if_neg e, if_neg e]
  by_cases e2 : t = i
  ·subst e2
   rw [if_pos rfl]
   rfl
  ·rw [if_neg e2]
def cnt : Nat → Nat
 | 0 => 0
 | k + 1 => cnt k + (if k < 3 ∨ k = 8 ∨ k = 19 then 1 else 0)
theorem cnt_bound {k : Nat} (h : k < 20) (h2 : k < 3 ∨ k = 8 ∨ k = 19) : cnt k < 5 := by
 have : ∀ k : Fin 20, (k.val < 3 ∨ k.val = 8 ∨ k.val = 19) → cnt k.val < 5 := by decide
 exact this ⟨k, h⟩ h2
theorem cnt_all : cnt 20 = 5 := by decide
theorem zbs {V : List Value} {N i : Nat} (hN : V.length = N) (hi : i < N) : ∃ u, V[i]? = some u := ⟨_, zI zq⟩
def Fw (F : Nat → Prop) (w : World) (z : Nat) : Prop := F z ∨ w.heap.size ≤ z
theorem Cf.narrow {F : Nat → Prop} {w u : World} (h : Cf (Fw F w) w u) : Cf F w u := ⟨h.os, h.tape, h.output, h.size, fun k hk hf => h.block k hk (fun e => e.elim hf (fun e => zq))⟩
def Fo (F : Nat → Prop) (w : World) (x : Value) : Prop := ∀ z, x.ownBlock = some z → Fw F w z
theorem own_in {w : World} {B : Nat} {v : Value} {l : List Int} {k : Nat} (h : OwnB w B v l) (hk : v.ownBlock = some k) : B ≤ k ∧ k < w.heap.size := by
 unfold OwnB at h
 rcases h.2 with ⟨rfl, _⟩ | ⟨g, cap, cur, rfl, hg, hh, _⟩
 ·cases hk
 ·cases hk
  exact ⟨hg, zaf hh⟩
theorem ownX_in {w : World} {B : Nat} {v : Value} {l : List Value} {k : Nat} (h : OwnX w B v l) (hk : v.ownBlock = some k) : B ≤ k ∧ k < w.heap.size := by
 unfold OwnX at h
 rcases h.2 with ⟨rfl, _⟩ | ⟨g, cap, cur, rfl, hg, hh, _⟩
 ·cases hk
 ·cases hk
  exact ⟨hg, zaf hh⟩
theorem box9 {w : World} {B bk : Nat} (h : w.heap[bk]? = some (.cells #[.slice none 0 0] 39 (0, 0))) : Bo9 w B bk (.slice none 0 0) [] (fun _ => []) :=
 ⟨h, OwnX.nil _ _, fun t u ht => by simp at ht, fun t t' u u' ht => by simp at ht⟩
set_option maxHeartbeats 8000000 in
theorem owned9F (F : Nat → Prop) (w : World) (B bk N : Nat) (v : Value) (V : List Value) (D : Nat → List Int) (h : Bo9 w B bk v V D) (hF : ∀ (t : Nat) (u : Value), V[t]? = some u → Fo F w u) (hN : V.length = N) (G7 : N ≤ 1300000000000) (hB : B ≤ w.heap.size) :
  Calls Tryz.prog 30 #[.pointer (some ⟨bk, 0, none⟩)] w fun e u => e = .returned (.bool true) ∧ Hid (Cf F w u) := by
 have A3 := zaa h
 have C9 := zaa hF
 clear hF
 have G8 : (N : Int) ≤ 1300000000000 := zq
 obtain ⟨lo, lc, rfl, W⟩ := h.row.cells
 rw [hN] at W
 have HN := zaa hN
 have HV : Hid (N = 0 ∨ ∃ R, lo = some ⟨R, 0, none⟩ ∧ ∀ (wr : World) (D' : Nat → List Int), Bo9 wr B bk (.slice lo V.length lc) V D' → ∀ (t : Nat) (u : Value), V[t]? = some u → wr.cell? ⟨R, t, none⟩ = some u) := zaa (by
  rcases W with h0 | ⟨R, rfl, _, _⟩
  ·exact .inl h0
  ·refine .inr ⟨R, rfl, fun wr D' hb t u ht => ?_⟩
   obtain ⟨ao, c, e, hc⟩ := hb.row.cells
   injection e with e1 _ _
   subst e1
   rcases hc with h0 | ⟨g, e2, _, hc⟩
   ·have := (zH.1 ht).1
    omega
   ·cases e2
    exact hc t u ht)
 rw [hN] at A3
 rw [hN] at HV
 clear h W hN
 go_enter Tryz.func30, Tryz.ntmps30
 go_wp2_with fail
 go_loopw [3] (fun x wr => ∃ i : Nat, i ≤ N ∧ x = .int .i64 (i : Int) ∧ Hid (Bo9 wr B bk (.slice lo N lc) V (D1 D i)) ∧ Hid (Cf (Fw F w) w wr)) (fun x _ => N - (RowKit.intOf x).toNat)
 case atStart => exact ⟨0, zq, rfl, zaa (A3.out.cong (fun t _ => by simp [D1])), zaa (Cf.refl _ _)⟩
 case round =>
  obtain ⟨i, hi, rfl, P, B3⟩ := hrel
  have E := P.out.box
  have c0 : wr.cell? ⟨bk, 0, none⟩ = some (.slice lo N lc) := by rw [cell_of_row _ _ 0 _ _ _ E]; rfl
  clear E
  by_cases A4 : i < N
  ·have E7 : (i : Int) < (N : Int) := zq
   obtain ⟨u, hu⟩ := zbs HN.out A4
   obtain ⟨R, rfl, hR⟩ : ∃ R, lo = some ⟨R, 0, none⟩ ∧ ∀ (wr : World) (D' : Nat → List Int), Bo9 wr B bk (.slice lo N lc) V D' → ∀ (t : Nat) (u : Value), V[t]? = some u → wr.cell? ⟨R, t, none⟩ = some u := by
    rcases HV.out with h0 | h0
    ·omega
    ·exact h0
   have cR := hR wr _ P.out i u hu
   have B4 : (D1 D i i).length = (D i).length := by simp [D1]
   obtain ⟨ho, _, D0⟩ := P.out.own i u hu
   obtain ⟨ao, c, rfl, B5⟩ := zcq ho
   rw [B4] at B5 D0
   obtain ⟨n, hn⟩ : ∃ n, (D i).length = n := ⟨_, rfl⟩
   rw [B4, hn] at cR hu
   rw [hn] at B5 D0
   have A5 := zaa hn
   have HU := zaa hu
   have G9 : (n : Int) ≤ 65536 := zq
   have E9 : Hid (Bo9 wr B bk (.slice (some ⟨R, 0, none⟩) N lc) V (D2 D i 0)) := zaa (P.out.cong (fun t _ => D2_first D i t))
   clear ho B4 hn hu P hR
   go_wp2_with fail
   go_loopw [5] (fun y wr2 => ∃ k : Nat, k ≤ n ∧ y = .int .i64 (k : Int) ∧ Hid (Bo9 wr2 B bk (.slice (some ⟨R, 0, none⟩) N lc) V (D2 D i k)) ∧ Hid (Cf (Fw F w) w wr2)) (fun y _ => n - (RowKit.intOf y).toNat)
   case atStart => exact ⟨0, zq, rfl, E9, B3⟩
   case round =>
    obtain ⟨k, hk, rfl, B6, D3⟩ := hrel
    by_cases B7 : k < n
    ·have D4 : (k : Int) < (n : Int) := zq
     obtain ⟨g, rfl, H0⟩ : ∃ g, ao = some ⟨g, 0, none⟩ ∧ B ≤ g := by
      rcases B5 with h0 | h0
      ·omega
      ·exact h0
     obtain ⟨B8, _, _⟩ := B6.out.own i _ HU.out
     have B9 : (D2 D i k i).length = n := by rw [D2_len D i k (by rw [A5.out]; exact hk), A5.out]
     have ck : ∃ z, wr.cell? ⟨g, k, none⟩ = some z := ⟨_, own_cell B8 B9 B7⟩
     obtain ⟨z, ck⟩ := ck
     have fk := own_free B8 B9 k
     obtain ⟨m1, m2⟩ := mark_run i k zq zq
     have m3 := mkB_ok i k
     have F0 : Hid (Bo9 (wr.setCell ⟨g, k, none⟩ (.int .u8 (mkB i k))) B bk (.slice (some ⟨R, 0, none⟩) N lc) V (D2 D i (k + 1))) := zaa ((B6.out.set HU.out B9 B7 m3).cong (fun t _ => D2_set D i k (by rw [A5.out]; exact B7) t))
     have F1 : Hid (Cf (Fw F w) w (wr.setCell ⟨g, k, none⟩ (.int .u8 (mkB i k)))) := zaa (D3.out.go (Cf.setCell (F := Fw F w) wr (p := ⟨g, k, none⟩) (C9.out i _ HU.out g rfl) _))
     obtain ⟨q, hq⟩ : ∃ q, k / 251 = q := ⟨_, rfl⟩
     rw [hq] at m1 m2
     have F2 : (q : Int) ≤ (k : Int) := by have := Nat.div_le_self k 251; omega
     have m4 : IntKind.i64.wrap ((i : Int) + (q : Int)) = (i : Int) + (q : Int) := by rw [IntKind.wrap_i64]; omega
     have m5 : IntKind.i64.wrap (q : Int) = (q : Int) := by rw [IntKind.wrap_i64]; omega
     generalize mkB i k = y at *
     clear B8 hq
     go_wp2
     go_roundw
     case rel => exact ⟨k + 1, zq, by go_num, F0, F1⟩
     case measure => simp [RowKit.intOf]; omega
    ·obtain rfl : k = n := zq
     have D4 : ¬ (k : Int) < (k : Int) := zq
     have F3 : Hid (Bo9 wr B bk (.slice (some ⟨R, 0, none⟩) N lc) V (D1 D (i + 1))) := zaa (B6.out.cong (fun t _ => by rw [← A5.out]; exact D2_last D i t))
     go_wp2
     go_roundw
     case rel => exact ⟨i + 1, zq, by go_num, F3, D3⟩
     case measure => simp [RowKit.intOf]; omega
  ·have D5 : ¬ (i : Int) < (N : Int) := zq
   obtain ⟨nn, C0⟩ : ∃ nn : Nat → Nat, (fun t => (D t).length) = nn := ⟨_, rfl⟩
   have F4 : Hid (∀ t, t < N → nn t ≤ 65536) := zaa (by
    intro t ht
    obtain ⟨u, hu⟩ := zbs HN.out ht
    rw [← C0]
    exact (A3.out.own t u hu).2.2)
   have D7 : Hid (Q9 wr B bk (.slice lo N lc) V nn 0 (.slice none 0 0) []) := zaa (by
    rw [← C0]
    exact Bo9.start (P.out.cong (fun t ht => by unfold D1; rw [if_pos (by rw [HN.out] at ht; omega)])))
   have F5 := zaa A3.out.ne
   clear P C0 HV
   go_wp2_with fail
   clear D5 hi
   go_loopw [6, 7] (fun vg x wr => ∃ (i : Nat) (H : List Value), i ≤ N ∧ x = .int .i64 (i : Int) ∧ Hid (Q9 wr B bk (.slice lo N lc) V nn i vg H) ∧ Hid (H.length = 5 * i) ∧ Hid (Cf (Fw F w) w wr) ∧ Hid (Fo F w vg)) (fun _ x _ => N - (RowKit.intOf x).toNat)
   case atStart => exact ⟨0, [], zq, rfl, D7, zaa rfl, B3, zaa (fun z hz => by cases hz)⟩
   case round =>
    obtain ⟨i, H, hi, rfl, HQ, HL, HC, D8⟩ := hrel
    clear D7 B3 c0
    have E := HQ.out.box
    have c0 : wr.cell? ⟨bk, 0, none⟩ = some (.slice lo N lc) := by rw [cell_of_row _ _ 0 _ _ _ E]; rfl
    clear E
    by_cases A4 : i < N
    ·have E7 : (i : Int) < (N : Int) := zq
     obtain ⟨u, hu⟩ := zbs HN.out A4
     obtain ⟨R, rfl, cR⟩ : ∃ R, lo = some ⟨R, 0, none⟩ ∧ wr.cell? ⟨R, i, none⟩ = some u := by
      obtain ⟨ao, c, e, hc⟩ := HQ.out.row.cells
      injection e with e1 e2 _
      subst e1
      rcases hc with h0 | ⟨g, e3, _, hc⟩
      ·omega
      ·exact ⟨g, e3, hc i u hu⟩
     obtain ⟨xo0, xc0, rfl, _, _⟩ := HQ.out.lst i u hu
     have D9 := zaa (HQ.out.into hu)
     have C8 := zaa (C9.out i _ hu)
     have H1 := F4.out i A4
     have G4 : (nn i : Int) ≤ 65536 := zq
     clear hu HQ
     go_wp2_with fail
     go_loopw [6, 8, 9] (fun vg x kk wr => ∃ (k : Nat) (xo : Option Addr) (xc : Nat) (H : List Value), k ≤ 20 ∧ kk = .int .i64 (k : Int) ∧ x = .slice xo (nn i + k) xc ∧ Hid (P9 wr B bk (.slice (some ⟨R, 0, none⟩) N lc) V nn i k (.slice xo (nn i + k) xc) vg H) ∧ Hid (H.length = 5 * i + cnt k) ∧ Hid (Cf (Fw F w) w wr) ∧ Hid (Fo F w vg) ∧ Hid (Fo F w x)) (fun _ _ kk _ => 20 - (RowKit.intOf kk).toNat)
     case atStart => exact ⟨0, xo0, xc0, H, zq, rfl, rfl, D9, zaa HL.out, HC, D8, C8⟩
     case round =>
      obtain ⟨k, xo, xc, H, hk, rfl, rfl, HP, Q, Z, J, C1⟩ := hrel
      clear D9 HC HL c0 cR D8 C8
      by_cases E8 : k < 20
      ·have D4 : (k : Int) < 20 := zq
       obtain ⟨L, hL⟩ : ∃ L, nn i + k = L := ⟨_, rfl⟩
       have A6 := zaa hL
       have H2 : L ≤ 65556 := zq
       have G5 : (L : Int) ≤ 65556 := zq
       rw [hL] at HP C1 ⊢
       obtain ⟨m1, m2⟩ := mark_run i L zq zq
       have m3 := mkB_ok i L
       obtain ⟨q, hq⟩ : ∃ q, L / 251 = q := ⟨_, rfl⟩
       rw [hq] at m1 m2
       have F2 : (q : Int) ≤ (L : Int) := by have := Nat.div_le_self L 251; omega
       have m4 : IntKind.i64.wrap ((i : Int) + (q : Int)) = (i : Int) + (q : Int) := by rw [IntKind.wrap_i64]; omega
       have m5 : IntKind.i64.wrap (q : Int) = (q : Int) := by rw [IntKind.wrap_i64]; omega
       obtain ⟨x, hx⟩ : ∃ x, wr.alloc (.cells #[.int .u8 (mkB i L)] 5) = x := ⟨_, rfl⟩
       have E : Below wr.heap.size wr x := by rw [← hx]; exact zab Br Lr _
       have E0 : x.cell? ⟨wr.heap.size, 0, none⟩ = some (.int .u8 (mkB i L)) := by rw [← hx]; simp
       have F6 : B ≤ x.heap.size := zN hB (zN Z.out.size E.size)
       have C2 := zaa (HP.out.on E)
       have E1 : OwnB x B (.slice xo L xc) (mkL i L) := by have := C2.out.xo; rwa [hL] at this
       obtain ⟨v1, w1, hr, E2, M⟩ := app_one x B 22 (.slice xo L xc) (mkL i L) (mkB i L) wr.heap.size E1 E0 (by rw [zav]; omega) F6
       have A7 : OwnB w1 B v1 (mkL i (L + 1)) := E2
       obtain ⟨yo, yc, rfl, _⟩ := zcq A7
       rw [zav] at A7 M hr
       have C3 : Hid (P9 w1 B bk (.slice (some ⟨R, 0, none⟩) N lc) V nn i (k + 1) (.slice yo (L + 1) yc) _ H) := zaa (C2.out.appX (by rw [hL]; exact A7) M)
       have A8 : Hid (Cf (Fw F w) w w1) := zaa ((Z.out.go (Cf.of_below E)).go (by
        rcases M with ⟨_, hg⟩ | ⟨hb, _⟩
        ·refine ⟨hg.os, hg.tape, hg.output, hg.size, fun z hz hf => hg.block z hz (fun e => hf ?_)⟩
         exact C1.out z e.symm
        ·exact Cf.of_below hb))
       have A9 : Hid (Fo F w (.slice yo (L + 1) yc)) := zaa (fun z hz => by
        rcases M with ⟨e, _⟩ | ⟨_, hn⟩
        ·exact C1.out z (by rw [← e]; exact hz)
        ·exact .inr (zN (zN Z.out.size E.size) (hn z hz)))
       clear M E2 A7 E1 E hq hL HP C2 Z
       generalize mkB i L = mb at *
       go_wp2_with (at_builtin; refine app_run9 rfl _ _ _ _ rfl _ _ rfl rfl hr ?_; refine Hid.out ?_)
       apply zaa
       clear hr hx E0 m1 m2 m3 m4 m5
       by_cases C : k < 3 ∨ k = 8 ∨ k = 19
       ·have A0 : Hid (cnt (k + 1) = cnt k + 1) := zaa (by show cnt k + _ = _; rw [if_pos C])
        have H3 := cnt_bound E8 C
        obtain ⟨y, hy⟩ : ∃ y, w1.alloc (.cells #[.slice yo (L + 1) yc] 22) = y := ⟨_, rfl⟩
        have B0 : Below w1.heap.size w1 y := by rw [← hy]; exact zab Br Lr _
        have X : y.cell? ⟨w1.heap.size, 0, none⟩ = some (.slice yo (L + 1) yc) := by rw [← hy]; simp
        have K := zaa (C3.out.on B0)
        have C4 : B ≤ y.heap.size := zN hB (zN A8.out.size B0.size)
        have Y : Hid (Cf (Fw F w) w y) := zaa (A8.out.go (Cf.of_below B0))
        have B1 : H.length + 1 ≤ 6500000000000 := by rw [Q.out]; omega
        have C6 : Hid (H.length / 5 = i) := zaa (by rw [Q.out]; omega)
        clear B0 C3 A8
        by_cases g1 : k < 3
        ·have d1 : decide ((k : Int) < 3) = true := by simp; omega
         have e1 : (k : Int) < 3 := zq
         clear C
         go_wp2_with (at_builtin; refine app_x _ rfl _ _ rfl B H _ (.slice yo (L + 1) yc) rfl rfl K.out.rowG w1.heap.size rfl X B1 C4 ?_; refine Hid.out ?_)
         apply zaa
         intro vG2 w2 O A
         have A1 : Hid (P9 w2 B bk (.slice (some ⟨R, 0, none⟩) N lc) V nn i (k + 1) (.slice yo (L + 1) yc) vG2 (H ++ [.slice yo (L + 1) yc])) := zaa (K.out.appG O A C6.out zq zq)
         have A2 : Hid (Cf (Fw F w) w w2) := zaa (Y.out.go ⟨A.grow.os, A.grow.tape, A.grow.output, A.grow.size, fun z hz hf => A.grow.block z hz (fun e => hf (J.out z e.symm))⟩)
         have U : Hid (Fo F w vG2) := zaa (fun z hz => by
          rcases A.own with e | ⟨q, e, hq⟩
          ·exact J.out z (by rw [← e]; exact hz)
          ·rw [e] at hz
           cases hz
           exact .inr (zN Y.out.size hq))
         have T : Hid ((H ++ [Value.slice yo (L + 1) yc]).length = 5 * i + cnt (k + 1)) := zaa (by rw [zG, Q.out, A0.out]; rfl)
         have I : Hid (nn i + (k + 1) = L + 1) := zaa (by have := A6.out; omega)
         clear O A hy X K
         go_wp2
         go_roundw
         case rel => exact ⟨k + 1, yo, yc, H ++ [.slice yo (L + 1) yc], zq, by go_num, by rw [I.out], by rw [I.out]; exact A1, T, A2, U, A9⟩
         case measure => simp [RowKit.intOf]; omega
        ·have d1 : decide ((k : Int) < 3) = false := by simp; omega
         have e1 : ¬ (k : Int) < 3 := zq
         by_cases g2 : k = 8
         ·have d2 : ((k : Int) == 8) = true := by rw [beq_iff_eq]; omega
          have e2 : (k : Int) = 8 := zq
          clear C
          go_wp2_with (at_builtin; refine app_x _ rfl _ _ rfl B H _ (.slice yo (L + 1) yc) rfl rfl K.out.rowG w1.heap.size rfl X B1 C4 ?_; refine Hid.out ?_)
          apply zaa
          intro vG2 w2 O A
          have A1 : Hid (P9 w2 B bk (.slice (some ⟨R, 0, none⟩) N lc) V nn i (k + 1) (.slice yo (L + 1) yc) vG2 (H ++ [.slice yo (L + 1) yc])) := zaa (K.out.appG O A C6.out zq zq)
          have A2 : Hid (Cf (Fw F w) w w2) := zaa (Y.out.go ⟨A.grow.os, A.grow.tape, A.grow.output, A.grow.size, fun z hz hf => A.grow.block z hz (fun e => hf (J.out z e.symm))⟩)
          have U : Hid (Fo F w vG2) := zaa (fun z hz => by
           rcases A.own with e | ⟨q, e, hq⟩
           ·exact J.out z (by rw [← e]; exact hz)
           ·rw [e] at hz
            cases hz
            exact .inr (zN Y.out.size hq))
          have T : Hid ((H ++ [Value.slice yo (L + 1) yc]).length = 5 * i + cnt (k + 1)) := zaa (by rw [zG, Q.out, A0.out]; rfl)
          have I : Hid (nn i + (k + 1) = L + 1) := zaa (by have := A6.out; omega)
          clear O A hy X K
          go_wp2
          go_roundw
          case rel => exact ⟨k + 1, yo, yc, H ++ [.slice yo (L + 1) yc], zq, by go_num, by rw [I.out], by rw [I.out]; exact A1, T, A2, U, A9⟩
          case measure => simp [RowKit.intOf]; omega
         ·have d2 : ((k : Int) == 8) = false := by rw [beq_eq_false_iff_ne]; omega
          have d3 : ((k : Int) == 19) = true := by rw [beq_iff_eq]; omega
          have e2 : ¬ (k : Int) = 8 := zq
          have e3 : (k : Int) = 19 := zq
          clear C
          go_wp2_with (at_builtin; refine app_x _ rfl _ _ rfl B H _ (.slice yo (L + 1) yc) rfl rfl K.out.rowG w1.heap.size rfl X B1 C4 ?_; refine Hid.out ?_)
          apply zaa
          intro vG2 w2 O A
          have A1 : Hid (P9 w2 B bk (.slice (some ⟨R, 0, none⟩) N lc) V nn i (k + 1) (.slice yo (L + 1) yc) vG2 (H ++ [.slice yo (L + 1) yc])) := zaa (K.out.appG O A C6.out zq zq)
          have A2 : Hid (Cf (Fw F w) w w2) := zaa (Y.out.go ⟨A.grow.os, A.grow.tape, A.grow.output, A.grow.size, fun z hz hf => A.grow.block z hz (fun e => hf (J.out z e.symm))⟩)
          have U : Hid (Fo F w vG2) := zaa (fun z hz => by
           rcases A.own with e | ⟨q, e, hq⟩
           ·exact J.out z (by rw [← e]; exact hz)
           ·rw [e] at hz
            cases hz
            exact .inr (zN Y.out.size hq))
          have T : Hid ((H ++ [Value.slice yo (L + 1) yc]).length = 5 * i + cnt (k + 1)) := zaa (by rw [zG, Q.out, A0.out]; rfl)
          have I : Hid (nn i + (k + 1) = L + 1) := zaa (by have := A6.out; omega)
          clear O A hy X K
          go_wp2
          go_roundw
          case rel => exact ⟨k + 1, yo, yc, H ++ [.slice yo (L + 1) yc], zq, by go_num, by rw [I.out], by rw [I.out]; exact A1, T, A2, U, A9⟩
          case measure => simp [RowKit.intOf]; omega
       ·have A0 : Hid (cnt (k + 1) = cnt k) := zaa (by show cnt k + _ = _; rw [if_neg C]; rfl)
        have d1 : decide ((k : Int) < 3) = false := by simp; omega
        have d2 : ((k : Int) == 8) = false := by rw [beq_eq_false_iff_ne]; omega
        have d3 : ((k : Int) == 19) = false := by rw [beq_eq_false_iff_ne]; omega
        have e1 : ¬ (k : Int) < 3 := zq
        have e2 : ¬ (k : Int) = 8 := zq
        have e3 : ¬ (k : Int) = 19 := zq
        have I : Hid (nn i + (k + 1) = L + 1) := zaa (by have := A6.out; omega)
        clear C
        go_wp2
        go_roundw
        case rel => exact ⟨k + 1, yo, yc, H, zq, by go_num, by rw [I.out], by rw [I.out]; exact C3, by rw [A0.out]; exact Q, A8, J, A9⟩
        case measure => simp [RowKit.intOf]; omega
      ·obtain rfl : k = 20 := zq
       have F7 : Hid (Q9 wr B bk (.slice (some ⟨R, 0, none⟩) N lc) V nn (i + 1) _ H) := zaa (HP.out.out F5.out)
       have T : Hid (H.length = 5 * (i + 1)) := zaa (by rw [Q.out, cnt_all]; omega)
       clear HP
       go_wp2
       go_roundw
       case rel => exact ⟨i + 1, H, zq, by go_num, F7, T, Z, J⟩
       case measure => simp [RowKit.intOf]; omega
    ·have D5 : ¬ (i : Int) < (N : Int) := zq
     obtain ⟨go, gc, rfl, E3⟩ := HQ.out.rowG.cells
     have B1 : H.length ≤ 6500000000000 := by rw [HL.out]; omega
     have E4 := zaa E3
     obtain ⟨hn, C7⟩ : ∃ hn, H.length = hn := ⟨_, rfl⟩
     have F8 := zaa C7
     have B2 := zaa HQ.out
     rw [C7] at E4 B2 ⊢
     have G6 : (hn : Int) ≤ 6500000000000 := zq
     clear E3 HQ HL C7
     go_wp2_with fail
     go_loop [10] (fun x => ∃ t : Nat, t ≤ N ∧ x = .int .i64 (t : Int)) (fun x => N - (RowKit.intOf x).toNat)
     case atStart => exact ⟨0, zq, rfl⟩
     case round =>
      obtain ⟨t, ht, rfl⟩ := hrel
      by_cases F9 : t < N
      ·have G0 : (t : Int) < (N : Int) := zq
       obtain ⟨u, hu⟩ := zbs HN.out F9
       obtain ⟨R, rfl, cR⟩ : ∃ R, lo = some ⟨R, 0, none⟩ ∧ wr.cell? ⟨R, t, none⟩ = some u := by
        obtain ⟨ao, c, e, hc⟩ := B2.out.row.cells
        injection e with e1 e2 _
        subst e1
        rcases hc with h0 | ⟨g, e3, _, hc⟩
        ·omega
        ·exact ⟨g, e3, hc t u hu⟩
       obtain ⟨ao, c, rfl, hs, _⟩ := B2.out.lst t u hu
       have HM := zaa (marked_any ao (nn t) c t wr hs zq)
       clear hs hu
       go_wp2_with (go_at_call 68; refine zad HM.out ?_)
       go_round
       case rel => exact ⟨t + 1, zq, by go_num⟩
       case measure => simp [RowKit.intOf]; omega
      ·have G0 : ¬ (t : Int) < (N : Int) := zq
       go_wp2_with fail
       go_loop [12] (fun x => ∃ s : Nat, s ≤ hn ∧ x = .int .i64 (s : Int)) (fun x => hn - (RowKit.intOf x).toNat)
       case atStart => exact ⟨0, zq, rfl⟩
       case round =>
        obtain ⟨s, hs, rfl⟩ := hrel
        by_cases G1 : s < hn
        ·have G2 : (s : Int) < (hn : Int) := zq
         obtain ⟨u, hu⟩ := zbs F8.out G1
         obtain ⟨G, rfl, cG⟩ : ∃ G, go = some ⟨G, 0, none⟩ ∧ wr.cell? ⟨G, s, none⟩ = some u := by
          rcases E4.out with h0 | ⟨g, e3, _, hc⟩
          ·omega
          ·exact ⟨g, e3, hc s u hu⟩
         obtain ⟨n, ao, c, rfl, E5, _⟩ := B2.out.gr s u hu
         have HM := zaa (marked_any ao n c (s / 5) wr E5 zq)
         have G3 : Int.tdiv (s : Int) 5 = ((s / 5 : Nat) : Int) := by
          rw [Int.tdiv_eq_ediv_of_nonneg zq]
          rfl
         obtain ⟨q, hq⟩ : ∃ q, s / 5 = q := ⟨_, rfl⟩
         rw [hq] at HM G3
         have H4 : (q : Int) ≤ 6500000000000 := zq
         have H5 : IntKind.i64.wrap (q : Int) = (q : Int) := by rw [IntKind.wrap_i64]; omega
         clear E5 hu hq
         go_wp2_with (go_at_call 68; refine zad HM.out ?_)
         go_round
         case rel => exact ⟨s + 1, zq, by go_num⟩
         case measure => simp [RowKit.intOf]; omega
        ·have G2 : ¬ (s : Int) < (hn : Int) := zq
         go_wp2
         go_ret
         exact ⟨rfl, zaa HC.out.narrow⟩
end Go.Proofs.YtbkhjeacmmbabaaGreatDoor
