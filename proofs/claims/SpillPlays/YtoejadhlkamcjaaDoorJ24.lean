import Derived.Test.YtoejadhlkamcjaaDoorJ23
namespace Go.Proofs.YtoejadhlkamcjaaDoor
set_option maxRecDepth 100000
open Go.RowKit
theorem app_run9 {ops : Array Oper} {rest : List Oper} {o : Oper} {a : Act} {w : World} {Q : Exit → Act → World → Prop} (hgd : o.guard = none) (s x : Operand) (t1 t2 : TypeId)
  (ho : o.op = .call { callee := .builtin .append, args := #[s, x], argTypes := #[t1, t2] }) (v u : Value) (hs : a.eval s = v) (hx : a.eval x = u) {v' : Value} {w' : World}
  (hr : (Builtin.append_ #[t1, t2] o.type #[v, u]).run Tryd.prog w = .ok v' w') (h : wpList Tryd.prog ops Q rest (a.put o.dst v') w') : wpList Tryd.prog ops Q (o :: rest) a w := by
 refine wpList_plain hgd fun K hK => ?_
 unfold Oper.wp execOp
 simp only [ho, resolve, invoke, builtin, Sem.run_bind, Sem.run_pure, Result.andThen_ok, List.map_toArray, List.map_cons, List.map_nil, hs, hx, hr]
 exact hK _ _ h
def U8 (w : World) (ao : Option Addr) (n : Nat) : Prop := n = 0 ∨ ∀ p, ao = some p → ∃ cs fz, w.heap[p.block]? = some (.cells cs 5 fz)
theorem U8.on {w w' : World} {ao : Option Addr} {n : Nat} (h : U8 w ao n) (hb : Below w.heap.size w w') : U8 w' ao n := h.imp id fun h p hp => by
 obtain ⟨cs, fz, e⟩ := h p hp
 exact ⟨cs, fz, (hb.block _ (lt_some e)).trans e⟩
theorem OwnB.u8 {w : World} {B : Nat} {x : Value} {l : List Int} (h : OwnB w B x l) {g : Nat} (hg : x.ownBlock = some g) : ∃ cs fz, w.heap[g]? = some (.cells cs 5 fz) := by
 unfold OwnB at h
 rcases h.2 with ⟨rfl, _⟩ | ⟨g', c, cur, rfl, _, hh, _⟩
 ·cases hg
 ·injection hg with hg
  have hg' : g' = g := hg
  rw [← hg']
  exact ⟨_, _, hh⟩
theorem U8.app {w w' : World} {B : Nat} {x x' : Value} {l : List Int} {ao : Option Addr} {n : Nat} (h : U8 w ao n) (ho : OwnB w' B x' l)
  (hc : (x'.ownBlock = x.ownBlock ∧ w.grownBy w' x.ownBlock) ∨ (Below w.heap.size w w' ∧ ∀ k, x'.ownBlock = some k → w.heap.size ≤ k)) : U8 w' ao n := by
 rcases hc with ⟨e, hg⟩ | ⟨hb, _⟩
 ·refine h.imp id fun h p hp => ?_
  by_cases e2 : x.ownBlock = some p.block
  ·exact ho.u8 (by rw [e]; exact e2)
  ·obtain ⟨cs, fz, e3⟩ := h p hp
   exact ⟨cs, fz, (hg.block _ (lt_some e3) (fun e4 => e2 e4.symm)).trans e3⟩
 ·exact h.on hb
structure Ps (w : World) (x : Value) (i L : Nat) (u : Value) (n j : Nat) : Prop where
 ex : ∃ ao c, u = .slice ao n c ∧ Pk9 w x i L ao n c j ∧ U8 w ao n
theorem Ps.app {w w' : World} {B : Nat} {x x' : Value} {i L : Nat} {u : Value} {n j : Nat} (h : Ps w x i L u n j) (ho : OwnB w' B x' (mkL i (L + 1)))
  (hc : (x'.ownBlock = x.ownBlock ∧ w.grownBy w' x.ownBlock) ∨ (Below w.heap.size w w' ∧ ∀ k, x'.ownBlock = some k → w.heap.size ≤ k)) : Ps w' x' i (L + 1) u n j := by
 obtain ⟨ao, c, rfl, h1, h2⟩ := h.ex
 exact ⟨ao, c, rfl, h1.app ho hc, h2.app ho hc⟩
theorem Ps.on {w w' : World} {x : Value} {i L : Nat} {u : Value} {n j : Nat} (h : Ps w x i L u n j) (hb : Below w.heap.size w w') : Ps w' x i L u n j := by
 obtain ⟨ao, c, rfl, h1, h2⟩ := h.ex
 exact ⟨ao, c, rfl, h1.on hb, h2.on hb⟩
theorem Ps.grow {w w' : World} {B : Nat} {vG vG' : Value} {H : List Value} {x : Value} {i L : Nat} {u : Value} {n j : Nat} (h : Ps w x i L u n j) (hG : OwnX w B vG H) (hg : Gr w vG w' vG') : Ps w' x i L u n j := by
 obtain ⟨ao, c, rfl, h1, h2⟩ := h.ex
 have hf : n = 0 ∨ ∀ p, ao = some p → vG.ownBlock ≠ some p.block := h2.imp id fun h p hp => by
  obtain ⟨cs, fz, e⟩ := h p hp
  exact hG.noty e u8_neX
 refine ⟨ao, c, rfl, ⟨h1.sl.gr hg hf, h1.far⟩, ?_⟩
 rcases h2 with h0 | h2
 ·exact .inl h0
 ·rcases hf with h0 | hf
  ·exact .inl h0
  ·right
   intro p hp
   obtain ⟨cs, fz, e⟩ := h2 p hp
   exact ⟨cs, fz, (hg.grow.block _ (lt_some e) (fun e4 => hf p hp e4.symm)).trans e⟩
structure P9 (w : World) (B bk : Nat) (v : Value) (V : List Value) (nn : Nat → Nat) (i k : Nat) (x vG : Value) (H : List Value) : Prop where
 box : w.heap[bk]? = some (.cells #[v] 70 (0, 0))
 row : OwnX w B v V
 rowG : OwnX w B vG H
 gne : v.ownBlock = none ∨ v.ownBlock ≠ vG.ownBlock
 xo : OwnB w B x (mkL i (nn i + k))
 lst : ∀ (t : Nat) (u : Value), V[t]? = some u → Ps w x i (nn i + k) u (nn t) t
 own : ∀ (t : Nat) (u : Value), V[t]? = some u → i < t → OwnB w B u (mkL t (nn t)) ∧ (u.ownBlock = none ∨ u.ownBlock ≠ x.ownBlock)
 gr : ∀ (s : Nat) (u : Value), H[s]? = some u → ∃ n, Ps w x i (nn i + k) u n (s / 5)
 gfar : ∀ (s : Nat) (y : Value), H[s]? = some y → ∀ (t : Nat) (u : Value), V[t]? = some u → i < t → y.ownBlock = none ∨ y.ownBlock ≠ u.ownBlock
theorem P9.on {w w' : World} {B bk : Nat} {v : Value} {V : List Value} {nn : Nat → Nat} {i k : Nat} {x vG : Value} {H : List Value} (h : P9 w B bk v V nn i k x vG H) (hb : Below w.heap.size w w') : P9 w' B bk v V nn i k x vG H :=
 ⟨(hb.block _ (lt_some h.box)).trans h.box, h.row.on hb, h.rowG.on hb, h.gne, h.xo.on (Nat.le_refl _) hb, fun t u ht => (h.lst t u ht).on hb, fun t u ht hi => ⟨(h.own t u ht hi).1.on (Nat.le_refl _) hb, (h.own t u ht hi).2⟩, fun s u hs => by
  obtain ⟨n, h1⟩ := h.gr s u hs
  exact ⟨n, h1.on hb⟩, h.gfar⟩
theorem P9.appX {w w' : World} {B bk : Nat} {v : Value} {V : List Value} {nn : Nat → Nat} {i k : Nat} {x x' vG : Value} {H : List Value} (h : P9 w B bk v V nn i k x vG H) (ho : OwnB w' B x' (mkL i (nn i + k + 1)))
  (hc : (x'.ownBlock = x.ownBlock ∧ w.grownBy w' x.ownBlock) ∨ (Below w.heap.size w w' ∧ ∀ q, x'.ownBlock = some q → w.heap.size ≤ q)) : P9 w' B bk v V nn i (k + 1) x' vG H := by
 have hXx : ∀ {y : Value} {ys : List Value}, OwnX w B y ys → OwnX w' B y ys := by
  intro y ys hy
  rcases hc with ⟨_, hg⟩ | ⟨hb, _⟩
  ·exact hy.kept hg (hy.noB h.xo)
  ·exact hy.on hb
 refine ⟨?_, hXx h.row, hXx h.rowG, h.gne, ho, fun t u ht => (h.lst t u ht).app ho hc, fun t u ht hi => ?_, fun s u hs => ?_, h.gfar⟩
 ·rcases hc with ⟨_, hg⟩ | ⟨hb, _⟩
  ·exact (hg.block bk (lt_some h.box) (fun e => h.xo.noty h.box bk_ne8 e.symm)).trans h.box
  ·exact (hb.block _ (lt_some h.box)).trans h.box
 ·obtain ⟨o1, n1⟩ := h.own t u ht hi
  rcases hc with ⟨e, hg⟩ | ⟨hb, hn⟩
  ·exact ⟨World.ownsRow.kept o1 hg n1, by rw [e]; exact n1⟩
  ·refine ⟨o1.on (Nat.le_refl _) hb, ?_⟩
   cases e : u.ownBlock with
   | none => exact .inl rfl
   | some q =>
    right
    intro e2
    have h1 := (o1.blk e).2
    have h2 := hn q e2.symm
    omega
 ·obtain ⟨n, h1⟩ := h.gr s u hs
  exact ⟨n, h1.app ho hc⟩
theorem P9.appG {w w' : World} {B bk : Nat} {v : Value} {V : List Value} {nn : Nat → Nat} {i k : Nat} {x vG vG' : Value} {H : List Value} (h : P9 w B bk v V nn i k x vG H) (hG : OwnX w' B vG' (H ++ [x])) (hg : Gr w vG w' vG') (hs : H.length / 5 = i) (h0 : 0 < nn i + k) (hl : nn i + k ≤ 140737488355328) : P9 w' B bk v V nn i k x vG' (H ++ [x]) := by
 have hkeep : ∀ {y : Value} {l : List Int}, OwnB w B y l → OwnB w' B y l := by
  intro y l hy
  refine World.ownsRow.kept hy hg.grow ?_
  rcases h.rowG.noB hy with e | e
  ·rw [e]
   cases e2 : y.ownBlock with
   | none => exact .inl rfl
   | some _ => exact .inr (by simp)
  ·exact .inr fun e2 => e e2.symm
 have hxo := hkeep h.xo
 refine ⟨(hg.grow.block bk (lt_some h.box) (fun e => h.rowG.noty h.box bk_neX e.symm)).trans h.box, h.row.kept hg.grow h.gne, hG, ?_, hxo, fun t u ht => (h.lst t u ht).grow h.rowG hg, fun t u ht hi => ⟨hkeep (h.own t u ht hi).1, (h.own t u ht hi).2⟩, fun s u hsu => ?_, fun s y hsy t u ht hi => ?_⟩
 ·rcases h.gne with e | e
  ·exact .inl e
  ·rcases hg.own with e2 | ⟨q, e2, hq⟩
   ·rw [e2]; exact .inr e
   ·cases e3 : v.ownBlock with
    | none => exact .inl rfl
    | some z =>
     right
     rw [e2]
     intro e4
     injection e4 with e4
     have hr := h.row
     unfold OwnX at hr
     have := (hr.lt z e3).2
     omega
 ·by_cases e : s < H.length
  ·rw [List.getElem?_append_left e] at hsu
   obtain ⟨n, h1⟩ := h.gr s u hsu
   exact ⟨n, h1.grow h.rowG hg⟩
  ·have hlt := (List.getElem?_eq_some_iff.1 hsu).1
   rw [List.length_append] at hlt
   simp only [List.length_cons, List.length_nil] at hlt
   obtain rfl : s = H.length := by omega
   rw [List.getElem?_concat_length] at hsu
   cases hsu
   obtain ⟨ao, c, e5, _, _⟩ := hxo.sl (mkL_wf _ _) (by rw [mkL_length]; exact hl)
   rw [mkL_length] at e5
   obtain ⟨ao2, c2, e6, h7⟩ := own_shape hxo
   rw [mkL_length] at e6 h7
   rcases h7 with h7 | ⟨g, rfl, _⟩
   ·omega
   have hob : x.ownBlock = some g := by rw [e6]; rfl
   have hcap : nn i + k ≤ c2 := by
    have h8 := hxo
    unfold OwnB at h8
    rcases h8.2 with ⟨e9, _⟩ | ⟨g', cap', cur, e9, _, _, hnc, _⟩
    ·rw [e6] at e9; cases e9
    ·rw [e6] at e9
     rw [mkL_length] at hnc e9
     injection e9 with _ _ e10
     omega
   refine ⟨nn i + k, ⟨some ⟨g, 0, none⟩, c2, e6, ⟨?_, .inr ⟨hs, Nat.le_refl _, g, rfl, hob⟩⟩, .inr fun p hp => ?_⟩⟩
   ·rw [hs]
    exact hxo.marks hob (Nat.le_refl _) hcap hl
   ·cases hp
    exact hxo.u8 hob
 ·by_cases e : s < H.length
  ·rw [List.getElem?_append_left e] at hsy
   exact h.gfar s y hsy t u ht hi
  ·have hlt := (List.getElem?_eq_some_iff.1 hsy).1
   rw [List.length_append] at hlt
   simp only [List.length_cons, List.length_nil] at hlt
   obtain rfl : s = H.length := by omega
   rw [List.getElem?_concat_length] at hsy
   cases hsy
   rcases (h.own t u ht hi).2 with e2 | e2
   ·rw [e2]
    cases e3 : x.ownBlock with
    | none => exact .inl rfl
    | some _ => exact .inr (by simp)
   ·exact .inr fun e3 => e2 e3.symm
def Sq (w : World) (u : Value) (n j : Nat) : Prop := ∃ ao c, u = .slice ao n c ∧ Sl w ao n c (mkL j n) ∧ U8 w ao n
structure Q9 (w : World) (B bk : Nat) (v : Value) (V : List Value) (nn : Nat → Nat) (i : Nat) (vG : Value) (H : List Value) : Prop where
 box : w.heap[bk]? = some (.cells #[v] 70 (0, 0))
 row : OwnX w B v V
 rowG : OwnX w B vG H
 gne : v.ownBlock = none ∨ v.ownBlock ≠ vG.ownBlock
 lst : ∀ (t : Nat) (u : Value), V[t]? = some u → Sq w u (nn t) t
 own : ∀ (t : Nat) (u : Value), V[t]? = some u → i ≤ t → OwnB w B u (mkL t (nn t))
 ne : ∀ (t t' : Nat) (u u' : Value), V[t]? = some u → V[t']? = some u' → t ≠ t' → u.ownBlock = none ∨ u.ownBlock ≠ u'.ownBlock
 gr : ∀ (s : Nat) (u : Value), H[s]? = some u → ∃ n, Sq w u n (s / 5)
 gfar : ∀ (s : Nat) (y : Value), H[s]? = some y → ∀ (t : Nat) (u : Value), V[t]? = some u → i ≤ t → y.ownBlock = none ∨ y.ownBlock ≠ u.ownBlock
theorem far_of {ao : Option Addr} {n c : Nat} {x : Value} (h : (Value.slice ao n c).ownBlock = none ∨ (Value.slice ao n c).ownBlock ≠ x.ownBlock) : Far ao n x := by
 right
 rintro p rfl e
 rcases h with h | h
 ·cases h
 ·exact h (by rw [e]; rfl)
theorem Q9.into {w : World} {B bk : Nat} {v : Value} {V : List Value} {nn : Nat → Nat} {i : Nat} {vG : Value} {H : List Value} (h : Q9 w B bk v V nn i vG H) {x : Value} (hx : V[i]? = some x) : P9 w B bk v V nn i 0 x vG H := by
 have hxo := h.own i x hx (Nat.le_refl _)
 refine ⟨h.box, h.row, h.rowG, h.gne, hxo, fun t u ht => ?_, fun t u ht hi => ⟨h.own t u ht (by omega), h.ne t i u x ht hx (by omega)⟩, fun s u hs => ?_, fun s y hs t u ht hi => h.gfar s y hs t u ht (by omega)⟩
 ·obtain ⟨ao, c, rfl, h1, h2⟩ := h.lst t u ht
  refine ⟨ao, c, rfl, ⟨h1, ?_⟩, h2⟩
  by_cases e : t = i
  ·subst e
   rw [hx] at ht
   cases ht
   rcases own_shape hxo with ⟨ao2, c2, e2, h3⟩
   injection e2 with e3 e4 e5
   rw [mkL_length] at e4 h3
   rcases h3 with h3 | ⟨g, e6, _⟩
   ·exact .inl (.inl h3)
   ·refine .inr ⟨rfl, by omega, g, by rw [e3, e6], by rw [e3, e6]; rfl⟩
  ·exact .inl (far_of (h.ne t i _ x ht hx e))
 ·obtain ⟨n, ao, c, rfl, h1, h2⟩ := h.gr s u hs
  exact ⟨n, ⟨ao, c, rfl, ⟨h1, .inl (far_of (h.gfar s _ hs i x hx (Nat.le_refl _)))⟩, h2⟩⟩
theorem P9.out {w : World} {B bk : Nat} {v : Value} {V : List Value} {nn : Nat → Nat} {i k : Nat} {x vG : Value} {H : List Value} (h : P9 w B bk v V nn i k x vG H) (hne : ∀ (t t' : Nat) (u u' : Value), V[t]? = some u → V[t']? = some u' → t ≠ t' → u.ownBlock = none ∨ u.ownBlock ≠ u'.ownBlock) : Q9 w B bk v V nn (i + 1) vG H :=
 ⟨h.box, h.row, h.rowG, h.gne, fun t u ht => by
  obtain ⟨ao, c, e, h1, h2⟩ := (h.lst t u ht).ex
  exact ⟨ao, c, e, h1.sl, h2⟩, fun t u ht hi => (h.own t u ht (by omega)).1, hne, fun s u hs => by
  obtain ⟨n, h0⟩ := h.gr s u hs
  obtain ⟨ao, c, e, h1, h2⟩ := h0.ex
  exact ⟨n, ao, c, e, h1.sl, h2⟩, fun s y hs t u ht hi => h.gfar s y hs t u ht (by omega)⟩
theorem Bo9.start {w : World} {B bk : Nat} {v : Value} {V : List Value} {nn : Nat → Nat} (h : Bo9 w B bk v V (fun t => mkL t (nn t))) : Q9 w B bk v V nn 0 (.slice none 0 0) [] := by
 refine ⟨h.box, h.row, OwnX.nil _ _, ?_, fun t u ht => ?_, fun t u ht _ => (h.own t u ht).1, h.ne, fun s u hs => by simp at hs, fun s y hs => by simp at hs⟩
 ·cases e : v.ownBlock with
  | none => exact .inl rfl
  | some _ => exact .inr (by simp [Value.ownBlock])
 ·obtain ⟨o, w1, l1⟩ := h.own t u ht
  rw [mkL_length] at l1
  obtain ⟨ao, c, e, hs, _⟩ := o.sl w1 (by rw [mkL_length]; omega)
  rw [mkL_length] at e hs
  refine ⟨ao, c, e, hs, ?_⟩
  right
  rintro p rfl
  exact o.u8 (by rw [e]; rfl)
end Go.Proofs.YtoejadhlkamcjaaDoor
