import Derived.Test.YtbkhjeacmmbabaaGreatDoorJ18
import Derived.Test.YtbkhjeacmmbabaaGreatDoorJ21
namespace Go.Proofs.YtbkhjeacmmbabaaGreatDoor
set_option maxRecDepth 100000
open Go.RowKit
namespace Six
theorem c_neY : 50 ≠ 29 := by decide
theorem bk_neY : 42 ≠ 29 := by decide
theorem bk_neC : 42 ≠ 50 := by decide
theorem x_neY : 22 ≠ 29 := by decide
theorem infoSl5 : (Tryz.prog.info? 29).map (fun i => (i.zero, i.size, i.bytes)) = some (some (.slice none 0 0), 1, 24) := by kernel_rfl
def OwnY (w : World) (B : Nat) (v : Value) (xs : List Value) : Prop := w.ownsRow B 29 1 v xs.length xs
theorem OwnY.nil (w : World) (B : Nat) : OwnY w B (.slice none 0 0) [] := World.ownsRow_nil w B 29 1
theorem OwnY.noty {w : World} {B : Nat} {v : Value} {xs : List Value} (h : OwnY w B v xs) {g : Nat} {c : Array Value} {t : TypeId} {fz : Nat × Nat} (hg : w.heap[g]? = some (.cells c t fz)) (ht : t ≠ 29) : v.ownBlock ≠ some g := by
 intro e
 rcases h.2 with ⟨rfl, _⟩ | ⟨k, cap, cur, rfl, _, hk, _⟩
 ·cases e
 ·injection e with e
  have e' : k = g := e
  rw [← e', hk] at hg
  injection hg with hg
  injection hg with _ h2 _
  exact ht h2.symm
theorem OwnY.kept {w w' : World} {B : Nat} {v : Value} {xs : List Value} {row : Option Nat} (h : OwnY w B v xs) (hg : w.grownBy w' row) (A : v.ownBlock = none ∨ v.ownBlock ≠ row) : OwnY w' B v xs := World.ownsRow.kept h hg A
theorem OwnY.on {w w' : World} {B : Nat} {v : Value} {xs : List Value} (h : OwnY w B v xs) (hb : Below w.heap.size w w') : OwnY w' B v xs := h.kept (row := none) ⟨hb.os, hb.tape, hb.output, hb.size, fun k hk _ => hb.block k hk⟩ (by
 cases e : v.ownBlock with
 | none => exact .inl rfl
 | some k => exact .inr zv)
theorem OwnY.cells {w : World} {B : Nat} {v : Value} {xs : List Value} (h : OwnY w B v xs) : ∃ ao cap, v = .slice ao xs.length cap ∧ (xs.length = 0 ∨ ∃ g, ao = some ⟨g, 0, none⟩ ∧ xs.length ≤ cap ∧ ∀ (t : Nat) (u : Value), xs[t]? = some u → w.cell? ⟨g, t, none⟩ = some u) := by
 rcases h.2 with ⟨rfl, h0⟩ | ⟨g, cap, cur, rfl, hg, hh, A, hm, hs, ht⟩
 ·exact ⟨none, 0, by rw [h0], .inl h0⟩
 ·refine ⟨_, cap, rfl, .inr ⟨g, rfl, A, fun t u hu => ?_⟩⟩
  have C := (zH.1 hu).1
  have := World.ownsRow.cellAt h t zq
  rw [this]
  exact hu
theorem app_y {ops : Array Oper} {rest : List Oper} {o : Oper} {a : Act} {Q : Exit → Act → World → Prop} (w : World) (D : o.guard = none) (s x : Operand)
  (ho : o.op = .call { callee := .builtin .append, args := #[s, x], argTypes := #[40, 40] }) (B : Nat) (xs : List Value) (v y : Value) (hs : a.eval s = v) (h1 : y.oneCell' = true)
  (C : OwnY w B v xs) (b : Nat) (hx : a.eval x = .slice (some ⟨b, 0, none⟩) 1 1) (hc : w.cell? ⟨b, 0, none⟩ = some y) (hb : xs.length + 1 ≤ 100000000) (A : B ≤ w.heap.size)
  (h : ∀ v' w', OwnY w' B v' (xs ++ [y]) → Gr w v w' v' → wpList Tryz.prog ops Q rest (a.put o.dst v') w') : wpList Tryz.prog ops Q (o :: rest) a w := by
 obtain ⟨i0, hi, E, F, G⟩ := info_parts infoSl5
 refine wpList_append_own_at w D s x 40 ho B 29 i0 (.slice none 0 0) 1 24 Tryz.underlying40 hi E F G rfl zd v xs.length xs hs C ⟨b, 0, none⟩ 1 1 [y] hx rfl
  (fun j u hu => by
   have hj : j = 0 := by
    have := (zH.1 hu).1
    simpa using this
   subst hj
   simp at hu
   subst hu
   simpa [Addr.add_lit] using hc) (fun u hu => by simp at hu; subst hu; exact h1) zml zq A ?_
 intro v' w' h1 h2 _ h4
 refine h v' w' ?_ ⟨h2, h4.imp id fun e => ⟨_, e, Lr⟩⟩
 unfold OwnY
 rw [zG]
 exact h1
def mkV (j : Nat) : List Value := [.slice none 0 0, .int .i64 (1000 + (j : Int)), .slice none 0 0, .int .i64 0, .int .i64 0]
def OwnP (w : World) (B : Nat) (u : Value) (n k j : Nat) : Prop := ∃ vs, w.ownsRow B 50 5 u n vs ∧ ∀ t, t < k → vs[t * 5 + 1]? = some (.int .i64 (1000 + (j : Int)))
theorem OwnP.kept {w w' : World} {B n k j : Nat} {u : Value} {row : Option Nat} (h : OwnP w B u n k j) (hg : w.grownBy w' row) (A : u.ownBlock = none ∨ u.ownBlock ≠ row) : OwnP w' B u n k j := by
 obtain ⟨vs, h1, h2⟩ := h
 exact ⟨vs, World.ownsRow.kept h1 hg A, h2⟩
theorem OwnP.on {w w' : World} {B n k j : Nat} {u : Value} (h : OwnP w B u n k j) (hb : Below w.heap.size w w') : OwnP w' B u n k j := h.kept (row := none) ⟨hb.os, hb.tape, hb.output, hb.size, fun k hk _ => hb.block k hk⟩ (by
 cases e : u.ownBlock with
 | none => exact .inl rfl
 | some k => exact .inr zv)
theorem OwnP.lt {w : World} {B n k j z : Nat} {u : Value} (h : OwnP w B u n k j) (hz : u.ownBlock = some z) : B ≤ z ∧ z < w.heap.size := by
 obtain ⟨vs, h1, _⟩ := h
 exact h1.lt z hz
theorem OwnP.ty {w : World} {B n k j z : Nat} {u : Value} (h : OwnP w B u n k j) (hz : u.ownBlock = some z) : ∃ cs fz, w.heap[z]? = some (.cells cs 50 fz) := by
 obtain ⟨vs, h1, _⟩ := h
 rcases h1.2 with ⟨rfl, _⟩ | ⟨g', c, cur, rfl, _, hh, _⟩
 ·cases hz
 ·injection hz with hg
  have hg' : g' = z := hg
  rw [← hg']
  exact ⟨_, _, hh⟩
theorem OwnP.noty {w : World} {B n k j g : Nat} {u : Value} (h : OwnP w B u n k j) {c : Array Value} {t : TypeId} {fz : Nat × Nat} (hg : w.heap[g]? = some (.cells c t fz)) (ht : t ≠ 50) : u.ownBlock ≠ some g := by
 intro e
 obtain ⟨cs, f2, e2⟩ := h.ty e
 rw [e2] at hg
 injection hg with hg
 injection hg with _ h2 _
 exact ht h2.symm
theorem OwnY.noP {w : World} {B C n k j : Nat} {v u : Value} {xs : List Value} (h : OwnY w B v xs) (p : OwnP w C u n k j) : v.ownBlock = none ∨ v.ownBlock ≠ u.ownBlock := by
 cases hu : u.ownBlock with
 | none =>
  cases e : v.ownBlock with
  | none => exact .inl rfl
  | some _ => right; simp
 | some g =>
  obtain ⟨cs, fz, e⟩ := p.ty hu
  exact .inr (h.noty e c_neY)
theorem OwnP.shape {w : World} {B n k j : Nat} {u : Value} (h : OwnP w B u n k j) : ∃ ao c, u = .slice ao n c ∧ (n = 0 ∨ ∃ g, ao = some ⟨g, 0, none⟩ ∧ B ≤ g ∧ RowC w g c ∧ n ≤ c) := by
 obtain ⟨vs, h1, _⟩ := h
 rcases h1.2 with ⟨rfl, h0⟩ | ⟨g, cap, cur, rfl, hg, hh, A, _, hs, _⟩
 ·exact ⟨none, 0, by rw [h0], .inl h0⟩
 ·exact ⟨_, cap, rfl, .inr ⟨g, rfl, hg, ⟨cur, hh, zq⟩, A⟩⟩
theorem OwnP.cell {w : World} {B n k j g c : Nat} (h : OwnP w B (.slice (some ⟨g, 0, none⟩) n c) n k j) {t : Nat} (ht : t < k) (hk : k ≤ n) : w.cell? ⟨g, t * 5 + 1, none⟩ = some (.int .i64 (1000 + (j : Int))) := by
 obtain ⟨vs, h1, h2⟩ := h
 rw [h1.cellAt (t * 5 + 1) zq]
 exact h2 t ht
theorem grown_trans {w w1 w2 : World} {row : Option Nat} (h : w.grownBy w1 row) (k : w1.grownBy w2 row) : w.grownBy w2 row :=
 ⟨k.os.trans h.os, k.tape.trans h.tape, k.output.trans h.output, zN h.size k.size, fun z hz A => (k.block z (zO hz h.size) A).trans (h.block z hz A)⟩
theorem own_sets {B n c g : Nat} {e : TypeId} {s : Nat} : ∀ (us : List Value) (j : Nat) (w : World) (xs : List Value), w.ownsRow B e s (.slice (some ⟨g, 0, none⟩) n c) n xs → ∃ ys, (w.setCells g j us).ownsRow B e s (.slice (some ⟨g, 0, none⟩) n c) n ys ∧ w.grownBy (w.setCells g j us) (some g)
 | [], j, w, xs, h => ⟨xs, h, ⟨rfl, rfl, rfl, Lr, fun _ _ _ => rfl⟩⟩
 | v :: r, j, w, xs, h => by
  obtain ⟨h1, h2⟩ := h.stored j v
  obtain ⟨ys, h3, h4⟩ := own_sets r (j + 1) _ _ h1
  exact ⟨ys, h3, grown_trans h2 h4⟩
theorem OwnP.put {w : World} {B n k j g c : Nat} (h : OwnP w B (.slice (some ⟨g, 0, none⟩) n c) n k j) (hk : k < n) : OwnP (w.setCells g (k * 5) (mkV j)) B (.slice (some ⟨g, 0, none⟩) n c) n (k + 1) j ∧ w.grownBy (w.setCells g (k * 5) (mkV j)) (some g) := by
 have hh := h
 obtain ⟨vs, h1, h2⟩ := h
 obtain ⟨ys, h3, h4⟩ := own_sets (mkV j) (k * 5) w vs h1
 obtain ⟨ao, c', e, hs⟩ := hh.shape
 rcases hs with hs | ⟨g', e', _, hr, A⟩
 ·omega
 injection e with e1 _ e3
 rw [e'] at e1
 injection e1 with e1
 injection e1 with e1 _ _
 subst e1
 refine ⟨⟨ys, h3, fun t ht => ?_⟩, h4⟩
 rw [← h3.cellAt (t * 5 + 1) zq]
 by_cases e : t = k
 ·subst e
  have := World.rangeAt_setCells_same w g (t * 5) (mkV j) (hr.there zq)
  exact this 1 _ rfl
 ·rw [World.cell?_setCells_out g _ _ w _ (fun _ _ => .inl (by simp only; omega)), h1.cellAt (t * 5 + 1) zq]
  exact h2 t zq
theorem app_m (w : World) (B : Nat) (ty : TypeId) (v : Value) (n j b : Nat) (J : OwnP w B v n n j) (hc : ∀ t u, (mkV j)[t]? = some u → w.cell? ⟨b, t, none⟩ = some u) (hn : n + 1 ≤ 4000000) (hB : B ≤ w.heap.size) :
  ∃ v' w', (Builtin.append_ #[29, 29] ty #[v, .slice (some ⟨b, 0, none⟩) 1 1]).run Tryz.prog w = .ok v' w' ∧ OwnP w' B v' (n + 1) (n + 1) j ∧
   ((v'.ownBlock = v.ownBlock ∧ w.grownBy w' v.ownBlock) ∨ (Below w.heap.size w w' ∧ ∀ k, v'.ownBlock = some k → w.heap.size ≤ k)) := by
 obtain ⟨i0, hi, D, C, E⟩ := info_parts infoC
 obtain ⟨vs, h1, h2⟩ := J
 have I : (mkV j).length = 1 * 5 := rfl
 have A : ∀ t u, (mkV j)[t]? = some u → w.cell? ((⟨b, 0, none⟩ : Addr).add t) = some u := fun t u hu => by
  rw [Addr.add_lit, Nat.zero_add]
  exact hc t u hu
 have F : ∀ u ∈ mkV j, u.oneCell' = true := by
  intro u hu
  simp only [mkV, List.mem_cons, List.not_mem_nil, or_false] at hu
  rcases hu with rfl | rfl | rfl | rfl | rfl <;> rfl
 obtain ⟨v', w', hr, g2, g3, g4⟩ := run_append_own (P := Tryz.prog) w B 29 ty 50 i0 _ 5 72 Tryz.underlying29 hi D C E rfl zd v n vs h1 ⟨b, 0, none⟩ 1 1 (mkV j) I A F zml zq hB
 refine ⟨v', w', hr, ⟨_, g2, fun t ht => ?_⟩, ?_⟩
 ·have K := h1.1
  by_cases e : t < n
  ·rw [zL zq]
   exact h2 t e
  ·obtain rfl : t = n := zq
   rw [List.getElem?_append_right zq, K, show t * 5 + 1 - t * 5 = 1 by omega]
   rfl
 ·rcases h1.2 with ⟨rfl, h0⟩ | ⟨g, cap, cur, rfl, M, hg, N, O, Q, L⟩
  ·have hr' := run_append_nil (P := Tryz.prog) w 29 ty 50 i0 _ Tryz.underlying29 hi D ⟨b, 0, none⟩ 1 1 (mkV j) (by rw [C]; rfl) A zq zq (by rw [E]; omega)
   rw [hr] at hr'
   injection hr' with e1 e2
   refine .inr ⟨by rw [e2]; exact Br.drew.alloc Lr _, fun k hk => ?_⟩
   rw [e1] at hk
   injection hk with hk
   have : w.heap.size = k := hk
   omega
  ·by_cases G : n + 1 ≤ cap
   ·have hr' := run_append_room (P := Tryz.prog) w 29 ty 50 i0 Tryz.underlying29 hi g n cap cur hg ⟨b, 0, none⟩ 1 1 (mkV j) (by rw [C]; rfl) A F G (by rw [C, I]; omega)
    rw [hr] at hr'
    injection hr' with e1 e2
    exact .inl ⟨by rw [e1]; rfl, g3⟩
   ·have H : ∀ t u, vs[t]? = some u → w.cell? ((⟨g, 0, none⟩ : Addr).add t) = some u := World.ownsRow.cells h1 (g := g) rfl
    have hr' := run_append_grow (P := Tryz.prog) w 29 ty 50 i0 _ Tryz.underlying29 hi D ⟨g, 0, none⟩ n cap vs (by rw [C]; exact h1.1) H ⟨b, 0, none⟩ 1 1 (mkV j) (by rw [C]; rfl) A zq zq (by rw [E]; exact growslice_fits zq zq)
    rw [hr] at hr'
    injection hr' with e1 e2
    refine .inr ⟨by rw [e2]; exact Br.drew.alloc Lr _, fun k hk => ?_⟩
    rw [e1] at hk
    injection hk with hk
    have : w.heap.size = k := hk
    omega
def SlM (w : World) (ao : Option Addr) (n j : Nat) : Prop := n = 0 ∨ ∃ g, ao = some ⟨g, 0, none⟩ ∧ (∃ cs fz, w.heap[g]? = some (.cells cs 50 fz)) ∧ ∀ t, t < n → w.cell? ⟨g, t * 5 + 1, none⟩ = some (.int .i64 (1000 + (j : Int)))
theorem SlM.keep {w w' : World} {ao : Option Addr} {n j : Nat} (h : SlM w ao n j) (hk : ∀ p cs fz, ao = some p → w.heap[p.block]? = some (.cells cs 50 fz) → w'.heap[p.block]? = w.heap[p.block]?) : SlM w' ao n j := by
 rcases h with h | ⟨g, rfl, ⟨cs, fz, h1⟩, h2⟩
 ·exact .inl h
 ·have e := hk _ cs fz rfl h1
  exact .inr ⟨g, rfl, ⟨cs, fz, e.trans h1⟩, fun t ht => (World.cell?_of_block (a := ⟨g, t * 5 + 1, none⟩) e).trans (h2 t ht)⟩
theorem SlM.on {w w' : World} {ao : Option Addr} {n j : Nat} (h : SlM w ao n j) (hb : Below w.heap.size w w') : SlM w' ao n j := h.keep fun _ _ _ _ h1 => hb.block _ (zaf h1)
theorem OwnP.slm {w : World} {B n j : Nat} {ao : Option Addr} {c : Nat} (h : OwnP w B (.slice ao n c) n n j) : SlM w ao n j := by
 have hh := h
 obtain ⟨ao', c', e, hs⟩ := hh.shape
 rcases hs with hs | ⟨g, e', _, hr, A⟩
 ·exact .inl hs
 ·injection e with e1 _ _
  rw [e'] at e1
  subst e1
  exact .inr ⟨g, rfl, h.ty rfl, fun t ht => h.cell ht Lr⟩
def Ps5 (w : World) (x : Value) (i L : Nat) (u : Value) (n j : Nat) : Prop := (∃ ao c, u = .slice ao n c ∧ SlM w ao n j) ∧ (n = 0 ∨ u.ownBlock ≠ x.ownBlock ∨ (j = i ∧ n ≤ L))
theorem Ps5.on {w w' : World} {x : Value} {i L : Nat} {u : Value} {n j : Nat} (h : Ps5 w x i L u n j) (hb : Below w.heap.size w w') : Ps5 w' x i L u n j := by
 obtain ⟨⟨ao, c, e, h1⟩, h2⟩ := h
 exact ⟨⟨ao, c, e, h1.on hb⟩, h2⟩
theorem Ps5.grow {w w' : World} {B : Nat} {vG vG' : Value} {H : List Value} {x : Value} {i L : Nat} {u : Value} {n j : Nat} (h : Ps5 w x i L u n j) (hG : OwnY w B vG H) (hg : Gr w vG w' vG') : Ps5 w' x i L u n j := by
 obtain ⟨⟨ao, c, e, h1⟩, h2⟩ := h
 exact ⟨⟨ao, c, e, h1.keep fun p cs fz _ hp => hg.grow.block _ (zaf hp) (fun e4 => hG.noty hp c_neY e4.symm)⟩, h2⟩
theorem Ps5.app {w w' : World} {B : Nat} {x x' : Value} {i L : Nat} {u : Value} {n j : Nat} (h : Ps5 w x i L u n j) (ho : OwnP w' B x' (L + 1) (L + 1) i)
  (hc : (x'.ownBlock = x.ownBlock ∧ w.grownBy w' x.ownBlock) ∨ (Below w.heap.size w w' ∧ ∀ k, x'.ownBlock = some k → w.heap.size ≤ k)) : Ps5 w' x' i (L + 1) u n j := by
 obtain ⟨⟨ao, c, rfl, h1⟩, h2⟩ := h
 rcases hc with ⟨e, hg⟩ | ⟨hb, hn⟩
 ·by_cases hx : (Value.slice ao n c).ownBlock = x.ownBlock
  ·by_cases h0 : n = 0
   ·exact ⟨⟨ao, c, rfl, .inl h0⟩, .inl h0⟩
   ·obtain ⟨rfl, hl⟩ : j = i ∧ n ≤ L := by
     rcases h2 with h2 | h2 | h2
     ·omega
     ·exact absurd hx h2
     ·exact h2
    refine ⟨⟨ao, c, rfl, ?_⟩, .inr (.inr ⟨rfl, zq⟩)⟩
    rcases h1 with h1 | ⟨g, rfl, _, _⟩
    ·omega
    ·have A : x'.ownBlock = some g := by rw [e, ← hx]; rfl
     obtain ⟨ao', c', e', hs⟩ := ho.shape
     rcases hs with hs | ⟨g', e'', _, hr, D⟩
     ·omega
     ·subst e'
      subst e''
      injection A with A
      have C : g' = g := A
      subst C
      exact .inr ⟨g', rfl, ho.ty rfl, fun t ht => ho.cell zq Lr⟩
  ·refine ⟨⟨ao, c, rfl, h1.keep fun p cs fz hp hh => hg.block _ (zaf hh) (fun e4 => hx ?_)⟩, .inr (.inl (by rw [e]; exact hx))⟩
   rw [hp, ← e4]
   rfl
 ·refine ⟨⟨ao, c, rfl, h1.on hb⟩, ?_⟩
  rcases h1 with h1 | ⟨g, rfl, ⟨cs, fz, h3⟩, _⟩
  ·exact .inl h1
  ·refine .inr (.inl fun e => ?_)
   have h4 := hn g (by rw [← e]; rfl)
   have h5 := zaf h3
   omega
end Six
end Go.Proofs.YtbkhjeacmmbabaaGreatDoor
namespace Go.Proofs.YtbkhjeacmmbabaaGreatDoor
set_option maxRecDepth 100000
open Go.RowKit
namespace Six
structure Bl (w : World) (B bk : Nat) (bv v : Value) (V : List Value) (nn K : Nat → Nat) : Prop where
 box : w.heap[bk]? = some (.cells #[bv, v] 42 (0, 0))
 row : OwnY w B v V
 own : ∀ (t : Nat) (u : Value), V[t]? = some u → OwnP w B u (nn t) (K t) t
 ne : ∀ (t t' : Nat) (u u' : Value), V[t]? = some u → V[t']? = some u' → t ≠ t' → u.ownBlock = none ∨ u.ownBlock ≠ u'.ownBlock
theorem Bl.cong {w : World} {B bk : Nat} {bv v : Value} {V : List Value} {nn K L : Nat → Nat} (h : Bl w B bk bv v V nn K) (he : ∀ t, t < V.length → K t = L t) : Bl w B bk bv v V nn L :=
 ⟨h.box, h.row, fun t u ht => by rw [← he t (zH.1 ht).1]; exact h.own t u ht, h.ne⟩
theorem Bl.set {w : World} {B bk : Nat} {bv v : Value} {V : List Value} {nn K : Nat → Nat} (h : Bl w B bk bv v V nn K) {i g n c k : Nat} (hi : V[i]? = some (.slice (some ⟨g, 0, none⟩) n c)) (hn : nn i = n) (hK : K i = k) (hk : k < n) :
  Bl (w.setCells g (k * 5) (mkV i)) B bk bv v V nn (fun t => if t = i then k + 1 else K t) ∧ w.grownBy (w.setCells g (k * 5) (mkV i)) (some g) := by
 have ho := h.own i _ hi
 rw [hn, hK] at ho
 obtain ⟨C, hg⟩ := ho.put hk
 have A : (Value.slice (some ⟨g, 0, none⟩) n c).ownBlock = some g := rfl
 refine ⟨⟨(hg.block bk (zaf h.box) (fun e => ho.noty h.box bk_neC (by rw [A, e]))).trans h.box, h.row.kept hg ?_, fun t u ht => ?_, h.ne⟩, hg⟩
 ·have := h.row.noP ho
  rwa [A] at this
 ·by_cases e : t = i
  ·subst e
   rw [hi] at ht
   cases ht
   simp only [if_true]
   rw [hn]
   exact C
  ·simp only [if_neg e]
   have h3 := h.ne t i u _ ht hi e
   rw [A] at h3
   exact (h.own t u ht).kept hg h3
structure P5 (w : World) (B bk : Nat) (bv v : Value) (V : List Value) (nn : Nat → Nat) (i k : Nat) (x vG : Value) (H : List Value) : Prop where
 box : w.heap[bk]? = some (.cells #[bv, v] 42 (0, 0))
 row : OwnY w B v V
 rowG : OwnY w B vG H
 gne : v.ownBlock = none ∨ v.ownBlock ≠ vG.ownBlock
 xo : OwnP w B x (nn i + k) (nn i + k) i
 own : ∀ (t : Nat) (u : Value), V[t]? = some u → i < t → OwnP w B u (nn t) (nn t) t ∧ (u.ownBlock = none ∨ u.ownBlock ≠ x.ownBlock)
 gr : ∀ (s : Nat) (u : Value), H[s]? = some u → ∃ n, n ≤ 900000 ∧ Ps5 w x i (nn i + k) u n (s / 5)
 gfar : ∀ (s : Nat) (y : Value), H[s]? = some y → ∀ (t : Nat) (u : Value), V[t]? = some u → i < t → y.ownBlock = none ∨ y.ownBlock ≠ u.ownBlock
theorem P5.on {w w' : World} {B bk : Nat} {bv v : Value} {V : List Value} {nn : Nat → Nat} {i k : Nat} {x vG : Value} {H : List Value} (h : P5 w B bk bv v V nn i k x vG H) (hb : Below w.heap.size w w') : P5 w' B bk bv v V nn i k x vG H :=
 ⟨(hb.block _ (zaf h.box)).trans h.box, h.row.on hb, h.rowG.on hb, h.gne, h.xo.on hb, fun t u ht hi => ⟨(h.own t u ht hi).1.on hb, (h.own t u ht hi).2⟩, fun s u hs => by
  obtain ⟨n, h0, h1⟩ := h.gr s u hs
  exact ⟨n, h0, h1.on hb⟩, h.gfar⟩
theorem P5.appX {w w' : World} {B bk : Nat} {bv v : Value} {V : List Value} {nn : Nat → Nat} {i k : Nat} {x x' vG : Value} {H : List Value} (h : P5 w B bk bv v V nn i k x vG H) (ho : OwnP w' B x' (nn i + k + 1) (nn i + k + 1) i)
  (hc : (x'.ownBlock = x.ownBlock ∧ w.grownBy w' x.ownBlock) ∨ (Below w.heap.size w w' ∧ ∀ q, x'.ownBlock = some q → w.heap.size ≤ q)) : P5 w' B bk bv v V nn i (k + 1) x' vG H := by
 have A : ∀ {y : Value} {ys : List Value}, OwnY w B y ys → OwnY w' B y ys := by
  intro y ys hy
  rcases hc with ⟨_, hg⟩ | ⟨hb, _⟩
  ·exact hy.kept hg (hy.noP h.xo)
  ·exact hy.on hb
 refine ⟨?_, A h.row, A h.rowG, h.gne, ho, fun t u ht hi => ?_, fun s u hs => ?_, h.gfar⟩
 ·rcases hc with ⟨_, hg⟩ | ⟨hb, _⟩
  ·exact (hg.block bk (zaf h.box) (fun e => h.xo.noty h.box bk_neC e.symm)).trans h.box
  ·exact (hb.block _ (zaf h.box)).trans h.box
 ·obtain ⟨o1, n1⟩ := h.own t u ht hi
  rcases hc with ⟨e, hg⟩ | ⟨hb, hn⟩
  ·exact ⟨o1.kept hg n1, by rw [e]; exact n1⟩
  ·refine ⟨o1.on hb, ?_⟩
   cases e : u.ownBlock with
   | none => exact .inl rfl
   | some q =>
    right
    intro e2
    have h1 := (o1.lt e).2
    have h2 := hn q e2.symm
    omega
 ·obtain ⟨n, h0, h1⟩ := h.gr s u hs
  exact ⟨n, h0, h1.app ho hc⟩
theorem P5.appG {w w' : World} {B bk : Nat} {bv v : Value} {V : List Value} {nn : Nat → Nat} {i k : Nat} {x vG vG' : Value} {H : List Value} (h : P5 w B bk bv v V nn i k x vG H) (hG : OwnY w' B vG' (H ++ [x])) (hg : Gr w vG w' vG') (hs : H.length / 5 = i) (hl : nn i + k ≤ 900000) : P5 w' B bk bv v V nn i k x vG' (H ++ [x]) := by
 have E : ∀ {y : Value} {n k j : Nat}, OwnP w B y n k j → OwnP w' B y n k j := by
  intro y n k j hy
  refine hy.kept hg.grow ?_
  rcases h.rowG.noP hy with e | e
  ·rw [e]
   cases e2 : y.ownBlock with
   | none => exact .inl rfl
   | some _ => exact .inr zv
  ·exact .inr fun e2 => e e2.symm
 have F := E h.xo
 refine ⟨(hg.grow.block bk (zaf h.box) (fun e => h.rowG.noty h.box bk_neY e.symm)).trans h.box, h.row.kept hg.grow h.gne, hG, ?_, F, fun t u ht hi => ⟨E (h.own t u ht hi).1, (h.own t u ht hi).2⟩, fun s u A => ?_, fun s y C t u ht hi => ?_⟩
 ·rcases h.gne with e | e
  ·exact .inl e
  ·rcases hg.own with e2 | ⟨q, e2, hq⟩
   ·rw [e2]; exact .inr e
   ·cases e3 : v.ownBlock with
    | none => exact .inl rfl
    | some z =>
     right
     rw [e2]
     intro e4
     injection e4 with e4
     have hr := h.row
     unfold OwnY at hr
     have := (hr.lt z e3).2
     omega
 ·by_cases e : s < H.length
  ·rw [zL e] at A
   obtain ⟨n, h0, h1⟩ := h.gr s u A
   exact ⟨n, h0, h1.grow h.rowG hg⟩
  ·have D := (zH.1 A).1
   rw [zG] at D
   simp only [List.length_cons, List.length_nil] at D
   obtain rfl : s = H.length := zq
   rw [List.getElem?_concat_length] at A
   cases A
   obtain ⟨ao, c, rfl, _⟩ := F.shape
   refine ⟨nn i + k, hl, ⟨ao, c, rfl, ?_⟩, .inr (.inr ⟨hs, Lr⟩)⟩
   rw [hs]
   exact F.slm
 ·by_cases e : s < H.length
  ·rw [zL e] at C
   exact h.gfar s y C t u ht hi
  ·have D := (zH.1 C).1
   rw [zG] at D
   simp only [List.length_cons, List.length_nil] at D
   obtain rfl : s = H.length := zq
   rw [List.getElem?_concat_length] at C
   cases C
   rcases (h.own t u ht hi).2 with e2 | e2
   ·rw [e2]
    cases e3 : x.ownBlock with
    | none => exact .inl rfl
    | some _ => exact .inr zv
   ·exact .inr fun e3 => e2 e3.symm
structure Q5 (w : World) (B bk : Nat) (bv v : Value) (V : List Value) (nn : Nat → Nat) (i : Nat) (vG : Value) (H : List Value) : Prop where
 box : w.heap[bk]? = some (.cells #[bv, v] 42 (0, 0))
 row : OwnY w B v V
 rowG : OwnY w B vG H
 gne : v.ownBlock = none ∨ v.ownBlock ≠ vG.ownBlock
 own : ∀ (t : Nat) (u : Value), V[t]? = some u → i ≤ t → OwnP w B u (nn t) (nn t) t
 ne : ∀ (t t' : Nat) (u u' : Value), V[t]? = some u → V[t']? = some u' → t ≠ t' → u.ownBlock = none ∨ u.ownBlock ≠ u'.ownBlock
 gr : ∀ (s : Nat) (u : Value), H[s]? = some u → ∃ n, n ≤ 900000 ∧ ∃ ao c, u = .slice ao n c ∧ SlM w ao n (s / 5)
 gfar : ∀ (s : Nat) (y : Value), H[s]? = some y → ∀ (t : Nat) (u : Value), V[t]? = some u → i ≤ t → y.ownBlock = none ∨ y.ownBlock ≠ u.ownBlock
theorem Q5.into {w : World} {B bk : Nat} {bv v : Value} {V : List Value} {nn : Nat → Nat} {i : Nat} {vG : Value} {H : List Value} (h : Q5 w B bk bv v V nn i vG H) {x : Value} (hx : V[i]? = some x) : P5 w B bk bv v V nn i 0 x vG H := by
 have A := h.own i x hx Lr
 refine ⟨h.box, h.row, h.rowG, h.gne, A, fun t u ht hi => ⟨h.own t u ht zq, h.ne t i u x ht hx zq⟩, fun s u hs => ?_, fun s y hs t u ht hi => h.gfar s y hs t u ht zq⟩
 obtain ⟨n, h0, ao, c, rfl, h1⟩ := h.gr s u hs
 refine ⟨n, h0, ⟨ao, c, rfl, h1⟩, ?_⟩
 rcases h1 with h1 | ⟨g, rfl, _⟩
 ·exact .inl h1
 ·rcases h.gfar s _ hs i x hx Lr with e | e
  ·cases e
  ·exact .inr (.inl e)
theorem P5.out {w : World} {B bk : Nat} {bv v : Value} {V : List Value} {nn : Nat → Nat} {i k : Nat} {x vG : Value} {H : List Value} (h : P5 w B bk bv v V nn i k x vG H) (A : ∀ (t t' : Nat) (u u' : Value), V[t]? = some u → V[t']? = some u' → t ≠ t' → u.ownBlock = none ∨ u.ownBlock ≠ u'.ownBlock) : Q5 w B bk bv v V nn (i + 1) vG H :=
 ⟨h.box, h.row, h.rowG, h.gne, fun t u ht hi => (h.own t u ht zq).1, A, fun s u hs => by
  obtain ⟨n, h0, h1, _⟩ := h.gr s u hs
  exact ⟨n, h0, h1⟩, fun s y hs t u ht hi => h.gfar s y hs t u ht zq⟩
theorem Bl.start {w : World} {B bk : Nat} {bv v : Value} {V : List Value} {nn : Nat → Nat} (h : Bl w B bk bv v V nn nn) : Q5 w B bk bv v V nn 0 (.slice none 0 0) [] := by
 refine ⟨h.box, h.row, OwnY.nil _ _, ?_, fun t u ht _ => h.own t u ht, h.ne, fun s u hs => by simp at hs, fun s y hs => by simp at hs⟩
 cases e : v.ownBlock with
 | none => exact .inl rfl
 | some _ => exact .inr zsv
end Six
end Go.Proofs.YtbkhjeacmmbabaaGreatDoor
namespace Go.Proofs.YtbkhjeacmmbabaaGreatDoor
set_option maxRecDepth 100000
open Go.RowKit
namespace Six
def KT (w w' : World) : Prop := w.heap.size ≤ w'.heap.size ∧ ∀ (k : Nat) (cs : Array Value) (t : TypeId) (fz : Nat × Nat), w.heap[k]? = some (.cells cs t fz) → t ≠ 42 → t ≠ 22 → w'.heap[k]? = w.heap[k]?
theorem KT.trans {a b c : World} (h : KT a b) (k : KT b c) : KT a c := ⟨zN h.1 k.1, fun z cs t fz h1 h2 h3 => by
 have e := h.2 z cs t fz h1 h2 h3
 exact (k.2 z cs t fz (e.trans h1) h2 h3).trans e⟩
theorem KT.of_below {a b : World} (h : Below a.heap.size a b) : KT a b := ⟨h.size, fun z _ _ _ h1 _ _ => h.block z (zaf h1)⟩
theorem u8_ne6 : 5 ≠ 42 := by decide
theorem c_ne6 : 50 ≠ 42 := by decide
theorem c_neX : 50 ≠ 22 := by decide
theorem y_ne6 : 29 ≠ 42 := by decide
theorem y_neX : 29 ≠ 22 := by decide
theorem row_kt {w w' : World} {C s n : Nat} {e : TypeId} {u : Value} {xs : List Value} (h : w.ownsRow C e s u n xs) (hk : KT w w') (h1 : e ≠ 42) (h2 : e ≠ 22) : w'.ownsRow C e s u n xs := by
 refine ⟨h.1, ?_⟩
 rcases h.2 with h0 | ⟨g, cap, cur, e1, hg, hh, rest⟩
 ·exact .inl h0
 ·exact .inr ⟨g, cap, cur, e1, hg, (hk.2 g _ _ _ hh h1 h2).trans hh, rest⟩
theorem OwnB.kt {w w' : World} {C : Nat} {u : Value} {l : List Int} (h : OwnB w C u l) (hk : KT w w') : OwnB w' C u l := row_kt h hk u8_ne6 u8_neX
theorem take9K (w : World) (B bk : Nat) (lv : Value) (v : Value) (V : List Value) (D : Nat → List Int) (ao : Option Addr) (n c : Nat) (l : List Int) (h : Bo9 w B bk lv v V D) (hn : V.length ≤ 4000000) (hB : B ≤ w.heap.size) (A : B ≤ bk) (ho : OwnB w B (.slice ao n c) l) (hw : Wf l) (hl : l.length ≤ 65536)
  (C : ∀ (t : Nat) (u : Value), V[t]? = some u → u.ownBlock = none ∨ u.ownBlock ≠ (Value.slice ao n c).ownBlock) :
  Calls Tryz.prog 60 #[.pointer (some ⟨bk, 0, none⟩), .slice ao n c] w fun e w' => e = .returned (.tuple #[]) ∧ ∃ v' D', Hid (Bo9 w' B bk lv v' (V ++ [.slice ao n c]) D') ∧ Hid (Cf (B ≤ ·) w w') ∧ Hid (KT w w') := by
 refine (take9 w B bk lv v V D ao n c l h hn hB ho hw hl C).mono ?_
 rintro e w' ⟨rfl, hq⟩
 obtain ⟨v', hb, hc⟩ := hq.out
 refine ⟨rfl, v', _, zaa hb, zaa (hc.wide ?_), zaa ⟨hc.size, fun k cs t fz h1 h2 h3 => hc.block k (zaf h1) ?_⟩⟩
 ·rintro k (rfl | hk)
  ·exact A
  ·exact (ownX_in h.row hk).1
 ·rintro (rfl | hk)
  ·rw [h.box] at h1
   injection h1 with h1
   injection h1 with _ h4 _
   exact h2 h4.symm
  ·exact h.row.noty h1 h3 hk
set_option maxHeartbeats 1000000 in
theorem take6 (w : World) (B bk : Nat) (lv : Value) (v : Value) (V : List Value) (D : Nat → List Int) (ka va : Option Addr) (kn kc vn vc : Nat) (kd pg ct : Int) (key val : List Int) (h : Bo9 w B bk lv v V D) (hn : V.length + 1 ≤ 4000000) (hB : B ≤ w.heap.size) (I : B ≤ bk)
  (ho : OwnB w B (.slice ka kn kc) key) (hw : Wf key) (hl : key.length ≤ 65536) (J : OwnB w B (.slice va vn vc) val) (K : Wf val) (L : val.length ≤ 65536)
  (M : ∀ (t : Nat) (u : Value), V[t]? = some u → u.ownBlock = none ∨ u.ownBlock ≠ (Value.slice ka kn kc).ownBlock) (G : ∀ (t : Nat) (u : Value), (V ++ [Value.slice ka kn kc])[t]? = some u → u.ownBlock = none ∨ u.ownBlock ≠ (Value.slice va vn vc).ownBlock) :
  Calls Tryz.prog 24 #[.pointer (some ⟨bk, 0, none⟩), .agg #[.slice ka kn kc, .int .i64 kd, .slice va vn vc, .int .i64 pg, .int .i64 ct]] w fun e w' => e = .returned (.tuple #[]) ∧ ∃ v' D', Hid (Bo9 w' B bk lv v' (V ++ [.slice ka kn kc] ++ [.slice va vn vc]) D') ∧ Hid (Cf (B ≤ ·) w w') ∧ Hid (KT w w') := by
 obtain ⟨s, hs⟩ : ∃ s, w.heap.size = s := ⟨_, rfl⟩
 obtain ⟨x, hx⟩ : ∃ x, w.alloc (.cells #[.slice ka kn kc, .int .i64 kd, .slice va vn vc, .int .i64 pg, .int .i64 ct] 50) = x := ⟨_, rfl⟩
 have A : Below w.heap.size w x := by rw [← hx]; exact zab Br Lr _
 have C : Hid (C5 x s (.slice ka kn kc) (.int .i64 kd) (.slice va vn vc) (.int .i64 pg) (.int .i64 ct)) := by
  rw [← hx, ← hs]
  exact zaa (heap_alloc_last w _)
 have N := zaa A
 have Q := zaa G
 have O := zaa (And.intro K L)
 have T : B ≤ x.heap.size := zN hB A.size
 have R := zaa T
 have U : Hid (OwnB x B (.slice va vn vc) val) := zaa (J.on Lr A)
 have C1 : Hid (∀ u, Below x.heap.size x u → Calls Tryz.prog 60 #[.pointer (some ⟨bk, 0, none⟩), .slice ka kn kc] u fun e w' => e = .returned (.tuple #[]) ∧ ∃ v' D', Hid (Bo9 w' B bk lv v' (V ++ [.slice ka kn kc]) D') ∧ Hid (Cf (B ≤ ·) x w') ∧ Hid (KT x w')) := zaa (by
  intro u hu
  have E := zae A Lr hu
  refine (take9K u B bk lv v V D ka kn kc key (h.on E) zq (zN hB E.size) I (ho.on Lr E) hw hl M).mono ?_
  rintro e w' ⟨rfl, v', D', g1, g2, g3⟩
  exact ⟨rfl, v', D', g1, zaa ((Cf.of_below hu).go g2.out), zaa ((KT.of_below hu).trans g3.out)⟩)
 obtain ⟨c0, c1, c2, c3, c4⟩ := C.out.cells
 have W : Hid ((V ++ [Value.slice ka kn kc]).length ≤ 4000000) := zaa (by rw [zG]; exact hn)
 clear h ho hw hl J K L M G A hn
 go_enter Tryz.func24, Tryz.ntmps24
 go_wp2_with fail
 clear hx hs
 go_region_with (first | (go_at_call 60; refine (C1.out _ zW1).mono ?_; rintro e w1 ⟨rfl, v1, D1', X, P, F⟩))
 all_goals
  have H : Hid (C5 w1 s (.slice ka kn kc) (.int .i64 kd) (.slice va vn vc) (.int .i64 pg) (.int .i64 ct)) := zaa ((F.out.2 s _ _ _ C.out c_ne6 c_neX).trans C.out)
  have Y : Hid (OwnB w1 B (.slice va vn vc) val) := zaa (OwnB.kt U.out F.out)
  have C2 : Hid (∀ u, Below w1.heap.size w1 u → Calls Tryz.prog 60 #[.pointer (some ⟨bk, 0, none⟩), .slice va vn vc] u fun e w' => e = .returned (.tuple #[]) ∧ ∃ v' D', Hid (Bo9 w' B bk lv v' (V ++ [.slice ka kn kc] ++ [.slice va vn vc]) D') ∧ Hid (Cf (B ≤ ·) w w') ∧ Hid (KT w w')) := zaa (by
   intro u hu
   refine (take9K u B bk lv _ _ _ va vn vc val (X.out.on hu) W.out (zN (zN R.out P.out.size) hu.size) I (Y.out.on Lr hu) O.out.1 O.out.2 Q.out).mono ?_
   rintro e w' ⟨rfl, v', D', g1, g2, g3⟩
   exact ⟨rfl, v', D', g1, zaa (((Cf.of_below N.out).go P.out).go ((Cf.of_below hu).go g2.out)), zaa (((KT.of_below N.out).trans F.out).trans ((KT.of_below hu).trans g3.out))⟩)
  clear c0 c1 c2 c3 c4
  obtain ⟨c0, c1, c2, c3, c4⟩ := H.out.cells
  go_wp2_with fail
  go_region_with (first | (go_at_call 60; refine (C2.out _ zW1).mono ?_; rintro e w2 ⟨rfl, v2, D2', Z, A0, A1⟩))
  all_goals
   go_wp2
   go_end0
   exact ⟨rfl, v2, D2', Z, A0, A1⟩
end Six
end Go.Proofs.YtbkhjeacmmbabaaGreatDoor
namespace Go.Proofs.YtbkhjeacmmbabaaGreatDoor
set_option maxRecDepth 100000
open Go.RowKit
namespace Six
def K3 (w w' : World) : Prop := w.heap.size ≤ w'.heap.size ∧ ∀ (k : Nat) (cs : Array Value) (t : TypeId) (fz : Nat × Nat), w.heap[k]? = some (.cells cs t fz) → t ≠ 42 → t ≠ 22 → t ≠ 29 → w'.heap[k]? = w.heap[k]?
theorem K3.trans {a b c : World} (h : K3 a b) (k : K3 b c) : K3 a c := ⟨zN h.1 k.1, fun z cs t fz h1 h2 h3 h4 => by
 have e := h.2 z cs t fz h1 h2 h3 h4
 exact (k.2 z cs t fz (e.trans h1) h2 h3 h4).trans e⟩
theorem KT.k3 {a b : World} (h : KT a b) : K3 a b := ⟨h.1, fun z cs t fz h1 h2 h3 _ => h.2 z cs t fz h1 h2 h3⟩
theorem K3.of_below {a b : World} (h : Below a.heap.size a b) : K3 a b := (KT.of_below h).k3
theorem u8_neY : 5 ≠ 29 := by decide
theorem row_k3 {w w' : World} {C s n : Nat} {e : TypeId} {u : Value} {xs : List Value} (h : w.ownsRow C e s u n xs) (hk : K3 w w') (h1 : e ≠ 42) (h2 : e ≠ 22) (h3 : e ≠ 29) : w'.ownsRow C e s u n xs := by
 refine ⟨h.1, ?_⟩
 rcases h.2 with h0 | ⟨g, cap, cur, e1, hg, hh, rest⟩
 ·exact .inl h0
 ·exact .inr ⟨g, cap, cur, e1, hg, (hk.2 g _ _ _ hh h1 h2 h3).trans hh, rest⟩
theorem Bk.own {w : World} {B g n : Nat} {l : List Int} (h : Bk w g l) (hg : B ≤ g) (hl : l.length = n) (hn : n ≤ 140737488355328) : OwnB w B (.slice (some ⟨g, 0, none⟩) n n) l := by
 subst hl
 refine ⟨by simp [By], .inr ⟨g, l.length, _, rfl, hg, h, Lr, by unfold maxLen; omega, by simp [By], ?_⟩⟩
 simp only [By, Nat.mul_one]
 rw [List.take_of_length_le zv]
def VB (V : List Value) (U : Nat) : Prop := ∀ (t : Nat) (u : Value), V[t]? = some u → ∀ z, u.ownBlock = some z → z < U
theorem VB.up {V : List Value} {U U' : Nat} (h : VB V U) (hu : U ≤ U') : VB V U' := fun t u ht z hz => zO (h t u ht z hz) hu
theorem VB.snoc {V : List Value} {U : Nat} {u : Value} (h : VB V U) (hu : ∀ z, u.ownBlock = some z → z < U) : VB (V ++ [u]) U := by
 intro t x ht
 by_cases e : t < V.length
 ·rw [zL e] at ht
  exact h t x ht
 ·have A := (zH.1 ht).1
  rw [zG] at A
  simp only [List.length_cons, List.length_nil] at A
  obtain rfl : t = V.length := zq
  rw [List.getElem?_concat_length] at ht
  cases ht
  exact hu
theorem Bo9.lists {w w1 : World} {B bk : Nat} {lv lv2 v : Value} {V LV Y : List Value} {D : Nat → List Int} (h : Bo9 w B bk lv v V D) (hY : OwnY w B lv LV) (hg : Gr w lv w1 lv2) (G : OwnY w1 B lv2 Y) (I : B ≤ bk) :
  Bo9 (w1.setCell ⟨bk, 1, none⟩ lv2) B bk lv2 v V D ∧ OwnY (w1.setCell ⟨bk, 1, none⟩ lv2) B lv2 Y ∧ K3 w (w1.setCell ⟨bk, 1, none⟩ lv2) ∧ Cf (B ≤ ·) w (w1.setCell ⟨bk, 1, none⟩ lv2) := by
 have A : Cf (· = bk) w1 (w1.setCell ⟨bk, 1, none⟩ lv2) := Cf.setCell (F := (· = bk)) w1 (p := ⟨bk, 1, none⟩) rfl _
 have E : w1.heap[bk]? = some (.cells #[v, lv] 42 (0, 0)) := (hg.grow.block bk (zaf h.box) (fun e => hY.noty h.box bk_neY e.symm)).trans h.box
 have H : w1.grownBy (w1.setCell ⟨bk, 1, none⟩ lv2) (some bk) := ⟨A.os, A.tape, A.output, A.size, fun q hq J => A.block q hq (fun e => J (by rw [e]))⟩
 have keep : ∀ (k : Nat) (cs : Array Value) (t : TypeId) (fz : Nat × Nat), w.heap[k]? = some (.cells cs t fz) → t ≠ 42 → t ≠ 29 → (w1.setCell ⟨bk, 1, none⟩ lv2).heap[k]? = w.heap[k]? := by
  intro k cs t fz hk h1 h2
  have e1 : w1.heap[k]? = w.heap[k]? := hg.grow.block k (zaf hk) (fun e => hY.noty hk h2 e.symm)
  refine (A.block k (zaf (e1.trans hk)) ?_).trans e1
  rintro rfl
  rw [h.box] at hk
  injection hk with hk
  injection hk with _ h4 _
  exact h1 h4.symm
 have rowk : ∀ {C s n : Nat} {e : TypeId} {u : Value} {xs : List Value}, w.ownsRow C e s u n xs → e ≠ 42 → e ≠ 29 → (w1.setCell ⟨bk, 1, none⟩ lv2).ownsRow C e s u n xs := by
  intro C s n e u xs ho h1 h2
  refine ⟨ho.1, ?_⟩
  rcases ho.2 with h0 | ⟨g, cap, cur, e1, hg, hh, rest⟩
  ·exact .inl h0
  ·exact .inr ⟨g, cap, cur, e1, hg, (keep g _ _ _ hh h1 h2).trans hh, rest⟩
 refine ⟨⟨?_, rowk h.row bk6_neX.symm x_neY, fun t u ht => ⟨rowk (h.own t u ht).1 u8_ne6 u8_neY, (h.own t u ht).2⟩, h.ne⟩, G.kept H (.inr (G.noty E bk_neY)), ⟨zN hg.grow.size A.size, fun k cs t fz h1 h2 _ h4 => keep k cs t fz h1 h2 h4⟩, ?_⟩
 ·have := zau (w := w1) (a := bk) (cs := [v, lv]) (i := 1) (u := lv2) E
  simpa using this
 ·refine Cf.go (⟨hg.grow.os, hg.grow.tape, hg.grow.output, hg.grow.size, fun z hz hf => hg.grow.block z hz (fun e => hf ?_)⟩) (A.wide fun k hk => by rw [hk]; exact I)
  unfold OwnY at hY
  exact (hY.lt z e.symm).1
end Six
end Go.Proofs.YtbkhjeacmmbabaaGreatDoor
