/- The law's items: rows of items that came out, marked and grown (by port2.py). -/
import Derived.Test.YtpiijmionafmcaaGreatDoorTuT
import Derived.Test.YtpiijmionafmcaaGreatDoorLentI2
import Derived.Test.YtpiijmionafmcaaGreatDoorWeigh
import Derived.Deep.WholeRow
import Derived.Deep.MidRow
import Derived.Deep.QuietTactic
namespace Go.Proofs.YtpiijmionafmcaaGreatDoor
open Go.RowKit
namespace Om
set_option maxRecDepth 100000 in
theorem lt_some {w : World} {g : Nat} {o : Obj} (h : w.heap[g]? = some o) : g < w.heap.size := by
  rcases Nat.lt_or_ge g w.heap.size with h1 | h1
  · exact h1
  · rw [Array.getElem?_eq_none h1] at h; cases h
set_option maxRecDepth 100000 in
theorem c_neY : 36 ≠ 25 := by decide
set_option maxRecDepth 100000 in
theorem infoSl5 : (Tryz.prog.info? 25).map (fun i => (i.zero, i.size, i.bytes)) = some (some (.slice none 0 0), 1, 24) := by kernel_rfl
/-- The slice value v owns the values xs. -/
def OwnY (w : World) (B : Nat) (v : Value) (xs : List Value) : Prop := w.ownsRow B 25 1 v xs.length xs
set_option maxRecDepth 100000 in
theorem OwnY.nil (w : World) (B : Nat) : OwnY w B (.slice none 0 0) [] := World.ownsRow_nil w B 25 1
set_option maxRecDepth 100000 in
/-- A row of values is not a block of another type. -/
theorem OwnY.noty {w : World} {B : Nat} {v : Value} {xs : List Value} (h : OwnY w B v xs) {g : Nat} {c : Array Value} {t : TypeId} {fz : Nat × Nat} (hg : w.heap[g]? = some (.cells c t fz)) (ht : t ≠ 25) : v.ownBlock ≠ some g := by
  intro e
  rcases h.2 with ⟨rfl, _⟩ | ⟨k, cap, cur, rfl, _, hk, _⟩
  · cases e
  · injection e with e
    have e' : k = g := e
    rw [← e', hk] at hg
    injection hg with hg
    injection hg with _ h2 _
    exact ht h2.symm
set_option maxRecDepth 100000 in
theorem OwnY.kept {w w' : World} {B : Nat} {v : Value} {xs : List Value} {row : Option Nat} (h : OwnY w B v xs) (hg : w.grownBy w' row) (hne : v.ownBlock = none ∨ v.ownBlock ≠ row) : OwnY w' B v xs := World.ownsRow.kept h hg hne
set_option maxRecDepth 100000 in
theorem OwnY.on {w w' : World} {B : Nat} {v : Value} {xs : List Value} (h : OwnY w B v xs) (hb : Below w.heap.size w w') : OwnY w' B v xs := h.kept (row := none) ⟨hb.os, hb.tape, hb.output, hb.size, fun k hk _ => hb.block k hk⟩ (by
  cases e : v.ownBlock with
  | none => exact .inl rfl
  | some k => exact .inr (by simp))
set_option maxRecDepth 100000 in
theorem OwnY.cells {w : World} {B : Nat} {v : Value} {xs : List Value} (h : OwnY w B v xs) : ∃ ao cap, v = .slice ao xs.length cap ∧ (xs.length = 0 ∨ ∃ g, ao = some ⟨g, 0, none⟩ ∧ xs.length ≤ cap ∧ ∀ (t : Nat) (u : Value), xs[t]? = some u → w.cell? ⟨g, t, none⟩ = some u) := by
  rcases h.2 with ⟨rfl, h0⟩ | ⟨g, cap, cur, rfl, hg, hh, hnc, hm, hs, ht⟩
  · exact ⟨none, 0, by rw [h0], .inl h0⟩
  · refine ⟨_, cap, rfl, .inr ⟨g, rfl, hnc, fun t u hu => ?_⟩⟩
    have hlt := (List.getElem?_eq_some_iff.1 hu).1
    have := World.ownsRow.cellAt h t (by omega)
    rw [this]
    exact hu
set_option maxRecDepth 100000 in
/-- 'append(got, b)'. -/
theorem app_y {ops : Array Oper} {rest : List Oper} {o : Oper} {a : Act} {Q : Exit → Act → World → Prop} (w : World) (hgd : o.guard = none) (s x : Operand)
    (ho : o.op = .call { callee := .builtin .append, args := #[s, x], argTypes := #[24, 24] }) (B : Nat) (xs : List Value) (v y : Value) (hs : a.eval s = v) (h1 : y.oneCell' = true)
    (hown : OwnY w B v xs) (b : Nat) (hx : a.eval x = .slice (some ⟨b, 0, none⟩) 1 1) (hc : w.cell? ⟨b, 0, none⟩ = some y) (hb : xs.length + 1 ≤ 100000000) (hbase : B ≤ w.heap.size)
    (h : ∀ v' w', OwnY w' B v' (xs ++ [y]) → Gr w v w' v' → wpList Tryz.prog ops Q rest (a.put o.dst v') w') : wpList Tryz.prog ops Q (o :: rest) a w := by
  obtain ⟨i0, hi, hz0, hz1, hz2⟩ := info_parts infoSl5
  refine wpList_append_own_at w hgd s x 24 ho B 25 i0 (.slice none 0 0) 1 24 Tryz.underlying24 hi hz0 hz1 hz2 rfl (by decide) v xs.length xs hs hown ⟨b, 0, none⟩ 1 1 [y] hx rfl
    (fun j u hu => by
      have hj : j = 0 := by
        have := (List.getElem?_eq_some_iff.1 hu).1
        simpa using this
      subst hj
      simp at hu
      subst hu
      simpa [Addr.add_lit] using hc) (fun u hu => by simp at hu; subst hu; exact h1) (by unfold maxLen; omega) (by omega) hbase ?_
  intro v' w' h1 h2 _ h4
  refine h v' w' ?_ ⟨h2, h4.imp id fun e => ⟨_, e, Nat.le_refl _⟩⟩
  unfold OwnY
  rw [List.length_append]
  exact h1

/-- A cell that has a mark. -/
def mkV (j : Nat) : List Value := [.int .i64 (-100 - (j : Int)), .int .i64 0, .string ⟨#[]⟩, .slice none 0 0]
/-- The slice value u owns n cells, of which the first k have the mark j. -/
def OwnP (w : World) (B : Nat) (u : Value) (n k j : Nat) : Prop := ∃ vs, w.ownsRow B 36 4 u n vs ∧ ∀ t, t < k → vs[t * 4]? = some (.int .i64 (-100 - (j : Int)))
set_option maxRecDepth 100000 in
theorem OwnP.kept {w w' : World} {B n k j : Nat} {u : Value} {row : Option Nat} (h : OwnP w B u n k j) (hg : w.grownBy w' row) (hne : u.ownBlock = none ∨ u.ownBlock ≠ row) : OwnP w' B u n k j := by
  obtain ⟨vs, h1, h2⟩ := h
  exact ⟨vs, World.ownsRow.kept h1 hg hne, h2⟩
set_option maxRecDepth 100000 in
theorem OwnP.on {w w' : World} {B n k j : Nat} {u : Value} (h : OwnP w B u n k j) (hb : Below w.heap.size w w') : OwnP w' B u n k j := h.kept (row := none) ⟨hb.os, hb.tape, hb.output, hb.size, fun k hk _ => hb.block k hk⟩ (by
  cases e : u.ownBlock with
  | none => exact .inl rfl
  | some k => exact .inr (by simp))
set_option maxRecDepth 100000 in
theorem OwnP.lt {w : World} {B n k j z : Nat} {u : Value} (h : OwnP w B u n k j) (hz : u.ownBlock = some z) : B ≤ z ∧ z < w.heap.size := by
  obtain ⟨vs, h1, _⟩ := h
  exact h1.lt z hz
set_option maxRecDepth 100000 in
theorem OwnP.ty {w : World} {B n k j z : Nat} {u : Value} (h : OwnP w B u n k j) (hz : u.ownBlock = some z) : ∃ cs fz, w.heap[z]? = some (.cells cs 36 fz) := by
  obtain ⟨vs, h1, _⟩ := h
  rcases h1.2 with ⟨rfl, _⟩ | ⟨g', c, cur, rfl, _, hh, _⟩
  · cases hz
  · injection hz with hg
    have hg' : g' = z := hg
    rw [← hg']
    exact ⟨_, _, hh⟩
set_option maxRecDepth 100000 in
theorem OwnP.noty {w : World} {B n k j g : Nat} {u : Value} (h : OwnP w B u n k j) {c : Array Value} {t : TypeId} {fz : Nat × Nat} (hg : w.heap[g]? = some (.cells c t fz)) (ht : t ≠ 36) : u.ownBlock ≠ some g := by
  intro e
  obtain ⟨cs, f2, e2⟩ := h.ty e
  rw [e2] at hg
  injection hg with hg
  injection hg with _ h2 _
  exact ht h2.symm
set_option maxRecDepth 100000 in
theorem OwnY.noP {w : World} {B C n k j : Nat} {v u : Value} {xs : List Value} (h : OwnY w B v xs) (p : OwnP w C u n k j) : v.ownBlock = none ∨ v.ownBlock ≠ u.ownBlock := by
  cases hu : u.ownBlock with
  | none =>
    cases e : v.ownBlock with
    | none => exact .inl rfl
    | some _ => right; simp
  | some g =>
    obtain ⟨cs, fz, e⟩ := p.ty hu
    exact .inr (h.noty e c_neY)
set_option maxRecDepth 100000 in
theorem OwnP.shape {w : World} {B n k j : Nat} {u : Value} (h : OwnP w B u n k j) : ∃ ao c, u = .slice ao n c ∧ (n = 0 ∨ ∃ g, ao = some ⟨g, 0, none⟩ ∧ B ≤ g ∧ RowB w g c ∧ n ≤ c) := by
  obtain ⟨vs, h1, _⟩ := h
  rcases h1.2 with ⟨rfl, h0⟩ | ⟨g, cap, cur, rfl, hg, hh, hnc, _, hs, _⟩
  · exact ⟨none, 0, by rw [h0], .inl h0⟩
  · exact ⟨_, cap, rfl, .inr ⟨g, rfl, hg, ⟨cur, hh, by omega⟩, hnc⟩⟩
set_option maxRecDepth 100000 in
theorem OwnP.cell {w : World} {B n k j g c : Nat} (h : OwnP w B (.slice (some ⟨g, 0, none⟩) n c) n k j) {t : Nat} (ht : t < k) (hk : k ≤ n) : w.cell? ⟨g, t * 4, none⟩ = some (.int .i64 (-100 - (j : Int))) := by
  obtain ⟨vs, h1, h2⟩ := h
  rw [h1.cellAt (t * 4) (by omega)]
  exact h2 t ht
set_option maxRecDepth 100000 in
theorem grown_trans {w w1 w2 : World} {row : Option Nat} (h : w.grownBy w1 row) (k : w1.grownBy w2 row) : w.grownBy w2 row :=
  ⟨k.os.trans h.os, k.tape.trans h.tape, k.output.trans h.output, Nat.le_trans h.size k.size, fun z hz hne => (k.block z (Nat.lt_of_lt_of_le hz h.size) hne).trans (h.block z hz hne)⟩
set_option maxRecDepth 100000 in
theorem own_sets {B n c g : Nat} {e : TypeId} {s : Nat} : ∀ (us : List Value) (j : Nat) (w : World) (xs : List Value), w.ownsRow B e s (.slice (some ⟨g, 0, none⟩) n c) n xs → ∃ ys, (w.setCells g j us).ownsRow B e s (.slice (some ⟨g, 0, none⟩) n c) n ys ∧ w.grownBy (w.setCells g j us) (some g)
  | [], j, w, xs, h => ⟨xs, h, ⟨rfl, rfl, rfl, Nat.le_refl _, fun _ _ _ => rfl⟩⟩
  | v :: r, j, w, xs, h => by
    obtain ⟨h1, h2⟩ := h.stored j v
    obtain ⟨ys, h3, h4⟩ := own_sets r (j + 1) _ _ h1
    exact ⟨ys, h3, grown_trans h2 h4⟩
set_option maxRecDepth 100000 in
theorem OwnP.put {w : World} {B n k j g c : Nat} (h : OwnP w B (.slice (some ⟨g, 0, none⟩) n c) n k j) (hk : k < n) : OwnP (w.setCells g (k * 4) (mkV j)) B (.slice (some ⟨g, 0, none⟩) n c) n (k + 1) j ∧ w.grownBy (w.setCells g (k * 4) (mkV j)) (some g) := by
  have hh := h
  obtain ⟨vs, h1, h2⟩ := h
  obtain ⟨ys, h3, h4⟩ := own_sets (mkV j) (k * 4) w vs h1
  obtain ⟨ao, c', e, hs⟩ := hh.shape
  rcases hs with hs | ⟨g', e', _, hr, hnc⟩
  · omega
  injection e with e1 _ e3
  rw [e'] at e1
  injection e1 with e1
  injection e1 with e1 _ _
  subst e1
  refine ⟨⟨ys, h3, fun t ht => ?_⟩, h4⟩
  rw [← h3.cellAt (t * 4) (by omega)]
  by_cases e : t = k
  · subst e
    have := World.rangeAt_setCells_same w g (t * 4) (mkV j) (hr.there (by omega))
    exact this 0 _ rfl
  · rw [World.cell?_setCells_out g _ _ w _ (fun _ _ => .inl (by simp only; omega)), h1.cellAt (t * 4) (by omega)]
    exact h2 t (by omega)
set_option maxRecDepth 100000 in
/-- append(l, a cell with the mark j). -/
theorem app_m (w : World) (B : Nat) (ty : TypeId) (v : Value) (n j b : Nat) (hown : OwnP w B v n n j) (hc : ∀ t u, (mkV j)[t]? = some u → w.cell? ⟨b, t, none⟩ = some u) (hn : n + 1 ≤ 1000000) (hB : B ≤ w.heap.size) :
    ∃ v' w', (Builtin.append_ #[25, 25] ty #[v, .slice (some ⟨b, 0, none⟩) 1 1]).run Tryz.prog w = .ok v' w' ∧ OwnP w' B v' (n + 1) (n + 1) j ∧
      ((v'.ownBlock = v.ownBlock ∧ w.grownBy w' v.ownBlock) ∨ (Below w.heap.size w w' ∧ ∀ k, v'.ownBlock = some k → w.heap.size ≤ k)) := by
  obtain ⟨i0, hi, hz0, hz1, hz2⟩ := info_parts infoItem
  obtain ⟨vs, h1, h2⟩ := hown
  have hl5 : (mkV j).length = 1 * 4 := rfl
  have hnews : ∀ t u, (mkV j)[t]? = some u → w.cell? ((⟨b, 0, none⟩ : Addr).add t) = some u := fun t u hu => by
    rw [Addr.add_lit, Nat.zero_add]
    exact hc t u hu
  have hone : ∀ u ∈ mkV j, u.oneCell' = true := by
    intro u hu
    simp only [mkV, List.mem_cons, List.not_mem_nil, or_false] at hu
    rcases hu with rfl | rfl | rfl | rfl <;> rfl
  obtain ⟨v', w', hr, g2, g3, g4⟩ := run_append_own (P := Tryz.prog) w B 25 ty 36 i0 _ 4 56 Tryz.underlying25 hi hz0 hz1 hz2 rfl (by decide) v n vs h1 ⟨b, 0, none⟩ 1 1 (mkV j) hl5 hnews hone (by unfold maxLen; omega) (by omega) hB
  refine ⟨v', w', hr, ⟨_, g2, fun t ht => ?_⟩, ?_⟩
  · have hvl := h1.1
    by_cases e : t < n
    · rw [List.getElem?_append_left (by omega)]
      exact h2 t e
    · obtain rfl : t = n := by omega
      rw [List.getElem?_append_right (by omega), hvl, show t * 4 - t * 4 = 0 by omega]
      rfl
  · rcases h1.2 with ⟨rfl, h0⟩ | ⟨g, cap, cur, rfl, hbg, hg, hnc, hcm, hcs, htake⟩
    · have hr' := run_append_nil (P := Tryz.prog) w 25 ty 36 i0 _ Tryz.underlying25 hi hz0 ⟨b, 0, none⟩ 1 1 (mkV j) (by rw [hz1]; rfl) hnews (by omega) (by omega) (by rw [hz2]; omega)
      rw [hr] at hr'
      injection hr' with e1 e2
      refine .inr ⟨by rw [e2]; exact (Below.refl _ _).drew.alloc (Nat.le_refl _) _, fun k hk => ?_⟩
      rw [e1] at hk
      injection hk with hk
      have : w.heap.size = k := hk
      omega
    · by_cases hroom : n + 1 ≤ cap
      · have hr' := run_append_room (P := Tryz.prog) w 25 ty 36 i0 Tryz.underlying25 hi g n cap cur hg ⟨b, 0, none⟩ 1 1 (mkV j) (by rw [hz1]; rfl) hnews hone hroom (by rw [hz1, hl5]; omega)
        rw [hr] at hr'
        injection hr' with e1 e2
        exact .inl ⟨by rw [e1]; rfl, g3⟩
      · have holds : ∀ t u, vs[t]? = some u → w.cell? ((⟨g, 0, none⟩ : Addr).add t) = some u := World.ownsRow.cells h1 (g := g) rfl
        have hr' := run_append_grow (P := Tryz.prog) w 25 ty 36 i0 _ Tryz.underlying25 hi hz0 ⟨g, 0, none⟩ n cap vs (by rw [hz1]; exact h1.1) holds ⟨b, 0, none⟩ 1 1 (mkV j) (by rw [hz1]; rfl) hnews (by omega) (by omega) (by rw [hz2]; exact growslice_fits (by omega) (by omega))
        rw [hr] at hr'
        injection hr' with e1 e2
        refine .inr ⟨by rw [e2]; exact (Below.refl _ _).drew.alloc (Nat.le_refl _) _, fun k hk => ?_⟩
        rw [e1] at hk
        injection hk with hk
        have : w.heap.size = k := hk
        omega
/-- A slice of cells with the mark j. -/
def SlM (w : World) (ao : Option Addr) (n j : Nat) : Prop := n = 0 ∨ ∃ g, ao = some ⟨g, 0, none⟩ ∧ (∃ cs fz, w.heap[g]? = some (.cells cs 36 fz)) ∧ ∀ t, t < n → w.cell? ⟨g, t * 4, none⟩ = some (.int .i64 (-100 - (j : Int)))
set_option maxRecDepth 100000 in
theorem SlM.keep {w w' : World} {ao : Option Addr} {n j : Nat} (h : SlM w ao n j) (hk : ∀ p cs fz, ao = some p → w.heap[p.block]? = some (.cells cs 36 fz) → w'.heap[p.block]? = w.heap[p.block]?) : SlM w' ao n j := by
  rcases h with h | ⟨g, rfl, ⟨cs, fz, h1⟩, h2⟩
  · exact .inl h
  · have e := hk _ cs fz rfl h1
    exact .inr ⟨g, rfl, ⟨cs, fz, e.trans h1⟩, fun t ht => (World.cell?_of_block (a := ⟨g, t * 4, none⟩) e).trans (h2 t ht)⟩
set_option maxRecDepth 100000 in
theorem SlM.on {w w' : World} {ao : Option Addr} {n j : Nat} (h : SlM w ao n j) (hb : Below w.heap.size w w') : SlM w' ao n j := h.keep fun _ _ _ _ h1 => hb.block _ (lt_some h1)
set_option maxRecDepth 100000 in
theorem OwnP.slm {w : World} {B n j : Nat} {ao : Option Addr} {c : Nat} (h : OwnP w B (.slice ao n c) n n j) : SlM w ao n j := by
  have hh := h
  obtain ⟨ao', c', e, hs⟩ := hh.shape
  rcases hs with hs | ⟨g, e', _, hr, hnc⟩
  · exact .inl hs
  · injection e with e1 _ _
    rw [e'] at e1
    subst e1
    exact .inr ⟨g, rfl, h.ty rfl, fun t ht => h.cell ht (Nat.le_refl _)⟩
/-- Such a slice, while x is grown. -/
def Ps5 (w : World) (x : Value) (i L : Nat) (u : Value) (n j : Nat) : Prop := (∃ ao c, u = .slice ao n c ∧ SlM w ao n j) ∧ (n = 0 ∨ u.ownBlock ≠ x.ownBlock ∨ (j = i ∧ n ≤ L))
set_option maxRecDepth 100000 in
theorem Ps5.on {w w' : World} {x : Value} {i L : Nat} {u : Value} {n j : Nat} (h : Ps5 w x i L u n j) (hb : Below w.heap.size w w') : Ps5 w' x i L u n j := by
  obtain ⟨⟨ao, c, e, h1⟩, h2⟩ := h
  exact ⟨⟨ao, c, e, h1.on hb⟩, h2⟩
set_option maxRecDepth 100000 in
theorem Ps5.grow {w w' : World} {B : Nat} {vG vG' : Value} {H : List Value} {x : Value} {i L : Nat} {u : Value} {n j : Nat} (h : Ps5 w x i L u n j) (hG : OwnY w B vG H) (hg : Gr w vG w' vG') : Ps5 w' x i L u n j := by
  obtain ⟨⟨ao, c, e, h1⟩, h2⟩ := h
  exact ⟨⟨ao, c, e, h1.keep fun p cs fz _ hp => hg.grow.block _ (lt_some hp) (fun e4 => hG.noty hp c_neY e4.symm)⟩, h2⟩
set_option maxRecDepth 100000 in
theorem Ps5.app {w w' : World} {B : Nat} {x x' : Value} {i L : Nat} {u : Value} {n j : Nat} (h : Ps5 w x i L u n j) (ho : OwnP w' B x' (L + 1) (L + 1) i)
    (hc : (x'.ownBlock = x.ownBlock ∧ w.grownBy w' x.ownBlock) ∨ (Below w.heap.size w w' ∧ ∀ k, x'.ownBlock = some k → w.heap.size ≤ k)) : Ps5 w' x' i (L + 1) u n j := by
  obtain ⟨⟨ao, c, rfl, h1⟩, h2⟩ := h
  rcases hc with ⟨e, hg⟩ | ⟨hb, hn⟩
  · by_cases hx : (Value.slice ao n c).ownBlock = x.ownBlock
    · by_cases h0 : n = 0
      · exact ⟨⟨ao, c, rfl, .inl h0⟩, .inl h0⟩
      · obtain ⟨rfl, hl⟩ : j = i ∧ n ≤ L := by
          rcases h2 with h2 | h2 | h2
          · omega
          · exact absurd hx h2
          · exact h2
        refine ⟨⟨ao, c, rfl, ?_⟩, .inr (.inr ⟨rfl, by omega⟩)⟩
        rcases h1 with h1 | ⟨g, rfl, _, _⟩
        · omega
        · have hxg : x'.ownBlock = some g := by rw [e, ← hx]; rfl
          obtain ⟨ao', c', e', hs⟩ := ho.shape
          rcases hs with hs | ⟨g', e'', _, hr, hnc⟩
          · omega
          · subst e'
            subst e''
            injection hxg with hxg
            have hxg' : g' = g := hxg
            subst hxg'
            exact .inr ⟨g', rfl, ho.ty rfl, fun t ht => ho.cell (by omega) (Nat.le_refl _)⟩
    · refine ⟨⟨ao, c, rfl, h1.keep fun p cs fz hp hh => hg.block _ (lt_some hh) (fun e4 => hx ?_)⟩, .inr (.inl (by rw [e]; exact hx))⟩
      rw [hp, ← e4]
      rfl
  · refine ⟨⟨ao, c, rfl, h1.on hb⟩, ?_⟩
    rcases h1 with h1 | ⟨g, rfl, ⟨cs, fz, h3⟩, _⟩
    · exact .inl h1
    · refine .inr (.inl fun e => ?_)
      have h4 := hn g (by rw [← e]; rfl)
      have h5 := lt_some h3
      omega
end Om
end Go.Proofs.YtpiijmionafmcaaGreatDoor

/- The law's items: what stands while it runs. -/

namespace Go.Proofs.YtpiijmionafmcaaGreatDoor
open Go.RowKit
namespace Om

/-- THE LISTS OF A BOOK: list t has nn t cells, the first K t of them marked. -/
structure Bl (w : World) (B : Nat) (v : Value) (V : List Value) (nn K : Nat → Nat) : Prop where
  row : OwnY w B v V
  own : ∀ (t : Nat) (u : Value), V[t]? = some u → OwnP w B u (nn t) (K t) t
  ne : ∀ (t t' : Nat) (u u' : Value), V[t]? = some u → V[t']? = some u' → t ≠ t' → u.ownBlock = none ∨ u.ownBlock ≠ u'.ownBlock
set_option maxRecDepth 100000 in
theorem Bl.cong {w : World} {B : Nat} {v : Value} {V : List Value} {nn K L : Nat → Nat} (h : Bl w B v V nn K) (he : ∀ t, t < V.length → K t = L t) : Bl w B v V nn L :=
  ⟨h.row, fun t u ht => by rw [← he t (List.getElem?_eq_some_iff.1 ht).1]; exact h.own t u ht, h.ne⟩
set_option maxRecDepth 100000 in
theorem Bl.set {w : World} {B : Nat} {v : Value} {V : List Value} {nn K : Nat → Nat} (h : Bl w B v V nn K) {i g n c k : Nat} (hi : V[i]? = some (.slice (some ⟨g, 0, none⟩) n c)) (hn : nn i = n) (hK : K i = k) (hk : k < n) :
    Bl (w.setCells g (k * 4) (mkV i)) B v V nn (fun t => if t = i then k + 1 else K t) ∧ w.grownBy (w.setCells g (k * 4) (mkV i)) (some g) := by
  have ho := h.own i _ hi
  rw [hn, hK] at ho
  obtain ⟨ho2, hg⟩ := ho.put hk
  have hgu : (Value.slice (some ⟨g, 0, none⟩) n c).ownBlock = some g := rfl
  refine ⟨⟨h.row.kept hg ?_, fun t u ht => ?_, h.ne⟩, hg⟩
  · have := h.row.noP ho
    rwa [hgu] at this
  · by_cases e : t = i
    · subst e
      rw [hi] at ht
      cases ht
      simp only [if_true]
      rw [hn]
      exact ho2
    · simp only [if_neg e]
      have h3 := h.ne t i u _ ht hi e
      rw [hgu] at h3
      exact (h.own t u ht).kept hg h3
/-- Where the second pair of loops stands. -/
structure P5 (w : World) (B : Nat) (v : Value) (V : List Value) (nn : Nat → Nat) (i k : Nat) (x vG : Value) (H : List Value) : Prop where
  row : OwnY w B v V
  rowG : OwnY w B vG H
  gne : v.ownBlock = none ∨ v.ownBlock ≠ vG.ownBlock
  xo : OwnP w B x (nn i + k) (nn i + k) i
  own : ∀ (t : Nat) (u : Value), V[t]? = some u → i < t → OwnP w B u (nn t) (nn t) t ∧ (u.ownBlock = none ∨ u.ownBlock ≠ x.ownBlock)
  gr : ∀ (s : Nat) (u : Value), H[s]? = some u → ∃ n, n ≤ 200000 ∧ Ps5 w x i (nn i + k) u n (s / 8)
  gfar : ∀ (s : Nat) (y : Value), H[s]? = some y → ∀ (t : Nat) (u : Value), V[t]? = some u → i < t → y.ownBlock = none ∨ y.ownBlock ≠ u.ownBlock
set_option maxRecDepth 100000 in
theorem P5.on {w w' : World} {B : Nat} {v : Value} {V : List Value} {nn : Nat → Nat} {i k : Nat} {x vG : Value} {H : List Value} (h : P5 w B v V nn i k x vG H) (hb : Below w.heap.size w w') : P5 w' B v V nn i k x vG H :=
  ⟨h.row.on hb, h.rowG.on hb, h.gne, h.xo.on hb, fun t u ht hi => ⟨(h.own t u ht hi).1.on hb, (h.own t u ht hi).2⟩, fun s u hs => by
    obtain ⟨n, h0, h1⟩ := h.gr s u hs
    exact ⟨n, h0, h1.on hb⟩, h.gfar⟩
set_option maxRecDepth 100000 in
theorem P5.appX {w w' : World} {B : Nat} {v : Value} {V : List Value} {nn : Nat → Nat} {i k : Nat} {x x' vG : Value} {H : List Value} (h : P5 w B v V nn i k x vG H) (ho : OwnP w' B x' (nn i + k + 1) (nn i + k + 1) i)
    (hc : (x'.ownBlock = x.ownBlock ∧ w.grownBy w' x.ownBlock) ∨ (Below w.heap.size w w' ∧ ∀ q, x'.ownBlock = some q → w.heap.size ≤ q)) : P5 w' B v V nn i (k + 1) x' vG H := by
  have hXx : ∀ {y : Value} {ys : List Value}, OwnY w B y ys → OwnY w' B y ys := by
    intro y ys hy
    rcases hc with ⟨_, hg⟩ | ⟨hb, _⟩
    · exact hy.kept hg (hy.noP h.xo)
    · exact hy.on hb
  refine ⟨hXx h.row, hXx h.rowG, h.gne, ho, fun t u ht hi => ?_, fun s u hs => ?_, h.gfar⟩
  · obtain ⟨o1, n1⟩ := h.own t u ht hi
    rcases hc with ⟨e, hg⟩ | ⟨hb, hn⟩
    · exact ⟨o1.kept hg n1, by rw [e]; exact n1⟩
    · refine ⟨o1.on hb, ?_⟩
      cases e : u.ownBlock with
      | none => exact .inl rfl
      | some q =>
        right
        intro e2
        have h1 := (o1.lt e).2
        have h2 := hn q e2.symm
        omega
  · obtain ⟨n, h0, h1⟩ := h.gr s u hs
    exact ⟨n, h0, h1.app ho hc⟩
set_option maxRecDepth 100000 in
theorem P5.appG {w w' : World} {B : Nat} {v : Value} {V : List Value} {nn : Nat → Nat} {i k : Nat} {x vG vG' : Value} {H : List Value} (h : P5 w B v V nn i k x vG H) (hG : OwnY w' B vG' (H ++ [x])) (hg : Gr w vG w' vG') (hs : H.length / 8 = i) (hl : nn i + k ≤ 200000) : P5 w' B v V nn i k x vG' (H ++ [x]) := by
  have hkeep : ∀ {y : Value} {n k j : Nat}, OwnP w B y n k j → OwnP w' B y n k j := by
    intro y n k j hy
    refine hy.kept hg.grow ?_
    rcases h.rowG.noP hy with e | e
    · rw [e]
      cases e2 : y.ownBlock with
      | none => exact .inl rfl
      | some _ => exact .inr (by simp)
    · exact .inr fun e2 => e e2.symm
  have hxo := hkeep h.xo
  refine ⟨h.row.kept hg.grow h.gne, hG, ?_, hxo, fun t u ht hi => ⟨hkeep (h.own t u ht hi).1, (h.own t u ht hi).2⟩, fun s u hsu => ?_, fun s y hsy t u ht hi => ?_⟩
  · rcases h.gne with e | e
    · exact .inl e
    · rcases hg.own with e2 | ⟨q, e2, hq⟩
      · rw [e2]; exact .inr e
      · cases e3 : v.ownBlock with
        | none => exact .inl rfl
        | some z =>
          right
          rw [e2]
          intro e4
          injection e4 with e4
          have hr := h.row
          unfold OwnY at hr
          have := (hr.lt z e3).2
          omega
  · by_cases e : s < H.length
    · rw [List.getElem?_append_left e] at hsu
      obtain ⟨n, h0, h1⟩ := h.gr s u hsu
      exact ⟨n, h0, h1.grow h.rowG hg⟩
    · have hlt := (List.getElem?_eq_some_iff.1 hsu).1
      rw [List.length_append] at hlt
      simp only [List.length_cons, List.length_nil] at hlt
      obtain rfl : s = H.length := by omega
      rw [List.getElem?_concat_length] at hsu
      cases hsu
      obtain ⟨ao, c, rfl, _⟩ := hxo.shape
      refine ⟨nn i + k, hl, ⟨ao, c, rfl, ?_⟩, .inr (.inr ⟨hs, Nat.le_refl _⟩)⟩
      rw [hs]
      exact hxo.slm
  · by_cases e : s < H.length
    · rw [List.getElem?_append_left e] at hsy
      exact h.gfar s y hsy t u ht hi
    · have hlt := (List.getElem?_eq_some_iff.1 hsy).1
      rw [List.length_append] at hlt
      simp only [List.length_cons, List.length_nil] at hlt
      obtain rfl : s = H.length := by omega
      rw [List.getElem?_concat_length] at hsy
      cases hsy
      rcases (h.own t u ht hi).2 with e2 | e2
      · rw [e2]
        cases e3 : x.ownBlock with
        | none => exact .inl rfl
        | some _ => exact .inr (by simp)
      · exact .inr fun e3 => e2 e3.symm
/-- Between two lists. -/
structure Q5 (w : World) (B : Nat) (v : Value) (V : List Value) (nn : Nat → Nat) (i : Nat) (vG : Value) (H : List Value) : Prop where
  row : OwnY w B v V
  rowG : OwnY w B vG H
  gne : v.ownBlock = none ∨ v.ownBlock ≠ vG.ownBlock
  own : ∀ (t : Nat) (u : Value), V[t]? = some u → i ≤ t → OwnP w B u (nn t) (nn t) t
  ne : ∀ (t t' : Nat) (u u' : Value), V[t]? = some u → V[t']? = some u' → t ≠ t' → u.ownBlock = none ∨ u.ownBlock ≠ u'.ownBlock
  gr : ∀ (s : Nat) (u : Value), H[s]? = some u → ∃ n, n ≤ 200000 ∧ ∃ ao c, u = .slice ao n c ∧ SlM w ao n (s / 8)
  gfar : ∀ (s : Nat) (y : Value), H[s]? = some y → ∀ (t : Nat) (u : Value), V[t]? = some u → i ≤ t → y.ownBlock = none ∨ y.ownBlock ≠ u.ownBlock
set_option maxRecDepth 100000 in
theorem Q5.into {w : World} {B : Nat} {v : Value} {V : List Value} {nn : Nat → Nat} {i : Nat} {vG : Value} {H : List Value} (h : Q5 w B v V nn i vG H) {x : Value} (hx : V[i]? = some x) : P5 w B v V nn i 0 x vG H := by
  have hxo := h.own i x hx (Nat.le_refl _)
  refine ⟨h.row, h.rowG, h.gne, hxo, fun t u ht hi => ⟨h.own t u ht (by omega), h.ne t i u x ht hx (by omega)⟩, fun s u hs => ?_, fun s y hs t u ht hi => h.gfar s y hs t u ht (by omega)⟩
  obtain ⟨n, h0, ao, c, rfl, h1⟩ := h.gr s u hs
  refine ⟨n, h0, ⟨ao, c, rfl, h1⟩, ?_⟩
  rcases h1 with h1 | ⟨g, rfl, _⟩
  · exact .inl h1
  · rcases h.gfar s _ hs i x hx (Nat.le_refl _) with e | e
    · cases e
    · exact .inr (.inl e)
set_option maxRecDepth 100000 in
theorem P5.out {w : World} {B : Nat} {v : Value} {V : List Value} {nn : Nat → Nat} {i k : Nat} {x vG : Value} {H : List Value} (h : P5 w B v V nn i k x vG H) (hne : ∀ (t t' : Nat) (u u' : Value), V[t]? = some u → V[t']? = some u' → t ≠ t' → u.ownBlock = none ∨ u.ownBlock ≠ u'.ownBlock) : Q5 w B v V nn (i + 1) vG H :=
  ⟨h.row, h.rowG, h.gne, fun t u ht hi => (h.own t u ht (by omega)).1, hne, fun s u hs => by
    obtain ⟨n, h0, h1, _⟩ := h.gr s u hs
    exact ⟨n, h0, h1⟩, fun s y hs t u ht hi => h.gfar s y hs t u ht (by omega)⟩
set_option maxRecDepth 100000 in
theorem Bl.start {w : World} {B : Nat} {v : Value} {V : List Value} {nn : Nat → Nat} (h : Bl w B v V nn nn) : Q5 w B v V nn 0 (.slice none 0 0) [] := by
  refine ⟨h.row, OwnY.nil _ _, ?_, fun t u ht _ => h.own t u ht, h.ne, fun s u hs => by simp at hs, fun s y hs => by simp at hs⟩
  cases e : v.ownBlock with
  | none => exact .inl rfl
  | some _ => exact .inr (by simp [Value.ownBlock])
end Om
end Go.Proofs.YtpiijmionafmcaaGreatDoor

/- The law's items. -/

namespace Go.Proofs.YtpiijmionafmcaaGreatDoor
open Go.RowKit
namespace Om

set_option maxRecDepth 100000 in
theorem below_grown {w w' : World} {B : Nat} {row : Option Nat} (h : w.grownBy w' row) (hr : ∀ z, row = some z → B ≤ z) (hB : B ≤ w.heap.size) : Below B w w' := ⟨h.os, h.tape, h.output, h.size, fun k hk => h.block k (by omega) (fun e => by have := hr k e.symm; omega)⟩
set_option maxRecDepth 100000 in
theorem app_runT {ops : Array Oper} {rest : List Oper} {o : Oper} {a : Act} {w : World} {Q : Exit → Act → World → Prop} (hgd : o.guard = none) (s x : Operand) (t1 t2 : TypeId)
    (ho : o.op = .call { callee := .builtin .append, args := #[s, x], argTypes := #[t1, t2] }) (v u : Value) (hs : a.eval s = v) (hx : a.eval x = u) {v' : Value} {w' : World}
    (hr : (Builtin.append_ #[t1, t2] o.type #[v, u]).run Tryz.prog w = .ok v' w') (h : wpList Tryz.prog ops Q rest (a.put o.dst v') w') : wpList Tryz.prog ops Q (o :: rest) a w := by
  refine wpList_plain hgd fun K hK => ?_
  unfold Oper.wp execOp
  simp only [ho, resolve, invoke, builtin, Sem.run_bind, Sem.run_pure, Result.andThen_ok, List.map_toArray, List.map_cons, List.map_nil, hs, hx, hr]
  exact hK _ _ h
set_option maxRecDepth 100000 in
theorem cell_at {V : List Value} {N i : Nat} (hN : V.length = N) (hi : i < N) : ∃ u, V[i]? = some u := ⟨_, List.getElem?_eq_getElem (by omega)⟩
set_option maxHeartbeats 8000000 in
set_option maxRecDepth 100000 in
theorem items_any (w : World) (B N : Nat) (lo : Option Addr) (lc : Nat) (LV : List Value) (nn : Nat → Nat) (hY : OwnY w B (.slice lo N lc) LV) (hN : LV.length = N) (hN2 : N ≤ 400000) (hown : ∀ (t : Nat) (u : Value), LV[t]? = some u → OwnP w B u (nn t) 0 t)
    (hne : ∀ (t t' : Nat) (u u' : Value), LV[t]? = some u → LV[t']? = some u' → t ≠ t' → u.ownBlock = none ∨ u.ownBlock ≠ u'.ownBlock) (hnn : ∀ t, nn t ≤ 100000) (hB : B ≤ w.heap.size) :
    Calls Tryz.prog 9 #[.slice lo N lc] w fun e u => e = .returned (.bool true) ∧ Hid (Below B w u) := by
  have HBL : Hid (Bl w B (.slice lo N lc) LV nn (fun t => if t < 0 then nn t else 0)) := hidden ⟨hY, fun t u ht => by
    obtain ⟨vs, h1, h2⟩ := hown t u ht
    exact ⟨vs, h1, fun a ha => by rw [if_neg (by omega)] at ha; omega⟩, hne⟩
  have HN := hidden hN
  have HNE := hidden hne
  have HNN := hidden hnn
  have HBB := hidden hB
  have hNI : (N : Int) ≤ 400000 := by omega
  clear hY hown hne hnn hN
  go_enter Tryz.func9, Tryz.ntmps9
  go_wp2_with fail
  go_loopw [3] (fun x wr => ∃ i : Nat, i ≤ N ∧ x = .int .i64 (i : Int) ∧ Hid (Bl wr B (.slice lo N lc) LV nn (fun t => if t < i then nn t else 0)) ∧ Hid (Below B w wr)) (fun x _ => N - (RowKit.intOf x).toNat)
  case atStart => exact ⟨0, by omega, rfl, HBL, hidden (Below.refl _ _)⟩
  case round =>
    obtain ⟨i, hi, rfl, HBi, HCi⟩ := hrel
    clear HBL
    by_cases hlt : i < N
    · have hltI : (i : Int) < (N : Int) := by omega
      obtain ⟨u, hu⟩ := cell_at HN.out hlt
      obtain ⟨R, rfl, cR⟩ : ∃ R, lo = some ⟨R, 0, none⟩ ∧ wr.cell? ⟨R, i, none⟩ = some u := by
        obtain ⟨ao, c, e, hc⟩ := HBi.out.row.cells
        injection e with e1 e2 _
        subst e1
        rcases hc with h0 | ⟨g, e3, _, hc⟩
        · omega
        · exact ⟨g, e3, hc i u hu⟩
      obtain ⟨ao, c, rfl, _⟩ := (HBi.out.own i u hu).shape
      have hlb := HNN.out i
      obtain ⟨n, hn⟩ : ∃ n, nn i = n := ⟨_, rfl⟩
      rw [hn] at cR hu hlb
      have HNL := hidden hn
      have HU := hidden hu
      have hnI : (n : Int) ≤ 100000 := by omega
      have HB2 : Hid (Bl wr B (.slice (some ⟨R, 0, none⟩) N lc) LV nn (fun t => if t < i then nn t else if t = i then 0 else 0)) := hidden (HBi.out.cong (fun t _ => by
        by_cases e : t < i
        · rw [if_pos e, if_pos e]
        · rw [if_neg e, if_neg e]; split <;> rfl))
      clear hn hu HBi
      go_wp2_with fail
      go_loopw [4] (fun y wr2 => ∃ k : Nat, k ≤ n ∧ y = .int .i64 (k : Int) ∧ Hid (Bl wr2 B (.slice (some ⟨R, 0, none⟩) N lc) LV nn (fun t => if t < i then nn t else if t = i then k else 0)) ∧ Hid (Below B w wr2)) (fun y _ => n - (RowKit.intOf y).toNat)
      case atStart => exact ⟨0, by omega, rfl, HB2, HCi⟩
      case round =>
        obtain ⟨k, hk, rfl, HBk, HCk⟩ := hrel
        clear HB2 HCi cR
        have cR : wr.cell? ⟨R, i, none⟩ = some (.slice ao n c) := by
          obtain ⟨ao', c', e, hc⟩ := HBk.out.row.cells
          injection e with e1 e2 _
          rcases hc with h0 | ⟨g, e3, _, hc⟩
          · omega
          · rw [← e1] at e3
            cases e3
            exact hc i _ HU.out
        by_cases hkn : k < n
        · have hkI : (k : Int) < (n : Int) := by omega
          have hok := HBk.out.own i _ HU.out
          obtain ⟨g, rfl, hgB, hrow, hnc⟩ : ∃ g, ao = some ⟨g, 0, none⟩ ∧ B ≤ g ∧ RowB wr g c ∧ n ≤ c := by
            obtain ⟨ao', c', e, hs⟩ := hok.shape
            injection e with e1 e2 e3
            rcases hs with hs | ⟨g, e4, h1, h2, h3⟩
            · rw [HNL.out] at hs
              omega
            · rw [HNL.out] at h3
              subst e1
              subst e3
              exact ⟨g, e4, h1, h2, h3⟩
          obtain ⟨hset, hgrow⟩ := HBk.out.set (k := k) HU.out HNL.out (by rw [if_neg (by omega), if_pos rfl]) hkn
          have HST : Hid (Bl (wr.setCells g (k * 4) (mkV i)) B (.slice (some ⟨R, 0, none⟩) N lc) LV nn (fun t => if t < i then nn t else if t = i then k + 1 else 0)) := hidden (hset.cong (fun t _ => by
            by_cases e : t = i
            · subst e
              simp
            · simp only [if_neg e]))
          have HCS : Hid (Below B w (wr.setCells g (k * 4) (mkV i))) := hidden (HCk.out.trans (below_grown hgrow (fun z hz => by injection hz with hz; rw [← hz]; exact hgB) (Nat.le_trans HBB.out HCk.out.size)))
          have HRW := hidden hrow
          have hiI : (i : Int) ≤ 400000 := by omega
          clear hok hset hgrow hrow
          go_wp2_with (refine put_item (by rfl) _ _ (by rfl) g (k * 4) c (-100 - (i : Int)) 0 ⟨#[]⟩ none 0 0 HRW.out (by rfl) (by rfl) (by omega) ?_; intro w2 HU2; refine Hid.out ?_)
          apply hidden
          have HST2 : Hid (Bl w2 B (.slice (some ⟨R, 0, none⟩) N lc) LV nn (fun t => if t < i then nn t else if t = i then k + 1 else 0)) := hidden (by rw [HU2.out]; exact HST.out)
          have HCS2 : Hid (Below B w w2) := hidden (by rw [HU2.out]; exact HCS.out)
          clear HST HCS HU2 HBk HCk HRW
          go_wp2
          go_roundw
          case rel => exact ⟨k + 1, by omega, by go_num, HST2, HCS2⟩
          case measure => simp [RowKit.intOf]; omega
        · obtain rfl : k = n := by omega
          have hkI : ¬ (k : Int) < (k : Int) := by omega
          have HB3 : Hid (Bl wr B (.slice (some ⟨R, 0, none⟩) N lc) LV nn (fun t => if t < i + 1 then nn t else 0)) := hidden (HBk.out.cong (fun t _ => by
            by_cases e : t < i
            · rw [if_pos e, if_pos (by omega)]
            · rw [if_neg e]
              by_cases e2 : t = i
              · rw [if_pos e2, if_pos (by omega), e2, HNL.out]
              · rw [if_neg e2, if_neg (by omega)]))
          go_wp2
          go_roundw
          case rel => exact ⟨i + 1, by omega, by go_num, HB3, HCk⟩
          case measure => simp [RowKit.intOf]; omega
    · have hlI : ¬ (i : Int) < (N : Int) := by omega
      have HQ0 : Hid (Q5 wr B (.slice lo N lc) LV nn 0 (.slice none 0 0) []) := hidden (Bl.start (HBi.out.cong (fun t ht => by rw [if_pos (by rw [HN.out] at ht; omega)])))
      clear HBi
      go_wp2_with fail
      clear hlI hi
      go_loopw [5, 6] (fun vg x wr => ∃ (i : Nat) (H : List Value), i ≤ N ∧ x = .int .i64 (i : Int) ∧ Hid (Q5 wr B (.slice lo N lc) LV nn i vg H) ∧ Hid (H.length = 8 * i) ∧ Hid (Below B w wr)) (fun _ x _ => N - (RowKit.intOf x).toNat)
      case atStart => exact ⟨0, [], by omega, rfl, HQ0, hidden rfl, HCi⟩
      case round =>
        obtain ⟨i, H, hi, rfl, HQ, HL, HC⟩ := hrel
        clear HQ0 HCi
        by_cases hlt : i < N
        · have hltI : (i : Int) < (N : Int) := by omega
          have hiI : (i : Int) ≤ 400000 := by omega
          obtain ⟨u, hu⟩ := cell_at HN.out hlt
          obtain ⟨R, rfl, cR⟩ : ∃ R, lo = some ⟨R, 0, none⟩ ∧ wr.cell? ⟨R, i, none⟩ = some u := by
            obtain ⟨ao, c, e, hc⟩ := HQ.out.row.cells
            injection e with e1 e2 _
            subst e1
            rcases hc with h0 | ⟨g, e3, _, hc⟩
            · omega
            · exact ⟨g, e3, hc i u hu⟩
          obtain ⟨xo0, xc0, rfl, _⟩ := (HQ.out.own i u hu (Nat.le_refl _)).shape
          have HP0 := hidden (HQ.out.into hu)
          have hni := HNN.out i
          have hniI : (nn i : Int) ≤ 100000 := by omega
          clear hu HQ
          go_wp2_with fail
          go_loopw [5, 7, 8] (fun vg x kk wr => ∃ (k : Nat) (xo : Option Addr) (xc : Nat) (H : List Value), k ≤ 8 ∧ kk = .int .i64 (k : Int) ∧ x = .slice xo (nn i + k) xc ∧ Hid (P5 wr B (.slice (some ⟨R, 0, none⟩) N lc) LV nn i k (.slice xo (nn i + k) xc) vg H) ∧ Hid (H.length = 8 * i + k) ∧ Hid (Below B w wr)) (fun _ _ kk _ => 8 - (RowKit.intOf kk).toNat)
          case atStart => exact ⟨0, xo0, xc0, H, by omega, rfl, rfl, HP0, hidden HL.out, HC⟩
          case round =>
            obtain ⟨k, xo, xc, H, hk, rfl, rfl, HP, HL2, HC2⟩ := hrel
            clear HP0 HC HL cR
            by_cases hk5 : k < 8
            · have hkI : (k : Int) < 8 := by omega
              obtain ⟨L, hL⟩ : ∃ L, nn i + k = L := ⟨_, rfl⟩
              have HLE := hidden hL
              have hL2 : L ≤ 100016 := by omega
              have hL2I : (L : Int) ≤ 100016 := by omega
              rw [hL] at HP ⊢
              obtain ⟨x, hx⟩ : ∃ x, wr.alloc (.cells #[.int .i64 (-100 - (i : Int)), .int .i64 0, .string ⟨#[]⟩, .slice none 0 0] 36) = x := ⟨_, rfl⟩
              have hbx : Below wr.heap.size wr x := by rw [← hx]; exact (Below.refl _ _).alloc (Nat.le_refl _) _
              have hcx : ∀ t u, (mkV i)[t]? = some u → x.cell? ⟨wr.heap.size, t, none⟩ = some u := by
                intro t u ht
                rw [← hx, cell_of_row _ _ t _ _ _ (heap_alloc_last wr _)]
                simpa [mkV] using ht
              have hBx : B ≤ x.heap.size := Nat.le_trans HBB.out (Nat.le_trans HC2.out.size hbx.size)
              have HPX := hidden (HP.out.on hbx)
              have hxo : OwnP x B (.slice xo L xc) L L i := by have := HPX.out.xo; rwa [hL] at this
              obtain ⟨v1, w1, hr, ho1, hcase⟩ := app_m x B 25 (.slice xo L xc) L i wr.heap.size hxo hcx (by omega) hBx
              obtain ⟨yo, yc, rfl, _⟩ := ho1.shape
              have HP1 : Hid (P5 w1 B (.slice (some ⟨R, 0, none⟩) N lc) LV nn i (k + 1) (.slice yo (L + 1) yc) _ H) := hidden (HPX.out.appX (by rw [hL]; exact ho1) hcase)
              have HC1 : Hid (Below B w w1) := hidden ((HC2.out.trans (hbx.mono (Nat.le_trans HBB.out HC2.out.size))).trans (by
                rcases hcase with ⟨_, hg⟩ | ⟨hb, _⟩
                · exact below_grown hg (fun z hz => (hxo.lt hz).1) hBx
                · exact hb.mono hBx))
              clear hcase ho1 hxo hbx hL HP HPX HC2 hcx
              go_wp2_with (at_builtin; refine app_runT rfl _ _ _ _ rfl _ _ rfl rfl hr ?_; refine Hid.out ?_)
              apply hidden
              clear hr hx
              obtain ⟨y, hy⟩ : ∃ y, w1.alloc (.cells #[.slice yo (L + 1) yc] 25) = y := ⟨_, rfl⟩
              have hby : Below w1.heap.size w1 y := by rw [← hy]; exact (Below.refl _ _).alloc (Nat.le_refl _) _
              have hcy : y.cell? ⟨w1.heap.size, 0, none⟩ = some (.slice yo (L + 1) yc) := by rw [← hy]; simp
              have HPY := hidden (HP1.out.on hby)
              have hBy : B ≤ y.heap.size := Nat.le_trans HBB.out (Nat.le_trans HC1.out.size hby.size)
              have HCY : Hid (Below B w y) := hidden (HC1.out.trans (hby.mono (Nat.le_trans HBB.out HC1.out.size)))
              have hHl : H.length + 1 ≤ 100000000 := by rw [HL2.out]; omega
              have HDV : Hid (H.length / 8 = i) := hidden (by rw [HL2.out]; omega)
              clear hby HP1 HC1
              go_wp2_with (at_builtin; refine app_y _ rfl _ _ rfl B H _ (.slice yo (L + 1) yc) rfl rfl HPY.out.rowG w1.heap.size rfl hcy hHl hBy ?_; refine Hid.out ?_)
              apply hidden
              intro vG2 w2 hG2 hgr2
              have HP2 : Hid (P5 w2 B (.slice (some ⟨R, 0, none⟩) N lc) LV nn i (k + 1) (.slice yo (L + 1) yc) vG2 (H ++ [.slice yo (L + 1) yc])) := hidden (HPY.out.appG hG2 hgr2 HDV.out (by have := HLE.out; omega))
              have HC3 : Hid (Below B w w2) := hidden (HCY.out.trans (below_grown hgr2.grow (fun z hz => by
                have hrG := HPY.out.rowG
                unfold OwnY at hrG
                exact (hrG.lt z hz).1) hBy))
              have HL3 : Hid ((H ++ [Value.slice yo (L + 1) yc]).length = 8 * i + (k + 1)) := hidden (by rw [List.length_append, HL2.out]; rfl)
              have HLK : Hid (nn i + (k + 1) = L + 1) := hidden (by have := HLE.out; omega)
              clear hG2 hgr2 hy hcy HPY
              go_wp2
              go_roundw
              case rel => exact ⟨k + 1, yo, yc, H ++ [.slice yo (L + 1) yc], by omega, by go_num, by rw [HLK.out], by rw [HLK.out]; exact HP2, HL3, HC3⟩
              case measure => simp [RowKit.intOf]; omega
            · obtain rfl : k = 8 := by omega
              have HQ1 : Hid (Q5 wr B (.slice (some ⟨R, 0, none⟩) N lc) LV nn (i + 1) _ H) := hidden (HP.out.out HNE.out)
              have HL3 : Hid (H.length = 8 * (i + 1)) := hidden (by rw [HL2.out]; omega)
              clear HP
              go_wp2
              go_roundw
              case rel => exact ⟨i + 1, H, by omega, by go_num, HQ1, HL3, HC2⟩
              case measure => simp [RowKit.intOf]; omega
        · have hlI : ¬ (i : Int) < (N : Int) := by omega
          obtain ⟨go, gc, rfl, hgc⟩ := HQ.out.rowG.cells
          have hHl : H.length ≤ 3200000 := by rw [HL.out]; omega
          have HGC := hidden hgc
          obtain ⟨hn, hhn⟩ : ∃ hn, H.length = hn := ⟨_, rfl⟩
          have HHN := hidden hhn
          have HQ2 := hidden HQ.out
          rw [hhn] at HGC HQ2 ⊢
          have hhnI : (hn : Int) ≤ 3200000 := by omega
          clear hgc HQ HL hhn
          go_wp2_with fail
          go_loop [9] (fun x => ∃ s : Nat, s ≤ hn ∧ x = .int .i64 (s : Int)) (fun x => hn - (RowKit.intOf x).toNat)
          case atStart => exact ⟨0, by omega, rfl⟩
          case round =>
            obtain ⟨s, hs, rfl⟩ := hrel
            by_cases hsN : s < hn
            · have hsI : (s : Int) < (hn : Int) := by omega
              obtain ⟨u, hu⟩ := cell_at HHN.out hsN
              obtain ⟨G, rfl, cG⟩ : ∃ G, go = some ⟨G, 0, none⟩ ∧ wr.cell? ⟨G, s, none⟩ = some u := by
                rcases HGC.out with h0 | ⟨g, e3, _, hc⟩
                · omega
                · exact ⟨g, e3, hc s u hu⟩
              obtain ⟨m, hm9, ao, c, rfl, hsl⟩ := HQ2.out.gr s u hu
              have hmI : (m : Int) ≤ 200000 := by omega
              have HSL := hidden hsl
              have hq5 : Int.tdiv (s : Int) 8 = ((s / 8 : Nat) : Int) := by
                rw [Int.tdiv_eq_ediv_of_nonneg (by omega)]
                rfl
              have hqle : s / 8 ≤ 400000 := by omega
              obtain ⟨q, hq⟩ : ∃ q, s / 8 = q := ⟨_, rfl⟩
              rw [hq] at HSL hq5 hqle
              have hqs : (q : Int) ≤ 400000 := by omega
              have hqw : IntKind.i64.wrap (q : Int) = (q : Int) := by rw [IntKind.wrap_i64]; omega
              clear hsl hu hq
              go_wp2_with fail
              go_loop [10] (fun x => ∃ k : Nat, k ≤ m ∧ x = .int .i64 (k : Int)) (fun x => m - (RowKit.intOf x).toNat)
              case atStart => exact ⟨0, by omega, rfl⟩
              case round =>
                obtain ⟨k, hk, rfl⟩ := hrel
                by_cases hkm : k < m
                · have hkI : (k : Int) < (m : Int) := by omega
                  obtain ⟨g, rfl, cK⟩ : ∃ g, ao = some ⟨g, 0, none⟩ ∧ wr.cell? ⟨g, k * 4, none⟩ = some (.int .i64 (-100 - (q : Int))) := by
                    rcases HSL.out with h0 | ⟨g, e3, _, hc⟩
                    · omega
                    · exact ⟨g, e3, hc k hkm⟩
                  have e0 : (-100 - (q : Int) != -100 - (q : Int)) = false := by simp
                  go_wp2
                  go_round
                  case rel => exact ⟨k + 1, by omega, by go_num⟩
                  case measure => simp [RowKit.intOf]; omega
                · have hkI : ¬ (k : Int) < (m : Int) := by omega
                  go_wp2
                  go_round
                  case rel => exact ⟨s + 1, by omega, by go_num⟩
                  case measure => simp [RowKit.intOf]; omega
            · have hsI : ¬ (s : Int) < (hn : Int) := by omega
              go_wp2
              go_ret
              exact ⟨rfl, HC⟩
end Om
end Go.Proofs.YtpiijmionafmcaaGreatDoor
