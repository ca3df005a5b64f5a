/- What Encode hands out, gathered: nil, or a row of its own each. -/
import Derived.Test.YtoifjcliepongaaDoorMu
namespace Go.Proofs.YtoifjcliepongaaDoor
open Go.RowKit

/-- One answer: nil, or a block with its bytes. -/
def gV : Option (Nat × List Int) → Value
  | none => .slice none 0 0
  | some (g, l) => .slice (some ⟨g, 0, none⟩) l.length l.length
/-- The answers' rows: bytes, from B on, each behind those ahead of it. -/
structure Gt (w : World) (B : Nat) (G : List (Option (Nat × List Int))) : Prop where
  rows : ∀ (t g : Nat) (l : List Int), G[t]? = some (some (g, l)) → Bk w g l ∧ B ≤ g ∧ Wf l ∧ l.length ≤ 65536
  ne : ∀ (t t' g g' : Nat) (l l' : List Int), G[t]? = some (some (g, l)) → G[t']? = some (some (g', l')) → t < t' → g < g'
set_option maxRecDepth 100000 in
theorem Gt.on {w w' : World} {B : Nat} {G : List (Option (Nat × List Int))} (h : Gt w B G) (hb : Below w.heap.size w w') : Gt w' B G :=
  ⟨fun t g l e => ⟨(h.rows t g l e).1.on hb, (h.rows t g l e).2⟩, h.ne⟩
set_option maxRecDepth 100000 in
theorem Gt.nil (w : World) (B : Nat) : Gt w B [] := ⟨fun t g l e => by simp at e, fun t t' g g' l l' e => by simp at e⟩
set_option maxRecDepth 100000 in
theorem Gt.snoc {w w' : World} {B : Nat} {G : List (Option (Nat × List Int))} (h : Gt w B G) (hB : B ≤ w.heap.size) (hb : Below w.heap.size w w') (x : Option (Nat × List Int)) (hx : ∀ g l, x = some (g, l) → w.heap.size ≤ g ∧ Bk w' g l ∧ Wf l ∧ l.length ≤ 65536) : Gt w' B (G ++ [x]) := by
  have get : ∀ (t : Nat) (y : Option (Nat × List Int)), (G ++ [x])[t]? = some y → G[t]? = some y ∨ t = G.length ∧ y = x := by
    intro t y e
    by_cases ht : t < G.length
    · rw [List.getElem?_append_left ht] at e; exact .inl e
    · rw [List.getElem?_append_right (by omega)] at e
      by_cases ht2 : t - G.length = 0
      · rw [ht2] at e
        simp at e
        exact .inr ⟨by omega, e.symm⟩
      · rw [List.getElem?_eq_none (by simp; omega)] at e
        cases e
  refine ⟨fun t g l e => ?_, fun t t' g g' l l' e e' htt => ?_⟩
  · rcases get t _ e with e | ⟨_, e⟩
    · exact (h.on hb).rows t g l e
    · have := hx g l e.symm
      exact ⟨this.2.1, by omega, this.2.2⟩
  · rcases get t _ e with e | ⟨e1, e⟩
    · rcases get t' _ e' with e' | ⟨_, e'⟩
      · exact h.ne t t' g g' l l' e e' htt
      · have h1 := lt_some (h.rows t g l e).1
        have h2 := (hx g' l' e'.symm).1
        omega
    · rcases get t' _ e' with e' | ⟨e2, _⟩
      · have := (List.getElem?_eq_some_iff.1 e').1
        omega
      · omega
/-- THE SLICE VALUE v OWNS THE ANSWERS. -/
def OwnS (w : World) (B : Nat) (v : Value) (G : List (Option (Nat × List Int))) : Prop := w.ownsRow B 29 1 v G.length (G.map gV)
set_option maxRecDepth 100000 in
theorem OwnS.nil (w : World) (B : Nat) : OwnS w B (.slice none 0 0) [] := World.ownsRow_nil w B 29 1
set_option maxRecDepth 100000 in
theorem OwnS.go {w w' : World} {B : Nat} {v : Value} {G : List (Option (Nat × List Int))} (h : OwnS w B v G) (hb : Below w.heap.size w w') : OwnS w' B v G := by
  refine World.ownsRow.kept (row := none) h ⟨hb.os, hb.tape, hb.output, hb.size, fun k hk _ => hb.block k hk⟩ ?_
  cases hv : v.ownBlock with
  | none => exact .inl rfl
  | some k => exact .inr (by simp)
set_option maxRecDepth 100000 in
theorem infoS : (Tryd.prog.info? 29).map (fun i => (i.zero, i.size, i.bytes)) = some (some (.slice none 0 0), 1, 24) := by kernel_rfl
set_option maxRecDepth 100000 in
theorem gV_one (x : Option (Nat × List Int)) : (gV x).oneCell' = true := by cases x <;> rfl
set_option maxRecDepth 100000 in
/-- A row of another type is not the one that is grown. -/
theorem ownS_ne {w : World} {B g : Nat} {v : Value} {G : List (Option (Nat × List Int))} {c : Array Value} {t : TypeId} {fz : Nat × Nat} (h : OwnS w B v G) (hg : w.heap[g]? = some (.cells c t fz)) (ht : t ≠ 29) : some g ≠ v.ownBlock := by
  intro e
  rcases h.2 with ⟨rfl, _⟩ | ⟨k, cap, cur, rfl, _, hk, _⟩
  · cases e
  · injection e with e
    have e' : g = k := e
    rw [e', hk] at hg
    injection hg with hg
    injection hg with _ h2 _
    exact ht h2.symm
set_option maxRecDepth 100000 in
theorem u8_neS : 5 ≠ 29 := by decide
set_option maxRecDepth 100000 in
theorem meta_neS : 24 ≠ 29 := by decide
set_option maxRecDepth 100000 in
/-- 'append(got, b)'. -/
theorem app_got {ops : Array Oper} {rest : List Oper} {o : Oper} {a : Act} {Q : Exit → Act → World → Prop} (w : World) (hgd : o.guard = none) (s x : Operand)
    (ho : o.op = .call { callee := .builtin .append, args := #[s, x], argTypes := #[26, 26] }) (B : Nat) (G : List (Option (Nat × List Int))) (v : Value) (y : Option (Nat × List Int)) (hs : a.eval s = v)
    (hown : OwnS w B v G) (b : Nat) (hx : a.eval x = .slice (some ⟨b, 0, none⟩) 1 1) (hc : w.cell? ⟨b, 0, none⟩ = some (gV y)) (hb : G.length + 1 ≤ 1000000) (hbase : B ≤ w.heap.size)
    (h : ∀ v' w', Hid (OwnS w' B v' (G ++ [y])) → Hid (w.grownBy w' v.ownBlock) → wpList Tryd.prog ops Q rest (a.put o.dst v') w') : wpList Tryd.prog ops Q (o :: rest) a w := by
  obtain ⟨i0, hi, hz0, hz1, hz2⟩ := info_parts infoS
  refine wpList_append_own w hgd s x 26 ho B 29 i0 (.slice none 0 0) 1 24 Tryd.underlying26 hi hz0 hz1 hz2 rfl (by decide) v G.length (G.map gV) hs hown ⟨b, 0, none⟩ 1 1 [gV y] hx rfl
    (fun j u hu => by
      have hj : j = 0 := by
        have := (List.getElem?_eq_some_iff.1 hu).1
        simpa using this
      subst hj
      simp at hu
      subst hu
      simpa [Addr.add_lit] using hc) (fun u hu => by simp at hu; subst hu; exact gV_one y) (by unfold maxLen; omega) (by omega) hbase ?_
  intro v' w' h1 h2 _
  refine h v' w' ?_ h2
  unfold OwnS
  rw [List.length_append, List.map_append]
  exact h1
set_option maxRecDepth 100000 in
theorem OwnS.shape {w : World} {B : Nat} {v : Value} {G : List (Option (Nat × List Int))} (h : OwnS w B v G) : (v = .slice none 0 0 ∧ G = []) ∨ ∃ g cap, v = .slice (some ⟨g, 0, none⟩) G.length cap ∧ B ≤ g ∧ G.length ≤ cap ∧ g < w.heap.size ∧ ∀ t x, G[t]? = some x → w.cell? ⟨g, t, none⟩ = some (gV x) := by
  rcases h.2 with ⟨rfl, h0⟩ | ⟨g, cap, cur, rfl, hg, hh, hnc, hm, hs, ht⟩
  · exact .inl ⟨rfl, List.eq_nil_of_length_eq_zero h0⟩
  · refine .inr ⟨g, cap, rfl, hg, hnc, lt_some hh, fun t x hx => ?_⟩
    have hlt := (List.getElem?_eq_some_iff.1 hx).1
    have := World.ownsRow.cellAt h t (by omega)
    rw [this]
    simp [List.getElem?_map, hx]
end Go.Proofs.YtoifjcliepongaaDoor
