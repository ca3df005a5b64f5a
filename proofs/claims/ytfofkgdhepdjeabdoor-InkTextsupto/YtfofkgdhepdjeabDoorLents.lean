/- Slices that were lent, gathered in a slice of slices of the call's own. -/
import Derived.Test.YtfofkgdhepdjeabDoorRefSum
import Derived.Test.YtfofkgdhepdjeabDoorAsLent
import Derived.Test.YtfofkgdhepdjeabDoorOrder
namespace Go.Proofs.YtfofkgdhepdjeabDoor
open Go.RowKit

theorem infoSl : (Tryd.prog.info? 23).map (fun i => (i.zero, i.size, i.bytes)) = some (some (.slice none 0 0), 1, 24) := by kernel_rfl
/-- The slice value v owns the slices xs. -/
def OwnV (w : World) (B : Nat) (v : Value) (xs : List Value) : Prop := w.ownsRow B 23 1 v xs.length xs
theorem OwnV.nil (w : World) (B : Nat) : OwnV w B (.slice none 0 0) [] := World.ownsRow_nil w B 23 1
theorem OwnV.on {w w' : World} {B C : Nat} {v : Value} {xs : List Value} (h : OwnV w B v xs) (hC : w.heap.size ≤ C) (hb : Below C w w') : OwnV w' B v xs := by
  refine World.ownsRow.kept (row := none) h ⟨hb.os, hb.tape, hb.output, hb.size, fun k hk _ => hb.block k (by omega)⟩ ?_
  cases hv : v.ownBlock with
  | none => exact .inl rfl
  | some k => exact .inr (by simp)
/-- A row of slices and a row of bytes are two rows. -/
theorem rows_apart {w : World} {B C : Nat} {v u : Value} {xs : List Value} {l : List Int} (h : OwnV w B v xs) (k : OwnB w C u l) : u.ownBlock = none ∨ u.ownBlock ≠ v.ownBlock := by
  rcases h.2 with ⟨rfl, _⟩ | ⟨g, cap, cur, rfl, _, hh, _⟩
  · cases hu : u.ownBlock with
    | none => exact .inl rfl
    | some b => exact .inr (by simp [Value.ownBlock])
  · rcases k.2 with ⟨rfl, _⟩ | ⟨g', cap', cur', rfl, _, hh', _⟩
    · exact .inl rfl
    · right
      intro e
      have e' : g' = g := by simpa [Value.ownBlock] using e
      subst e'
      rw [hh'] at hh
      simp at hh
theorem rows_apart' {w : World} {B C : Nat} {v u : Value} {xs : List Value} {l : List Int} (h : OwnV w B v xs) (k : OwnB w C u l) : v.ownBlock = none ∨ v.ownBlock ≠ u.ownBlock := by
  rcases rows_apart h k with e | e
  · cases hv : v.ownBlock with
    | none => exact .inl rfl
    | some b => exact .inr (by rw [e]; simp)
  · exact .inr (fun x => e x.symm)

theorem app_val {ops : Array Oper} {rest : List Oper} {o : Oper} {a : Act} {Q : Exit → Act → World → Prop} (w : World) (hgd : o.guard = none) (s x : Operand)
    (ho : o.op = .call { callee := .builtin .append, args := #[s, x], argTypes := #[22, 22] }) (B : Nat) (xs : List Value) (v : Value) (hs : a.eval s = v)
    (hown : OwnV w B v xs) (g n c : Nat) (hx : a.eval x = .slice (some ⟨g, 0, none⟩) 1 1) (ao : Option Addr) (hcell : w.cell? ⟨g, 0, none⟩ = some (.slice ao n c)) (hb : xs.length ≤ 1000000) (hbase : B ≤ w.heap.size)
    (h : ∀ v' w', OwnV w' B v' (xs ++ [.slice ao n c]) → w.grownBy w' v.ownBlock → wpList Tryd.prog ops Q rest (a.put o.dst v') w') : wpList Tryd.prog ops Q (o :: rest) a w := by
  obtain ⟨i0, hi, hz0, hz1, hz2⟩ := info_parts infoSl
  refine wpList_append_own w hgd s x 22 ho B 23 i0 (.slice none 0 0) 1 24 Tryd.underlying22 hi hz0 hz1 hz2 rfl (by decide) v xs.length xs hs hown ⟨g, 0, none⟩ 1 1 [.slice ao n c] hx rfl
    (fun j u hu => by
      have hj : j = 0 := by
        have := (List.getElem?_eq_some_iff.1 hu).1
        simpa using this
      subst hj
      simp at hu
      subst hu
      simpa [Addr.add] using hcell) (fun u hu => by simp at hu; subst hu; rfl) (by unfold maxLen; omega) (by omega) hbase ?_
  intro v' w' h1 h2 _
  refine h v' w' ?_ h2
  unfold OwnV
  simpa using h1

/-- ELEMENT i OF xs IS THE SLICE THAT WAS LENT OF ls's, its row owned, the rows in rising blocks. -/
structure Lents (w : World) (B : Nat) (xs : List Value) (ls : List (List Int)) (gs : List Nat) : Prop where
  len : xs.length = ls.length
  glen : gs.length = ls.length
  elem : ∀ i, i < ls.length → xs[i]? = some (.slice (some ⟨gs.getD i 0, 0, none⟩) (ls.getD i []).length ((ls.getD i []).length + 3))
  own : ∀ i, i < ls.length → OwnB w B (.slice (some ⟨gs.getD i 0, 0, none⟩) ((ls.getD i []).length + 3) ((ls.getD i []).length + 3)) (ls.getD i [] ++ [71, 72, 73])
  rise : ∀ i j, i < j → j < ls.length → gs.getD i 0 < gs.getD j 0
theorem Lents.nil (w : World) (B : Nat) : Lents w B [] [] [] := ⟨rfl, rfl, fun i hi => by simp at hi, fun i hi => by simp at hi, fun i j _ hj => by simp at hj⟩
theorem Lents.on {w w' : World} {B C : Nat} {xs : List Value} {ls : List (List Int)} {gs : List Nat} (h : Lents w B xs ls gs) (hC : w.heap.size ≤ C) (hb : Below C w w') : Lents w' B xs ls gs :=
  ⟨h.len, h.glen, h.elem, fun i hi => (h.own i hi).on hC hb, h.rise⟩
theorem Lents.grown {w w' : World} {B C : Nat} {xs ys : List Value} {ls : List (List Int)} {gs : List Nat} {v : Value} (h : Lents w B xs ls gs) (hv : OwnV w C v ys) (hg : w.grownBy w' v.ownBlock) : Lents w' B xs ls gs :=
  ⟨h.len, h.glen, h.elem, fun i hi => World.ownsRow.kept (h.own i hi) hg (rows_apart hv (h.own i hi)), h.rise⟩
theorem getD_snoc {α : Type} (l : List α) (x d : α) (i : Nat) : (l ++ [x]).getD i d = if i < l.length then l.getD i d else if i = l.length then x else d := by
  rw [List.getD_eq_getElem?_getD]
  split
  · rw [List.getElem?_append_left (by assumption), List.getD_eq_getElem?_getD]
  · rename_i h
    rw [List.getElem?_append_right (by omega)]
    split
    · rename_i e
      subst e
      simp
    · rename_i e
      rw [List.getElem?_eq_none (by simp; omega)]
      rfl
/-- One more is lent. -/
theorem Lents.snoc {w : World} {B C g : Nat} {xs : List Value} {ls : List (List Int)} {gs : List Nat} {l : List Int} (h : Lents w B xs ls gs) (hB : B ≤ C) (ho : OwnB w C (.slice (some ⟨g, 0, none⟩) (l.length + 3) (l.length + 3)) (l ++ [71, 72, 73])) (hg : ∀ i, i < ls.length → gs.getD i 0 < g) :
    Lents w B (xs ++ [.slice (some ⟨g, 0, none⟩) l.length (l.length + 3)]) (ls ++ [l]) (gs ++ [g]) := by
  have hl := h.len
  have hgl := h.glen
  refine ⟨by simp [hl], by simp [hgl], fun i hi => ?_, fun i hi => ?_, fun i j hij hj => ?_⟩
  · simp only [List.length_append, List.length_cons, List.length_nil] at hi
    rw [getD_snoc, getD_snoc, hgl]
    by_cases hin : i < ls.length
    · rw [if_pos hin, if_pos hin, List.getElem?_append_left (by omega)]
      exact h.elem i hin
    · obtain rfl : i = ls.length := by omega
      rw [if_neg hin, if_neg hin, if_pos rfl, if_pos rfl, List.getElem?_append_right (by omega), hl]
      simp
  · simp only [List.length_append, List.length_cons, List.length_nil] at hi
    rw [getD_snoc, getD_snoc, hgl]
    by_cases hin : i < ls.length
    · rw [if_pos hin, if_pos hin]
      exact h.own i hin
    · obtain rfl : i = ls.length := by omega
      rw [if_neg hin, if_neg hin, if_pos rfl, if_pos rfl]
      refine ⟨ho.1, ?_⟩
      rcases ho.2 with ⟨e, _⟩ | ⟨g', cap, cur, e, hg', rest⟩
      · cases e
      · exact .inr ⟨g', cap, cur, e, Nat.le_trans hB hg', rest⟩
  · simp only [List.length_append, List.length_cons, List.length_nil] at hj
    rw [getD_snoc, getD_snoc, hgl]
    by_cases hjn : j < ls.length
    · rw [if_pos (show i < ls.length by omega), if_pos hjn]
      exact h.rise i j hij hjn
    · obtain rfl : j = ls.length := by omega
      rw [if_pos hij, if_neg hjn, if_pos rfl]
      exact hg i hij
end Go.Proofs.YtfofkgdhepdjeabDoor
