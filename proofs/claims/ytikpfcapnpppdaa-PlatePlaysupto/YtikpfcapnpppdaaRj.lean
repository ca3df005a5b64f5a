/- The document's device: fall. -/
import Derived.Test.YtikpfcapnpppdaaRi
namespace Go.Proofs.Ytikpfcapnpppdaa
open Go.RowKit

set_option maxRecDepth 100000 in
/-- One page's bytes are others, of the same number. -/
theorem RRest.setrow {w w' : World} {F : Nat → Prop} {a page : Nat} {L : List (List Int)} {wild : List (Nat × List Int)} {keep : List Int} {vL vW vK : Value} {qs : List Nat} (h : RRest w F a page L wild keep vL vW vK qs) {n q : Nat} {l' : List Int} (hn : n < L.length) (hq : qs[n]? = some q) (hc : Ch (fun j => j = q) w w') (hl : l'.length = page) (hw : Wf l') (hh : w'.heap[q]? = some (.cells (By l').toArray 5 (0, 0))) : RRest w' F a page (L.set n l') wild keep vL vW vK qs := by
  obtain ⟨b1, b2, b3, b4, b5, b6, b7⟩ := h.hq n q hq
  have hz := hc.size
  have hqm : q ∈ qs := List.mem_of_getElem? hq
  obtain ⟨xs, hx1, hx2⟩ := h.hx
  refine ⟨h.fa, ?_, by rw [List.length_set]; exact h.nq, h.nd, fun i q' hi => ?_, h.bL, h.bW, ⟨xs, own_keep hx1 fun g e => hc.block g (hx1.lt g e).2 (fun e' => b4 (e' ▸ e)), fun k x hk => ?_⟩, fun x hx => by rw [List.length_set]; exact h.all x hx, ?_, h.p1, h.p2, by rw [List.length_set]; exact h.q1, by rw [List.length_set]; exact h.q2, by rw [List.length_set]; exact h.q3, h.few⟩
  · rw [List.length_set]
    exact own_keep h.oL fun g e => hc.block g (h.oL.lt g e).2 (fun e' => b3 (e' ▸ e))
  · obtain ⟨c1, c2, c3, c4, c5, c6, c7⟩ := h.hq i q' hi
    by_cases e : i = n
    · subst e
      obtain rfl : q' = q := by rw [hi] at hq; injection hq
      have e2 : (L.set i l').getD i [] = l' := by simp [List.getD, hn]
      rw [e2]
      exact ⟨c1, c2, c3, c4, hh, hl, hw⟩
    · have hqq : q' ≠ q := fun e' => by
        subst e'
        have i1 : i < qs.length := (List.getElem?_eq_some_iff.1 hi).1
        have i2 : n < qs.length := (List.getElem?_eq_some_iff.1 hq).1
        exact e ((List.getElem_inj h.nd).1 (((List.getElem?_eq_some_iff.1 hi).2).trans ((List.getElem?_eq_some_iff.1 hq).2).symm))
      have e2 : (L.set n l').getD i [] = L.getD i [] := by simp [List.getD, show ¬ n = i from fun h => e h.symm]
      rw [e2]
      exact ⟨c1, c2, c3, c4, (hc.block q' (lt_of_some c5) hqq).trans c5, c6, c7⟩
  · obtain ⟨c1, q', c, c2, c3, c4, c5, c6, c7, c8, c9, c10⟩ := hx2 k x hk
    have hqq : q' ≠ q := fun e => c6 (e ▸ hqm)
    exact ⟨c1, q', c, c2, c3, c4, c5, c6, c7, c8, by omega, fun i hi => (World.cell?_of_block (w := w) (a := ⟨q', i, none⟩) (hc.block q' c9 hqq)).trans (c10 i hi)⟩
  · obtain ⟨ao, m, c, e, e1, e2, e3⟩ := h.ke
    refine ⟨ao, m, c, e, e1, e2, ?_⟩
    rcases e3 with e3 | ⟨g, off, g1, g2, g3, g4, g5, g6, g7, g8⟩
    · exact .inl e3
    · exact .inr ⟨g, off, g1, g2, g3, g4, g5, g6, by omega, fun i hi => (World.cell?_of_block (w := w) (a := ⟨g, off + i, none⟩) (hc.block g g7 (fun e' => g4 (e' ▸ hqm)))).trans (g8 i hi)⟩

/-- How many bytes of the write i are laid, by the document: whether it stands among the first j kept ones. -/
def kpR (page i : Nat) (ks : List Int) : Nat → Int
  | 0 => 0
  | j + 1 => if ks.getD j 0 = (i : Int) then (page : Int) else kpR page i ks j
def amR (page i : Nat) (ks : List Int) (tn ta : Int) : Int := if tn = (i : Int) then ta else kpR page i ks ks.length
/-- .. as a number of bytes. -/
def stR (page : Nat) (ks : List Int) (tn ta : Int) (i : Nat) : Nat := (min (max (amR page i ks tn ta) 0) page).toNat
/-- The pages behind the first k writes of a fall. -/
def layR (wild : List (Nat × List Int)) (st : Nat → Nat) (L : List (List Int)) : Nat → List (List Int)
  | 0 => L
  | k + 1 => (layR wild st L k).set (wild.getD k (0, [])).1 ((wild.getD k (0, [])).2.take (st k) ++ ((layR wild st L k).getD (wild.getD k (0, [])).1 []).drop (st k))
def R.fallen (r : R) (ks : List Int) (tn ta : Int) : R := { r with L := layR r.wild (stR r.page ks tn ta) r.L r.wild.length, wild := [], down := true, armed := false }
set_option maxRecDepth 100000 in
theorem layR_len (wild : List (Nat × List Int)) (st : Nat → Nat) (L : List (List Int)) : ∀ k, (layR wild st L k).length = L.length
  | 0 => rfl
  | k + 1 => by simp [layR, layR_len wild st L k]

set_option maxRecDepth 100000 in
theorem Rv.unwild {w : World} {F : Nat → Prop} {a : Nat} {r : R} (h : Rv w F a r) : Rv (w.setCell ⟨a, 2, none⟩ (.slice none 0 0)) F a { r with wild := [] } := by
  obtain ⟨vL, vW, vK, qs, ha, hr⟩ := h
  have hr' := hr.self (lt_of_some ha) 2 (.slice none 0 0)
  have e : ∀ g : Nat, (Value.slice none 0 0).ownBlock ≠ some g := fun g hg => by simp [Value.ownBlock] at hg
  refine ⟨vL, .slice none 0 0, vK, qs, heap_setCell_self ha, hr'.fa, hr'.oL, hr'.nq, hr'.nd, fun i q hi => ?_, fun g hg => ⟨(hr'.bL g hg).1, (hr'.bL g hg).2.1, e g⟩, fun g hg => absurd hg (e g), ⟨[], World.ownsRow_nil _ _ _ _, fun k x hx => by simp at hx⟩, fun x hx => by simp at hx, ?_, hr'.p1, hr'.p2, hr'.q1, hr'.q2, hr'.q3, by simp⟩
  · obtain ⟨b1, b2, b3, b4, b5⟩ := hr'.hq i q hi
    exact ⟨b1, b2, b3, e q, b5⟩
  · obtain ⟨ao, n, c, e0, e1, e2, e3⟩ := hr'.ke
    refine ⟨ao, n, c, e0, e1, e2, ?_⟩
    rcases e3 with e3 | ⟨g, off, g1, g2, g3, g4, g5, g6, g7, g8⟩
    · exact .inl e3
    · exact .inr ⟨g, off, g1, g2, g3, g4, g5, e g, g7, g8⟩
set_option maxRecDepth 100000 in
theorem Rv.set3 {w : World} {F : Nat → Prop} {a : Nat} {r : R} (h : Rv w F a r) (x : Bool) : Rv (w.setCell ⟨a, 3, none⟩ (.bool x)) F a { r with down := x } := by
  obtain ⟨vL, vW, vK, qs, ha, hr⟩ := h
  exact ⟨vL, vW, vK, qs, heap_setCell_self ha, hr.self (lt_of_some ha) 3 _⟩
set_option maxRecDepth 100000 in
theorem Rv.set4 {w : World} {F : Nat → Prop} {a : Nat} {r : R} (h : Rv w F a r) (x : Bool) : Rv (w.setCell ⟨a, 4, none⟩ (.bool x)) F a { r with armed := x } := by
  obtain ⟨vL, vW, vK, qs, ha, hr⟩ := h
  exact ⟨vL, vW, vK, qs, heap_setCell_self ha, hr.self (lt_of_some ha) 4 _⟩
end Go.Proofs.Ytikpfcapnpppdaa
