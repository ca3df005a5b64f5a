/- Read. -/
import Derived.Test.YtbnjojplfbibkaaGreatDoorPl5
namespace Go.Proofs.YtbnjojplfbibkaaGreatDoor
open Go.RowKit

set_option maxRecDepth 100000 in
/-- A copy into a row that is known whole, the new world told. -/
theorem copy_row {P : Program} {w : World} {ops : Array Oper} {rest : List Oper} {o : Oper} {a : Act} {Q : Exit → Act → World → Prop} (hgd : o.guard = none) (d s : Operand) (dT sT : TypeId)
    (ho : o.op = .call { callee := .builtin .copy, args := #[d, s], argTypes := #[dT, sT] }) (elem : TypeId) (hu : P.underlying dT = some (.slice elem)) (hsz : (P.info? elem).map (·.size) = some 1)
    (g off dLen dCap : Nat) (ad : Addr) (sLen sCap : Nat) (hd : a.eval d = .slice (some ⟨g, off, none⟩) dLen dCap) (hs : a.eval s = .slice (some ad) sLen sCap)
    (cur : List Value) (t : TypeId) (hg : w.heap[g]? = some (.cells cur.toArray t (0, 0))) (cs : List Value) (hn : cs.length = Nat.min sLen dLen)
    (hsrc : ∀ j v, cs[j]? = some v → w.cell? (ad.add j) = some v) (hfit : off + cs.length ≤ cur.length) (h1 : ∀ v ∈ cs, v.oneCell' = true)
    (h : ∀ u, Hid (u = w.setRow g (splice cur off cs).toArray) → wpList P ops Q rest (a.put o.dst (goInt cs.length)) u) : wpList P ops Q (o :: rest) a w := by
  by_cases h0 : cs.length = 0
  · have e : cs = [] := List.eq_nil_of_length_eq_zero h0
    refine wpList_copy_nothing hgd d s dT sT ho elem hu hsz _ _ dLen dCap sLen sCap hd hs (by omega) ?_
    have := h w (hidden ?_)
    · rw [h0] at this; exact this
    · rw [e, show splice cur off [] = cur from by simp [splice]]
      exact (setRow_self w g _ t _ hg).symm
  · exact wpList_copy_own hgd d s dT sT ho elem hu hsz g off dLen dCap ad sLen sCap hd hs cur.toArray t hg cs hn hsrc (by simpa using hfit) h1 (h _ (hidden (by simp [splice])))

set_option maxRecDepth 100000 in
theorem splice_all {α : Type} (cur cs : List α) (h : cs.length = cur.length) : splice cur 0 cs = cs := by simp [splice, h]

set_option maxRecDepth 100000 in
theorem Dv.set5 {w : World} {F : Nat → Prop} {a : Nat} {d : D} (h : Dv w F a d) (x : Int) : Dv (w.setCell ⟨a, 5, none⟩ (.int .i64 x)) F a { d with cr := x } := by
  obtain ⟨bs, bl, vL, vK, ha, hr⟩ := h
  exact ⟨bs, bl, vL, vK, heap_setCell_self ha, hr.self (lt_of_some ha) 5 _⟩
set_option maxRecDepth 100000 in
theorem Dv.set6 {w : World} {F : Nat → Prop} {a : Nat} {d : D} (h : Dv w F a d) (x : Int) : Dv (w.setCell ⟨a, 6, none⟩ (.int .i64 x)) F a { d with cw := x } := by
  obtain ⟨bs, bl, vL, vK, ha, hr⟩ := h
  exact ⟨bs, bl, vL, vK, heap_setCell_self ha, hr.self (lt_of_some ha) 6 _⟩
set_option maxRecDepth 100000 in
theorem Dv.set7 {w : World} {F : Nat → Prop} {a : Nat} {d : D} (h : Dv w F a d) (x : Int) : Dv (w.setCell ⟨a, 7, none⟩ (.int .i64 x)) F a { d with cs := x } := by
  obtain ⟨bs, bl, vL, vK, ha, hr⟩ := h
  exact ⟨bs, bl, vL, vK, heap_setCell_self ha, hr.self (lt_of_some ha) 7 _⟩
set_option maxRecDepth 100000 in
theorem Dv.fa {w : World} {F : Nat → Prop} {a : Nat} {d : D} (h : Dv w F a d) : F a := by
  obtain ⟨bs, bl, vL, vK, ha, hr⟩ := h
  exact hr.fa
set_option maxRecDepth 100000 in
theorem Dv.dr {w : World} {F : Nat → Prop} {a : Nat} {d : D} (h : Dv w F a d) : Dv w.drew F a d := h.keep (fun _ f _ => f) (Nat.le_refl _) fun _ _ _ => rfl

set_option maxRecDepth 100000 in
theorem Rest.rdlen {w : World} {F : Nat → Prop} {a : Nat} {d : D} {bs bl : Nat} {vL vK : Value} (h : Rest w F a d.page d.pages d.safe d.loose d.last d.keep bs bl vL vK) {n : Nat} (hn : n < d.pages) : (rd d n).length = d.page ∧ Wf (rd d n) := by
  obtain ⟨h1, h2, h3⟩ := h.lst n hn
  unfold rd
  split
  · rename_i hp
    obtain ⟨g, c', q, e, _, _, _, _, _, _, _, _, _, _, _, _, _, _, _, h6, h7⟩ := h.lo.item (k := (d.last.getD n 0).toNat - 1) (by omega)
    exact ⟨h6, h7⟩
  · refine ⟨?_, (h.ws.drop _).take _⟩
    have hx : n * d.page + d.page ≤ d.page * d.pages := by
      rw [Nat.mul_comm d.page d.pages, ← Nat.succ_mul]; exact Nat.mul_le_mul_right _ hn
    simp [h.ns]
    omega

end Go.Proofs.YtbnjojplfbibkaaGreatDoor
