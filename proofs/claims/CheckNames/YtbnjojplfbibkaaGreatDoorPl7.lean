/- The power that is not armed; Write. -/
import Derived.Test.YtbnjojplfbibkaaGreatDoorPl6
import Derived.Maps.AppendAt
namespace Go.Proofs.YtbnjojplfbibkaaGreatDoor
open Go.RowKit

/-- A write more. -/
def D.wrote (d : D) (n : Nat) (b : List Int) : D := { d with loose := d.loose ++ [(n, b)], last := d.last.set n (d.loose.length + 1), cw := d.cw + 1 }

set_option maxRecDepth 100000 in
theorem infoW : (Tryz.prog.info? 267).map (fun i => (i.zero, i.size, i.bytes)) = some (some (.agg #[.int .i64 0, .slice none 0 0]), 2, 32) := by kernel_rfl

set_option maxRecDepth 100000 in
theorem app_w {ops : Array Oper} {rest : List Oper} {o : Oper} {a : Act} {Q : Exit → Act → World → Prop} (w : World) (hgd : o.guard = none) (s x : Operand)
    (ho : o.op = .call { callee := .builtin .append, args := #[s, x], argTypes := #[94, 94] }) (v : Value) (n : Nat) (xs : List Value) (hs : a.eval s = v)
    (hown : w.ownsRow 0 267 2 v n xs) (g q p : Nat) (k : Int) (hx : a.eval x = .slice (some ⟨g, 0, none⟩) 1 1) (c0 : w.cell? ⟨g, 0, none⟩ = some (.int .i64 k)) (c1 : w.cell? ⟨g, 1, none⟩ = some (.slice (some ⟨q, 0, none⟩) p p)) (hb : n < 4398046511103)
    (h : ∀ v' w', w'.ownsRow 0 267 2 v' (n + 1) (xs ++ [.int .i64 k, .slice (some ⟨q, 0, none⟩) p p]) → w.grownBy w' v.ownBlock → (v'.ownBlock = v.ownBlock ∨ v'.ownBlock = some w.heap.size) → wpList Tryz.prog ops Q rest (a.put o.dst v') w') : wpList Tryz.prog ops Q (o :: rest) a w := by
  obtain ⟨i0, hi, hz0, hz1, hz2⟩ := info_parts infoW
  refine wpList_append_own_at w hgd s x 94 ho 0 267 i0 _ 2 32 Tryz.underlying94 hi hz0 hz1 hz2 rfl (by decide) v n xs hs hown ⟨g, 0, none⟩ 1 1 [.int .i64 k, .slice (some ⟨q, 0, none⟩) p p] hx rfl
    (fun j u hu => by
      match j, hu with
      | 0, hu => simp at hu; subst hu; simpa [Addr.add] using c0
      | 1, hu => simp at hu; subst hu; simpa [Addr.add] using c1
      | j + 2, hu => simp at hu) (fun u hu => by simp at hu; rcases hu with rfl | rfl <;> rfl) (by unfold maxLen; omega) (by omega) (Nat.zero_le _) ?_
  intro v' w' h1 h2 _ h3
  exact h v' w' h1 h2 h3

set_option maxRecDepth 100000 in
theorem getD_snoc {α : Type} (l : List α) (x z : α) (k : Nat) : (l ++ [x]).getD k z = if k = l.length then x else l.getD k z := by
  simp only [List.getD, List.getElem?_append]
  by_cases h : k < l.length
  · rw [if_pos h, if_neg (by omega)]
  · rw [if_neg h]
    by_cases e : k = l.length
    · rw [if_pos e, e]; simp
    · rw [if_neg e, List.getElem?_eq_none (by simp; omega), List.getElem?_eq_none (by omega)]

set_option maxRecDepth 100000 in
theorem wrote_dv {w u3 w4 W : World} {F : Nat → Prop} {a bs bl n q : Nat} {vL vK v' : Value} {d : D} {l : List Int} {xs : List Value} {o : Obj} (ha : u3.heap[a]? = some (.cells (row { d with cw := d.cw + 1 } bs bl vL vK).toArray 99 (0, 0))) (hr : Rest u3 F a d.page d.pages d.safe d.loose d.last d.keep bs bl vL vK)
    (ho : u3.ownsRow 0 267 2 vL d.loose.length xs) (hk : ∀ k x, d.loose[k]? = some x → xs[2 * k]? = some (.int .i64 (x.1 : Int)) ∧ ∃ q, xs[2 * k + 1]? = some (.slice (some ⟨q, 0, none⟩) d.page d.page) ∧ F q ∧ q ≠ a ∧ q ≠ bs ∧ q ≠ bl ∧ vL.ownBlock ≠ some q ∧ u3.heap[q]? = some (.cells (By x.2).toArray 5 (0, 0)))
    (hq : u3.heap[q]? = some (.cells (By l).toArray 5 (0, 0))) (hqw : q = w.heap.size) (hF : ∀ k, F k → k < w.heap.size) (hn : n < d.pages) (hl : l.length = d.page) (hw : Wf l) (hfew : d.loose.length < 4398046511103)
    (ho4 : w4.ownsRow 0 267 2 v' (d.loose.length + 1) (xs ++ [.int .i64 (n : Int), .slice (some ⟨q, 0, none⟩) d.page d.page])) (hg4 : (u3.alloc o).grownBy w4 vL.ownBlock) (hv : v'.ownBlock = vL.ownBlock ∨ v'.ownBlock = some (u3.alloc o).heap.size) (hwu : w.heap.size ≤ u3.heap.size)
    (hW : W = ((w4.setCell ⟨a, 3, none⟩ v').setCell ⟨bl, n, none⟩ (.int .i64 ((d.loose.length : Int) + 1))).drew) : Dv W (fun k => F k ∨ (w.heap.size ≤ k ∧ k < W.heap.size)) a (d.wrote n l) := by
  have hqF : ¬ F q := fun h => by have := hF q h; omega
  have hsA : (u3.alloc o).heap.size = u3.heap.size + 1 := by simp
  have hWs : W.heap.size = w4.heap.size := by rw [hW]; simp [World.setCell, World.drew]
  have hz4 : u3.heap.size + 1 ≤ w4.heap.size := by have := hg4.size; omega
  -- blocks that stay
  have keep : ∀ k, k < u3.heap.size → vL.ownBlock ≠ some k → k ≠ a → k ≠ bl → W.heap[k]? = u3.heap[k]? := by
    intro k h1 h2 h3 h4
    rw [hW]
    show ((w4.setCell ⟨a, 3, none⟩ v').setCell ⟨bl, n, none⟩ (.int .i64 ((d.loose.length : Int) + 1))).heap[k]? = _
    rw [Below.heap_setCell _ _ _ _ h4, Below.heap_setCell _ _ _ _ h3, hg4.block k (by omega) (fun e => h2 e.symm), Below.heap_alloc _ _ _ h1]
  have hoa := hr.lo.own
  have own_ne : ∀ k, (k = a ∨ k = bs ∨ k = bl) → vL.ownBlock ≠ some k := by
    intro k hk' e
    obtain ⟨_, e1, e2, e3⟩ := hoa k e
    rcases hk' with h | h | h
    · exact e1 h
    · exact e2 h
    · exact e3 h
  have hal := lt_of_some ha
  have hbl := lt_of_some hr.hl
  have hbs := lt_of_some hr.hs
  have hA4 : w4.heap[a]? = u3.heap[a]? := by rw [hg4.block a (by omega) (fun e => own_ne a (.inl rfl) e.symm), Below.heap_alloc _ _ _ hal]
  have hB4 : w4.heap[bl]? = u3.heap[bl]? := by rw [hg4.block bl (by omega) (fun e => own_ne bl (.inr (.inr rfl)) e.symm), Below.heap_alloc _ _ _ hbl]
  have hvb : ∀ g, g < u3.heap.size → vL.ownBlock ≠ some g → v'.ownBlock ≠ some g := by
    intro g h1 h2 e
    rcases hv with h | h
    · exact h2 (h ▸ e)
    · rw [h] at e
      injection e with e
      omega
  have hvlt : ∀ g, v'.ownBlock = some g → g < w4.heap.size := fun g hg => (ho4.lt g hg).2
  refine ⟨bs, bl, v', vK, ?_, .inl hr.fa, .inl hr.fs, .inl hr.fl, hr.n1, hr.n2, hr.n3, (keep bs hbs (own_ne bs (.inr (.inl rfl))) hr.n1 (Ne.symm hr.n3)).trans hr.hs, ?_, hr.ns, ?_, hr.ws, hr.p1, hr.p2, hr.q1, hr.q2, hr.q3, ?_, ?_, ?_, ?_⟩
  · rw [hW]
    show ((w4.setCell ⟨a, 3, none⟩ v').setCell ⟨bl, n, none⟩ (.int .i64 ((d.loose.length : Int) + 1))).heap[a]? = _
    rw [Below.heap_setCell _ _ _ _ (show a ≠ bl from Ne.symm hr.n2)]
    exact heap_setCell_self (hA4.trans ha)
  · rw [hW]
    show ((w4.setCell ⟨a, 3, none⟩ v').setCell ⟨bl, n, none⟩ (.int .i64 ((d.loose.length : Int) + 1))).heap[bl]? = _
    have e1 : (w4.setCell ⟨a, 3, none⟩ v').heap[bl]? = some (.cells (In d.last).toArray 3 (0, 0)) := by
      rw [Below.heap_setCell _ _ _ _ (show bl ≠ a from hr.n2), hB4]; exact hr.hl
    rw [heap_setCell_self e1, In_set]
    rfl
  · simp [D.wrote, hr.nl]
  · -- the loose writes
    have hlen : xs.length = d.loose.length * 2 := ho.1
    refine ⟨⟨xs ++ [.int .i64 (n : Int), .slice (some ⟨q, 0, none⟩) d.page d.page], ?_, ?_⟩, ?_, ?_⟩
    · rw [show (d.wrote n l).loose.length = d.loose.length + 1 from by simp [D.wrote]]
      refine ⟨ho4.1, ?_⟩
      rcases ho4.2 with ⟨_, h0⟩ | ⟨g, cap, cur, rfl, h1, h2, h3⟩
      · omega
      · refine .inr ⟨g, cap, cur, rfl, h1, ?_, h3⟩
        have g1 : g ≠ a := fun e => hvb a hal (own_ne a (.inl rfl)) (by rw [← e]; rfl)
        have g2 : g ≠ bl := fun e => hvb bl hbl (own_ne bl (.inr (.inr rfl))) (by rw [← e]; rfl)
        rw [hW]
        show ((w4.setCell ⟨a, 3, none⟩ _).setCell ⟨bl, n, none⟩ (.int .i64 ((d.loose.length : Int) + 1))).heap[g]? = _
        rw [Below.heap_setCell _ _ _ _ g2, Below.heap_setCell _ _ _ _ g1]
        exact h2
    · intro k x hx
      by_cases hkl : k < d.loose.length
      · have hx' : d.loose[k]? = some x := by
          simpa [D.wrote, List.getElem?_append_left hkl] using hx
        obtain ⟨h1, q', h2, h3, h4, h5, h6, h7, h8⟩ := hk k x hx'
        refine ⟨by rw [List.getElem?_append_left (by omega)]; exact h1, q', by rw [List.getElem?_append_left (by omega)]; exact h2, .inl h3, h4, h5, h6, hvb q' (lt_of_some h8) h7, (keep q' (lt_of_some h8) h7 h4 h6).trans h8⟩
      · have hke : k = d.loose.length := by
          have := (List.getElem?_eq_some_iff.1 hx).1
          simp [D.wrote] at this
          omega
        subst hke
        have hxe : x = (n, l) := by simpa [D.wrote] using hx.symm
        subst hxe
        have qa : q ≠ a := fun e => hqF (e ▸ hr.fa)
        have qs : q ≠ bs := fun e => hqF (e ▸ hr.fs)
        have ql : q ≠ bl := fun e => hqF (e ▸ hr.fl)
        have qv : vL.ownBlock ≠ some q := fun e => hqF (hoa q e).1
        have hql := lt_of_some hq
        refine ⟨?_, q, ?_, .inr ⟨by omega, by omega⟩, qa, qs, ql, hvb q hql qv, (keep q hql qv qa ql).trans hq⟩
        · rw [List.getElem?_append_right (by omega), show 2 * d.loose.length - xs.length = 0 by omega]; rfl
        · rw [List.getElem?_append_right (by omega), show 2 * d.loose.length + 1 - xs.length = 1 by omega]; rfl
    · intro g hg
      have hlt := hvlt g hg
      rcases hv with h | h
      · obtain ⟨f1, f2⟩ := hoa g (h ▸ hg)
        exact ⟨.inl f1, f2⟩
      · rw [hg] at h
        injection h with h
        exact ⟨.inr ⟨by omega, by omega⟩, by omega, by omega, by omega⟩
    · intro x hx
      simp only [D.wrote, List.mem_append, List.mem_singleton] at hx
      rcases hx with hx | rfl
      · exact hr.lo.all x hx
      · exact ⟨hn, hl, hw⟩
  · exact hr.ke.keep (fun k f _ => .inl f) (by omega) hvb fun k f1 f2 f3 f4 f5 f6 => keep k f6 f5 f2 f4
  · intro m hm
    obtain ⟨l1, l2, l3⟩ := hr.lst m hm
    have hnl := hr.nl
    simp only [D.wrote] at hm ⊢
    rw [show (d.loose ++ [(n, l)]).length = d.loose.length + 1 from by simp]
    by_cases e : m = n
    · have e' : (d.last.set n ((d.loose.length : Int) + 1)).getD m 0 = (d.loose.length : Int) + 1 := by
        subst e
        simp [List.getD, show m < d.last.length by omega]
      rw [e', getD_snoc]
      exact ⟨by omega, by omega, fun _ => by rw [if_pos (by omega)]; exact e.symm⟩
    · have e' : (d.last.set n ((d.loose.length : Int) + 1)).getD m 0 = d.last.getD m 0 := by
        simp [List.getD, show ¬ n = m from fun h => e h.symm]
      rw [e', getD_snoc]
      exact ⟨l1, by omega, fun h => by rw [if_neg (by omega)]; exact l3 h⟩
  · simp only [D.wrote, List.length_append, List.length_singleton]
    omega

end Go.Proofs.YtbnjojplfbibkaaGreatDoor
