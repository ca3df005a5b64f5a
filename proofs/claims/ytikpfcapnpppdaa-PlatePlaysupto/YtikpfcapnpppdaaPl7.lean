/- The power that is not armed; Write. -/
import Derived.Test.YtikpfcapnpppdaaPl6
import Derived.Maps.AppendAt
namespace Go.Proofs.Ytikpfcapnpppdaa
open Go.RowKit

set_option maxRecDepth 100000 in
theorem fails_not (w : World) (F : Nat → Prop) (a : Nat) (d : D) (h : Dv w F a d) (hd : d.armed = false) : Calls Try.prog 44 #[.pointer (some ⟨a, 0, none⟩)] w fun e w' => e = .returned (.bool false) ∧ w' = w := by
  obtain ⟨bs, bl, vL, vK, hc, hf, hr, ha⟩ := h.c
  have c9 : w.cell? ⟨a, 9, none⟩ = some (.bool d.armed) := hc 9
  rw [hd] at c9
  clear hc hf hr ha h
  go_enter Try.func44, Try.ntmps44
  go_wp2
  go_ret
  exact ⟨rfl, rfl⟩

/-- A write more. -/
def D.wrote (d : D) (n : Nat) (b : List Int) : D := { d with loose := d.loose ++ [(n, b)], last := d.last.set n (d.loose.length + 1), cw := d.cw + 1 }

set_option maxRecDepth 100000 in
theorem infoW : (Try.prog.info? 71).map (fun i => (i.zero, i.size, i.bytes)) = some (some (.agg #[.int .i64 0, .slice none 0 0]), 2, 32) := by kernel_rfl

set_option maxRecDepth 100000 in
theorem Write_no (w : World) (F : Nat → Prop) (a : Nat) (d : D) (n : Int) (ao : Option Addr) (m c : Nat) (h : Dv w F a d) (e : Int) (he : refu d n = e) (h0 : e ≠ 0) : Calls Try.prog 16 #[.pointer (some ⟨a, 0, none⟩), .int .i64 n, .slice ao m c] w fun e' w' => e' = .returned (.int .i64 e) ∧ w' = w := by
  have hc := refuses_any w F a d n h
  rw [he] at hc
  clear he h
  go_enter Try.func16, Try.ntmps16
  go_wp2_with (go_at_call 43; refine same_call hc ?_)
  go_ret
  exact ⟨rfl, rfl⟩
set_option maxRecDepth 100000 in
theorem Write_size (w : World) (F : Nat → Prop) (a : Nat) (d : D) (n : Int) (ao : Option Addr) (m c : Nat) (h : Dv w F a d) (he : refu d n = 0) (h0 : m ≠ d.page) : Calls Try.prog 16 #[.pointer (some ⟨a, 0, none⟩), .int .i64 n, .slice ao m c] w fun e' w' => e' = .returned (.int .i64 31) ∧ w' = w := by
  have hc := refuses_any w F a d n h
  rw [he] at hc
  obtain ⟨bs, bl, vL, vK, hc', hf, hr, ha⟩ := h.c
  have c0 : w.cell? ⟨a, 0, none⟩ = some (.int .i64 d.page) := hc' 0
  clear he h hf hr ha hc'
  go_enter Try.func16, Try.ntmps16
  go_wp2_with (go_at_call 43; refine same_call hc ?_)
  go_ret
  exact ⟨rfl, rfl⟩

set_option maxRecDepth 100000 in
theorem app_w {ops : Array Oper} {rest : List Oper} {o : Oper} {a : Act} {Q : Exit → Act → World → Prop} (w : World) (hgd : o.guard = none) (s x : Operand)
    (ho : o.op = .call { callee := .builtin .append, args := #[s, x], argTypes := #[51, 51] }) (v : Value) (n : Nat) (xs : List Value) (hs : a.eval s = v)
    (hown : w.ownsRow 0 71 2 v n xs) (g q p : Nat) (k : Int) (hx : a.eval x = .slice (some ⟨g, 0, none⟩) 1 1) (c0 : w.cell? ⟨g, 0, none⟩ = some (.int .i64 k)) (c1 : w.cell? ⟨g, 1, none⟩ = some (.slice (some ⟨q, 0, none⟩) p p)) (hb : n < 4398046511103)
    (h : ∀ v' w', w'.ownsRow 0 71 2 v' (n + 1) (xs ++ [.int .i64 k, .slice (some ⟨q, 0, none⟩) p p]) → w.grownBy w' v.ownBlock → (v'.ownBlock = v.ownBlock ∨ v'.ownBlock = some w.heap.size) → wpList Try.prog ops Q rest (a.put o.dst v') w') : wpList Try.prog ops Q (o :: rest) a w := by
  obtain ⟨i0, hi, hz0, hz1, hz2⟩ := info_parts infoW
  refine wpList_append_own_at w hgd s x 51 ho 0 71 i0 _ 2 32 Try.underlying51 hi hz0 hz1 hz2 rfl (by decide) v n xs hs hown ⟨g, 0, none⟩ 1 1 [.int .i64 k, .slice (some ⟨q, 0, none⟩) p p] hx rfl
    (fun j u hu => by
      match j, hu with
      | 0, hu => simp at hu; subst hu; simpa [Addr.add] using c0
      | 1, hu => simp at hu; subst hu; simpa [Addr.add] using c1
      | j + 2, hu => simp at hu) (fun u hu => by simp at hu; rcases hu with rfl | rfl <;> rfl) (by unfold maxLen; omega) (by omega) (Nat.zero_le _) ?_
  intro v' w' h1 h2 _ h3
  exact h v' w' h1 h2 h3

set_option maxRecDepth 100000 in
theorem getD_snoc {α : Type} (l : List α) (x z : α) (k : Nat) : (l ++ [x]).getD k z = if k = l.length then x else l.getD k z := by
  simp only [List.getD, List.getElem?_append]
  by_cases h : k < l.length
  · rw [if_pos h, if_neg (by omega)]
  · rw [if_neg h]
    by_cases e : k = l.length
    · rw [if_pos e, e]; simp
    · rw [if_neg e, List.getElem?_eq_none (by simp; omega), List.getElem?_eq_none (by omega)]

set_option maxRecDepth 100000 in
theorem wrote_dv {w u3 w4 W : World} {F : Nat → Prop} {a bs bl n q : Nat} {vL vK v' : Value} {d : D} {l : List Int} {xs : List Value} {o : Obj} (ha : u3.heap[a]? = some (.cells (row { d with cw := d.cw + 1 } bs bl vL vK).toArray 54 (0, 0))) (hr : Rest u3 F a d.page d.pages d.safe d.loose d.last d.keep bs bl vL vK)
    (ho : u3.ownsRow 0 71 2 vL d.loose.length xs) (hk : ∀ k x, d.loose[k]? = some x → xs[2 * k]? = some (.int .i64 (x.1 : Int)) ∧ ∃ q, xs[2 * k + 1]? = some (.slice (some ⟨q, 0, none⟩) d.page d.page) ∧ F q ∧ q ≠ a ∧ q ≠ bs ∧ q ≠ bl ∧ vL.ownBlock ≠ some q ∧ u3.heap[q]? = some (.cells (By x.2).toArray 5 (0, 0)))
    (hq : u3.heap[q]? = some (.cells (By l).toArray 5 (0, 0))) (hqw : q = w.heap.size) (hF : ∀ k, F k → k < w.heap.size) (hn : n < d.pages) (hl : l.length = d.page) (hw : Wf l) (hfew : d.loose.length < 4398046511103)
    (ho4 : w4.ownsRow 0 71 2 v' (d.loose.length + 1) (xs ++ [.int .i64 (n : Int), .slice (some ⟨q, 0, none⟩) d.page d.page])) (hg4 : (u3.alloc o).grownBy w4 vL.ownBlock) (hv : v'.ownBlock = vL.ownBlock ∨ v'.ownBlock = some (u3.alloc o).heap.size) (hwu : w.heap.size ≤ u3.heap.size)
    (hW : W = ((w4.setCell ⟨a, 3, none⟩ v').setCell ⟨bl, n, none⟩ (.int .i64 ((d.loose.length : Int) + 1))).drew) : Dv W (fun k => F k ∨ (w.heap.size ≤ k ∧ k < W.heap.size)) a (d.wrote n l) := by
  have hqF : ¬ F q := fun h => by have := hF q h; omega
  have hsA : (u3.alloc o).heap.size = u3.heap.size + 1 := by simp
  have hWs : W.heap.size = w4.heap.size := by rw [hW]; simp [World.setCell, World.drew]
  have hz4 : u3.heap.size + 1 ≤ w4.heap.size := by have := hg4.size; omega
  -- blocks that stay
  have keep : ∀ k, k < u3.heap.size → vL.ownBlock ≠ some k → k ≠ a → k ≠ bl → W.heap[k]? = u3.heap[k]? := by
    intro k h1 h2 h3 h4
    rw [hW]
    show ((w4.setCell ⟨a, 3, none⟩ v').setCell ⟨bl, n, none⟩ (.int .i64 ((d.loose.length : Int) + 1))).heap[k]? = _
    rw [Below.heap_setCell _ _ _ _ h4, Below.heap_setCell _ _ _ _ h3, hg4.block k (by omega) (fun e => h2 e.symm), Below.heap_alloc _ _ _ h1]
  have hoa := hr.lo.own
  have own_ne : ∀ k, (k = a ∨ k = bs ∨ k = bl) → vL.ownBlock ≠ some k := by
    intro k hk' e
    obtain ⟨_, e1, e2, e3⟩ := hoa k e
    rcases hk' with h | h | h
    · exact e1 h
    · exact e2 h
    · exact e3 h
  have hal := lt_of_some ha
  have hbl := lt_of_some hr.hl
  have hbs := lt_of_some hr.hs
  have hA4 : w4.heap[a]? = u3.heap[a]? := by rw [hg4.block a (by omega) (fun e => own_ne a (.inl rfl) e.symm), Below.heap_alloc _ _ _ hal]
  have hB4 : w4.heap[bl]? = u3.heap[bl]? := by rw [hg4.block bl (by omega) (fun e => own_ne bl (.inr (.inr rfl)) e.symm), Below.heap_alloc _ _ _ hbl]
  have hvb : ∀ g, g < u3.heap.size → vL.ownBlock ≠ some g → v'.ownBlock ≠ some g := by
    intro g h1 h2 e
    rcases hv with h | h
    · exact h2 (h ▸ e)
    · rw [h] at e
      injection e with e
      omega
  have hvlt : ∀ g, v'.ownBlock = some g → g < w4.heap.size := fun g hg => (ho4.lt g hg).2
  refine ⟨bs, bl, v', vK, ?_, .inl hr.fa, .inl hr.fs, .inl hr.fl, hr.n1, hr.n2, hr.n3, (keep bs hbs (own_ne bs (.inr (.inl rfl))) hr.n1 (Ne.symm hr.n3)).trans hr.hs, ?_, hr.ns, ?_, hr.ws, hr.p1, hr.p2, hr.q1, hr.q2, hr.q3, ?_, ?_, ?_, ?_⟩
  · rw [hW]
    show ((w4.setCell ⟨a, 3, none⟩ v').setCell ⟨bl, n, none⟩ (.int .i64 ((d.loose.length : Int) + 1))).heap[a]? = _
    rw [Below.heap_setCell _ _ _ _ (show a ≠ bl from Ne.symm hr.n2)]
    exact heap_setCell_self (hA4.trans ha)
  · rw [hW]
    show ((w4.setCell ⟨a, 3, none⟩ v').setCell ⟨bl, n, none⟩ (.int .i64 ((d.loose.length : Int) + 1))).heap[bl]? = _
    have e1 : (w4.setCell ⟨a, 3, none⟩ v').heap[bl]? = some (.cells (In d.last).toArray 3 (0, 0)) := by
      rw [Below.heap_setCell _ _ _ _ (show bl ≠ a from hr.n2), hB4]; exact hr.hl
    rw [heap_setCell_self e1, In_set]
    rfl
  · simp [D.wrote, hr.nl]
  · -- the loose writes
    have hlen : xs.length = d.loose.length * 2 := ho.1
    refine ⟨⟨xs ++ [.int .i64 (n : Int), .slice (some ⟨q, 0, none⟩) d.page d.page], ?_, ?_⟩, ?_, ?_⟩
    · rw [show (d.wrote n l).loose.length = d.loose.length + 1 from by simp [D.wrote]]
      refine ⟨ho4.1, ?_⟩
      rcases ho4.2 with ⟨_, h0⟩ | ⟨g, cap, cur, rfl, h1, h2, h3⟩
      · omega
      · refine .inr ⟨g, cap, cur, rfl, h1, ?_, h3⟩
        have g1 : g ≠ a := fun e => hvb a hal (own_ne a (.inl rfl)) (by rw [← e]; rfl)
        have g2 : g ≠ bl := fun e => hvb bl hbl (own_ne bl (.inr (.inr rfl))) (by rw [← e]; rfl)
        rw [hW]
        show ((w4.setCell ⟨a, 3, none⟩ _).setCell ⟨bl, n, none⟩ (.int .i64 ((d.loose.length : Int) + 1))).heap[g]? = _
        rw [Below.heap_setCell _ _ _ _ g2, Below.heap_setCell _ _ _ _ g1]
        exact h2
    · intro k x hx
      by_cases hkl : k < d.loose.length
      · have hx' : d.loose[k]? = some x := by
          simpa [D.wrote, List.getElem?_append_left hkl] using hx
        obtain ⟨h1, q', h2, h3, h4, h5, h6, h7, h8⟩ := hk k x hx'
        refine ⟨by rw [List.getElem?_append_left (by omega)]; exact h1, q', by rw [List.getElem?_append_left (by omega)]; exact h2, .inl h3, h4, h5, h6, hvb q' (lt_of_some h8) h7, (keep q' (lt_of_some h8) h7 h4 h6).trans h8⟩
      · have hke : k = d.loose.length := by
          have := (List.getElem?_eq_some_iff.1 hx).1
          simp [D.wrote] at this
          omega
        subst hke
        have hxe : x = (n, l) := by simpa [D.wrote] using hx.symm
        subst hxe
        have qa : q ≠ a := fun e => hqF (e ▸ hr.fa)
        have qs : q ≠ bs := fun e => hqF (e ▸ hr.fs)
        have ql : q ≠ bl := fun e => hqF (e ▸ hr.fl)
        have qv : vL.ownBlock ≠ some q := fun e => hqF (hoa q e).1
        have hql := lt_of_some hq
        refine ⟨?_, q, ?_, .inr ⟨by omega, by omega⟩, qa, qs, ql, hvb q hql qv, (keep q hql qv qa ql).trans hq⟩
        · rw [List.getElem?_append_right (by omega), show 2 * d.loose.length - xs.length = 0 by omega]; rfl
        · rw [List.getElem?_append_right (by omega), show 2 * d.loose.length + 1 - xs.length = 1 by omega]; rfl
    · intro g hg
      have hlt := hvlt g hg
      rcases hv with h | h
      · obtain ⟨f1, f2⟩ := hoa g (h ▸ hg)
        exact ⟨.inl f1, f2⟩
      · rw [hg] at h
        injection h with h
        exact ⟨.inr ⟨by omega, by omega⟩, by omega, by omega, by omega⟩
    · intro x hx
      simp only [D.wrote, List.mem_append, List.mem_singleton] at hx
      rcases hx with hx | rfl
      · exact hr.lo.all x hx
      · exact ⟨hn, hl, hw⟩
  · exact hr.ke.keep (fun k f _ => .inl f) (by omega) hvb fun k f1 f2 f3 f4 f5 f6 => keep k f6 f5 f2 f4
  · intro m hm
    obtain ⟨l1, l2, l3⟩ := hr.lst m hm
    have hnl := hr.nl
    simp only [D.wrote] at hm ⊢
    rw [show (d.loose ++ [(n, l)]).length = d.loose.length + 1 from by simp]
    by_cases e : m = n
    · have e' : (d.last.set n ((d.loose.length : Int) + 1)).getD m 0 = (d.loose.length : Int) + 1 := by
        subst e
        simp [List.getD, show m < d.last.length by omega]
      rw [e', getD_snoc]
      exact ⟨by omega, by omega, fun _ => by rw [if_pos (by omega)]; exact e.symm⟩
    · have e' : (d.last.set n ((d.loose.length : Int) + 1)).getD m 0 = d.last.getD m 0 := by
        simp [List.getD, show ¬ n = m from fun h => e h.symm]
      rw [e', getD_snoc]
      exact ⟨l1, by omega, fun h => by rw [if_neg (by omega)]; exact l3 h⟩
  · simp only [D.wrote, List.length_append, List.length_singleton]
    omega

set_option maxRecDepth 100000 in
set_option maxHeartbeats 1000000 in
/-- The part of a Write ahead of the power: the new write is loose. -/
theorem Write_yes (w : World) (F : Nat → Prop) (a : Nat) (d : D) (n : Nat) (gb ob : Nat) (c : Nat) (l : List Int) (h : Dv w F a d) (he : refu d n = 0) (hn : n < d.pages) (hlen : l.length = d.page) (hwf : Wf l)
    (hcell : ∀ j v, (By l)[j]? = some v → w.cell? ((⟨gb, ob, none⟩ : Addr).add j) = some v) (hadF : ¬ F gb) (hadlt : gb < w.heap.size) (h1 : 0 ≤ d.cw) (h2 : d.cw < 4611686018427387904) (hfew : d.loose.length < 4398046511103) (hF : ∀ k, F k → k < w.heap.size)
    (Q : Ending → World → Prop) (hQ : ∀ u, Dv u (fun k => F k ∨ (w.heap.size ≤ k ∧ k < u.heap.size)) a (d.wrote n l) → Ch F w u → Calls Try.prog 44 #[.pointer (some ⟨a, 0, none⟩)] u fun e w' => ∃ b, e = .returned (.bool b) ∧ Q (.returned (.int .i64 (if b then 3 else 0))) w') :
    Calls Try.prog 16 #[.pointer (some ⟨a, 0, none⟩), .int .i64 (n : Int), .slice (some ⟨gb, ob, none⟩) d.page c] w Q := by
  have hc := refuses_any w F a d n h
  rw [he] at hc
  obtain ⟨i0, hi, hz0, hz1, hz2⟩ := info_parts info5
  have hsz : (Try.prog.info? 5).map (·.size) = some 1 := by rw [hi]; simp [hz1]
  obtain ⟨bs, bl, vL, vK, hc', hf, hr, ha⟩ := h.c
  have c0 : w.cell? ⟨a, 0, none⟩ = some (.int .i64 d.page) := hc' 0
  have c6 : w.cell? ⟨a, 6, none⟩ = some (.int .i64 d.cw) := hc' 6
  have f6 := hf 6
  have hp2 := hr.p2
  have H := hidden h
  have HF := hidden hF
  have HQ := hidden hQ
  have HL := hidden hlen
  have HW := hidden hwf
  have HCE := hidden hcell
  have HAF := hidden hadF
  clear hr ha hc' hf he h hF hQ hlen hwf hcell hadF
  go_enter Try.func16, Try.ntmps16
  go_wp2_with (go_at_call 43; refine same_call hc ?_)
  clear hc
  go_region
  have hD1 : Dv (w.setCell ⟨a, 6, none⟩ (.int .i64 (d.cw + 1))).drew F a { d with cw := d.cw + 1 } := (H.out.set6 _).dr
  have hC1 : Ch F w (w.setCell ⟨a, 6, none⟩ (.int .i64 (d.cw + 1))).drew := (Ch.setCell w (p := ⟨a, 6, none⟩) H.out.fa _).trans (Ch.dr F _) fun _ _ h => h
  have hs1 : (w.setCell ⟨a, 6, none⟩ (.int .i64 (d.cw + 1))).drew.heap.size = w.heap.size := by simp [World.setCell, World.drew]
  generalize (w.setCell ⟨a, 6, none⟩ (.int .i64 (d.cw + 1))).drew = u at hD1 hC1 hs1 ⊢
  obtain ⟨d1, hd1⟩ : ∃ d1, { d with cw := d.cw + 1 } = d1 := ⟨_, rfl⟩
  rw [hd1] at hD1
  have c0' : u.cell? ⟨a, 0, none⟩ = some (.int .i64 d.page) := by
    obtain ⟨bs', bl', vL', vK', ha', hr'⟩ := hD1
    have := cell_of_row (i := 0) ha'
    rw [this, ← hd1]; rfl
  have HD1 := hidden hD1
  have HC1 := hidden hC1
  have HS1 := hidden hs1
  have Hd1 := hidden hd1
  have HH := hidden h1
  clear hD1 hC1 c0 c6 f6 H hd1 hs1 h1 h2
  go_wp2_with (at_make; refine wpList_make_full _ rfl _ _ 35 rfl 0 5 i0 (.int .u8 0) 1 Try.underlying35 hi hz0 hz1 .i64 .i64 d.page d.page d.page rfl rfl rfl rfl (by rw [hz2]; omega) (by unfold maxLen; omega) (Nat.zero_le _) ?_)
  intro w1 hown1 hg1
  have hr1 := made_row hown1
  have hC2 : Ch (fun _ => False) u w1 := Ch.grown hg1 (fun k hk => by cases hk)
  have HD2 := hidden (HD1.out.ch hC2 fun _ _ _ h => h)
  have HC2 := hidden (HC1.out.trans hC2 fun _ _ h => h.elim)
  have HR1 := hidden hr1
  have hsz1 : u.heap.size < w1.heap.size := lt_of_some hr1
  clear hown1 hg1 hr1 hC2 HD1 HC1 c0'
  have HCC : Hid (∀ j v, (By l)[j]? = some v → w1.cell? ((⟨gb, ob, none⟩ : Addr).add j) = some v) := by
    refine hidden fun j v hv => ?_
    have := HCE.out j v hv
    rw [Addr.add_lit] at this ⊢
    rw [World.cell?_of_block (w := w) (a := ⟨gb, ob + j, none⟩) (HC2.out.block gb hadlt HAF.out)]
    exact this
  clear HCE
  go_wp2_with (refine copy_row rfl _ _ 35 35 rfl 5 Try.underlying35 hsz u.heap.size 0 d.page d.page ⟨gb, ob, none⟩ d.page c rfl rfl (List.replicate d.page (.int .u8 0)) 5 HR1.out (By l) (by rw [By_length, HL.out]; exact (Nat.min_self _).symm) HCC.out (by rw [By_length, HL.out]; simp) (By_one _) ?_; intro u3 HU; refine Hid.out ?_)
  apply hidden
  have hD3 : Dv u3 F a d1 := by
    rw [HU.out]
    exact HD2.out.ch (Ch.setRow (F := fun k => k = u.heap.size) _ rfl _) fun k _ hFk e => by have := HF.out k hFk; have := HS1.out; omega
  have hq3 : u3.heap[u.heap.size]? = some (.cells (By l).toArray 5 (0, 0)) := by
    rw [HU.out, setRow_heap _ _ _ _ _ _ HR1.out, splice_all _ _ (by simp [By_length, HL.out])]
  have hC3 : Ch F w u3 := by
    rw [HU.out]
    exact HC2.out.trans (Ch.setRow (F := fun k => k = u.heap.size) _ rfl _) fun k hk e => by have := HS1.out; omega
  rw [← Hd1.out] at hD3
  obtain ⟨bs, bl, vL, vK, hc', hf, hr, ha⟩ := hD3.c
  have HLO := hidden hr.lo
  obtain ⟨⟨xs, ho, hk⟩, hown, hall⟩ := hr.lo
  have c3 : u3.cell? ⟨a, 3, none⟩ = some vL := hc' 3
  have HO := hidden ho
  have HK := hidden hk
  have HR := hidden hr
  have HA := hidden ha
  have HQ3 := hidden hq3
  have HC3 := hidden hC3
  have hal := lt_of_some ha
  clear hc' hf hr ha hq3 hC3 hD3 HD2 HC2 HR1 HU HCC hk hown hall ho HLO hsz1
  go_wp2_with (at_builtin; refine app_w _ rfl _ _ rfl vL d.loose.length xs rfl (HO.out.alloc _) u3.heap.size u.heap.size d.page n rfl (by simp) (by simp) hfew ?_; intro v' w4 h1 h2 h3; refine Hid.out ?_)
  apply hidden
  generalize hobj : Obj.cells #[Value.int IntKind.i64 (n : Int), Value.slice (some ⟨u.heap.size, 0, none⟩) d.page d.page] 71 (0, 0) = o at h1 h2 h3
  have hr := HR.out
  have hoa := hr.lo.own
  have hbl := lt_of_some hr.hl
  have hA4 : w4.heap[a]? = u3.heap[a]? := by rw [h2.block a (by simp; omega) (fun e => (hoa a e.symm).2.1 rfl), Below.heap_alloc _ _ _ hal]
  have hB4 : w4.heap[bl]? = u3.heap[bl]? := by rw [h2.block bl (by simp; omega) (fun e => (hoa bl e.symm).2.2.2 rfl), Below.heap_alloc _ _ _ hbl]
  have hAr := hA4.trans HA.out
  have hBr := hB4.trans hr.hl
  have f3 := free_of_row (i := 3) hAr
  have k3 : w4.cell? ⟨a, 3, none⟩ = some vL := cell_of_row hAr
  have k4 : w4.cell? ⟨a, 4, none⟩ = some (.slice (some ⟨bl, 0, none⟩) d.pages d.pages) := cell_of_row hAr
  have fb := free_of_row (i := n) hBr
  obtain ⟨y, cy⟩ : ∃ y, w4.cell? ⟨bl, n, none⟩ = some y := ⟨_, (cell_of_row hBr).trans (getD_In _ _ (by rw [hr.nl]; exact hn))⟩
  have hba : ¬ bl = a := hr.n2
  have hab : ¬ a = bl := fun e => hr.n2 e.symm
  have hni : (n : Int) < (d.pages : Int) := by omega
  obtain ⟨g', cap', hv'⟩ : ∃ g' cap', v' = .slice (some ⟨g', 0, none⟩) (d.loose.length + 1) cap' := by
    rcases h1.2 with ⟨_, h0⟩ | ⟨g, cap, cur, e, _⟩
    · omega
    · exact ⟨g, cap, e⟩
  subst hv'
  have HFN := hidden (fun W (hW : W = ((w4.setCell ⟨a, 3, none⟩ (.slice (some ⟨g', 0, none⟩) (d.loose.length + 1) cap')).setCell ⟨bl, n, none⟩ (.int .i64 ((d.loose.length : Int) + 1))).drew) => wrote_dv HA.out hr HO.out HK.out HQ3.out HS1.out HF.out hn HL.out HW.out hfew h1 h2 h3 HC3.out.size hW)
  have HCN : Hid (Ch F w ((w4.setCell ⟨a, 3, none⟩ (.slice (some ⟨g', 0, none⟩) (d.loose.length + 1) cap')).setCell ⟨bl, n, none⟩ (.int .i64 ((d.loose.length : Int) + 1))).drew) := by
    refine hidden (((((HC3.out.trans (Ch.alloc F u3 o) fun _ _ h => h).trans (Ch.grown (F := F) h2 ?_) fun _ _ h => h).trans (Ch.setCell (F := F) _ hr.fa _) fun _ _ h => h).trans (Ch.setCell (F := F) _ hr.fl _) fun _ _ h => h).trans (Ch.dr F _) fun _ _ h => h)
    intro k e
    exact (hoa k e).1
  clear h1 h2 h3 hoa hA4 hB4 hAr hBr hobj hr HO HK HA HR c3 HC3 HQ3
  generalize hLL : d.loose.length = LL at *
  go_wp2_with fail
  go_region
  have HN := hidden (HQ.out _ (HFN.out _ rfl) HCN.out)
  clear HFN HCN HQ
  go_wp2_with (go_at_call 44; refine HN.out.mono ?_; rintro e w5 ⟨b, rfl, hq⟩; replace hq := hidden hq)
  · have hb : b = true := by assumption
    subst hb
    exact hq.out
  · have hb : b = false := by first | assumption | simpa using ‹¬ b = true›
    subst hb
    exact hq.out

set_option maxRecDepth 100000 in
/-- A Write while the power is not armed. -/
theorem Write_calm (w : World) (F : Nat → Prop) (a : Nat) (d : D) (n : Nat) (gb ob : Nat) (c : Nat) (l : List Int) (h : Dv w F a d) (he : refu d n = 0) (hn : n < d.pages) (hlen : l.length = d.page) (hwf : Wf l)
    (hcell : ∀ j v, (By l)[j]? = some v → w.cell? ((⟨gb, ob, none⟩ : Addr).add j) = some v) (hadF : ¬ F gb) (hadlt : gb < w.heap.size) (h1 : 0 ≤ d.cw) (h2 : d.cw < 4611686018427387904) (hfew : d.loose.length < 4398046511103) (hF : ∀ k, F k → k < w.heap.size) (har : d.armed = false) :
    Calls Try.prog 16 #[.pointer (some ⟨a, 0, none⟩), .int .i64 (n : Int), .slice (some ⟨gb, ob, none⟩) d.page c] w fun e u => e = .returned (.int .i64 0) ∧ Dv u (fun k => F k ∨ (w.heap.size ≤ k ∧ k < u.heap.size)) a (d.wrote n l) ∧ Ch F w u := by
  refine Write_yes w F a d n gb ob c l h he hn hlen hwf hcell hadF hadlt h1 h2 hfew hF _ ?_
  intro u hD hC
  refine (fails_not u _ a _ hD har).mono ?_
  rintro e w' ⟨rfl, rfl⟩
  exact ⟨false, rfl, rfl, hD, hC⟩
end Go.Proofs.Ytikpfcapnpppdaa
