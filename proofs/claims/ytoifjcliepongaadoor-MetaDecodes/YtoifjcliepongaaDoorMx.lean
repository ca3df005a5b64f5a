/- lent and kept: bytes handed in lie in memory of their own, with marks behind them; they stand, and are then written over. -/
import Derived.Test.YtoifjcliepongaaDoorMq
import Derived.Lib.AppendStr
namespace Go.Proofs.YtoifjcliepongaaDoor
open Go.RowKit

/-- The marks behind what is handed in. -/
def spN : List Int := [97, 110, 100, 32, 109, 111, 114, 101]
def spS : ByteArray := ⟨#[97, 110, 100, 32, 109, 111, 114, 101]⟩
set_option maxRecDepth 100000 in
theorem spS_size : spS.size = 8 := rfl
set_option maxRecDepth 100000 in
theorem sp_cells : Lib.strCells spS = By spN := by simp [Lib.strCells, By, spS, spN]
set_option maxRecDepth 100000 in
theorem spN_wf : Wf spN := by
  intro x hx
  simp only [spN, List.mem_cons, List.not_mem_nil, or_false] at hx
  omega
/-- A row whose first n cells read as the bytes l and may be written. -/
structure Ry (w : World) (g n : Nat) (l : List Int) : Prop where
  hlen : l.length = n
  wf : Wf l
  row : ∃ cells fz, w.heap[g]? = some (.cells cells 5 fz) ∧ (∀ i, i < n → cells[i]? = some (.int .u8 (l.getD i 0))) ∧ n ≤ cells.size ∧ (∀ i, i < cells.size → ¬ (fz.1 ≤ i ∧ i < fz.2))
set_option maxRecDepth 100000 in
theorem Ry.lt {w : World} {g n : Nat} {l : List Int} (h : Ry w g n l) : g < w.heap.size := by
  obtain ⟨_, _, h1, _⟩ := h.row
  exact lt_some h1
set_option maxRecDepth 100000 in
theorem Ry.cell {w : World} {g n : Nat} {l : List Int} (h : Ry w g n l) (i : Nat) (hi : i < n) : w.cell? ⟨g, i, none⟩ = some (.int .u8 (l.getD i 0)) := by
  obtain ⟨cells, fz, h1, h2, _, _⟩ := h.row
  rw [cell_of_row _ _ i _ _ _ h1, h2 i hi]
set_option maxRecDepth 100000 in
theorem Ry.free {w : World} {g n : Nat} {l : List Int} (h : Ry w g n l) (i : Nat) (hi : i < n) : w.frozen? ⟨g, i, none⟩ = false := by
  obtain ⟨cells, fz, h1, h2, h3, h4⟩ := h.row
  have := h4 i (by omega)
  simp only [World.frozen?, h1]
  simp
  omega
set_option maxRecDepth 100000 in
theorem Ry.set {w : World} {g n : Nat} {l : List Int} (h : Ry w g n l) (k : Nat) (x : Int) (hk : k < n) (hx : 0 ≤ x ∧ x ≤ 255) : Ry (w.setCell ⟨g, k, none⟩ (.int .u8 x)) g n (l.set k x) := by
  obtain ⟨cells, fz, h1, h2, h3, h4⟩ := h.row
  have hl := h.hlen
  refine ⟨by rw [List.length_set]; exact hl, fun y hy => ?_, _, fz, by rw [setCell_eq_setRow w g k cells _ fz _ h1]; exact setRow_heap _ _ _ _ _ _ h1, fun i hi => ?_, by simpa using h3, by simpa using h4⟩
  · rcases List.mem_or_eq_of_mem_set hy with hy | rfl
    · exact h.wf y hy
    · exact hx
  · by_cases e : k = i
    · subst e
      rw [Array.getElem?_setIfInBounds_self_of_lt (by omega)]
      simp [List.getD, hl, hi]
    · rw [Array.getElem?_setIfInBounds_ne e, h2 i hi]
      simp [List.getD, e]
set_option maxRecDepth 100000 in
theorem Ry.sl {w : World} {g n c : Nat} {l : List Int} (h : Ry w g n l) (hc : n ≤ c) (hn : n ≤ 140737488355328) : Sl w (some ⟨g, 0, none⟩) n c l :=
  ⟨h.hlen, hc, hn, h.wf, (by intro h; cases h), .inr ⟨g, 0, rfl, h.lt, fun i hi => by rw [Nat.zero_add]; exact h.cell i hi⟩⟩
set_option maxRecDepth 100000 in
theorem Ry.on {w w' : World} {g n : Nat} {l : List Int} (h : Ry w g n l) (hb : Below w.heap.size w w') : Ry w' g n l := by
  obtain ⟨c, f, h1, h2⟩ := h.row
  exact ⟨h.hlen, h.wf, c, f, (hb.block _ (lt_some h1)).trans h1, h2⟩
set_option maxRecDepth 100000 in
theorem Ry.pre {w : World} {g n : Nat} {l : List Int} (h : Ry w g n l) (k : Nat) (hk : k ≤ n) : Ry w g k (l.take k) := by
  obtain ⟨c, f, h1, h2, h3, h4⟩ := h.row
  have hl := h.hlen
  refine ⟨by rw [List.length_take]; omega, h.wf.take _, c, f, h1, fun i hi => ?_, by omega, h4⟩
  rw [h2 i (by omega)]
  simp [List.getD, hi]
set_option maxRecDepth 100000 in
theorem splice_cons (L : List Int) (o : Nat) (x : Int) (vs : List Int) (h : o + (vs.length + 1) ≤ L.length) : splice L o (x :: vs) = splice (L.set o x) (o + 1) vs := by
  have h1 : (L.set o x).take (o + 1) = L.take o ++ [x] := by
    rw [List.take_set, List.take_succ_eq_append_getElem (by omega), List.set_append_right _ _ (by simp; omega)]
    simp [Nat.min_eq_left (show o ≤ L.length by omega)]
  have h2 : (L.set o x).drop (o + 1 + vs.length) = L.drop (o + (vs.length + 1)) := by
    rw [List.drop_set_of_lt (by omega)]
    congr 1
    omega
  unfold splice
  rw [h1, h2]
  simp
set_option maxRecDepth 100000 in
theorem Ry.sets {g C : Nat} : ∀ (vs : List Int) (o : Nat) (w : World) (L : List Int), Ry w g C L → o + vs.length ≤ C → Wf vs → Ry (w.setCells g o (By vs)) g C (splice L o vs)
  | [], o, w, L, h, _, _ => by
    show Ry w g C (splice L o [])
    rw [show splice L o [] = L from by simp [splice]]
    exact h
  | x :: vs, o, w, L, h, hb, hw => by
    have hl := h.hlen
    simp only [List.length_cons] at hb
    rw [splice_cons L o x vs (by omega)]
    exact Ry.sets vs (o + 1) _ _ (h.set o x (by omega) (hw x (by simp))) (by omega) (fun y hy => hw y (by simp [hy]))
set_option maxRecDepth 100000 in
theorem setCells_grown (g : Nat) : ∀ (vs : List Value) (o : Nat) (w : World), w.grownBy (w.setCells g o vs) (some g)
  | [], _, w => World.grownBy.refl w _
  | v :: vs, o, w => by
    have h1 : w.grownBy (w.setCell ⟨g, o, none⟩ v) (some g) := ⟨rfl, rfl, rfl, by simp [World.setCell], fun k _ hk => Below.heap_setCell _ _ _ _ (fun e => hk (by simp [e]))⟩
    have h2 := setCells_grown g vs (o + 1) (w.setCell ⟨g, o, none⟩ v)
    exact ⟨h2.os.trans h1.os, h2.tape.trans h1.tape, h2.output.trans h1.output, Nat.le_trans h1.size h2.size, fun i hi hne => (h2.block i (Nat.lt_of_lt_of_le hi h1.size) hne).trans (h1.block i hi hne)⟩
set_option maxRecDepth 100000 in
/-- '[]byte(string(b))', all its row. -/
theorem conv6 (w : World) (l : List Int) (hw : Wf l) : ∃ c W, (convert 9 29 (.string (strOfNums l))).run Tryd.prog w = .ok (.slice (some ⟨w.heap.size, 0, none⟩) l.length c) W ∧ l.length ≤ c ∧ Ry W w.heap.size c (l ++ zs (c - l.length)) ∧ Below w.heap.size w W := by
  have hr := Lib.run_convert_string_bytes (P := Tryd.prog) w 9 29 5 (strOfNums l) Tryd.underlying9 Tryd.underlying29 Tryd.underlying5
  rw [strOfNums_size] at hr
  have hge := grownCap_ge w l.length 0 5
  have hss := strOfNums_size l
  have hsz : (Lib.bytesCells w 5 (strOfNums l)).size = grownCap w l.length 0 5 := by
    simp only [Lib.bytesCells, Array.size_append, Array.size_map, Array.size_replicate]
    show (strOfNums l).size + _ = _
    rw [hss]
    omega
  refine ⟨_, _, hr, hge, ⟨by rw [List.length_append, zs_length]; omega, hw.append (zs_wf _), _, _, Lib.bytesWorld_at_new w 5 (strOfNums l), fun i hi => ?_, by rw [hsz]; exact Nat.le_refl _, fun i hi h => by have := h.1; omega⟩, Lib.bytesWorld_below w 5 (strOfNums l)⟩
  by_cases hil : i < l.length
  · have hs : i < (strOfNums l).size := by rw [hss]; exact hil
    have h1 := Lib.bytesWorld_cell w 5 (strOfNums l) i hs
    rw [cell_of_row _ _ i _ _ _ (Lib.bytesWorld_at_new w 5 (strOfNums l))] at h1
    rw [h1, strOfNums_data]
    have hb := hw.getD i
    simp only [List.getD, List.getElem?_map, List.getElem?_eq_getElem hil, Option.map_some, Option.getD_some, List.getElem?_append_left hil] at hb ⊢
    simp only [UInt8.toNat_ofNat']
    congr 2
    omega
  · simp only [Lib.bytesCells]
    rw [Array.getElem?_append_right (by rw [Array.size_map]; show (strOfNums l).size ≤ i; omega)]
    simp only [Array.size_map]
    rw [Array.getElem?_replicate, if_pos (by show i - (strOfNums l).size < _; rw [hss]; omega)]
    simp [List.getD, List.getElem?_append_right (show l.length ≤ i by omega), zs, List.getElem?_replicate]
    split <;> rfl
set_option maxRecDepth 100000 in
/-- 'append(row, marks)': in its place or anew. -/
theorem app_marks (w : World) (ty : TypeId) (g n c : Nat) (l : List Int) (hn : l.length = n) (hc : n ≤ c) (hr : Ry w g c (l ++ zs (c - n))) (hw : Wf l) (hb : n + 8 ≤ 140737488355328) (B : Nat) (hB : B ≤ g) (hBw : B ≤ w.heap.size) :
    ∃ g' c' w', (Builtin.append_ #[29, 9] ty #[.slice (some ⟨g, 0, none⟩) n c, .string spS]).run Tryd.prog w = .ok (.slice (some ⟨g', 0, none⟩) (n + 8) c') w' ∧ n + 8 ≤ c' ∧ Ry w' g' (n + 8) (l ++ spN) ∧ B ≤ g' ∧ Below B w w' := by
  obtain ⟨i0, hi, hz0, hz1, hz2⟩ := info_parts info5
  by_cases hroom : n + 8 ≤ c
  · have hf := Lib.run_firstCells_string (P := Tryd.prog) w 1 spS
    have hst := run_storeCells_cells (P := Tryd.prog) g n (By spN) 0 w (fun j hj => by
        have hj8 : j < 8 := hj
        rw [Nat.add_zero, hr.cell (n + j) (by omega)]
        rfl) (fun j hj => by
        have hj8 : j < 8 := hj
        rw [Nat.add_zero]
        exact hr.free (n + j) (by omega)) (By_one spN)
    rw [← sp_cells] at hst
    simp only [Nat.add_zero] at hst
    have hr2 := Ry.sets spN n w _ hr (by show n + 8 ≤ c; omega) spN_wf
    have e : splice (l ++ zs (c - n)) n spN = (l ++ spN) ++ zs (c - n - 8) := by
      have h1 : zs (c - n) = zs 8 ++ zs (c - n - 8) := by rw [← zs_add]; congr 1; omega
      rw [h1, splice_mid l (zs 8) spN _ n hn rfl, List.append_assoc]
    rw [e] at hr2
    have hr3 := hr2.pre (n + 8) (by omega)
    rw [List.take_left' (by rw [List.length_append, hn]; rfl)] at hr3
    refine ⟨g, c, w.setCells g n (By spN), ?_, hroom, hr3, hB, (Below.refl _ _).grown (setCells_grown g _ _ _) hBw (fun k hk => by injection hk with hk; omega)⟩
    rw [← sp_cells]
    simp [Builtin.append_, run_underlying Tryd.underlying29, run_underlying Tryd.underlying9, sizeOf, typeInfo, hi, hz1, Builtin.lenOf, spS_size, hroom, Addr.add_lit]
    rw [show (8 : Nat) = spS.size from rfl, hf]
    simp [hst]
  · have hrun := Lib.run_append_grow_string (P := Tryd.prog) w 29 9 ty 5 i0 (.int .u8 0) Tryd.underlying29 Tryd.underlying9 hi hz0 ⟨g, 0, none⟩ n c (By l) (by rw [hz1, By_length]; omega) (fun j v hv => by
        obtain ⟨h1, rfl⟩ := getElem?_By l j v hv
        rw [Addr.add_lit, Nat.zero_add, hr.cell j (by omega)]
        simp [List.getD, List.getElem?_append_left h1]) spS (by rw [spS_size]; omega) (by rw [spS_size]; omega) (by rw [hz2, spS_size]; exact growslice_fits (by omega) (by omega))
    rw [spS_size] at hrun
    have hge := grownCap_ge w (n + 8) c 5
    refine ⟨_, _, _, hrun, hge, ?_, hBw, ((Below.refl _ _).drew.alloc hBw _)⟩
    refine ⟨by rw [List.length_append, hn]; rfl, hw.append spN_wf, _, _, heap_alloc_last w.drew _, fun i hi => ?_, ?_, ?_⟩
    · have h1 : i < (l ++ spN).length := by rw [List.length_append, hn]; exact hi
      have ea : (By l).toArray ++ (By spN).toArray = (By (l ++ spN)).toArray := by rw [By_append]; simp
      rw [sp_cells, ea, Array.getElem?_append_left (by simpa [By_length] using h1)]
      clear ea hrun
      generalize l ++ spN = X at *
      simp [By, List.getD, List.getElem?_eq_getElem h1]
    · rw [sp_cells]
      simp [By_length, hn]
      show n + 8 ≤ n + 8 + _
      omega
    · intro i _ h
      have := h.2
      omega

set_option maxRecDepth 100000 in
theorem app_run {ops : Array Oper} {rest : List Oper} {o : Oper} {a : Act} {w : World} {Q : Exit → Act → World → Prop} (hgd : o.guard = none) (s x : Operand) (t1 t2 : TypeId)
    (ho : o.op = .call { callee := .builtin .append, args := #[s, x], argTypes := #[t1, t2] }) (v u : Value) (hs : a.eval s = v) (hx : a.eval x = u) {v' : Value} {w' : World}
    (hr : (Builtin.append_ #[t1, t2] o.type #[v, u]).run Tryd.prog w = .ok v' w') (h : wpList Tryd.prog ops Q rest (a.put o.dst v') w') : wpList Tryd.prog ops Q (o :: rest) a w := by
  refine wpList_plain hgd fun K hK => ?_
  unfold Oper.wp execOp
  simp only [ho, resolve, invoke, builtin, Sem.run_bind, Sem.run_pure, Result.andThen_ok, List.map_toArray, List.map_cons, List.map_nil, hs, hx, hr]
  exact hK _ _ h
/-- Lent: the bytes, in memory of their own, the marks behind them. -/
def Le5 (n : Nat) (l : List Int) (w : World) (e : Ending) (w' : World) : Prop := ∃ g c, e = .returned (.slice (some ⟨g, 0, none⟩) n c) ∧ n + 8 ≤ c ∧ Ry w' g (n + 8) (l ++ spN) ∧ w.heap.size ≤ g ∧ Below w.heap.size w w'
set_option maxRecDepth 100000 in
set_option maxHeartbeats 1000000 in
theorem lent_any (ao : Option Addr) (n cap : Nat) (l : List Int) (w : World) (hs : Sl w ao n cap l) (hn : n ≤ 140737488351232) : Calls Tryd.prog 15 #[.slice ao n cap] w fun e w' => Le5 n l w e w' := by
  have hcv1 := conv_sl hs
  obtain ⟨c, W, hcv2, hc, hR, hB⟩ := conv6 w l hs.wf
  have hl := hs.hlen
  rw [hl] at hcv2 hc hR
  obtain ⟨g2, c2, w2, happ, hc2, hR2, hg2, hb2⟩ := app_marks W 29 w.heap.size n c l hl hc hR hs.wf (by omega) w.heap.size (Nat.le_refl _) hB.size
  have HE : Hid (Le5 n l w (.returned (.slice (some ⟨g2, 0, none⟩) n c2)) w2) := hidden ⟨g2, c2, rfl, hc2, hR2, hg2, hB.trans hb2⟩
  have hc3 : n ≤ c2 := by omega
  have hc4 : (n : Int) ≤ (c2 : Int) := by omega
  clear hR hB hR2 hb2 hs hl
  generalize strOfNums l = s1 at *
  have hsp : spS = ⟨#[97, 110, 100, 32, 109, 111, 114, 101]⟩ := rfl
  rw [hsp] at happ
  have HAP := hidden happ
  clear happ hsp
  go_enter Tryd.func15, Tryd.ntmps15
  go_wp2_with (at_builtin; refine app_run rfl _ _ 29 9 rfl _ _ rfl rfl HAP.out ?_)
  go_ret
  exact HE.out
end Go.Proofs.YtoifjcliepongaaDoor
