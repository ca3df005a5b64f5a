/- TupleDecodes: the bytes that are handed in, with what stands behind them. -/
import Derived.Test.YtpiijmionafmcaaGreatDoorJc
import Derived.Test.YtpiijmionafmcaaGreatDoorJf
import Derived.Deep.AppendSrc
import Derived.Laws.IdiomCopy
import Derived.Test.YtpiijmionafmcaaGreatDoorJg
import Derived.Test.YtpiijmionafmcaaGreatDoorJh
import Derived.Test.YtpiijmionafmcaaGreatDoorAwake
import Derived.Deep.QuietTactic
namespace Go.Proofs.YtpiijmionafmcaaGreatDoor
open Go.RowKit

/-- The bytes L from a block's begin on, which may be written. -/
structure Al (w : World) (A n c : Nat) (L : List Int) : Prop where
  sl : Sl w (some ⟨A, 0, none⟩) n c L
  free : ∀ j, j < n → w.frozen? ⟨A, j, none⟩ = false
set_option maxRecDepth 100000 in
theorem Al.on {w w' : World} {A n c : Nat} {L : List Int} (h : Al w A n c L) {B : Nat} (hB : A < B) (hb : Below B w w') : Al w' A n c L := by
  have e := hb.block A hB
  refine ⟨⟨h.sl.hlen, h.sl.hcap, h.sl.hroom, h.sl.wf, h.sl.hnil, ?_⟩, fun j hj => by rw [← h.free j hj]; simp only [World.frozen?, e]⟩
  rcases h.sl.hat with h0 | ⟨b, off, e1, hlt, hc⟩
  · exact .inl h0
  · injection e1 with e1
    injection e1 with e2 e3 _
    subst e2
    subst e3
    exact .inr ⟨A, 0, rfl, Nat.lt_of_lt_of_le hlt hb.size, fun i hi => (World.cell?_of_block (a := ⟨A, 0 + i, none⟩) e).trans (hc i hi)⟩
set_option maxRecDepth 100000 in
theorem setsT_grown (g : Nat) : ∀ (vs : List Value) (j : Nat) (w : World), w.grownBy (w.setCells g j vs) (some g)
  | [], _, _ => ⟨rfl, rfl, rfl, Nat.le_refl _, fun _ _ _ => rfl⟩
  | v :: r, j, w => by
    have h1 : w.grownBy (w.setCell ⟨g, j, none⟩ v) (some g) := ⟨rfl, rfl, rfl, by simp, fun k _ hk => Below.heap_setCell _ _ _ _ (fun e => hk (by rw [e]))⟩
    have h2 := setsT_grown g r (j + 1) (w.setCell ⟨g, j, none⟩ v)
    exact ⟨h2.os.trans h1.os, h2.tape.trans h1.tape, h2.output.trans h1.output, Nat.le_trans h1.size h2.size, fun z hz hne => (h2.block z (Nat.lt_of_lt_of_le hz h1.size) hne).trans (h1.block z hz hne)⟩
set_option maxRecDepth 100000 in
theorem setsT_below {g B : Nat} (vs : List Value) (j : Nat) (w : World) (hB : B ≤ g) (hs : B ≤ w.heap.size) : Below B w (w.setCells g j vs) := by
  have h := setsT_grown g vs j w
  exact ⟨h.os, h.tape, h.output, h.size, fun k hk => h.block k (by omega) (fun e => by injection e with e; omega)⟩
def spL : List Int := [97, 110, 100, 32, 109, 111, 114, 101]
set_option maxRecDepth 100000 in
theorem spL_wf : Wf spL := by intro x hx; simp [spL] at hx; omega
set_option maxRecDepth 100000 in
theorem spL_cells : byteCells ⟨#[97, 110, 100, 32, 109, 111, 114, 101]⟩ = By spL := by
  simp [byteCells, By, spL]
set_option maxRecDepth 100000 in
theorem bL_str (l : List Int) (h : Wf l) : bL (strOfNums l) = l := by
  unfold bL
  rw [strOfNums_data, List.map_map]
  conv => rhs; rw [← List.map_id l]
  refine List.map_congr_left fun x hx => ?_
  have := h x hx
  simp only [Function.comp, id]
  rw [UInt8.toNat_ofNat']
  omega
set_option maxRecDepth 100000 in
/-- '[]byte(string(b))', and 'append(.., spare...)' behind it. -/
theorem all_made (w : World) (ty : TypeId) (l : List Int) (n : Nat) (hl : l.length = n) (hw : Wf l) (hn : n ≤ 140737488351232) :
    ∃ c W A c2 W2, (convert 9 22 (.string (strOfNums l))).run Tryz.prog w = .ok (.slice (some ⟨w.heap.size, 0, none⟩) n c) W ∧
      (Builtin.append_ #[22, 9] ty #[.slice (some ⟨w.heap.size, 0, none⟩) n c, .string ⟨#[97, 110, 100, 32, 109, 111, 114, 101]⟩]).run Tryz.prog W = .ok (.slice (some ⟨A, 0, none⟩) (n + 8) c2) W2 ∧
      Al W2 A (n + 8) c2 (l ++ spL) ∧ w.heap.size ≤ A ∧ A < W2.heap.size ∧ Below w.heap.size w W2 := by
  obtain ⟨i0, hi, hz0, hz1, hz2⟩ := info_parts info5
  have hsz : (strOfNums l).size = n := by rw [strOfNums_size, hl]
  have hcv := conv_run w (strOfNums l)
  have hsl := conv_sl w (strOfNums l) (by omega)
  have hbl := Lib.bytesWorld_below w 5 (strOfNums l)
  have hnew := Lib.bytesWorld_at_new w 5 (strOfNums l)
  rw [hsz] at hcv hsl
  rw [bL_str l hw] at hsl
  have hcsz : (Lib.bytesCells w 5 (strOfNums l)).size = grownCap w n 0 5 := by
    have hge := grownCap_ge w n 0 5
    have : (strOfNums l).data.size = n := hsz
    simp [Lib.bytesCells, this, hsz]
    omega
  have hge := grownCap_ge w n 0 5
  generalize grownCap w n 0 5 = c at *
  obtain ⟨W, hW⟩ : ∃ W, Lib.bytesWorld w 5 (strOfNums l) = W := ⟨_, rfl⟩
  have hWs : W.heap.size = w.heap.size + 1 := by rw [← hW]; exact Lib.bytesWorld_size w _ _
  rw [hW] at hcv hsl hbl hnew
  generalize Lib.bytesCells w 5 (strOfNums l) = cur at *
  have hfree : ∀ j, j < c → W.frozen? ⟨w.heap.size, j, none⟩ = false := fun j hj => by
    simp only [World.frozen?, hnew, hcsz]
    simp
    omega
  have hsome : ∀ j, j < c → (W.cell? ⟨w.heap.size, j, none⟩).isSome = true := fun j hj => by
    rw [cell_of_row _ _ _ _ _ _ hnew]
    simp [hcsz, hj]
  have hsrc : Src Tryz.prog i0.size 9 (.string ⟨#[97, 110, 100, 32, 109, 111, 114, 101]⟩) 8 (By spL) W := by
    rw [hz1, ← spL_cells]
    exact Src.ofString W Tryz.underlying9 _
  have hspl : (By spL).length = 8 := rfl
  by_cases hroom : n + 8 ≤ c
  · have hr := run_append_room_src (P := Tryz.prog) W 22 9 ty 5 i0 Tryz.underlying22 hi w.heap.size 0 n c _ 8 (By spL) hsrc hroom (fun j hj => by rw [hz1]; exact hsome _ (by omega)) (fun j hj => by rw [hz1]; exact hfree _ (by omega))
    rw [hz1, Nat.mul_one, Nat.zero_add] at hr
    refine ⟨c, W, w.heap.size, c, _, hcv, hr, ⟨⟨by simp [hl, spL], hroom, by omega, hw.append spL_wf, (by intro h; cases h), .inr ⟨w.heap.size, 0, rfl, Nat.lt_of_lt_of_le (by omega) (setsT_grown _ _ _ _).size, fun j hj => ?_⟩⟩, fun j hj => ?_⟩, Nat.le_refl _, Nat.lt_of_lt_of_le (by omega) (setsT_grown _ _ _ _).size, ?_⟩
    · rw [Nat.zero_add]
      by_cases hjn : j < n
      · rw [World.cell?_setCells_out _ _ _ _ _ (fun _ _ => .inl hjn)]
        rcases hsl.hat with h0 | ⟨b, off, e, _, hc⟩
        · omega
        · injection e with e
          injection e with e1 e2 _
          subst e1
          subst e2
          have := hc j hjn
          rw [Nat.zero_add] at this
          rw [this]
          simp [List.getD, List.getElem?_append_left (show j < l.length by omega)]
      · have := World.cell?_setCells_in w.heap.size (By spL) n W (fun t ht => hsome _ (by omega)) (j - n) (by omega)
        rw [show n + (j - n) = j by omega] at this
        rw [this]
        simp only [By, List.getElem_map, List.getD]
        rw [List.getElem?_append_right (by omega), hl, List.getElem?_eq_getElem (show j - n < spL.length by simp [spL]; omega)]
        rfl
    · rw [World.frozen?_setCells]
      exact hfree j (by omega)
    · exact hbl.trans (setsT_below _ _ _ (Nat.le_refl _) hbl.size)
  · have hold : (Builtin.firstCells i0.size n (.slice (some ⟨w.heap.size, 0, none⟩) n c)).run Tryz.prog W.drew = .ok (By l).toArray W.drew := by
      rw [hz1]
      refine run_firstCells_some W.drew 1 n ⟨w.heap.size, 0, none⟩ n c (By l) (by rw [By_length]; omega) (fun j v hj => ?_)
      obtain ⟨h1, h2⟩ := getElem?_By l j v hj
      rw [h2, Addr.add_lit]
      rcases hsl.hat with h0 | ⟨b, off, e, _, hc⟩
      · omega
      · injection e with e
        injection e with e1 e2 _
        subst e1
        subst e2
        exact hc j (by omega)
    have hr := run_append_grow_src (P := Tryz.prog) W 22 9 ty 5 i0 _ Tryz.underlying22 hi hz0 (some ⟨w.heap.size, 0, none⟩) n c (By l) hold _ 8 (By spL) hsrc (by omega) (by omega) (by rw [hz2]; exact growslice_fits (by omega) (by omega))
    have hge2 := grownCap_ge W (n + 8) c 5
    refine ⟨c, W, W.heap.size, _, _, hcv, hr, ⟨⟨by simp [hl, spL], hge2, by omega, hw.append spL_wf, (by intro h; cases h), .inr ⟨W.heap.size, 0, rfl, by simp, fun j hj => ?_⟩⟩, fun j hj => ?_⟩, by omega, by simp, ?_⟩
    · have e := heap_alloc_last W.drew (.cells ((By l ++ By spL).toArray ++ Builtin.zeroCells (Value.int .u8 0).cells (grownCap W (n + 8) c 5 - (n + 8))) 5)
      rw [Nat.zero_add]
      refine (cell_of_row _ _ _ _ _ _ e).trans ?_
      rw [Array.getElem?_append_left (by simp [By_length, hl, spL]; omega)]
      have hj2 : j < (l ++ spL).length := by simp [hl, spL]; omega
      rw [show By l ++ By spL = By (l ++ spL) from (By_append l spL).symm]
      simp only [By, List.getElem?_toArray, List.getElem?_map, List.getElem?_eq_getElem hj2, Option.map_some, List.getD, Option.getD_some]
    · have e := heap_alloc_last W.drew (.cells ((By l ++ By spL).toArray ++ Builtin.zeroCells (Value.int .u8 0).cells (grownCap W (n + 8) c 5 - (n + 8))) 5)
      have e' : (W.drew.alloc (.cells ((By l ++ By spL).toArray ++ Builtin.zeroCells (Value.int .u8 0).cells (grownCap W (n + 8) c 5 - (n + 8))) 5)).heap[W.heap.size]? = _ := e
      simp only [World.frozen?, e']
      simp
    · exact hbl.trans (((Below.refl _ _).drew.alloc (by show w.heap.size ≤ W.heap.size; omega) _))
end Go.Proofs.YtpiijmionafmcaaGreatDoor

/- TupleDecodes: what came out so far; over and copy. -/

namespace Go.Proofs.YtpiijmionafmcaaGreatDoor
open Go.RowKit
open Om

/-- The rows that came out: row t has the items r t in the blocks Fs t. -/
structure Gt (w : World) (B : Nat) (gv : Value) (GL : List Value) (r : Nat → Its) (Fs : Nat → List Nat) : Prop where
  row : OwnY w B gv GL
  own : ∀ (t : Nat) (u : Value), GL[t]? = some u → OwI w B u (r t) (Fs t)
  far : ∀ t t', t < GL.length → t' < GL.length → t ≠ t' → ∀ g ∈ Fs t, g ∈ Fs t' → False
set_option maxRecDepth 100000 in
theorem Gt.nil (w : World) (B : Nat) (r : Nat → Its) (Fs : Nat → List Nat) : Gt w B (.slice none 0 0) [] r Fs := ⟨OwnY.nil _ _, fun t u h => (by simp at h), fun t t' h => (by simp at h)⟩
set_option maxRecDepth 100000 in
theorem Gt.on {w w' : World} {B : Nat} {gv : Value} {GL : List Value} {r : Nat → Its} {Fs : Nat → List Nat} (h : Gt w B gv GL r Fs) (hb : Below w.heap.size w w') : Gt w' B gv GL r Fs :=
  ⟨h.row.on hb, fun t u ht => (h.own t u ht).on hb, h.far⟩
set_option maxRecDepth 100000 in
theorem Gt.sets {w : World} {B A j : Nat} {gv : Value} {GL : List Value} {r : Nat → Its} {Fs : Nat → List Nat} {vs : List Value} (h : Gt w B gv GL r Fs) (hA : A < B) : Gt (w.setCells A j vs) B gv GL r Fs := by
  have hg := setsT_grown A vs j w
  refine ⟨h.row.kept hg ?_, fun t u ht => (h.own t u ht).keep fun g hgm => hg.block g ((h.own t u ht).lt g hgm).2 (fun e => by injection e with e; have := ((h.own t u ht).lt g hgm).1; omega), h.far⟩
  cases e : gv.ownBlock with
  | none => exact .inl rfl
  | some z =>
    right
    intro e2
    injection e2 with e2
    have hr := h.row
    unfold OwnY at hr
    have := (hr.lt z e).1
    omega
set_option maxRecDepth 100000 in
theorem Gt.app {w w' : World} {B N : Nat} {gv gv' v : Value} {GL : List Value} {r : Nat → Its} {Fs : Nat → List Nat} {F : List Nat} (h : Gt w B gv GL r Fs) (hl : GL.length = N) (hv : OwI w B v (r N) F) (hne : ∀ t, t < N → ∀ g ∈ Fs t, g ∈ F → False) (hY : OwnY w' B gv' (GL ++ [v])) (hg : Gr w gv w' gv') : Gt w' B gv' (GL ++ [v]) r (fun t => if t = N then F else Fs t) := by
  subst hl
  refine ⟨hY, fun t u ht => ?_, fun t t' h1 h2 hn g hg1 hg2 => ?_⟩
  · by_cases e : t < GL.length
    · rw [List.getElem?_append_left e] at ht
      simp only [if_neg (show ¬ t = GL.length by omega)]
      exact OwI_grow (h.own t u ht) h.row hg
    · have hlt := (List.getElem?_eq_some_iff.1 ht).1
      rw [List.length_append] at hlt
      simp only [List.length_cons, List.length_nil] at hlt
      obtain rfl : t = GL.length := by omega
      rw [List.getElem?_concat_length] at ht
      cases ht
      simp only [if_true]
      exact OwI_grow hv h.row hg
  · rw [List.length_append] at h1 h2
    simp only [List.length_cons, List.length_nil] at h1 h2
    by_cases e : t = GL.length
    · rw [if_pos e] at hg1
      rw [if_neg (by omega)] at hg2
      exact hne t' (by omega) g hg2 hg1
    · rw [if_neg e] at hg1
      by_cases e' : t' = GL.length
      · rw [if_pos e'] at hg2
        exact hne t (by omega) g hg1 hg2
      · rw [if_neg e'] at hg2
        exact h.far t t' (by omega) (by omega) hn g hg1 hg2
set_option maxRecDepth 100000 in
/-- What is new is not what was there. -/
theorem Gt.new {w u : World} {B C N : Nat} {gv v : Value} {GL : List Value} {r : Nat → Its} {Fs : Nat → List Nat} {F : List Nat} {l : Its} (h : Gt w B gv GL r Fs) (hl : GL.length = N) (hv : OwI u C v l F) (hC : w.heap.size ≤ C) : ∀ t, t < N → ∀ g ∈ Fs t, g ∈ F → False := by
  intro t ht g h1 h2
  have e : GL[t]? = some (GL[t]'(by omega)) := List.getElem?_eq_getElem _
  have := ((h.own t _ e).lt g h1).2
  have := (hv.lt g h2).1
  omega
set_option maxRecDepth 100000 in
theorem copyT_wp {ops : Array Oper} {rest : List Oper} {o : Oper} {a : Act} {w : World} {Q : Exit → Act → World → Prop} (hgd : o.guard = none) (d s : Operand) (t t' : TypeId)
    (ho : o.op = .call { callee := .builtin .copy, args := #[d, s], argTypes := #[t, t'] }) (v u : Value) (hd : a.eval d = v) (hs : a.eval s = u) {v' : Value} {w' : World}
    (hr : (Builtin.copy_ #[t, t'] o.type #[v, u]).run Tryz.prog w = .ok v' w') (h : wpList Tryz.prog ops Q rest (a.put o.dst v') w') : wpList Tryz.prog ops Q (o :: rest) a w := by
  refine wpList_plain hgd fun K hK => ?_
  unfold Oper.wp execOp
  simp only [ho, resolve, invoke, builtin, Sem.run_bind, Sem.run_pure, Result.andThen_ok, List.map_toArray, List.map_cons, List.map_nil, hd, hs, hr]
  exact hK _ _ h
set_option maxRecDepth 100000 in
theorem appT_wp {ops : Array Oper} {rest : List Oper} {o : Oper} {a : Act} {w : World} {Q : Exit → Act → World → Prop} (hgd : o.guard = none) (s x : Operand) (t1 t2 : TypeId)
    (ho : o.op = .call { callee := .builtin .append, args := #[s, x], argTypes := #[t1, t2] }) (v u : Value) (hs : a.eval s = v) (hx : a.eval x = u) {v' : Value} {w' : World}
    (hr : (Builtin.append_ #[t1, t2] o.type #[v, u]).run Tryz.prog w = .ok v' w') (h : wpList Tryz.prog ops Q rest (a.put o.dst v') w') : wpList Tryz.prog ops Q (o :: rest) a w := by
  refine wpList_plain hgd fun K hK => ?_
  unfold Oper.wp execOp
  simp only [ho, resolve, invoke, builtin, Sem.run_bind, Sem.run_pure, Result.andThen_ok, List.map_toArray, List.map_cons, List.map_nil, hs, hx, hr]
  exact hK _ _ h
set_option maxRecDepth 100000 in
theorem hszT : (Tryz.prog.info? 5).map (·.size) = some 1 := by
  obtain ⟨i0, hi, hz0, hz1, hz2⟩ := info_parts info5
  rw [hi]
  simp [hz1]
set_option maxRecDepth 100000 in
/-- 'append([]byte(nil), c...)'. -/
theorem app_nilT {ops : Array Oper} {rest : List Oper} {o : Oper} {a : Act} {Q : Exit → Act → World → Prop} (w : World) (hgd : o.guard = none) (s x : Operand)
    (ho : o.op = .call { callee := .builtin .append, args := #[s, x], argTypes := #[22, 22] }) (news : List Int) (ao : Option Addr) (n c : Nat) (hs : a.eval s = .slice none 0 0) (hx : a.eval x = .slice ao n c)
    (hsl : Sl w ao n c news) (h : ∀ v' w', OwnB w' w.heap.size v' news → Below w.heap.size w w' → wpList Tryz.prog ops Q rest (a.put o.dst v') w') : wpList Tryz.prog ops Q (o :: rest) a w := by
  obtain ⟨i0, hi, hz0, hz1, hz2⟩ := info_parts info5
  have hlen := hsl.hlen
  cases ao with
  | none =>
    have : n = 0 := by have := hsl.hnil rfl; have := hsl.hcap; omega
    subst this
    have hc0 := hsl.hnil rfl
    subst hc0
    obtain rfl : news = [] := List.eq_nil_of_length_eq_zero hlen
    exact wpList_append_own_none hgd s x 22 ho w.heap.size 5 i0 1 Tryz.underlying22 hi _ 0 [] hs (World.ownsRow_nil w w.heap.size 5 1) hx (h _ w (OwnB.nil _ _) (Below.refl _ _))
  | some ad =>
    refine app_bytes w hgd s x ho w.heap.size [] _ hs (OwnB.nil _ _) ad n c news hx hlen (fun j hj => ?_) (by have := hsl.hroom; simp; omega) (Nat.le_refl _) (fun v' w' h1 h2 => h v' w' (by simpa using h1) h2)
    rcases hsl.hat with h0 | ⟨b, off, e, _, hc⟩
    · omega
    · injection e with e
      subst e
      rw [Addr.add_lit]
      exact hc j hj
set_option maxRecDepth 100000 in
/-- A row of bytes, cut short. -/
theorem sl_cut {w : World} {ao : Option Addr} {n m c : Nat} {l : List Int} (h : Sl w ao n c l) (hm : m ≤ n) : Sl w ao m c (l.take m) := by
  refine ⟨by have := h.hlen; simp; omega, by have := h.hcap; omega, by have := h.hroom; omega, fun x hx => h.wf x (List.mem_of_mem_take hx), h.hnil, ?_⟩
  rcases h.hat with h0 | ⟨b, off, e, hlt, hc⟩
  · left; omega
  · refine .inr ⟨b, off, e, hlt, fun i hi => ?_⟩
    rw [hc i (by omega)]
    simp [List.getD, List.getElem?_take_of_lt hi]
set_option maxRecDepth 100000 in
/-- 'copy(x, over[:n])': the first n bytes are others now. -/
theorem copy_all (w : World) (ty : TypeId) (A n m c : Nat) (L new : List Int) (so : Option Addr) (sc : Nat) (hA : Al w A m c L) (hn : n ≤ m) (hs : Sl w so n sc new) (hAw : A < w.heap.size) :
    ∃ r vs, (Builtin.copy_ #[22, 22] ty #[.slice (some ⟨A, 0, none⟩) n c, .slice so n sc]).run Tryz.prog w = .ok r (w.setCells A 0 vs) ∧ Al (w.setCells A 0 vs) A m c (new ++ L.drop n) := by
  have hml := hA.sl.hlen
  have hnl := hs.hlen
  have hwf : Wf (new ++ L.drop n) := hs.wf.append (fun x hx => hA.sl.wf x (List.mem_of_mem_drop hx))
  have hlen : (new ++ L.drop n).length = m := by simp; omega
  have hcell : ∀ j, j < m → w.cell? ⟨A, j, none⟩ = some (.int .u8 (L.getD j 0)) := fun j hj => by
    rcases hA.sl.hat with h0 | ⟨b, off, e, _, hc⟩
    · omega
    · injection e with e
      injection e with e1 e2 _
      subst e1
      subst e2
      have := hc j hj
      rwa [Nat.zero_add] at this
  refine ⟨goInt new.length, By new, ?_, ⟨⟨hlen, hA.sl.hcap, hA.sl.hroom, hwf, (by intro h; cases h), .inr ⟨A, 0, rfl, Nat.lt_of_lt_of_le hAw (setsT_grown _ _ _ _).size, fun j hj => ?_⟩⟩, fun j hj => by rw [World.frozen?_setCells]; exact hA.free j hj⟩⟩
  · rcases hs.hat with h0 | ⟨b, off, rfl, _, hc⟩
    · subst h0
      obtain rfl : new = [] := List.eq_nil_of_length_eq_zero hnl
      exact run_copy_none w _ _ ty 5 _ _ 0 c 0 sc Tryz.underlying22 hszT (by simp)
    · have := run_copy_cells w 22 22 ty 5 A 0 n c ⟨b, off, none⟩ n sc (By new) Tryz.underlying22 hszT (by rw [By_length, hnl]; simp)
        (fun j v hj => by
          obtain ⟨h1, h2⟩ := getElem?_By new j v hj
          rw [h2, Addr.add_lit]
          exact hc j (by omega)) (fun j hj => by rw [Nat.zero_add, hcell j (by rw [By_length] at hj; omega)]; rfl) (fun j hj => by rw [Nat.zero_add]; exact hA.free j (by rw [By_length] at hj; omega)) (By_one new)
      rw [By_length] at this
      exact this
  · rw [Nat.zero_add]
    by_cases hjn : j < n
    · have := World.cell?_setCells_in A (By new) 0 w (fun t ht => by rw [Nat.zero_add, hcell t (by rw [By_length] at ht; omega)]; rfl) j (by rw [By_length]; omega)
      rw [Nat.zero_add] at this
      rw [this]
      simp [By, List.getD, List.getElem?_append_left (show j < new.length by omega), List.getElem?_eq_getElem (show j < new.length by omega)]
    · rw [World.cell?_setCells_out _ _ _ _ _ (fun _ _ => .inr (by show 0 + (By new).length ≤ j; rw [By_length]; omega)), hcell j hj]
      simp only [List.getD]
      rw [List.getElem?_append_right (by omega), List.getElem?_drop, hnl, show n + (j - n) = j by omega]
set_option maxRecDepth 100000 in
theorem str_app (l : List Int) : strOfNums (l ++ spL) = strOfNums l ++ ⟨#[97, 110, 100, 32, 109, 111, 114, 101]⟩ := by
  apply ByteArray.ext
  rw [ByteArray.data_append]
  simp [strOfNums, spL]
/-- How long a slice is. -/
def lenV : Value → Nat
  | .slice _ n _ => n
  | _ => 0
set_option maxRecDepth 100000 in
theorem Gt.gr {w w' : World} {B C : Nat} {gv vo vo' : Value} {GL xs : List Value} {r : Nat → Its} {Fs : Nat → List Nat} (h : Gt w B gv GL r Fs) (hY : OwnY w C vo xs) (hg : Gr w vo w' vo') (hne : gv.ownBlock = none ∨ gv.ownBlock ≠ vo.ownBlock) : Gt w' B gv GL r Fs :=
  ⟨h.row.kept hg.grow hne, fun t u ht => OwI_grow (h.own t u ht) hY hg, h.far⟩
set_option maxRecDepth 100000 in
theorem ne_gr {w w' : World} {B : Nat} {gv vo vo' : Value} {GL : List Value} (h : OwnY w B gv GL) (hg : Gr w vo w' vo') (hne : gv.ownBlock = none ∨ gv.ownBlock ≠ vo.ownBlock) : gv.ownBlock = none ∨ gv.ownBlock ≠ vo'.ownBlock := by
  rcases hne with e | e
  · exact .inl e
  · rcases hg.own with e2 | ⟨k, e2, hk⟩
    · rw [e2]; exact .inr e
    · cases e3 : gv.ownBlock with
      | none => exact .inl rfl
      | some z =>
        right
        rw [e2]
        intro e4
        injection e4 with e4
        unfold OwnY at h
        have := (h.lt z e3).2
        omega
set_option maxRecDepth 100000 in
theorem Gt.at {w : World} {B : Nat} {go : Option Addr} {gc : Nat} {GL : List Value} {r : Nat → Its} {Fs : Nat → List Nat} (h : Gt w B (.slice go 4 gc) GL r Fs) (hl : GL.length = 4) {s : Nat} (hs : s < 4) : ∃ G uo un uc, go = some ⟨G, 0, none⟩ ∧ w.cell? ⟨G, s, none⟩ = some (.slice uo un uc) ∧ OwI w B (.slice uo un uc) (r s) (Fs s) := by
  have e : GL[s]? = some (GL[s]'(by omega)) := List.getElem?_eq_getElem _
  obtain ⟨u, hu⟩ : ∃ u, GL[s]'(by omega) = u := ⟨_, rfl⟩
  rw [hu] at e
  have ho := h.own s u e
  obtain ⟨uo, un, uc, rfl⟩ := ho.form
  obtain ⟨ao, c, e1, hc⟩ := h.row.cells
  injection e1 with e1 _ _
  rcases hc with h0 | ⟨g, e3, _, hc⟩
  · omega
  · rw [← e1] at e3
    exact ⟨g, uo, un, uc, e3, hc s _ e, ho⟩
end Go.Proofs.YtpiijmionafmcaaGreatDoor

/- The walk of TupleDecodes. -/

namespace Go.Proofs.YtpiijmionafmcaaGreatDoor
open Go.RowKit
open Om

/-- What the rows that came out have. -/
def rT (lb lc : List Int) (t : Nat) : Its := if t = 1 then (dcR Vl lc).1 else (dcR Vl lb).1
set_option maxRecDepth 100000 in
theorem rT_ok (lb lc : List Int) (hb : Wf lb) (hc : Wf lc) (h1 : lb.length ≤ 140737488355328) (h2 : lc.length ≤ 140737488355328) (t : Nat) : (rT lb lc t).Ok ∧ (rT lb lc t).len ≤ 64 ∧ (rT lb lc t).sz ≤ 65536 := by
  unfold rT
  split
  · exact ⟨(dcR_ok Vl lc hc h2).1, (dcR_ok Vl lc hc h2).2, dcR_sz Vl lc hc⟩
  · exact ⟨(dcR_ok Vl lb hb h1).1, (dcR_ok Vl lb hb h1).2, dcR_sz Vl lb hb⟩
set_option maxHeartbeats 16000000 in
set_option maxRecDepth 100000 in
theorem walk_TupleDecodes (w : World) (hT : Tb w) (ao : Option Addr) (n c : Nat) (lb : List Int) (co : Option Addr) (m cc : Nat) (lc : List Int) (hb : Sl w ao n c lb) (hc : Sl w co m cc lc) (hn : n ≤ 140737488351232) (_hm : m ≤ 140737488351232) :
    Calls Tryz.prog 3 #[.slice ao n c, .slice co m cc] w fun e w' => e = .returned (.bool true) ∧ Below w.heap.size w w' := by
  have HB := hidden hb
  have HC := hidden hc
  have HTB := hidden hT
  have HLB := hidden hb.hlen
  have HLC := hidden hc.hlen
  have hnI : (n : Int) ≤ 140737488351232 := by omega
  have hmI : (m : Int) ≤ 140737488351232 := by omega
  clear hb hc hT
  go_enter Tryz.func3, Tryz.ntmps3
  go_wp2_with fail
  refine (awake_any w).mono ?_
  rintro e w1 ⟨rfl, hb1⟩
  have H1 := hidden hb1
  clear hb1
  have k0 := conv_st (HB.out.on (Nat.le_refl _) H1.out)
  obtain ⟨cv, W, A, ca, w2a, hcv, hap, hal, hwA, hAB', hb2⟩ := all_made w1 22 lb n HLB.out HB.out.wf hn
  have HAL := hidden hal
  have H2 : Hid (Below w.heap.size w w2a) := hidden (H1.out.trans (hb2.mono H1.out.size))
  obtain ⟨B, hBB⟩ : ∃ B, w2a.heap.size = B := ⟨_, rfl⟩
  have hAB : A < B := by omega
  have HWA : Hid (w.heap.size ≤ A) := hidden (Nat.le_trans H1.out.size hwA)
  have HXW : Hid (w.heap.size ≤ B) := hidden (by rw [← hBB]; exact H2.out.size)
  have HBx : Hid (B = w2a.heap.size) := hidden hBB.symm
  have hca : n + 8 ≤ ca := HAL.out.sl.hcap
  clear hal hwA hAB' hb2 hBB
  go_wp2_with (at_builtin; refine appT_wp rfl _ _ _ _ rfl _ _ rfl rfl hap ?_; refine Hid.out ?_)
  apply hidden
  clear hap hcv k0
  go_wp2_with fail
  go_loopw [9, 10] (fun gv ix wr => ∃ (i : Nat) (GL : List Value) (Fs : Nat → List Nat), i ≤ 4 ∧ ix = .int .i64 (i : Int) ∧ Hid (Gt wr B gv GL (rT lb lc) Fs) ∧ Hid (GL.length = i) ∧ Hid (Below B w2a wr)) (fun _ ix _ => 4 - (intOf ix).toNat)
  case atStart => exact ⟨0, [], fun _ => [], by omega, rfl, hidden (Gt.nil _ _ _ _), hidden rfl, hidden (Below.refl _ _)⟩
  case round =>
    obtain ⟨i, GL, Fs, hi, rfl, HN, HGl, HBr⟩ := hrel
    have iI : (i : Int) ≤ 4 := by omega
    have HBs : Hid (B ≤ wr.heap.size) := hidden (by rw [HBx.out]; exact HBr.out.size)
    have HBw : Hid (Below w.heap.size w wr) := hidden (H2.out.trans (HBr.out.mono HXW.out))
    by_cases hlt : i < 4
    · have hltI : (i : Int) < 4 := by omega
      by_cases h1 : i = 1
      · have hib : ((i : Int) == 1) = true := by rw [beq_iff_eq]; omega
        have HI1 := hidden h1
        clear h1
        have HT := hidden (tdecode_any validB (fun h hb => Tb.on h hb) co m cc lc wr (HTB.out.on HBw.out) (HC.out.on (Nat.le_refl _) HBw.out))
        have HD := hidden (fun (u : World) (hu : Below wr.heap.size wr u) => rdecode_all co m cc lc u ((HC.out.on (Nat.le_refl _) HBw.out).on (Nat.le_refl _) hu))
        have HRT : Hid (rT lb lc i = (dcR Vl lc).1) := hidden (by unfold rT; rw [if_pos HI1.out])
        have HOK := hidden (dcR_ok Vl lc HC.out.wf (by have := HC.out.hroom; have := HC.out.hlen; omega))
        generalize dcR Vl lc = R at *
        go_wp2_with (first | (go_at_call 5; refine HT.out.mono ?_; rintro e1 u1 ⟨v1, F, rfl, ho1, hb1⟩; refine Hid.out ?_))
        apply hidden
        obtain ⟨so1, m1, c1, rfl⟩ := ho1.form
        have HU1 : Hid (Below wr.heap.size wr u1) := hidden hb1
        have HO1 := hidden ho1
        have HD1 := hidden (HD.out u1 hb1)
        clear HT HD hb1 ho1
        go_wp2_with (first | (go_at_call 6; refine HD1.out.mono ?_; rintro e2 u2 ⟨v2, F2, rfl, ho2, hb2⟩; refine Hid.out ?_))
        apply hidden
        obtain ⟨so2, m2, c2, rfl⟩ := ho2.form
        have HU2 : Hid (Below wr.heap.size wr u2) := hidden (HU1.out.trans (hb2.mono HU1.out.size))
        have HO2 := hidden (HO1.out.on hb2)
        have HS2 := hidden (same_self HO2.out ho2 HOK.out.1 HOK.out.2)
        clear HD1 hb2 ho2 HO1
        go_wp2_with (first | (go_at_call 7; refine HS2.out.mono ?_; rintro e3 u3 ⟨rfl, q3, hw3⟩; have HW3 := hidden hw3; clear hw3; refine Hid.out ?_))
        apply hidden
        have HU3 : Hid (Below wr.heap.size wr u3) := hidden (by rw [HW3.out]; exact below_draws HU2.out _)
        have HO3 : Hid (OwI u3 wr.heap.size (.slice so1 m1 c1) R.1 F) := hidden (by rw [HW3.out]; exact HO2.out.on (below_draws (Below.refl _ _) _))
        clear HS2 HW3 HO2 HU2
        have q2 : (R.2 != R.2) = false := by simp
        obtain ⟨y, hy⟩ : ∃ y, u3.alloc (.cells #[.slice so1 m1 c1] 25) = y := ⟨_, rfl⟩
        have hby : Below u3.heap.size u3 y := by rw [← hy]; exact (Below.refl _ _).alloc (Nat.le_refl _) _
        have hcy : y.cell? ⟨u3.heap.size, 0, none⟩ = some (.slice so1 m1 c1) := by rw [← hy]; simp
        have HUY : Hid (Below wr.heap.size wr y) := hidden (HU3.out.trans (hby.mono HU3.out.size))
        have HNY := hidden (HN.out.on HUY.out)
        have hBy : B ≤ y.heap.size := Nat.le_trans HBs.out HUY.out.size
        have HOY : Hid (OwI y B (.slice so1 m1 c1) (rT lb lc i) F) := hidden (by rw [HRT.out]; exact (HO3.out.on hby).lift HBs.out)
        have HNE : Hid (∀ t, t < i → ∀ g ∈ Fs t, g ∈ F → False) := hidden (HN.out.new HGl.out HO3.out (Nat.le_refl _))
        have hGl : GL.length + 1 ≤ 100000000 := by rw [HGl.out]; omega
        clear HO3 hby HN HU3 HU1
        go_wp2_with (at_builtin; refine Om.app_y _ rfl _ _ rfl B GL _ (.slice so1 m1 c1) rfl rfl HNY.out.row u3.heap.size rfl hcy hGl hBy ?_; refine Hid.out ?_)
        apply hidden
        intro gv2 w2 hG2 hgr2
        have HN2 : Hid (Gt w2 B gv2 (GL ++ [.slice so1 m1 c1]) (rT lb lc) (fun t => if t = i then F else Fs t)) := hidden (HNY.out.app HGl.out HOY.out HNE.out hG2 hgr2)
        have HB2 : Hid (Below B w2a w2) := hidden ((HBr.out.trans (HUY.out.mono HBs.out)).trans (Om.below_grown hgr2.grow (fun z hz => by
          have hrG := HNY.out.row
          unfold OwnY at hrG
          exact (hrG.lt z hz).1) hBy))
        have HL2 : Hid ((GL ++ [Value.slice so1 m1 c1]).length = i + 1) := hidden (by rw [List.length_append, HGl.out]; rfl)
        clear hG2 hgr2 hy hcy HNY HOY HNE q2 HUY
        go_wp2
        go_roundw
        case rel => exact ⟨i + 1, _, _, by omega, by go_num, HN2, HL2, HB2⟩
        case measure => simp [intOf]; omega
      · have hib : ((i : Int) == 1) = false := by rw [beq_eq_false_iff_ne]; omega
        have hiI : ¬ (i : Int) = 1 := by omega
        have HI1 := hidden h1
        clear h1
        have HAr := hidden (HAL.out.on hAB HBr.out)
        have HXr : Hid (Sl wr (some ⟨A, 0, none⟩) n ca lb) := hidden (by
          have := sl_cut HAr.out.sl (show n ≤ n + 8 by omega)
          rwa [List.take_left' HLB.out] at this)
        have HT := hidden (tdecode_any validB (fun h hb => Tb.on h hb) (some ⟨A, 0, none⟩) n ca lb wr (HTB.out.on HBw.out) HXr.out)
        have HD := hidden (fun (u : World) (hu : Below wr.heap.size wr u) => rdecode_all ao n c lb u ((HB.out.on (Nat.le_refl _) HBw.out).on (Nat.le_refl _) hu))
        have HRT : Hid (rT lb lc i = (dcR Vl lb).1) := hidden (by unfold rT; rw [if_neg HI1.out])
        have HOK := hidden (dcR_ok Vl lb HB.out.wf (by have := HB.out.hroom; have := HB.out.hlen; omega))
        generalize dcR Vl lb = R at *
        go_wp2_with (first | (go_at_call 5; refine HT.out.mono ?_; rintro e1 u1 ⟨v1, F, rfl, ho1, hb1⟩; refine Hid.out ?_))
        apply hidden
        obtain ⟨so1, m1, c1, rfl⟩ := ho1.form
        have HU1 : Hid (Below wr.heap.size wr u1) := hidden hb1
        have HO1 := hidden ho1
        have HD1 := hidden (HD.out u1 hb1)
        clear HT HD hb1 ho1
        go_wp2_with (first | (go_at_call 6; refine HD1.out.mono ?_; rintro e2 u2 ⟨v2, F2, rfl, ho2, hb2⟩; refine Hid.out ?_))
        apply hidden
        obtain ⟨so2, m2, c2, rfl⟩ := ho2.form
        have HU2 : Hid (Below wr.heap.size wr u2) := hidden (HU1.out.trans (hb2.mono HU1.out.size))
        have HO2 := hidden (HO1.out.on hb2)
        have HS2 := hidden (same_self HO2.out ho2 HOK.out.1 HOK.out.2)
        clear HD1 hb2 ho2 HO1
        go_wp2_with (first | (go_at_call 7; refine HS2.out.mono ?_; rintro e3 u3 ⟨rfl, q3, hw3⟩; have HW3 := hidden hw3; clear hw3; refine Hid.out ?_))
        apply hidden
        have HU3 : Hid (Below wr.heap.size wr u3) := hidden (by rw [HW3.out]; exact below_draws HU2.out _)
        have HO3 : Hid (OwI u3 wr.heap.size (.slice so1 m1 c1) R.1 F) := hidden (by rw [HW3.out]; exact HO2.out.on (below_draws (Below.refl _ _) _))
        clear HS2 HW3 HO2 HU2
        have q2 : (R.2 != R.2) = false := by simp
        obtain ⟨y, hy⟩ : ∃ y, u3.alloc (.cells #[.slice so1 m1 c1] 25) = y := ⟨_, rfl⟩
        have hby : Below u3.heap.size u3 y := by rw [← hy]; exact (Below.refl _ _).alloc (Nat.le_refl _) _
        have hcy : y.cell? ⟨u3.heap.size, 0, none⟩ = some (.slice so1 m1 c1) := by rw [← hy]; simp
        have HUY : Hid (Below wr.heap.size wr y) := hidden (HU3.out.trans (hby.mono HU3.out.size))
        have HNY := hidden (HN.out.on HUY.out)
        have hBy : B ≤ y.heap.size := Nat.le_trans HBs.out HUY.out.size
        have HOY : Hid (OwI y B (.slice so1 m1 c1) (rT lb lc i) F) := hidden (by rw [HRT.out]; exact (HO3.out.on hby).lift HBs.out)
        have HNE : Hid (∀ t, t < i → ∀ g ∈ Fs t, g ∈ F → False) := hidden (HN.out.new HGl.out HO3.out (Nat.le_refl _))
        have hGl : GL.length + 1 ≤ 100000000 := by rw [HGl.out]; omega
        clear HO3 hby HN HU3 HU1
        go_wp2_with (at_builtin; refine Om.app_y _ rfl _ _ rfl B GL _ (.slice so1 m1 c1) rfl rfl HNY.out.row u3.heap.size rfl hcy hGl hBy ?_; refine Hid.out ?_)
        apply hidden
        intro gv2 w2 hG2 hgr2
        have HN2 : Hid (Gt w2 B gv2 (GL ++ [.slice so1 m1 c1]) (rT lb lc) (fun t => if t = i then F else Fs t)) := hidden (HNY.out.app HGl.out HOY.out HNE.out hG2 hgr2)
        have HB2 : Hid (Below B w2a w2) := hidden ((HBr.out.trans (HUY.out.mono HBs.out)).trans (Om.below_grown hgr2.grow (fun z hz => by
          have hrG := HNY.out.row
          unfold OwnY at hrG
          exact (hrG.lt z hz).1) hBy))
        have HL2 : Hid ((GL ++ [Value.slice so1 m1 c1]).length = i + 1) := hidden (by rw [List.length_append, HGl.out]; rfl)
        clear hG2 hgr2 hy hcy HNY HOY HNE q2 HUY
        go_wp2
        go_roundw
        case rel => exact ⟨i + 1, _, _, by omega, by go_num, HN2, HL2, HB2⟩
        case measure => simp [intOf]; omega
    · have hi4 : i = 4 := by omega
      have hlI : ¬ (i : Int) < 4 := by omega
      have HGl4 : Hid (GL.length = 4) := hidden (by rw [HGl.out]; exact hi4)
      have HAr := hidden (HAL.out.on hAB HBr.out)
      have k1 := conv_st HAr.out.sl
      have k2 := conv_st (HB.out.on (Nat.le_refl _) HBw.out)
      clear hi4 hlt hi
      have hS8 : ¬ 9223372036854775807 < (strOfNums lb).size + 8 := by rw [strOfNums_size, HLB.out]; omega
      rw [str_app] at k1
      have HCr := hidden (HC.out.on (Nat.le_refl _) HBw.out)
      obtain ⟨S, hS⟩ : ∃ S, strOfNums lb = S := ⟨_, rfl⟩
      rw [hS] at k1 k2 hS8
      clear hS
      obtain ⟨gao, gac, hgv, _⟩ := HN.out.row.cells
      rw [HGl4.out] at hgv
      obtain ⟨C, hC⟩ : ∃ C, wr.heap.size = C := ⟨_, rfl⟩
      have HCs : Hid (B ≤ C) := hidden (by rw [← hC]; exact HBs.out)
      have HCw : Hid (w.heap.size ≤ C) := hidden (Nat.le_trans HXW.out HCs.out)
      subst hgv
      go_wp2_with (at_builtin; refine app_nilT _ rfl _ _ rfl lc co m cc rfl rfl HCr.out ?_; refine Hid.out ?_)
      apply hidden
      intro v3 w3 ho3 hb3
      try rw [hC] at ho3 hb3
      have HO3 := hidden ho3
      have H3 := hidden hb3
      obtain ⟨so3, sc3, rfl, _, _⟩ := ho3.sl HC.out.wf (by rw [HLC.out]; omega)
      rw [HLC.out] at HO3 ⊢
      have HCE := hidden hC
      clear ho3 hb3 k1 k2 hS8 HCr hC
      obtain ⟨wo, hwo⟩ : ∃ wo, wo = wr := ⟨_, rfl⟩
      subst hwo
      go_wp2_with fail
      go_loopw [18] (fun v wq => ∃ (k L : Nat) (so : Option Addr) (sc : Nat), v = .slice so L sc ∧ (L ≤ n ∨ L = m) ∧ m + k = L ∧ Hid (OwnB wq C (.slice so L sc) (lc ++ List.replicate k 16)) ∧ Hid (Below C wo wq)) (fun v _ => n - lenV v)
      case atStart => exact ⟨0, m, so3, sc3, rfl, .inr rfl, rfl, hidden (by simpa using HO3.out), H3⟩
      case round =>
        obtain ⟨k, L, so, sc, rfl, hLn, hmk, HO, HBq⟩ := hrel
        clear HO3 H3
        have hLI : (L : Int) ≤ 140737488351232 := by omega
        have HCq : Hid (C ≤ wr.heap.size) := hidden (by have := HBq.out.size; have := HCE.out; omega)
        have HLL : Hid ((lc ++ List.replicate k (16 : Int)).length = L) := hidden (by simp [HLC.out]; omega)
        have HWL : Hid (Wf (lc ++ List.replicate k (16 : Int))) := hidden (HC.out.wf.append (fun x hx => by rw [List.eq_of_mem_replicate hx]; omega))
        by_cases hlt : L < n
        · have hltI : (L : Int) < (n : Int) := by omega
          have HRE : Hid (lc ++ List.replicate k (16 : Int) ++ [16] = lc ++ List.replicate (k + 1) 16) := hidden (by rw [List.append_assoc, List.replicate_succ'])
          obtain ⟨P, hP⟩ : ∃ P, lc ++ List.replicate k (16 : Int) = P := ⟨_, rfl⟩
          rw [hP] at HO HLL HWL HRE
          have hbd : P.length + 1 ≤ 140737488355328 := by rw [HLL.out]; omega
          clear hP
          go_wp2_with (at_builtin; refine app_bytes _ rfl _ _ rfl C P _ rfl (HO.out.alloc _) _ 1 1 [16] rfl rfl (one_cell _ _) hbd (by have := HCq.out; simp; omega) ?_; refine Hid.out ?_)
          apply hidden
          intro v4 w4 ho4 hb4
          rw [HRE.out] at ho4
          obtain ⟨so4, sc4, rfl, _, _⟩ := ho4.sl (HC.out.wf.append (fun x hx => by rw [List.eq_of_mem_replicate hx]; omega)) (by simp [HLC.out]; omega)
          have hL4 : (lc ++ List.replicate (k + 1) (16 : Int)).length = L + 1 := by simp [HLC.out]; omega
          rw [hL4] at ho4 ⊢
          have HO4 := hidden ho4
          have HB4 : Hid (Below C wo w4) := hidden ((HBq.out.alloc HCq.out _).trans hb4)
          clear ho4 hb4 hL4
          go_wp2
          go_roundw
          case rel => exact ⟨k + 1, L + 1, so4, sc4, rfl, .inl (by omega), by omega, HO4, HB4⟩
          case measure => simp [lenV]; omega
        · have hltI : ¬ (L : Int) < (n : Int) := by omega
          have hnL : n ≤ L := by omega
          obtain ⟨so', sc', e', hsl, _⟩ := HO.out.sl HWL.out (by rw [HLL.out]; omega)
          injection e' with e1 e2 e3
          subst e1
          subst e3
          clear e2
          rw [HLL.out] at hsl
          have hscn : n ≤ sc := by have := hsl.hcap; omega
          have HSO := hidden (sl_cut hsl hnL)
          obtain ⟨Lo, hLo⟩ : ∃ Lo, (lc ++ List.replicate k (16 : Int)).take n = Lo := ⟨_, rfl⟩
          rw [hLo] at HSO
          have HBB : Hid (Below B w2a wr) := hidden (HBr.out.trans (HBq.out.mono HCs.out))
          have HNq : Hid (Gt wr B (.slice gao 4 gac) GL (rT lb lc) Fs) := hidden (HN.out.on (by rw [HCE.out]; exact HBq.out))
          have HAq := hidden (HAL.out.on hAB HBB.out)
          have hAwr : A < wr.heap.size := by have := HCq.out; have := HCs.out; omega
          obtain ⟨r5, vs5, hcp, hal5⟩ := copy_all wr 3 A n (n + 8) ca (lb ++ spL) Lo so sc HAq.out (by omega) HSO.out hAwr
          rw [List.drop_left' HLB.out] at hal5
          obtain ⟨w5, hw5⟩ : ∃ w5, wr.setCells A 0 vs5 = w5 := ⟨_, rfl⟩
          rw [hw5] at hcp hal5
          have HA5 := hidden hal5
          have HN5 : Hid (Gt w5 B (.slice gao 4 gac) GL (rT lb lc) Fs) := hidden (by rw [← hw5]; exact HNq.out.sets hAB)
          have HSO5 : Hid (Sl w5 so n sc Lo) := hidden (by
            have hg := setsT_grown A vs5 0 wr
            rw [hw5] at hg
            refine ⟨HSO.out.hlen, HSO.out.hcap, HSO.out.hroom, HSO.out.wf, HSO.out.hnil, ?_⟩
            rcases HSO.out.hat with h0 | ⟨b', off', e, hlt', hc'⟩
            · exact .inl h0
            · refine .inr ⟨b', off', e, Nat.lt_of_lt_of_le hlt' hg.size, fun j hj => (World.cell?_of_block (a := ⟨b', off' + j, none⟩) (hg.block b' hlt' (fun e9 => ?_))).trans (hc' j hj)⟩
              injection e9 with e9
              have hox := HO.out
              unfold OwnB at hox
              have := (hox.lt b' (by rw [e]; rfl)).1
              have := HCs.out
              omega)
          have HB5 : Hid (Below w.heap.size w w5) := hidden (by
            rw [← hw5]
            exact (H2.out.trans (HBB.out.mono HXW.out)).trans (setsT_below _ _ _ HWA.out (Nat.le_trans HCw.out HCq.out)))
          have HB5s : Hid (B ≤ w5.heap.size) := hidden (by rw [← hw5]; exact Nat.le_trans HCs.out (Nat.le_trans HCq.out (setsT_grown _ _ _ _).size))
          have HX5 : Hid (Sl w5 (some ⟨A, 0, none⟩) n ca Lo) := hidden (by
            have := sl_cut HA5.out.sl (show n ≤ n + 8 by omega)
            rwa [List.take_left' HSO.out.hlen] at this)
          have HT := hidden (tdecode_any validB (fun h hb => Tb.on h hb) (some ⟨A, 0, none⟩) n ca Lo w5 (HTB.out.on HB5.out) HX5.out)
          have HD := hidden (fun (u : World) (hu : Below w5.heap.size w5 u) => rdecode_all so n sc Lo u (HSO5.out.on (Nat.le_refl _) hu))
          have HOK := hidden (dcR_ok Vl Lo HSO.out.wf (by have := HSO.out.hroom; have := HSO.out.hlen; omega))
          have HSZ := hidden (dcR_sz Vl Lo HSO.out.wf)
          have HLO := hidden HSO.out.hlen
          generalize dcR Vl Lo = R at *
          clear hal5 hsl hLo HAq HNq HBB HO HBq HLL HWL HSO HN HBr
          clear hw5
          go_wp2_with (first | (go_at_call 5; refine HT.out.mono ?_; rintro e1 u1 ⟨v1, F, rfl, ho1, hb1⟩; refine Hid.out ?_))
          apply hidden
          obtain ⟨so1, m1, c1, rfl⟩ := ho1.form
          have HU1 : Hid (Below w5.heap.size w5 u1) := hidden hb1
          have HO1 := hidden ho1
          have HD1 := hidden (HD.out u1 hb1)
          clear HT HD hb1 ho1
          go_wp2_with (first | (go_at_call 6; refine HD1.out.mono ?_; rintro e2 u2 ⟨v2, F2, rfl, ho2, hb2⟩; refine Hid.out ?_))
          apply hidden
          obtain ⟨so2, m2, c2, rfl⟩ := ho2.form
          have HU2 : Hid (Below w5.heap.size w5 u2) := hidden (HU1.out.trans (hb2.mono HU1.out.size))
          have HO2 := hidden (HO1.out.on hb2)
          have HS2 := hidden (same_self HO2.out ho2 HOK.out.1 HOK.out.2)
          clear HD1 hb2 ho2 HO1
          go_wp2_with (first | (go_at_call 7; refine HS2.out.mono ?_; rintro e3 u3 ⟨rfl, q3, hw3⟩; have HW3 := hidden hw3; clear hw3; refine Hid.out ?_))
          apply hidden
          have HU3 : Hid (Below w5.heap.size w5 u3) := hidden (by rw [HW3.out]; exact below_draws HU2.out _)
          have HO3 : Hid (OwI u3 w5.heap.size (.slice so1 m1 c1) R.1 F) := hidden (by rw [HW3.out]; exact HO2.out.on (below_draws (Below.refl _ _) _))
          clear HS2 HW3 HO2 HU2 HU1
          have q2 : (R.2 != R.2) = false := by simp
          have HA3 := hidden (HA5.out.on (B := w5.heap.size) (by have := HB5s.out; omega) HU3.out)
          have kA := fun q => conv_st (HA3.out.sl.drewN q)
          have kO := fun q => conv_st ((HSO5.out.on (Nat.le_refl _) HU3.out).drewN q)
          simp only [str_app] at kA
          have hS8 : ¬ 9223372036854775807 < (strOfNums Lo).size + 8 := by rw [strOfNums_size, HLO.out]; omega
          obtain ⟨S, hS⟩ : ∃ S, strOfNums Lo = S := ⟨_, rfl⟩
          rw [hS] at kA kO hS8
          clear hS
          have q3 : ((S ++ (⟨#[97, 110, 100, 32, 109, 111, 114, 101]⟩ : ByteArray)).toList != (S ++ (⟨#[97, 110, 100, 32, 109, 111, 114, 101]⟩ : ByteArray)).toList) = false := by simp
          go_wp2_with fail
          go_quiet (fail)
          obtain ⟨u4, hu4⟩ : ∃ u4, u3.drewN nq = u4 := ⟨_, rfl⟩
          have hd4 : Below u3.heap.size u3 u4 := by rw [← hu4]; exact below_draws (Below.refl _ _) _
          have HU4 : Hid (Below w5.heap.size w5 u4) := hidden (HU3.out.trans (hd4.mono HU3.out.size))
          have HL4 : Hid (OwI u4 B (.slice so1 m1 c1) R.1 F) := hidden ((HO3.out.on hd4).lift HB5s.out)
          have HFN : Hid (∀ t, t < 4 → ∀ g ∈ Fs t, g ∈ F → False) := hidden (HN5.out.new HGl4.out HO3.out (Nat.le_refl _))
          have HN4 := hidden (HN5.out.on HU4.out)
          have HW4 : Hid (Below w.heap.size w u4) := hidden (HB5.out.trans (HU4.out.mono HB5.out.size))
          have HZ4 : Hid (B ≤ u4.heap.size) := hidden (Nat.le_trans HB5s.out HU4.out.size)
          rw [hu4]
          clear hu4 hd4 HU3 HO3 HN5 HA3 HA5 kA kO hS8 q2 q3 HU4 HB5 HSO5 HX5
          have HD5 := hidden (rdecode_all ao n c lb u4 (HB.out.on (Nat.le_refl _) HW4.out))
          have HOK5 := hidden (dcR_ok Vl lb HB.out.wf (by have := HB.out.hroom; have := HB.out.hlen; omega))
          obtain ⟨R5, hR5⟩ : ∃ R, dcR Vl lb = R := ⟨_, rfl⟩
          rw [hR5] at HD5 HOK5
          have HR5 := hidden hR5
          clear hR5
          go_wp2_with (first | (go_at_call 6; refine HD5.out.mono ?_; rintro e5 u5 ⟨v5, F5, rfl, ho5, hb5⟩; refine Hid.out ?_))
          apply hidden
          obtain ⟨so5, m5, c5, rfl⟩ := ho5.form
          have HU5 : Hid (Below u4.heap.size u4 u5) := hidden hb5
          have HW5 : Hid (Below w.heap.size w u5) := hidden (HW4.out.trans (hb5.mono HW4.out.size))
          have HP5 := hidden ho5
          have HN5 := hidden (HN4.out.on hb5)
          have HL5 := hidden (HL4.out.on hb5)
          have HZ5 : Hid (B ≤ u5.heap.size) := hidden (Nat.le_trans HZ4.out hb5.size)
          clear HD5 ho5 hb5
          have HD6 := hidden (rdecode_all co m cc lc u5 (HC.out.on (Nat.le_refl _) HW5.out))
          have HOK6 := hidden (dcR_ok Vl lc HC.out.wf (by have := HC.out.hroom; have := HC.out.hlen; omega))
          obtain ⟨R6, hR6⟩ : ∃ R, dcR Vl lc = R := ⟨_, rfl⟩
          rw [hR6] at HD6 HOK6
          have HR6 := hidden hR6
          clear hR6
          go_wp2_with (first | (go_at_call 6; refine HD6.out.mono ?_; rintro e6 u6 ⟨v6, F6, rfl, ho6, hb6⟩; refine Hid.out ?_))
          apply hidden
          obtain ⟨so6, m6, c6, rfl⟩ := ho6.form
          have HU6 : Hid (Below u5.heap.size u5 u6) := hidden hb6
          have HW6 : Hid (Below w.heap.size w u6) := hidden (HW5.out.trans (hb6.mono HW5.out.size))
          have HP6 := hidden ho6
          have HN6 := hidden (HN5.out.on hb6)
          have HL6 := hidden (HL5.out.on hb6)
          have HZ6 : Hid (B ≤ u6.heap.size) := hidden (Nat.le_trans HZ5.out hb6.size)
          clear HD6 ho6 hb6
          have HP5' := hidden (HP5.out.on HU6.out)
          have HLS := hidden (lists_all (R.1.sz + 1) R.1 (by omega) (.slice so1 m1 c1) (.slice none 0 0) F [] u6 B B HL6.out (OwnY.nil _ _) HSZ.out (by have := HSZ.out; simp; omega) HZ6.out)
          go_wp2_with (first | (go_at_call 8; refine HLS.out.mono ?_; rintro e7 w7 ⟨v7, LV0, rfl, hy7, hg7, hl7, hn7⟩; refine Hid.out ?_))
          apply hidden
          rw [List.nil_append] at hy7
          obtain ⟨oo, oc, rfl, _⟩ := hy7.cells
          obtain ⟨L0, hL0⟩ : ∃ L0, LV0.length = L0 := ⟨_, rfl⟩
          rw [hL0] at hy7 hg7 hn7 ⊢
          have h67 : Below u6.heap.size u6 w7 := ⟨hg7.grow.os, hg7.grow.tape, hg7.grow.output, hg7.grow.size, fun k hk => hg7.grow.block k hk (by simp [Value.ownBlock])⟩
          have HY7 := hidden hy7
          have HN7 := hidden (HN6.out.on h67)
          have HW7 := hidden (HP5'.out.on h67)
          have HV7 := hidden (HP6.out.on h67)
          have HT7 := hidden (Lst_grow hl7 (OwnY.nil u6 B) hg7)
          have HF7 : Hid (∀ g ∈ F, g < w7.heap.size) := hidden (fun g hg => Nat.lt_of_lt_of_le (HL6.out.lt g hg).2 h67.size)
          have HE7 : Hid ((Value.slice gao 4 gac).ownBlock = none ∨ (Value.slice gao 4 gac).ownBlock ≠ (Value.slice oo L0 oc).ownBlock) := hidden (ne_gr HN6.out.row hg7 (by cases (Value.slice gao 4 gac).ownBlock <;> simp [Value.ownBlock]))
          have HB7 : Hid (Below w.heap.size w w7) := hidden (HW6.out.trans (h67.mono HW6.out.size))
          have HZ7 : Hid (B ≤ w7.heap.size) := hidden (Nat.le_trans HZ6.out h67.size)
          have HL07 : Hid (L0 ≤ 65537) := hidden (by have := HSZ.out; omega)
          have HL0E := hidden hL0
          clear HLS hy7 hg7 hl7 hn7 h67 hL0 HL4 HL5 HL6 HN4 HN5 HN6 HP5 HP6 HP5' HU5 HU6 HW4 HW5 HW6 HZ4 HZ5 HZ6
          go_wp2_with fail
          go_loopw [29] (fun ix wr => ∃ s : Nat, s ≤ 4 ∧ ix = .int .i64 (s : Int) ∧ Hid (Below w7.heap.size w7 wr)) (fun ix _ => 4 - (intOf ix).toNat)
          case atStart => exact ⟨0, by omega, rfl, hidden (Below.refl _ _)⟩
          case round =>
          obtain ⟨s, hs, rfl, HBr3⟩ := hrel
          have sI : (s : Int) ≤ 4 := by omega
          have HNr := hidden (HN7.out.on HBr3.out)
          by_cases hlt : s < 4
          · have hltI : (s : Int) < 4 := by omega
            obtain ⟨G, uo, un, uc, rfl, cG, how⟩ := HNr.out.at HGl4.out hlt
            have HWr := hidden (HW7.out.on HBr3.out)
            have HVr := hidden (HV7.out.on HBr3.out)
            by_cases h1 : s = 1
            · have hib : ((s : Int) == 1) = true := by rw [beq_iff_eq]; omega
              have HSM := hidden (same_self (l := R6.1) (by have := how; unfold rT at this; rw [if_pos h1, HR6.out] at this; exact this) HVr.out HOK6.out.1 HOK6.out.2)
              clear how h1
              go_wp2_with (first | (go_at_call 7; refine HSM.out.mono ?_; rintro e8 u8 ⟨rfl, q8, hw8⟩; have HW8 := hidden hw8; clear hw8; refine Hid.out ?_))
              apply hidden
              have HB8 : Hid (Below w7.heap.size w7 u8) := hidden (by rw [HW8.out]; exact below_draws HBr3.out _)
              clear HSM HW8
              go_wp2
              go_roundw
              case rel => exact ⟨s + 1, by omega, by go_num, HB8⟩
              case measure => simp [intOf]; omega
            · have hib : ((s : Int) == 1) = false := by rw [beq_eq_false_iff_ne]; omega
              have hsI : ¬ (s : Int) = 1 := by omega
              have HSM := hidden (same_self (l := R5.1) (by have := how; unfold rT at this; rw [if_neg h1, HR5.out] at this; exact this) HWr.out HOK5.out.1 HOK5.out.2)
              clear how h1
              go_wp2_with (first | (go_at_call 7; refine HSM.out.mono ?_; rintro e8 u8 ⟨rfl, q8, hw8⟩; have HW8 := hidden hw8; clear hw8; refine Hid.out ?_))
              apply hidden
              have HB8 : Hid (Below w7.heap.size w7 u8) := hidden (by rw [HW8.out]; exact below_draws HBr3.out _)
              clear HSM HW8
              go_wp2
              go_roundw
              case rel => exact ⟨s + 1, by omega, by go_num, HB8⟩
              case measure => simp [intOf]; omega
          · have hltI : ¬ (s : Int) < 4 := by omega
            have HYr := hidden (HY7.out.on HBr3.out)
            have HTr : Hid (Lst wr B LV0 F) := hidden (HT7.out.keep fun g hg => by
              have := HF7.out g hg
              exact HBr3.out.block g this)
            have HBwr : Hid (Below w.heap.size w wr) := hidden (HB7.out.trans (HBr3.out.mono HB7.out.size))
            have HZr : Hid (B ≤ wr.heap.size) := hidden (Nat.le_trans HZ7.out HBr3.out.size)
            clear hlt hs HN7 HW7 HV7 HY7 HT7 HB7 HZ7 HBr3
            go_wp2_with fail
            go_loopw [28, 32] (fun vx ix wq => ∃ (t L : Nat) (LV : List Value) (Gs : List Nat) (xo : Option Addr) (xc : Nat), t ≤ 4 ∧ ix = .int .i64 (t : Int) ∧ vx = .slice xo L xc ∧ L ≤ (t + 1) * 65537 ∧ Hid (LV.length = L) ∧ Hid (OwnY wq B (.slice xo L xc) LV) ∧ Hid (Lst wq B LV Gs) ∧ Hid (∀ k, t ≤ k → k < 4 → ∀ g ∈ Gs, g ∈ Fs k → False) ∧ Hid (Gt wq B (.slice gao 4 gac) GL (rT lb lc) Fs) ∧ Hid ((Value.slice gao 4 gac).ownBlock = none ∨ (Value.slice gao 4 gac).ownBlock ≠ (Value.slice xo L xc).ownBlock) ∧ Hid (Below w.heap.size w wq) ∧ Hid (B ≤ wq.heap.size)) (fun _ ix _ => 4 - (intOf ix).toNat)
            case atStart => exact ⟨0, L0, LV0, F, oo, oc, by omega, rfl, rfl, by have := HL07.out; omega, HL0E, HYr, HTr, hidden (fun k _ hk g h1 h2 => HFN.out k hk g h2 h1), HNr, HE7, HBwr, HZr⟩
            case round =>
            obtain ⟨t, L, LV, Gs, xo, xc, ht, rfl, rfl, hL, HLL, HYt, HTt, HFt, HNt, HEt, HBt, HZt⟩ := hrel
            clear HYr HTr HNr HBwr HZr HE7 HL07 HL0E
            have tI : (t : Int) ≤ 4 := by omega
            by_cases hlt : t < 4
            · have hltI : (t : Int) < 4 := by omega
              obtain ⟨G, uo, un, uc, rfl, cG, how⟩ := HNt.out.at HGl4.out hlt
              have hrt := (rT_ok lb lc HB.out.wf HC.out.wf (by rw [HLB.out]; omega) (by rw [HLC.out]; omega) t).2.2
              have HLS := hidden (lists_all ((rT lb lc t).sz + 1) (rT lb lc t) (by omega) (.slice uo un uc) (.slice xo L xc) (Fs t) LV wr B B how HYt.out hrt (by rw [HLL.out]; omega) HZt.out)
              have HSZt := hidden hrt
              clear how hrt
              go_wp2_with (first | (go_at_call 8; refine HLS.out.mono ?_; rintro e9 w9 ⟨v9, LV9, rfl, hy9, hg9, hl9, hn9⟩; refine Hid.out ?_))
              apply hidden
              obtain ⟨o9, c9, rfl, _⟩ := hy9.cells
              obtain ⟨L9, hL9⟩ : ∃ L9, (LV ++ LV9).length = L9 := ⟨_, rfl⟩
              rw [hL9] at hy9 hg9 ⊢
              have hL9' : L9 = L + LV9.length := by rw [← hL9, List.length_append, HLL.out]
              have HY9 := hidden hy9
              have HT9 : Hid (Lst w9 B (LV ++ LV9) (Gs ++ Fs t)) := hidden ((Lst_grow HTt.out HYt.out hg9).app (Lst_grow hl9 HYt.out hg9) (HFt.out t (Nat.le_refl _) hlt))
              have HF9 : Hid (∀ k, t + 1 ≤ k → k < 4 → ∀ g ∈ Gs ++ Fs t, g ∈ Fs k → False) := hidden (fun k hk hk4 g h1 h2 => by
                rcases List.mem_append.1 h1 with h1 | h1
                · exact HFt.out k (by omega) hk4 g h1 h2
                · exact HNt.out.far t k (by rw [HGl4.out]; exact hlt) (by rw [HGl4.out]; exact hk4) (by omega) g h1 h2)
              have HN9 := hidden (HNt.out.gr HYt.out hg9 HEt.out)
              have HE9 := hidden (ne_gr HNt.out.row hg9 HEt.out)
              have hbl9 : Below B wr w9 := Om.below_grown hg9.grow (fun z hz => by
                have hrG := HYt.out
                unfold OwnY at hrG
                exact (hrG.lt z hz).1) HZt.out
              have HB9 : Hid (Below w.heap.size w w9) := hidden (HBt.out.trans (hbl9.mono HXW.out))
              have HZ9 : Hid (B ≤ w9.heap.size) := hidden (Nat.le_trans HZt.out hbl9.size)
              have hbd9 : L9 ≤ (t + 1 + 1) * 65537 := by have := HSZt.out; omega
              have HLE9 := hidden hL9
              clear HLS hy9 hg9 hl9 hn9 hbl9 hL9 hL9' HSZt
              go_wp2
              go_roundw
              case rel => exact ⟨t + 1, L9, LV ++ LV9, Gs ++ Fs t, o9, c9, by omega, by go_num, rfl, hbd9, HLE9, HY9, HT9, HF9, HN9, HE9, HB9, HZ9⟩
              case measure => simp [intOf]; omega
            · have hltI : ¬ (t : Int) < 4 := by omega
              have HIT := hidden (items_lst wr B L xo xc LV Gs HYt.out HLL.out (by omega) HTt.out HZt.out)
              clear hlt
              go_wp2_with (first | (go_at_call 9; refine HIT.out.mono ?_; rintro e9 w9 ⟨rfl, HB9⟩; refine Hid.out ?_))
              apply hidden
              have H10 : Hid (Below w.heap.size w w9) := hidden (HBt.out.trans (HB9.out.mono HXW.out))
              clear HIT HB9
              go_wp2
              go_ret
              exact ⟨rfl, H10.out⟩
end Go.Proofs.YtpiijmionafmcaaGreatDoor
