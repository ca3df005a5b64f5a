/- espalierref03.Book in memory. -/
import Derived.Test.YtobfkcepjnjfpaaGreatDoorJ31
namespace Go.Proofs.YtobfkcepjnjfpaaGreatDoor
open Go.RowKit

set_option maxRecDepth 100000 in
theorem infoSl9 : (Tryz.prog.info? 22).map (fun i => (i.zero, i.size, i.bytes)) = some (some (.slice none 0 0), 1, 24) := by kernel_rfl
/-- The slice value v owns the values xs. -/
def OwnX (w : World) (B : Nat) (v : Value) (xs : List Value) : Prop := w.ownsRow B 22 1 v xs.length xs
set_option maxRecDepth 100000 in
theorem OwnX.nil (w : World) (B : Nat) : OwnX w B (.slice none 0 0) [] := World.ownsRow_nil w B 22 1
set_option maxRecDepth 100000 in
theorem u8_neX : 5 ≠ 22 := by decide
set_option maxRecDepth 100000 in
theorem bk_neX : 69 ≠ 22 := by decide
set_option maxRecDepth 100000 in
theorem bk_ne8 : 69 ≠ 5 := by decide
set_option maxRecDepth 100000 in
/-- A row of values is not a block of another type. -/
theorem OwnX.noty {w : World} {B : Nat} {v : Value} {xs : List Value} (h : OwnX w B v xs) {g : Nat} {c : Array Value} {t : TypeId} {fz : Nat × Nat} (hg : w.heap[g]? = some (.cells c t fz)) (ht : t ≠ 22) : v.ownBlock ≠ some g := by
  intro e
  rcases h.2 with ⟨rfl, _⟩ | ⟨k, cap, cur, rfl, _, hk, _⟩
  · cases e
  · injection e with e
    have e' : k = g := e
    rw [← e', hk] at hg
    injection hg with hg
    injection hg with _ h2 _
    exact ht h2.symm
set_option maxRecDepth 100000 in
theorem OwnB.noty {w : World} {B : Nat} {v : Value} {l : List Int} (h : OwnB w B v l) {g : Nat} {c : Array Value} {t : TypeId} {fz : Nat × Nat} (hg : w.heap[g]? = some (.cells c t fz)) (ht : t ≠ 5) : v.ownBlock ≠ some g := by
  intro e
  unfold OwnB at h
  rcases h.2 with ⟨rfl, _⟩ | ⟨k, cap, cur, rfl, _, hk, _⟩
  · cases e
  · injection e with e
    have e' : k = g := e
    rw [← e', hk] at hg
    injection hg with hg
    injection hg with _ h2 _
    exact ht h2.symm
set_option maxRecDepth 100000 in
theorem OwnX.noB {w : World} {B C : Nat} {v u : Value} {xs : List Value} {l : List Int} (h : OwnX w B v xs) (k : OwnB w C u l) : v.ownBlock = none ∨ v.ownBlock ≠ u.ownBlock := by
  have k2 := k
  unfold OwnB at k2
  rcases k2.2 with ⟨rfl, _⟩ | ⟨g, cap, cur, rfl, _, hk, _⟩
  · cases e : v.ownBlock with
    | none => exact .inl rfl
    | some _ => right; simp [Value.ownBlock]
  · exact .inr (h.noty hk u8_neX)
set_option maxRecDepth 100000 in
theorem OwnX.kept {w w' : World} {B : Nat} {v : Value} {xs : List Value} {row : Option Nat} (h : OwnX w B v xs) (hg : w.grownBy w' row) (hne : v.ownBlock = none ∨ v.ownBlock ≠ row) : OwnX w' B v xs := World.ownsRow.kept h hg hne
set_option maxRecDepth 100000 in
theorem OwnX.on {w w' : World} {B : Nat} {v : Value} {xs : List Value} (h : OwnX w B v xs) (hb : Below w.heap.size w w') : OwnX w' B v xs := h.kept (row := none) ⟨hb.os, hb.tape, hb.output, hb.size, fun k hk _ => hb.block k hk⟩ (by
  cases e : v.ownBlock with
  | none => exact .inl rfl
  | some k => exact .inr (by simp))
set_option maxRecDepth 100000 in
theorem OwnX.cells {w : World} {B : Nat} {v : Value} {xs : List Value} (h : OwnX w B v xs) : ∃ ao cap, v = .slice ao xs.length cap ∧ (xs.length = 0 ∨ ∃ g, ao = some ⟨g, 0, none⟩ ∧ xs.length ≤ cap ∧ ∀ (t : Nat) (u : Value), xs[t]? = some u → w.cell? ⟨g, t, none⟩ = some u) := by
  rcases h.2 with ⟨rfl, h0⟩ | ⟨g, cap, cur, rfl, hg, hh, hnc, hm, hs, ht⟩
  · exact ⟨none, 0, by rw [h0], .inl h0⟩
  · refine ⟨_, cap, rfl, .inr ⟨g, rfl, hnc, fun t u hu => ?_⟩⟩
    have hlt := (List.getElem?_eq_some_iff.1 hu).1
    have := World.ownsRow.cellAt h t (by omega)
    rw [this]
    exact hu
set_option maxRecDepth 100000 in
/-- 'append(got, b)'. -/
theorem app_x {ops : Array Oper} {rest : List Oper} {o : Oper} {a : Act} {Q : Exit → Act → World → Prop} (w : World) (hgd : o.guard = none) (s x : Operand)
    (ho : o.op = .call { callee := .builtin .append, args := #[s, x], argTypes := #[67, 67] }) (B : Nat) (xs : List Value) (v y : Value) (hs : a.eval s = v) (h1 : y.oneCell' = true)
    (hown : OwnX w B v xs) (b : Nat) (hx : a.eval x = .slice (some ⟨b, 0, none⟩) 1 1) (hc : w.cell? ⟨b, 0, none⟩ = some y) (hb : xs.length + 1 ≤ 100000000) (hbase : B ≤ w.heap.size)
    (h : ∀ v' w', OwnX w' B v' (xs ++ [y]) → Gr w v w' v' → wpList Tryz.prog ops Q rest (a.put o.dst v') w') : wpList Tryz.prog ops Q (o :: rest) a w := by
  obtain ⟨i0, hi, hz0, hz1, hz2⟩ := info_parts infoSl9
  refine wpList_append_own_at w hgd s x 67 ho B 22 i0 (.slice none 0 0) 1 24 Tryz.underlying67 hi hz0 hz1 hz2 rfl (by decide) v xs.length xs hs hown ⟨b, 0, none⟩ 1 1 [y] hx rfl
    (fun j u hu => by
      have hj : j = 0 := by
        have := (List.getElem?_eq_some_iff.1 hu).1
        simpa using this
      subst hj
      simp at hu
      subst hu
      simpa [Addr.add_lit] using hc) (fun u hu => by simp at hu; subst hu; exact h1) (by unfold maxLen; omega) (by omega) hbase ?_
  intro v' w' h1 h2 _ h4
  refine h v' w' ?_ ⟨h2, h4.imp id fun e => ⟨_, e, Nat.le_refl _⟩⟩
  unfold OwnX
  rw [List.length_append]
  exact h1
/-- A BOOK IN MEMORY: the lists V, list t has the bytes D t. -/
structure Bo9 (w : World) (B bk : Nat) (v : Value) (V : List Value) (D : Nat → List Int) : Prop where
  box : w.heap[bk]? = some (.cells #[v] 69 (0, 0))
  row : OwnX w B v V
  own : ∀ (t : Nat) (u : Value), V[t]? = some u → OwnB w B u (D t) ∧ Wf (D t) ∧ (D t).length ≤ 65536
  ne : ∀ (t t' : Nat) (u u' : Value), V[t]? = some u → V[t']? = some u' → t ≠ t' → u.ownBlock = none ∨ u.ownBlock ≠ u'.ownBlock
set_option maxRecDepth 100000 in
theorem own_shape {w : World} {B : Nat} {u : Value} {l : List Int} (h : OwnB w B u l) : ∃ ao c, u = .slice ao l.length c ∧ (l.length = 0 ∨ ∃ g, ao = some ⟨g, 0, none⟩ ∧ B ≤ g) := by
  have h2 := h
  unfold OwnB at h2
  rcases h2.2 with ⟨rfl, h0⟩ | ⟨g, cap, cur, rfl, hg, _⟩
  · exact ⟨none, 0, by rw [h0], .inl h0⟩
  · exact ⟨_, cap, rfl, .inr ⟨g, rfl, hg⟩⟩
set_option maxRecDepth 100000 in
theorem Bo9.set {w : World} {B bk : Nat} {v : Value} {V : List Value} {D : Nat → List Int} (h : Bo9 w B bk v V D) {i g n c k : Nat} {y : Int} (hi : V[i]? = some (.slice (some ⟨g, 0, none⟩) n c)) (hn : (D i).length = n) (hk : k < n) (hy : 0 ≤ y ∧ y ≤ 255) :
    Bo9 (w.setCell ⟨g, k, none⟩ (.int .u8 y)) B bk v V (fun t => if t = i then (D i).set k y else D t) := by
  obtain ⟨ho, hw, hl⟩ := h.own i _ hi
  have hgu : (Value.slice (some ⟨g, 0, none⟩) n c).ownBlock = some g := rfl
  have hc : Cf (· = g) w (w.setCell ⟨g, k, none⟩ (.int .u8 y)) := Cf.setCell (F := (· = g)) w (p := ⟨g, k, none⟩) rfl _
  have hgr : w.grownBy (w.setCell ⟨g, k, none⟩ (.int .u8 y)) (some g) := ⟨hc.os, hc.tape, hc.output, hc.size, fun q hq hne => hc.block q hq (fun e => hne (by rw [e]))⟩
  refine ⟨(hc.block bk (lt_some h.box) (fun e => ho.noty h.box bk_ne8 (by rw [hgu, e]))).trans h.box, h.row.kept hgr ?_, fun t u ht => ?_, h.ne⟩
  · rcases h.row.noB ho with e | e
    · exact .inl e
    · exact .inr e
  · by_cases e : t = i
    · subst e
      rw [hi] at ht
      cases ht
      simp only [if_true]
      refine ⟨own_set ho hn hk, ?_, by rw [List.length_set]; exact hl⟩
      intro z hz
      rcases List.mem_or_eq_of_mem_set hz with hz | hz
      · exact hw z hz
      · rw [hz]; exact hy
    · simp only [if_neg e]
      obtain ⟨o2, w2, l2⟩ := h.own t u ht
      exact ⟨World.ownsRow.kept o2 hgr (by
        rcases h.ne t i u _ ht hi e with e2 | e2
        · exact .inl e2
        · exact .inr e2), w2, l2⟩
set_option maxRecDepth 100000 in
theorem Bo9.on {w w' : World} {B bk : Nat} {v : Value} {V : List Value} {D : Nat → List Int} (h : Bo9 w B bk v V D) (hb : Below w.heap.size w w') : Bo9 w' B bk v V D :=
  ⟨(hb.block _ (lt_some h.box)).trans h.box, h.row.on hb, fun t u ht => ⟨(h.own t u ht).1.on (Nat.le_refl _) hb, (h.own t u ht).2⟩, h.ne⟩
set_option maxRecDepth 100000 in
theorem Bo9.cong {w : World} {B bk : Nat} {v : Value} {V : List Value} {D E : Nat → List Int} (h : Bo9 w B bk v V D) (he : ∀ t, t < V.length → D t = E t) : Bo9 w B bk v V E :=
  ⟨h.box, h.row, fun t u ht => by rw [← he t (List.getElem?_eq_some_iff.1 ht).1]; exact h.own t u ht, h.ne⟩
set_option maxRecDepth 100000 in
/-- Take. -/
theorem take9 (w : World) (B bk : Nat) (v : Value) (V : List Value) (D : Nat → List Int) (ao : Option Addr) (n c : Nat) (l : List Int) (h : Bo9 w B bk v V D) (hn : V.length ≤ 4000000) (hB : B ≤ w.heap.size) (ho : OwnB w B (.slice ao n c) l) (hw : Wf l) (hl : l.length ≤ 65536)
    (hne : ∀ (t : Nat) (u : Value), V[t]? = some u → u.ownBlock = none ∨ u.ownBlock ≠ (Value.slice ao n c).ownBlock) :
    Calls Tryz.prog 34 #[.pointer (some ⟨bk, 0, none⟩), .slice ao n c] w fun e w' => e = .returned (.tuple #[]) ∧ Hid (∃ v', Bo9 w' B bk v' (V ++ [.slice ao n c]) (fun t => if t < V.length then D t else l) ∧ Cf (fun k => k = bk ∨ v.ownBlock = some k) w w') := by
  have hbx := h.box
  have c0 : w.cell? ⟨bk, 0, none⟩ = some v := by rw [cell_of_row _ _ 0 _ _ _ hbx]; rfl
  have f0 : w.frozen? ⟨bk, 0, none⟩ = false := by simp [World.frozen?, hbx]
  obtain ⟨x, hx⟩ : ∃ x, w.alloc (.cells #[.slice ao n c] 22) = x := ⟨_, rfl⟩
  have hbx2 : Below w.heap.size w x := by rw [← hx]; exact bl_al (Below.refl _ _) (Nat.le_refl _) _
  have hcx : x.cell? ⟨w.heap.size, 0, none⟩ = some (.slice ao n c) := by rw [← hx]; simp
  have HX := hidden (h.on hbx2)
  have HOX : Hid (OwnB x B (.slice ao n c) l) := hidden (ho.on (Nat.le_refl _) hbx2)
  have hxs : B ≤ x.heap.size := Nat.le_trans hB hbx2.size
  have HBX := hidden hbx2
  have HNE := hidden hne
  have c0x : x.cell? ⟨bk, 0, none⟩ = some v := (hbx2.cell (p := ⟨bk, 0, none⟩) (lt_some hbx)).trans c0
  clear h ho hne hbx hbx2
  go_enter Tryz.func34, Tryz.ntmps34
  go_wp2_with (at_builtin; refine app_x _ rfl _ _ rfl B V v (.slice ao n c) rfl rfl HX.out.row w.heap.size rfl hcx (by omega) hxs ?_; refine Hid.out ?_)
  apply hidden
  intro v' w1 ho1 hg1
  obtain ⟨vo, vn, vc, rfl⟩ : ∃ vo vn vc, v' = .slice vo vn vc := by
    obtain ⟨vo, vc, e, _⟩ := ho1.cells
    exact ⟨vo, _, vc, e⟩
  have hbk1 : v.ownBlock ≠ some bk := HX.out.row.noty HX.out.box bk_neX
  have hbox1 : w1.heap[bk]? = some (.cells #[v] 69 (0, 0)) := (hg1.cf.block bk (lt_some HX.out.box) hbk1).trans HX.out.box
  have c1 : ∃ z, w1.cell? ⟨bk, 0, none⟩ = some z := ⟨v, by rw [cell_of_row _ _ 0 _ _ _ hbox1]; rfl⟩
  obtain ⟨z, c1⟩ := c1
  have f1 : w1.frozen? ⟨bk, 0, none⟩ = false := by simp [World.frozen?, hbox1]
  have hbk2 : (Value.slice vo vn vc).ownBlock ≠ some bk := ho1.noty hbox1 bk_neX
  have HF : Hid (Bo9 (w1.setCell ⟨bk, 0, none⟩ (.slice vo vn vc)) B bk (.slice vo vn vc) (V ++ [.slice ao n c]) (fun t => if t < V.length then D t else l) ∧ Cf (fun k => k = bk ∨ v.ownBlock = some k) w (w1.setCell ⟨bk, 0, none⟩ (.slice vo vn vc))) := hidden (by
    have hc2 : Cf (· = bk) w1 (w1.setCell ⟨bk, 0, none⟩ (.slice vo vn vc)) := Cf.setCell (F := (· = bk)) w1 (p := ⟨bk, 0, none⟩) rfl _
    have hgr2 : w1.grownBy (w1.setCell ⟨bk, 0, none⟩ (.slice vo vn vc)) (some bk) := ⟨hc2.os, hc2.tape, hc2.output, hc2.size, fun q hq hne => hc2.block q hq (fun e => hne (by rw [e]))⟩
    have keep : ∀ u d, OwnB x B u d → OwnB (w1.setCell ⟨bk, 0, none⟩ (.slice vo vn vc)) B u d := by
      intro u d hu
      have h1 : OwnB w1 B u d := World.ownsRow.kept hu hg1.grow (by
        rcases HX.out.row.noB hu with e | e
        · rw [e]
          cases e2 : u.ownBlock with
          | none => exact .inl rfl
          | some _ => exact .inr (by simp)
        · exact .inr fun e2 => e e2.symm)
      exact World.ownsRow.kept h1 hgr2 (.inr (h1.noty hbox1 bk_ne8))
    refine ⟨⟨?_, ho1.kept hgr2 (.inr hbk2), fun t u ht => ?_, fun t t' u u' ht ht' hne => ?_⟩, ((Cf.of_below HBX.out).go (hg1.cf.wide (fun k hk => .inr hk))).go (hc2.wide (fun k hk => .inl hk))⟩
    · have := set_row (w := w1) (a := bk) (cs := [v]) (i := 0) (u := .slice vo vn vc) hbox1
      simpa using this
    · by_cases e : t < V.length
      · rw [List.getElem?_append_left e] at ht
        rw [if_pos e]
        obtain ⟨a1, a2, a3⟩ := HX.out.own t u ht
        exact ⟨keep u _ a1, a2, a3⟩
      · have hlt := (List.getElem?_eq_some_iff.1 ht).1
        rw [List.length_append] at hlt
        simp only [List.length_cons, List.length_nil] at hlt
        obtain rfl : t = V.length := by omega
        rw [List.getElem?_concat_length] at ht
        cases ht
        rw [if_neg e]
        exact ⟨keep _ _ HOX.out, hw, hl⟩
    · have l1 := (List.getElem?_eq_some_iff.1 ht).1
      have l2 := (List.getElem?_eq_some_iff.1 ht').1
      rw [List.length_append] at l1 l2
      simp only [List.length_cons, List.length_nil] at l1 l2
      by_cases e : t < V.length
      · rw [List.getElem?_append_left e] at ht
        by_cases e' : t' < V.length
        · rw [List.getElem?_append_left e'] at ht'
          exact HX.out.ne t t' u u' ht ht' hne
        · obtain rfl : t' = V.length := by omega
          rw [List.getElem?_concat_length] at ht'
          cases ht'
          exact HNE.out t u ht
      · obtain rfl : t = V.length := by omega
        rw [List.getElem?_concat_length] at ht
        cases ht
        have e' : t' < V.length := by omega
        rw [List.getElem?_append_left e'] at ht'
        rcases HNE.out t' u' ht' with e2 | e2
        · rw [e2]
          cases e3 : (Value.slice ao n c).ownBlock with
          | none => exact .inl rfl
          | some _ => exact .inr (by simp)
        · exact .inr fun e3 => e2 e3.symm)
  clear ho1 hg1 hx hcx c0 f0
  go_wp2
  go_end0
  exact ⟨rfl, hidden ⟨_, HF.out⟩⟩
end Go.Proofs.YtobfkcepjnjfpaaGreatDoor

/- espalierref03.Book.Owned: what stands while it runs. -/

namespace Go.Proofs.YtobfkcepjnjfpaaGreatDoor
open Go.RowKit

set_option maxRecDepth 100000 in
theorem app_run9 {ops : Array Oper} {rest : List Oper} {o : Oper} {a : Act} {w : World} {Q : Exit → Act → World → Prop} (hgd : o.guard = none) (s x : Operand) (t1 t2 : TypeId)
    (ho : o.op = .call { callee := .builtin .append, args := #[s, x], argTypes := #[t1, t2] }) (v u : Value) (hs : a.eval s = v) (hx : a.eval x = u) {v' : Value} {w' : World}
    (hr : (Builtin.append_ #[t1, t2] o.type #[v, u]).run Tryz.prog w = .ok v' w') (h : wpList Tryz.prog ops Q rest (a.put o.dst v') w') : wpList Tryz.prog ops Q (o :: rest) a w := by
  refine wpList_plain hgd fun K hK => ?_
  unfold Oper.wp execOp
  simp only [ho, resolve, invoke, builtin, Sem.run_bind, Sem.run_pure, Result.andThen_ok, List.map_toArray, List.map_cons, List.map_nil, hs, hx, hr]
  exact hK _ _ h
/-- The bytes lie in a block of bytes. -/
def U8 (w : World) (ao : Option Addr) (n : Nat) : Prop := n = 0 ∨ ∀ p, ao = some p → ∃ cs fz, w.heap[p.block]? = some (.cells cs 5 fz)
set_option maxRecDepth 100000 in
theorem U8.on {w w' : World} {ao : Option Addr} {n : Nat} (h : U8 w ao n) (hb : Below w.heap.size w w') : U8 w' ao n := h.imp id fun h p hp => by
  obtain ⟨cs, fz, e⟩ := h p hp
  exact ⟨cs, fz, (hb.block _ (lt_some e)).trans e⟩
set_option maxRecDepth 100000 in
theorem OwnB.u8 {w : World} {B : Nat} {x : Value} {l : List Int} (h : OwnB w B x l) {g : Nat} (hg : x.ownBlock = some g) : ∃ cs fz, w.heap[g]? = some (.cells cs 5 fz) := by
  unfold OwnB at h
  rcases h.2 with ⟨rfl, _⟩ | ⟨g', c, cur, rfl, _, hh, _⟩
  · cases hg
  · injection hg with hg
    have hg' : g' = g := hg
    rw [← hg']
    exact ⟨_, _, hh⟩
set_option maxRecDepth 100000 in
theorem U8.app {w w' : World} {B : Nat} {x x' : Value} {l : List Int} {ao : Option Addr} {n : Nat} (h : U8 w ao n) (ho : OwnB w' B x' l)
    (hc : (x'.ownBlock = x.ownBlock ∧ w.grownBy w' x.ownBlock) ∨ (Below w.heap.size w w' ∧ ∀ k, x'.ownBlock = some k → w.heap.size ≤ k)) : U8 w' ao n := by
  rcases hc with ⟨e, hg⟩ | ⟨hb, _⟩
  · refine h.imp id fun h p hp => ?_
    by_cases e2 : x.ownBlock = some p.block
    · exact ho.u8 (by rw [e]; exact e2)
    · obtain ⟨cs, fz, e3⟩ := h p hp
      exact ⟨cs, fz, (hg.block _ (lt_some e3) (fun e4 => e2 e4.symm)).trans e3⟩
  · exact h.on hb
/-- A slice of marks, as it stands while x is grown. -/
structure Ps (w : World) (x : Value) (i L : Nat) (u : Value) (n j : Nat) : Prop where
  ex : ∃ ao c, u = .slice ao n c ∧ Pk w x i L ao n c j ∧ U8 w ao n
set_option maxRecDepth 100000 in
theorem Ps.app {w w' : World} {B : Nat} {x x' : Value} {i L : Nat} {u : Value} {n j : Nat} (h : Ps w x i L u n j) (ho : OwnB w' B x' (mkL i (L + 1)))
    (hc : (x'.ownBlock = x.ownBlock ∧ w.grownBy w' x.ownBlock) ∨ (Below w.heap.size w w' ∧ ∀ k, x'.ownBlock = some k → w.heap.size ≤ k)) : Ps w' x' i (L + 1) u n j := by
  obtain ⟨ao, c, rfl, h1, h2⟩ := h.ex
  exact ⟨ao, c, rfl, h1.app ho hc, h2.app ho hc⟩
set_option maxRecDepth 100000 in
theorem Ps.on {w w' : World} {x : Value} {i L : Nat} {u : Value} {n j : Nat} (h : Ps w x i L u n j) (hb : Below w.heap.size w w') : Ps w' x i L u n j := by
  obtain ⟨ao, c, rfl, h1, h2⟩ := h.ex
  exact ⟨ao, c, rfl, h1.on hb, h2.on hb⟩
set_option maxRecDepth 100000 in
/-- A row of values is grown: slices of bytes stay. -/
theorem Ps.grow {w w' : World} {B : Nat} {vG vG' : Value} {H : List Value} {x : Value} {i L : Nat} {u : Value} {n j : Nat} (h : Ps w x i L u n j) (hG : OwnX w B vG H) (hg : Gr w vG w' vG') : Ps w' x i L u n j := by
  obtain ⟨ao, c, rfl, h1, h2⟩ := h.ex
  have hf : n = 0 ∨ ∀ p, ao = some p → vG.ownBlock ≠ some p.block := h2.imp id fun h p hp => by
    obtain ⟨cs, fz, e⟩ := h p hp
    exact hG.noty e u8_neX
  refine ⟨ao, c, rfl, ⟨h1.sl.gr hg hf, h1.far⟩, ?_⟩
  rcases h2 with h0 | h2
  · exact .inl h0
  · rcases hf with h0 | hf
    · exact .inl h0
    · right
      intro p hp
      obtain ⟨cs, fz, e⟩ := h2 p hp
      exact ⟨cs, fz, (hg.grow.block _ (lt_some e) (fun e4 => hf p hp e4.symm)).trans e⟩
/-- Where the second pair of loops stands. -/
structure P9 (w : World) (B bk : Nat) (v : Value) (V : List Value) (nn : Nat → Nat) (i k : Nat) (x vG : Value) (H : List Value) : Prop where
  box : w.heap[bk]? = some (.cells #[v] 69 (0, 0))
  row : OwnX w B v V
  rowG : OwnX w B vG H
  gne : v.ownBlock = none ∨ v.ownBlock ≠ vG.ownBlock
  xo : OwnB w B x (mkL i (nn i + k))
  lst : ∀ (t : Nat) (u : Value), V[t]? = some u → Ps w x i (nn i + k) u (nn t) t
  own : ∀ (t : Nat) (u : Value), V[t]? = some u → i < t → OwnB w B u (mkL t (nn t)) ∧ (u.ownBlock = none ∨ u.ownBlock ≠ x.ownBlock)
  gr : ∀ (s : Nat) (u : Value), H[s]? = some u → ∃ n, Ps w x i (nn i + k) u n (s / 5)
  gfar : ∀ (s : Nat) (y : Value), H[s]? = some y → ∀ (t : Nat) (u : Value), V[t]? = some u → i < t → y.ownBlock = none ∨ y.ownBlock ≠ u.ownBlock
set_option maxRecDepth 100000 in
theorem P9.on {w w' : World} {B bk : Nat} {v : Value} {V : List Value} {nn : Nat → Nat} {i k : Nat} {x vG : Value} {H : List Value} (h : P9 w B bk v V nn i k x vG H) (hb : Below w.heap.size w w') : P9 w' B bk v V nn i k x vG H :=
  ⟨(hb.block _ (lt_some h.box)).trans h.box, h.row.on hb, h.rowG.on hb, h.gne, h.xo.on (Nat.le_refl _) hb, fun t u ht => (h.lst t u ht).on hb, fun t u ht hi => ⟨(h.own t u ht hi).1.on (Nat.le_refl _) hb, (h.own t u ht hi).2⟩, fun s u hs => by
    obtain ⟨n, h1⟩ := h.gr s u hs
    exact ⟨n, h1.on hb⟩, h.gfar⟩
set_option maxRecDepth 100000 in
theorem P9.appX {w w' : World} {B bk : Nat} {v : Value} {V : List Value} {nn : Nat → Nat} {i k : Nat} {x x' vG : Value} {H : List Value} (h : P9 w B bk v V nn i k x vG H) (ho : OwnB w' B x' (mkL i (nn i + k + 1)))
    (hc : (x'.ownBlock = x.ownBlock ∧ w.grownBy w' x.ownBlock) ∨ (Below w.heap.size w w' ∧ ∀ q, x'.ownBlock = some q → w.heap.size ≤ q)) : P9 w' B bk v V nn i (k + 1) x' vG H := by
  have hXx : ∀ {y : Value} {ys : List Value}, OwnX w B y ys → OwnX w' B y ys := by
    intro y ys hy
    rcases hc with ⟨_, hg⟩ | ⟨hb, _⟩
    · exact hy.kept hg (hy.noB h.xo)
    · exact hy.on hb
  refine ⟨?_, hXx h.row, hXx h.rowG, h.gne, ho, fun t u ht => (h.lst t u ht).app ho hc, fun t u ht hi => ?_, fun s u hs => ?_, h.gfar⟩
  · rcases hc with ⟨_, hg⟩ | ⟨hb, _⟩
    · exact (hg.block bk (lt_some h.box) (fun e => h.xo.noty h.box bk_ne8 e.symm)).trans h.box
    · exact (hb.block _ (lt_some h.box)).trans h.box
  · obtain ⟨o1, n1⟩ := h.own t u ht hi
    rcases hc with ⟨e, hg⟩ | ⟨hb, hn⟩
    · exact ⟨World.ownsRow.kept o1 hg n1, by rw [e]; exact n1⟩
    · refine ⟨o1.on (Nat.le_refl _) hb, ?_⟩
      cases e : u.ownBlock with
      | none => exact .inl rfl
      | some q =>
        right
        intro e2
        have h1 := (o1.blk e).2
        have h2 := hn q e2.symm
        omega
  · obtain ⟨n, h1⟩ := h.gr s u hs
    exact ⟨n, h1.app ho hc⟩
set_option maxRecDepth 100000 in
theorem P9.appG {w w' : World} {B bk : Nat} {v : Value} {V : List Value} {nn : Nat → Nat} {i k : Nat} {x vG vG' : Value} {H : List Value} (h : P9 w B bk v V nn i k x vG H) (hG : OwnX w' B vG' (H ++ [x])) (hg : Gr w vG w' vG') (hs : H.length / 5 = i) (h0 : 0 < nn i + k) (hl : nn i + k ≤ 140737488355328) : P9 w' B bk v V nn i k x vG' (H ++ [x]) := by
  have hkeep : ∀ {y : Value} {l : List Int}, OwnB w B y l → OwnB w' B y l := by
    intro y l hy
    refine World.ownsRow.kept hy hg.grow ?_
    rcases h.rowG.noB hy with e | e
    · rw [e]
      cases e2 : y.ownBlock with
      | none => exact .inl rfl
      | some _ => exact .inr (by simp)
    · exact .inr fun e2 => e e2.symm
  have hxo := hkeep h.xo
  refine ⟨(hg.grow.block bk (lt_some h.box) (fun e => h.rowG.noty h.box bk_neX e.symm)).trans h.box, h.row.kept hg.grow h.gne, hG, ?_, hxo, fun t u ht => (h.lst t u ht).grow h.rowG hg, fun t u ht hi => ⟨hkeep (h.own t u ht hi).1, (h.own t u ht hi).2⟩, fun s u hsu => ?_, fun s y hsy t u ht hi => ?_⟩
  · rcases h.gne with e | e
    · exact .inl e
    · rcases hg.own with e2 | ⟨q, e2, hq⟩
      · rw [e2]; exact .inr e
      · cases e3 : v.ownBlock with
        | none => exact .inl rfl
        | some z =>
          right
          rw [e2]
          intro e4
          injection e4 with e4
          have hr := h.row
          unfold OwnX at hr
          have := (hr.lt z e3).2
          omega
  · by_cases e : s < H.length
    · rw [List.getElem?_append_left e] at hsu
      obtain ⟨n, h1⟩ := h.gr s u hsu
      exact ⟨n, h1.grow h.rowG hg⟩
    · have hlt := (List.getElem?_eq_some_iff.1 hsu).1
      rw [List.length_append] at hlt
      simp only [List.length_cons, List.length_nil] at hlt
      obtain rfl : s = H.length := by omega
      rw [List.getElem?_concat_length] at hsu
      cases hsu
      obtain ⟨ao, c, e5, _, _⟩ := hxo.sl (mkL_wf _ _) (by rw [mkL_length]; exact hl)
      rw [mkL_length] at e5
      obtain ⟨ao2, c2, e6, h7⟩ := own_shape hxo
      rw [mkL_length] at e6 h7
      rcases h7 with h7 | ⟨g, rfl, _⟩
      · omega
      have hob : x.ownBlock = some g := by rw [e6]; rfl
      have hcap : nn i + k ≤ c2 := by
        have h8 := hxo
        unfold OwnB at h8
        rcases h8.2 with ⟨e9, _⟩ | ⟨g', cap', cur, e9, _, _, hnc, _⟩
        · rw [e6] at e9; cases e9
        · rw [e6] at e9
          rw [mkL_length] at hnc e9
          injection e9 with _ _ e10
          omega
      refine ⟨nn i + k, ⟨some ⟨g, 0, none⟩, c2, e6, ⟨?_, .inr ⟨hs, Nat.le_refl _, g, rfl, hob⟩⟩, .inr fun p hp => ?_⟩⟩
      · rw [hs]
        exact hxo.marks hob (Nat.le_refl _) hcap hl
      · cases hp
        exact hxo.u8 hob
  · by_cases e : s < H.length
    · rw [List.getElem?_append_left e] at hsy
      exact h.gfar s y hsy t u ht hi
    · have hlt := (List.getElem?_eq_some_iff.1 hsy).1
      rw [List.length_append] at hlt
      simp only [List.length_cons, List.length_nil] at hlt
      obtain rfl : s = H.length := by omega
      rw [List.getElem?_concat_length] at hsy
      cases hsy
      rcases (h.own t u ht hi).2 with e2 | e2
      · rw [e2]
        cases e3 : x.ownBlock with
        | none => exact .inl rfl
        | some _ => exact .inr (by simp)
      · exact .inr fun e3 => e2 e3.symm
/-- A slice of marks. -/
def Sq (w : World) (u : Value) (n j : Nat) : Prop := ∃ ao c, u = .slice ao n c ∧ Sl w ao n c (mkL j n) ∧ U8 w ao n
/-- Between two lists. -/
structure Q9 (w : World) (B bk : Nat) (v : Value) (V : List Value) (nn : Nat → Nat) (i : Nat) (vG : Value) (H : List Value) : Prop where
  box : w.heap[bk]? = some (.cells #[v] 69 (0, 0))
  row : OwnX w B v V
  rowG : OwnX w B vG H
  gne : v.ownBlock = none ∨ v.ownBlock ≠ vG.ownBlock
  lst : ∀ (t : Nat) (u : Value), V[t]? = some u → Sq w u (nn t) t
  own : ∀ (t : Nat) (u : Value), V[t]? = some u → i ≤ t → OwnB w B u (mkL t (nn t))
  ne : ∀ (t t' : Nat) (u u' : Value), V[t]? = some u → V[t']? = some u' → t ≠ t' → u.ownBlock = none ∨ u.ownBlock ≠ u'.ownBlock
  gr : ∀ (s : Nat) (u : Value), H[s]? = some u → ∃ n, Sq w u n (s / 5)
  gfar : ∀ (s : Nat) (y : Value), H[s]? = some y → ∀ (t : Nat) (u : Value), V[t]? = some u → i ≤ t → y.ownBlock = none ∨ y.ownBlock ≠ u.ownBlock
set_option maxRecDepth 100000 in
theorem far_of {ao : Option Addr} {n c : Nat} {x : Value} (h : (Value.slice ao n c).ownBlock = none ∨ (Value.slice ao n c).ownBlock ≠ x.ownBlock) : Far ao n x := by
  right
  rintro p rfl e
  rcases h with h | h
  · cases h
  · exact h (by rw [e]; rfl)
set_option maxRecDepth 100000 in
theorem Q9.into {w : World} {B bk : Nat} {v : Value} {V : List Value} {nn : Nat → Nat} {i : Nat} {vG : Value} {H : List Value} (h : Q9 w B bk v V nn i vG H) {x : Value} (hx : V[i]? = some x) : P9 w B bk v V nn i 0 x vG H := by
  have hxo := h.own i x hx (Nat.le_refl _)
  refine ⟨h.box, h.row, h.rowG, h.gne, hxo, fun t u ht => ?_, fun t u ht hi => ⟨h.own t u ht (by omega), h.ne t i u x ht hx (by omega)⟩, fun s u hs => ?_, fun s y hs t u ht hi => h.gfar s y hs t u ht (by omega)⟩
  · obtain ⟨ao, c, rfl, h1, h2⟩ := h.lst t u ht
    refine ⟨ao, c, rfl, ⟨h1, ?_⟩, h2⟩
    by_cases e : t = i
    · subst e
      rw [hx] at ht
      cases ht
      rcases own_shape hxo with ⟨ao2, c2, e2, h3⟩
      injection e2 with e3 e4 e5
      rw [mkL_length] at e4 h3
      rcases h3 with h3 | ⟨g, e6, _⟩
      · exact .inl (.inl h3)
      · refine .inr ⟨rfl, by omega, g, by rw [e3, e6], by rw [e3, e6]; rfl⟩
    · exact .inl (far_of (h.ne t i _ x ht hx e))
  · obtain ⟨n, ao, c, rfl, h1, h2⟩ := h.gr s u hs
    exact ⟨n, ⟨ao, c, rfl, ⟨h1, .inl (far_of (h.gfar s _ hs i x hx (Nat.le_refl _)))⟩, h2⟩⟩
set_option maxRecDepth 100000 in
theorem P9.out {w : World} {B bk : Nat} {v : Value} {V : List Value} {nn : Nat → Nat} {i k : Nat} {x vG : Value} {H : List Value} (h : P9 w B bk v V nn i k x vG H) (hne : ∀ (t t' : Nat) (u u' : Value), V[t]? = some u → V[t']? = some u' → t ≠ t' → u.ownBlock = none ∨ u.ownBlock ≠ u'.ownBlock) : Q9 w B bk v V nn (i + 1) vG H :=
  ⟨h.box, h.row, h.rowG, h.gne, fun t u ht => by
    obtain ⟨ao, c, e, h1, h2⟩ := (h.lst t u ht).ex
    exact ⟨ao, c, e, h1.sl, h2⟩, fun t u ht hi => (h.own t u ht (by omega)).1, hne, fun s u hs => by
    obtain ⟨n, h0⟩ := h.gr s u hs
    obtain ⟨ao, c, e, h1, h2⟩ := h0.ex
    exact ⟨n, ao, c, e, h1.sl, h2⟩, fun s y hs t u ht hi => h.gfar s y hs t u ht (by omega)⟩
set_option maxRecDepth 100000 in
theorem Bo9.start {w : World} {B bk : Nat} {v : Value} {V : List Value} {nn : Nat → Nat} (h : Bo9 w B bk v V (fun t => mkL t (nn t))) : Q9 w B bk v V nn 0 (.slice none 0 0) [] := by
  refine ⟨h.box, h.row, OwnX.nil _ _, ?_, fun t u ht => ?_, fun t u ht _ => (h.own t u ht).1, h.ne, fun s u hs => by simp at hs, fun s y hs => by simp at hs⟩
  · cases e : v.ownBlock with
    | none => exact .inl rfl
    | some _ => exact .inr (by simp [Value.ownBlock])
  · obtain ⟨o, w1, l1⟩ := h.own t u ht
    rw [mkL_length] at l1
    obtain ⟨ao, c, e, hs, _⟩ := o.sl w1 (by rw [mkL_length]; omega)
    rw [mkL_length] at e hs
    refine ⟨ao, c, e, hs, ?_⟩
    right
    rintro p rfl
    exact o.u8 (by rw [e]; rfl)
end Go.Proofs.YtobfkcepjnjfpaaGreatDoor
