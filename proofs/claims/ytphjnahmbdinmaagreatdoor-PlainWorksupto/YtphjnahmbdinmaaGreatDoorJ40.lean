/- Layer 6: the law's pair: lent. -/
import Derived.Test.YtphjnahmbdinmaaGreatDoorJ39
import Derived.Test.YtphjnahmbdinmaaGreatDoorJ24
namespace Go.Proofs.YtphjnahmbdinmaaGreatDoor
open Go.RowKit

/-- The pair in its block. -/
def PX (w : World) (X a r : Nat) (v1 v2 v3 v4 : Value) : Prop := w.heap[X]? = some (.cells #[.pointer (some ⟨a, 0, none⟩), .pointer (some ⟨r, 0, none⟩), v1, v2, v3, v4] 36 (0, 0))
set_option maxRecDepth 100000 in
theorem PX.cells {w : World} {X a r : Nat} {v1 v2 v3 v4 : Value} (h : PX w X a r v1 v2 v3 v4) : w.cell? ⟨X, 0, none⟩ = some (.pointer (some ⟨a, 0, none⟩)) ∧ w.cell? ⟨X, 1, none⟩ = some (.pointer (some ⟨r, 0, none⟩)) ∧ w.cell? ⟨X, 2, none⟩ = some v1 ∧ w.cell? ⟨X, 3, none⟩ = some v2 ∧ w.cell? ⟨X, 4, none⟩ = some v3 ∧ w.cell? ⟨X, 5, none⟩ = some v4 := by
  unfold PX at h
  refine ⟨?_, ?_, ?_, ?_, ?_, ?_⟩
  · rw [cell_of_row _ _ 0 _ _ _ h]; rfl
  · rw [cell_of_row _ _ 1 _ _ _ h]; rfl
  · rw [cell_of_row _ _ 2 _ _ _ h]; rfl
  · rw [cell_of_row _ _ 3 _ _ _ h]; rfl
  · rw [cell_of_row _ _ 4 _ _ _ h]; rfl
  · rw [cell_of_row _ _ 5 _ _ _ h]; rfl
set_option maxRecDepth 100000 in
theorem PX.on {w w' : World} {X a r : Nat} {v1 v2 v3 v4 : Value} (h : PX w X a r v1 v2 v3 v4) (hb : Below w.heap.size w w') : PX w' X a r v1 v2 v3 v4 := box_on h hb
set_option maxRecDepth 100000 in
theorem PX.cfP {w w' : World} {B a X p r : Nat} {k : Int} {n : Nat} {vb vs v1 v2 v3 v4 : Value} {cs : List Cl} (h : Po w B a k n vb vs cs) (hc : Cf (PZ a vb vs) w w') (hx : PX w X p r v1 v2 v3 v4) : PX w' X p r v1 v2 v3 v4 := (hc.block X (lt_some hx) (h.no hx (by decide) (by decide) (by decide))).trans hx
set_option maxRecDepth 100000 in
theorem PX.cfR {w w' : World} {X p r q m : Nat} {j : Int} {vl v1 v2 v3 v4 : Value} (hd : DR w q j m vl) (hc : Cf (· = q) w w') (hx : PX w X p r v1 v2 v3 v4) : PX w' X p r v1 v2 v3 v4 := (hc.block X (lt_some hx) (fun e => by
  subst e
  unfold DR at hd
  unfold PX at hx
  rw [hd] at hx
  simp at hx)).trans hx
set_option maxRecDepth 100000 in
/-- A cell in a block stays behind such calls. -/
theorem C5.cfP {w w' : World} {B a g : Nat} {k : Int} {n : Nat} {vb vs x0 x1 x2 x3 x4 : Value} {cs : List Cl} (h : Po w B a k n vb vs cs) (hc : Cf (PZ a vb vs) w w') (hx : C5 w g x0 x1 x2 x3 x4) : C5 w' g x0 x1 x2 x3 x4 := hx.cf hc (h.no hx (by decide) (by decide) (by decide))
set_option maxRecDepth 100000 in
theorem C5.cfR {w w' : World} {g q m : Nat} {j : Int} {vl x0 x1 x2 x3 x4 : Value} (hd : DR w q j m vl) (hc : Cf (· = q) w w') (hx : C5 w g x0 x1 x2 x3 x4) : C5 w' g x0 x1 x2 x3 x4 := hx.cf hc (fun e => by
  subst e
  unfold DR at hd
  unfold C5 at hx
  rw [hd] at hx
  simp at hx)
set_option maxRecDepth 100000 in
/-- Bytes in a block that is not the page's stay. -/
theorem Bk.cfP {w w' : World} {B a g : Nat} {k : Int} {n : Nat} {vb vs : Value} {cs : List Cl} {l : List Int} (h : Po w B a k n vb vs cs) (hc : Cf (PZ a vb vs) w w') (hx : Bk w g l) (hg : vb.ownBlock ≠ some g) : Bk w' g l := (hc.block g (lt_some hx) (fun hz => by
  obtain ⟨cur, t, fz, hh, ht⟩ := h.ty hz
  unfold Bk at hx
  rw [hx] at hh
  injection hh with hh
  injection hh with e1 e2 e3
  subst e2
  rcases ht with ht | ⟨_, ht⟩ | ht
  · exact absurd ht (by decide)
  · exact hg ht
  · exact absurd ht (by decide))).trans hx
set_option maxRecDepth 100000 in
theorem Bk.cfR {w w' : World} {g q m : Nat} {j : Int} {vl : Value} {l : List Int} (hd : DR w q j m vl) (hc : Cf (· = q) w w') (hx : Bk w g l) : Bk w' g l := (hc.block g (lt_some hx) (fun e => by
  subst e
  unfold DR at hd
  unfold Bk at hx
  rw [hd] at hx
  simp at hx)).trans hx
end Go.Proofs.YtphjnahmbdinmaaGreatDoor

/- espalierref06.Book's bytes: as espalierref03.Book, which lies in it. -/

namespace Go.Proofs.YtphjnahmbdinmaaGreatDoor
open Go.RowKit
set_option maxRecDepth 100000 in
theorem bk6_neX : 73 ≠ 38 := by decide
set_option maxRecDepth 100000 in
theorem bk6_ne8 : 73 ≠ 5 := by decide
namespace Six
/-- A BOOK IN MEMORY: the lists V, list t has the bytes D t. -/
structure Bo9 (w : World) (B bk : Nat) (lv : Value) (v : Value) (V : List Value) (D : Nat → List Int) : Prop where
  box : w.heap[bk]? = some (.cells #[v, lv] 73 (0, 0))
  row : OwnX w B v V
  own : ∀ (t : Nat) (u : Value), V[t]? = some u → OwnB w B u (D t) ∧ Wf (D t) ∧ (D t).length ≤ 65536
  ne : ∀ (t t' : Nat) (u u' : Value), V[t]? = some u → V[t']? = some u' → t ≠ t' → u.ownBlock = none ∨ u.ownBlock ≠ u'.ownBlock
set_option maxRecDepth 100000 in
theorem Bo9.set {w : World} {B bk : Nat} {lv : Value} {v : Value} {V : List Value} {D : Nat → List Int} (h : Bo9 w B bk lv v V D) {i g n c k : Nat} {y : Int} (hi : V[i]? = some (.slice (some ⟨g, 0, none⟩) n c)) (hn : (D i).length = n) (hk : k < n) (hy : 0 ≤ y ∧ y ≤ 255) :
    Bo9 (w.setCell ⟨g, k, none⟩ (.int .u8 y)) B bk lv v V (fun t => if t = i then (D i).set k y else D t) := by
  obtain ⟨ho, hw, hl⟩ := h.own i _ hi
  have hgu : (Value.slice (some ⟨g, 0, none⟩) n c).ownBlock = some g := rfl
  have hc : Cf (· = g) w (w.setCell ⟨g, k, none⟩ (.int .u8 y)) := Cf.setCell (F := (· = g)) w (p := ⟨g, k, none⟩) rfl _
  have hgr : w.grownBy (w.setCell ⟨g, k, none⟩ (.int .u8 y)) (some g) := ⟨hc.os, hc.tape, hc.output, hc.size, fun q hq hne => hc.block q hq (fun e => hne (by rw [e]))⟩
  refine ⟨(hc.block bk (lt_some h.box) (fun e => ho.noty h.box bk6_ne8 (by rw [hgu, e]))).trans h.box, h.row.kept hgr ?_, fun t u ht => ?_, h.ne⟩
  · rcases h.row.noB ho with e | e
    · exact .inl e
    · exact .inr e
  · by_cases e : t = i
    · subst e
      rw [hi] at ht
      cases ht
      simp only [if_true]
      refine ⟨own_set ho hn hk, ?_, by rw [List.length_set]; exact hl⟩
      intro z hz
      rcases List.mem_or_eq_of_mem_set hz with hz | hz
      · exact hw z hz
      · rw [hz]; exact hy
    · simp only [if_neg e]
      obtain ⟨o2, w2, l2⟩ := h.own t u ht
      exact ⟨World.ownsRow.kept o2 hgr (by
        rcases h.ne t i u _ ht hi e with e2 | e2
        · exact .inl e2
        · exact .inr e2), w2, l2⟩
set_option maxRecDepth 100000 in
theorem Bo9.on {w w' : World} {B bk : Nat} {lv : Value} {v : Value} {V : List Value} {D : Nat → List Int} (h : Bo9 w B bk lv v V D) (hb : Below w.heap.size w w') : Bo9 w' B bk lv v V D :=
  ⟨(hb.block _ (lt_some h.box)).trans h.box, h.row.on hb, fun t u ht => ⟨(h.own t u ht).1.on (Nat.le_refl _) hb, (h.own t u ht).2⟩, h.ne⟩
set_option maxRecDepth 100000 in
theorem Bo9.cong {w : World} {B bk : Nat} {lv : Value} {v : Value} {V : List Value} {D E : Nat → List Int} (h : Bo9 w B bk lv v V D) (he : ∀ t, t < V.length → D t = E t) : Bo9 w B bk lv v V E :=
  ⟨h.box, h.row, fun t u ht => by rw [← he t (List.getElem?_eq_some_iff.1 ht).1]; exact h.own t u ht, h.ne⟩
set_option maxRecDepth 100000 in
/-- Take. -/
theorem take9 (w : World) (B bk : Nat) (lv : Value) (v : Value) (V : List Value) (D : Nat → List Int) (ao : Option Addr) (n c : Nat) (l : List Int) (h : Bo9 w B bk lv v V D) (hn : V.length ≤ 4000000) (hB : B ≤ w.heap.size) (ho : OwnB w B (.slice ao n c) l) (hw : Wf l) (hl : l.length ≤ 65536)
    (hne : ∀ (t : Nat) (u : Value), V[t]? = some u → u.ownBlock = none ∨ u.ownBlock ≠ (Value.slice ao n c).ownBlock) :
    Calls Tryz.prog 38 #[.pointer (some ⟨bk, 0, none⟩), .slice ao n c] w fun e w' => e = .returned (.tuple #[]) ∧ Hid (∃ v', Bo9 w' B bk lv v' (V ++ [.slice ao n c]) (fun t => if t < V.length then D t else l) ∧ Cf (fun k => k = bk ∨ v.ownBlock = some k) w w') := by
  have hbx := h.box
  have c0 : w.cell? ⟨bk, 0, none⟩ = some v := by rw [cell_of_row _ _ 0 _ _ _ hbx]; rfl
  have f0 : w.frozen? ⟨bk, 0, none⟩ = false := by simp [World.frozen?, hbx]
  obtain ⟨x, hx⟩ : ∃ x, w.alloc (.cells #[.slice ao n c] 38) = x := ⟨_, rfl⟩
  have hbx2 : Below w.heap.size w x := by rw [← hx]; exact bl_al (Below.refl _ _) (Nat.le_refl _) _
  have hcx : x.cell? ⟨w.heap.size, 0, none⟩ = some (.slice ao n c) := by rw [← hx]; simp
  have HX := hidden (h.on hbx2)
  have HOX : Hid (OwnB x B (.slice ao n c) l) := hidden (ho.on (Nat.le_refl _) hbx2)
  have hxs : B ≤ x.heap.size := Nat.le_trans hB hbx2.size
  have HBX := hidden hbx2
  have HNE := hidden hne
  have c0x : x.cell? ⟨bk, 0, none⟩ = some v := (hbx2.cell (p := ⟨bk, 0, none⟩) (lt_some hbx)).trans c0
  clear h ho hne hbx hbx2
  go_enter Tryz.func38, Tryz.ntmps38
  go_wp2_with (at_builtin; refine app_x _ rfl _ _ rfl B V v (.slice ao n c) rfl rfl HX.out.row w.heap.size rfl hcx (by omega) hxs ?_; refine Hid.out ?_)
  apply hidden
  intro v' w1 ho1 hg1
  obtain ⟨vo, vn, vc, rfl⟩ : ∃ vo vn vc, v' = .slice vo vn vc := by
    obtain ⟨vo, vc, e, _⟩ := ho1.cells
    exact ⟨vo, _, vc, e⟩
  have hbk1 : v.ownBlock ≠ some bk := HX.out.row.noty HX.out.box bk6_neX
  have hbox1 : w1.heap[bk]? = some (.cells #[v, lv] 73 (0, 0)) := (hg1.cf.block bk (lt_some HX.out.box) hbk1).trans HX.out.box
  have c1 : ∃ z, w1.cell? ⟨bk, 0, none⟩ = some z := ⟨v, by rw [cell_of_row _ _ 0 _ _ _ hbox1]; rfl⟩
  obtain ⟨z, c1⟩ := c1
  have f1 : w1.frozen? ⟨bk, 0, none⟩ = false := by simp [World.frozen?, hbox1]
  have hbk2 : (Value.slice vo vn vc).ownBlock ≠ some bk := ho1.noty hbox1 bk6_neX
  have HF : Hid (Bo9 (w1.setCell ⟨bk, 0, none⟩ (.slice vo vn vc)) B bk lv (.slice vo vn vc) (V ++ [.slice ao n c]) (fun t => if t < V.length then D t else l) ∧ Cf (fun k => k = bk ∨ v.ownBlock = some k) w (w1.setCell ⟨bk, 0, none⟩ (.slice vo vn vc))) := hidden (by
    have hc2 : Cf (· = bk) w1 (w1.setCell ⟨bk, 0, none⟩ (.slice vo vn vc)) := Cf.setCell (F := (· = bk)) w1 (p := ⟨bk, 0, none⟩) rfl _
    have hgr2 : w1.grownBy (w1.setCell ⟨bk, 0, none⟩ (.slice vo vn vc)) (some bk) := ⟨hc2.os, hc2.tape, hc2.output, hc2.size, fun q hq hne => hc2.block q hq (fun e => hne (by rw [e]))⟩
    have keep : ∀ u d, OwnB x B u d → OwnB (w1.setCell ⟨bk, 0, none⟩ (.slice vo vn vc)) B u d := by
      intro u d hu
      have h1 : OwnB w1 B u d := World.ownsRow.kept hu hg1.grow (by
        rcases HX.out.row.noB hu with e | e
        · rw [e]
          cases e2 : u.ownBlock with
          | none => exact .inl rfl
          | some _ => exact .inr (by simp)
        · exact .inr fun e2 => e e2.symm)
      exact World.ownsRow.kept h1 hgr2 (.inr (h1.noty hbox1 bk6_ne8))
    refine ⟨⟨?_, ho1.kept hgr2 (.inr hbk2), fun t u ht => ?_, fun t t' u u' ht ht' hne => ?_⟩, ((Cf.of_below HBX.out).go (hg1.cf.wide (fun k hk => .inr hk))).go (hc2.wide (fun k hk => .inl hk))⟩
    · have := set_row (w := w1) (a := bk) (cs := [v, lv]) (i := 0) (u := .slice vo vn vc) hbox1
      simpa using this
    · by_cases e : t < V.length
      · rw [List.getElem?_append_left e] at ht
        rw [if_pos e]
        obtain ⟨a1, a2, a3⟩ := HX.out.own t u ht
        exact ⟨keep u _ a1, a2, a3⟩
      · have hlt := (List.getElem?_eq_some_iff.1 ht).1
        rw [List.length_append] at hlt
        simp only [List.length_cons, List.length_nil] at hlt
        obtain rfl : t = V.length := by omega
        rw [List.getElem?_concat_length] at ht
        cases ht
        rw [if_neg e]
        exact ⟨keep _ _ HOX.out, hw, hl⟩
    · have l1 := (List.getElem?_eq_some_iff.1 ht).1
      have l2 := (List.getElem?_eq_some_iff.1 ht').1
      rw [List.length_append] at l1 l2
      simp only [List.length_cons, List.length_nil] at l1 l2
      by_cases e : t < V.length
      · rw [List.getElem?_append_left e] at ht
        by_cases e' : t' < V.length
        · rw [List.getElem?_append_left e'] at ht'
          exact HX.out.ne t t' u u' ht ht' hne
        · obtain rfl : t' = V.length := by omega
          rw [List.getElem?_concat_length] at ht'
          cases ht'
          exact HNE.out t u ht
      · obtain rfl : t = V.length := by omega
        rw [List.getElem?_concat_length] at ht
        cases ht
        have e' : t' < V.length := by omega
        rw [List.getElem?_append_left e'] at ht'
        rcases HNE.out t' u' ht' with e2 | e2
        · rw [e2]
          cases e3 : (Value.slice ao n c).ownBlock with
          | none => exact .inl rfl
          | some _ => exact .inr (by simp)
        · exact .inr fun e3 => e2 e3.symm)
  clear ho1 hg1 hx hcx c0 f0
  go_wp2
  go_end0
  exact ⟨rfl, hidden ⟨_, HF.out⟩⟩
/-- Where the second pair of loops stands. -/
structure P9 (w : World) (B bk : Nat) (lv : Value) (v : Value) (V : List Value) (nn : Nat → Nat) (i k : Nat) (x vG : Value) (H : List Value) : Prop where
  box : w.heap[bk]? = some (.cells #[v, lv] 73 (0, 0))
  row : OwnX w B v V
  rowG : OwnX w B vG H
  gne : v.ownBlock = none ∨ v.ownBlock ≠ vG.ownBlock
  xo : OwnB w B x (mkL i (nn i + k))
  lst : ∀ (t : Nat) (u : Value), V[t]? = some u → Ps w x i (nn i + k) u (nn t) t
  own : ∀ (t : Nat) (u : Value), V[t]? = some u → i < t → OwnB w B u (mkL t (nn t)) ∧ (u.ownBlock = none ∨ u.ownBlock ≠ x.ownBlock)
  gr : ∀ (s : Nat) (u : Value), H[s]? = some u → ∃ n, Ps w x i (nn i + k) u n (s / 5)
  gfar : ∀ (s : Nat) (y : Value), H[s]? = some y → ∀ (t : Nat) (u : Value), V[t]? = some u → i < t → y.ownBlock = none ∨ y.ownBlock ≠ u.ownBlock
set_option maxRecDepth 100000 in
theorem P9.on {w w' : World} {B bk : Nat} {lv : Value} {v : Value} {V : List Value} {nn : Nat → Nat} {i k : Nat} {x vG : Value} {H : List Value} (h : P9 w B bk lv v V nn i k x vG H) (hb : Below w.heap.size w w') : P9 w' B bk lv v V nn i k x vG H :=
  ⟨(hb.block _ (lt_some h.box)).trans h.box, h.row.on hb, h.rowG.on hb, h.gne, h.xo.on (Nat.le_refl _) hb, fun t u ht => (h.lst t u ht).on hb, fun t u ht hi => ⟨(h.own t u ht hi).1.on (Nat.le_refl _) hb, (h.own t u ht hi).2⟩, fun s u hs => by
    obtain ⟨n, h1⟩ := h.gr s u hs
    exact ⟨n, h1.on hb⟩, h.gfar⟩
set_option maxRecDepth 100000 in
theorem P9.appX {w w' : World} {B bk : Nat} {lv : Value} {v : Value} {V : List Value} {nn : Nat → Nat} {i k : Nat} {x x' vG : Value} {H : List Value} (h : P9 w B bk lv v V nn i k x vG H) (ho : OwnB w' B x' (mkL i (nn i + k + 1)))
    (hc : (x'.ownBlock = x.ownBlock ∧ w.grownBy w' x.ownBlock) ∨ (Below w.heap.size w w' ∧ ∀ q, x'.ownBlock = some q → w.heap.size ≤ q)) : P9 w' B bk lv v V nn i (k + 1) x' vG H := by
  have hXx : ∀ {y : Value} {ys : List Value}, OwnX w B y ys → OwnX w' B y ys := by
    intro y ys hy
    rcases hc with ⟨_, hg⟩ | ⟨hb, _⟩
    · exact hy.kept hg (hy.noB h.xo)
    · exact hy.on hb
  refine ⟨?_, hXx h.row, hXx h.rowG, h.gne, ho, fun t u ht => (h.lst t u ht).app ho hc, fun t u ht hi => ?_, fun s u hs => ?_, h.gfar⟩
  · rcases hc with ⟨_, hg⟩ | ⟨hb, _⟩
    · exact (hg.block bk (lt_some h.box) (fun e => h.xo.noty h.box bk6_ne8 e.symm)).trans h.box
    · exact (hb.block _ (lt_some h.box)).trans h.box
  · obtain ⟨o1, n1⟩ := h.own t u ht hi
    rcases hc with ⟨e, hg⟩ | ⟨hb, hn⟩
    · exact ⟨World.ownsRow.kept o1 hg n1, by rw [e]; exact n1⟩
    · refine ⟨o1.on (Nat.le_refl _) hb, ?_⟩
      cases e : u.ownBlock with
      | none => exact .inl rfl
      | some q =>
        right
        intro e2
        have h1 := (o1.blk e).2
        have h2 := hn q e2.symm
        omega
  · obtain ⟨n, h1⟩ := h.gr s u hs
    exact ⟨n, h1.app ho hc⟩
set_option maxRecDepth 100000 in
theorem P9.appG {w w' : World} {B bk : Nat} {lv : Value} {v : Value} {V : List Value} {nn : Nat → Nat} {i k : Nat} {x vG vG' : Value} {H : List Value} (h : P9 w B bk lv v V nn i k x vG H) (hG : OwnX w' B vG' (H ++ [x])) (hg : Gr w vG w' vG') (hs : H.length / 5 = i) (h0 : 0 < nn i + k) (hl : nn i + k ≤ 140737488355328) : P9 w' B bk lv v V nn i k x vG' (H ++ [x]) := by
  have hkeep : ∀ {y : Value} {l : List Int}, OwnB w B y l → OwnB w' B y l := by
    intro y l hy
    refine World.ownsRow.kept hy hg.grow ?_
    rcases h.rowG.noB hy with e | e
    · rw [e]
      cases e2 : y.ownBlock with
      | none => exact .inl rfl
      | some _ => exact .inr (by simp)
    · exact .inr fun e2 => e e2.symm
  have hxo := hkeep h.xo
  refine ⟨(hg.grow.block bk (lt_some h.box) (fun e => h.rowG.noty h.box bk6_neX e.symm)).trans h.box, h.row.kept hg.grow h.gne, hG, ?_, hxo, fun t u ht => (h.lst t u ht).grow h.rowG hg, fun t u ht hi => ⟨hkeep (h.own t u ht hi).1, (h.own t u ht hi).2⟩, fun s u hsu => ?_, fun s y hsy t u ht hi => ?_⟩
  · rcases h.gne with e | e
    · exact .inl e
    · rcases hg.own with e2 | ⟨q, e2, hq⟩
      · rw [e2]; exact .inr e
      · cases e3 : v.ownBlock with
        | none => exact .inl rfl
        | some z =>
          right
          rw [e2]
          intro e4
          injection e4 with e4
          have hr := h.row
          unfold OwnX at hr
          have := (hr.lt z e3).2
          omega
  · by_cases e : s < H.length
    · rw [List.getElem?_append_left e] at hsu
      obtain ⟨n, h1⟩ := h.gr s u hsu
      exact ⟨n, h1.grow h.rowG hg⟩
    · have hlt := (List.getElem?_eq_some_iff.1 hsu).1
      rw [List.length_append] at hlt
      simp only [List.length_cons, List.length_nil] at hlt
      obtain rfl : s = H.length := by omega
      rw [List.getElem?_concat_length] at hsu
      cases hsu
      obtain ⟨ao, c, e5, _, _⟩ := hxo.sl (mkL_wf _ _) (by rw [mkL_length]; exact hl)
      rw [mkL_length] at e5
      obtain ⟨ao2, c2, e6, h7⟩ := own_shape hxo
      rw [mkL_length] at e6 h7
      rcases h7 with h7 | ⟨g, rfl, _⟩
      · omega
      have hob : x.ownBlock = some g := by rw [e6]; rfl
      have hcap : nn i + k ≤ c2 := by
        have h8 := hxo
        unfold OwnB at h8
        rcases h8.2 with ⟨e9, _⟩ | ⟨g', cap', cur, e9, _, _, hnc, _⟩
        · rw [e6] at e9; cases e9
        · rw [e6] at e9
          rw [mkL_length] at hnc e9
          injection e9 with _ _ e10
          omega
      refine ⟨nn i + k, ⟨some ⟨g, 0, none⟩, c2, e6, ⟨?_, .inr ⟨hs, Nat.le_refl _, g, rfl, hob⟩⟩, .inr fun p hp => ?_⟩⟩
      · rw [hs]
        exact hxo.marks hob (Nat.le_refl _) hcap hl
      · cases hp
        exact hxo.u8 hob
  · by_cases e : s < H.length
    · rw [List.getElem?_append_left e] at hsy
      exact h.gfar s y hsy t u ht hi
    · have hlt := (List.getElem?_eq_some_iff.1 hsy).1
      rw [List.length_append] at hlt
      simp only [List.length_cons, List.length_nil] at hlt
      obtain rfl : s = H.length := by omega
      rw [List.getElem?_concat_length] at hsy
      cases hsy
      rcases (h.own t u ht hi).2 with e2 | e2
      · rw [e2]
        cases e3 : x.ownBlock with
        | none => exact .inl rfl
        | some _ => exact .inr (by simp)
      · exact .inr fun e3 => e2 e3.symm
/-- Between two lists. -/
structure Q9 (w : World) (B bk : Nat) (lv : Value) (v : Value) (V : List Value) (nn : Nat → Nat) (i : Nat) (vG : Value) (H : List Value) : Prop where
  box : w.heap[bk]? = some (.cells #[v, lv] 73 (0, 0))
  row : OwnX w B v V
  rowG : OwnX w B vG H
  gne : v.ownBlock = none ∨ v.ownBlock ≠ vG.ownBlock
  lst : ∀ (t : Nat) (u : Value), V[t]? = some u → Sq w u (nn t) t
  own : ∀ (t : Nat) (u : Value), V[t]? = some u → i ≤ t → OwnB w B u (mkL t (nn t))
  ne : ∀ (t t' : Nat) (u u' : Value), V[t]? = some u → V[t']? = some u' → t ≠ t' → u.ownBlock = none ∨ u.ownBlock ≠ u'.ownBlock
  gr : ∀ (s : Nat) (u : Value), H[s]? = some u → ∃ n, Sq w u n (s / 5)
  gfar : ∀ (s : Nat) (y : Value), H[s]? = some y → ∀ (t : Nat) (u : Value), V[t]? = some u → i ≤ t → y.ownBlock = none ∨ y.ownBlock ≠ u.ownBlock
set_option maxRecDepth 100000 in
theorem Q9.into {w : World} {B bk : Nat} {lv : Value} {v : Value} {V : List Value} {nn : Nat → Nat} {i : Nat} {vG : Value} {H : List Value} (h : Q9 w B bk lv v V nn i vG H) {x : Value} (hx : V[i]? = some x) : P9 w B bk lv v V nn i 0 x vG H := by
  have hxo := h.own i x hx (Nat.le_refl _)
  refine ⟨h.box, h.row, h.rowG, h.gne, hxo, fun t u ht => ?_, fun t u ht hi => ⟨h.own t u ht (by omega), h.ne t i u x ht hx (by omega)⟩, fun s u hs => ?_, fun s y hs t u ht hi => h.gfar s y hs t u ht (by omega)⟩
  · obtain ⟨ao, c, rfl, h1, h2⟩ := h.lst t u ht
    refine ⟨ao, c, rfl, ⟨h1, ?_⟩, h2⟩
    by_cases e : t = i
    · subst e
      rw [hx] at ht
      cases ht
      rcases own_shape hxo with ⟨ao2, c2, e2, h3⟩
      injection e2 with e3 e4 e5
      rw [mkL_length] at e4 h3
      rcases h3 with h3 | ⟨g, e6, _⟩
      · exact .inl (.inl h3)
      · refine .inr ⟨rfl, by omega, g, by rw [e3, e6], by rw [e3, e6]; rfl⟩
    · exact .inl (far_of (h.ne t i _ x ht hx e))
  · obtain ⟨n, ao, c, rfl, h1, h2⟩ := h.gr s u hs
    exact ⟨n, ⟨ao, c, rfl, ⟨h1, .inl (far_of (h.gfar s _ hs i x hx (Nat.le_refl _)))⟩, h2⟩⟩
set_option maxRecDepth 100000 in
theorem P9.out {w : World} {B bk : Nat} {lv : Value} {v : Value} {V : List Value} {nn : Nat → Nat} {i k : Nat} {x vG : Value} {H : List Value} (h : P9 w B bk lv v V nn i k x vG H) (hne : ∀ (t t' : Nat) (u u' : Value), V[t]? = some u → V[t']? = some u' → t ≠ t' → u.ownBlock = none ∨ u.ownBlock ≠ u'.ownBlock) : Q9 w B bk lv v V nn (i + 1) vG H :=
  ⟨h.box, h.row, h.rowG, h.gne, fun t u ht => by
    obtain ⟨ao, c, e, h1, h2⟩ := (h.lst t u ht).ex
    exact ⟨ao, c, e, h1.sl, h2⟩, fun t u ht hi => (h.own t u ht (by omega)).1, hne, fun s u hs => by
    obtain ⟨n, h0⟩ := h.gr s u hs
    obtain ⟨ao, c, e, h1, h2⟩ := h0.ex
    exact ⟨n, ao, c, e, h1.sl, h2⟩, fun s y hs t u ht hi => h.gfar s y hs t u ht (by omega)⟩
set_option maxRecDepth 100000 in
theorem Bo9.start {w : World} {B bk : Nat} {lv : Value} {v : Value} {V : List Value} {nn : Nat → Nat} (h : Bo9 w B bk lv v V (fun t => mkL t (nn t))) : Q9 w B bk lv v V nn 0 (.slice none 0 0) [] := by
  refine ⟨h.box, h.row, OwnX.nil _ _, ?_, fun t u ht => ?_, fun t u ht _ => (h.own t u ht).1, h.ne, fun s u hs => by simp at hs, fun s y hs => by simp at hs⟩
  · cases e : v.ownBlock with
    | none => exact .inl rfl
    | some _ => exact .inr (by simp [Value.ownBlock])
  · obtain ⟨o, w1, l1⟩ := h.own t u ht
    rw [mkL_length] at l1
    obtain ⟨ao, c, e, hs, _⟩ := o.sl w1 (by rw [mkL_length]; omega)
    rw [mkL_length] at e hs
    refine ⟨ao, c, e, hs, ?_⟩
    right
    rintro p rfl
    exact o.u8 (by rw [e]; rfl)
end Six
end Go.Proofs.YtphjnahmbdinmaaGreatDoor
