import Derived.Test.YtoejadhlkamcjaaDoorJ22
import Derived.Deep.DeepAppendWide
namespace Go.Proofs.YtoejadhlkamcjaaDoor
set_option maxRecDepth 100000
open Go.RowKit
theorem infoSl9 : (Tryd.prog.info? 33).map (fun i => (i.zero, i.size, i.bytes)) = some (some (.slice none 0 0), 1, 24) := by kernel_rfl
def OwnX (w : World) (B : Nat) (v : Value) (xs : List Value) : Prop := w.ownsRow B 33 1 v xs.length xs
theorem OwnX.nil (w : World) (B : Nat) : OwnX w B (.slice none 0 0) [] := World.ownsRow_nil w B 33 1
theorem u8_neX : 5 ≠ 33 := by decide
theorem bk_neX : 70 ≠ 33 := by decide
theorem bk_ne8 : 70 ≠ 5 := by decide
theorem OwnX.noty {w : World} {B : Nat} {v : Value} {xs : List Value} (h : OwnX w B v xs) {g : Nat} {c : Array Value} {t : TypeId} {fz : Nat × Nat} (hg : w.heap[g]? = some (.cells c t fz)) (ht : t ≠ 33) : v.ownBlock ≠ some g := by
 intro e
 rcases h.2 with ⟨rfl, _⟩ | ⟨k, cap, cur, rfl, _, hk, _⟩
 ·cases e
 ·injection e with e
  have e' : k = g := e
  rw [← e', hk] at hg
  injection hg with hg
  injection hg with _ h2 _
  exact ht h2.symm
theorem OwnB.noty {w : World} {B : Nat} {v : Value} {l : List Int} (h : OwnB w B v l) {g : Nat} {c : Array Value} {t : TypeId} {fz : Nat × Nat} (hg : w.heap[g]? = some (.cells c t fz)) (ht : t ≠ 5) : v.ownBlock ≠ some g := by
 intro e
 unfold OwnB at h
 rcases h.2 with ⟨rfl, _⟩ | ⟨k, cap, cur, rfl, _, hk, _⟩
 ·cases e
 ·injection e with e
  have e' : k = g := e
  rw [← e', hk] at hg
  injection hg with hg
  injection hg with _ h2 _
  exact ht h2.symm
theorem OwnX.noB {w : World} {B C : Nat} {v u : Value} {xs : List Value} {l : List Int} (h : OwnX w B v xs) (k : OwnB w C u l) : v.ownBlock = none ∨ v.ownBlock ≠ u.ownBlock := by
 have k2 := k
 unfold OwnB at k2
 rcases k2.2 with ⟨rfl, _⟩ | ⟨g, cap, cur, rfl, _, hk, _⟩
 ·cases e : v.ownBlock with
  | none => exact .inl rfl
  | some _ => right; simp [Value.ownBlock]
 ·exact .inr (h.noty hk u8_neX)
theorem OwnX.kept {w w' : World} {B : Nat} {v : Value} {xs : List Value} {row : Option Nat} (h : OwnX w B v xs) (hg : w.grownBy w' row) (hne : v.ownBlock = none ∨ v.ownBlock ≠ row) : OwnX w' B v xs := World.ownsRow.kept h hg hne
theorem OwnX.on {w w' : World} {B : Nat} {v : Value} {xs : List Value} (h : OwnX w B v xs) (hb : Below w.heap.size w w') : OwnX w' B v xs := h.kept (row := none) ⟨hb.os, hb.tape, hb.output, hb.size, fun k hk _ => hb.block k hk⟩ (by
 cases e : v.ownBlock with
 | none => exact .inl rfl
 | some k => exact .inr (by simp))
theorem OwnX.cells {w : World} {B : Nat} {v : Value} {xs : List Value} (h : OwnX w B v xs) : ∃ ao cap, v = .slice ao xs.length cap ∧ (xs.length = 0 ∨ ∃ g, ao = some ⟨g, 0, none⟩ ∧ xs.length ≤ cap ∧ ∀ (t : Nat) (u : Value), xs[t]? = some u → w.cell? ⟨g, t, none⟩ = some u) := by
 rcases h.2 with ⟨rfl, h0⟩ | ⟨g, cap, cur, rfl, hg, hh, hnc, hm, hs, ht⟩
 ·exact ⟨none, 0, by rw [h0], .inl h0⟩
 ·refine ⟨_, cap, rfl, .inr ⟨g, rfl, hnc, fun t u hu => ?_⟩⟩
  have hlt := (List.getElem?_eq_some_iff.1 hu).1
  have := World.ownsRow.cellAt h t (by omega)
  rw [this]
  exact hu
theorem own_at9 {w : World} (B : Nat) (t ty e : TypeId) (i : TypeInfo) (z : Value) (bytes : Nat) (ht : Tryd.prog.underlying t = some (.slice e)) (hi : Tryd.prog.info? e = some i) (hz : i.zero = some z)
  (hs1 : i.size = 1) (hby : i.bytes = bytes) (v : Value) (n : Nat) (xs : List Value) (hown : w.ownsRow B e 1 v n xs) (a : Addr) (y : Value) (hc : ∀ j u, [y][j]? = some u → w.cell? (a.add j) = some u) (h1 : ∀ u ∈ [y], u.oneCell' = true)
  (h63 : n + 1 ≤ maxLen) (hbytes : ((n + 1) + (n + 1) / 4 + 192) * bytes ≤ 281474976710656) {v' : Value} {w' : World} (hr : (Builtin.append_ #[t, t] ty #[v, .slice (some a) 1 1]).run Tryd.prog w = .ok v' w') :
  v'.ownBlock = v.ownBlock ∨ v'.ownBlock = some w.heap.size := by
 have hm : maxLen ≤ 9223372036854775807 := by unfold maxLen; omega
 subst hby
 rcases hown.2 with ⟨rfl, rfl⟩ | ⟨g, cap, cur, rfl, hbg, hg, hnc, hcm, hcs, htake⟩
 ·rw [run_append_nil (P := Tryd.prog) w t ty e i z ht hi hz a 1 1 [y] (by simp [hs1]) hc (by omega) (by omega) (Nat.le_trans (Nat.mul_le_mul_right _ (by omega)) hbytes)] at hr
  injection hr with e1 e2
  rw [← e1]
  exact .inr rfl
 ·by_cases hroom : n + 1 ≤ cap
  ·rw [run_append_room (P := Tryd.prog) w t ty e i ht hi g n cap cur hg a 1 1 [y] (by simp [hs1]) hc h1 hroom (by simp [hs1, hcs]; omega)] at hr
   injection hr with e1 e2
   rw [← e1]
   exact .inl rfl
  ·rw [run_append_grow (P := Tryd.prog) w t ty e i z ht hi hz ⟨g, 0, none⟩ n cap xs (by rw [hs1]; exact hown.1) (hown.cells (g := g) rfl) a 1 1 [y] (by simp [hs1]) hc (by omega) (by omega) (growslice_fits_wide (by omega) hbytes)] at hr
   injection hr with e1 e2
   rw [← e1]
   exact .inr rfl
theorem app_x {ops : Array Oper} {rest : List Oper} {o : Oper} {a : Act} {Q : Exit → Act → World → Prop} (w : World) (hgd : o.guard = none) (s x : Operand)
  (ho : o.op = .call { callee := .builtin .append, args := #[s, x], argTypes := #[28, 28] }) (B : Nat) (xs : List Value) (v y : Value) (hs : a.eval s = v) (h1 : y.oneCell' = true)
  (hown : OwnX w B v xs) (b : Nat) (hx : a.eval x = .slice (some ⟨b, 0, none⟩) 1 1) (hc : w.cell? ⟨b, 0, none⟩ = some y) (hb : xs.length + 1 ≤ 6500000000000) (hbase : B ≤ w.heap.size)
  (h : ∀ v' w', OwnX w' B v' (xs ++ [y]) → Gr w v w' v' → wpList Tryd.prog ops Q rest (a.put o.dst v') w') : wpList Tryd.prog ops Q (o :: rest) a w := by
 obtain ⟨i0, hi, hz0, hz1, hz2⟩ := info_parts infoSl9
 have hcs : ∀ j u, [y][j]? = some u → w.cell? ((⟨b, 0, none⟩ : Addr).add j) = some u := fun j u hu => by
   have hj : j = 0 := by
    have := (List.getElem?_eq_some_iff.1 hu).1
    simpa using this
   subst hj
   simp at hu
   subst hu
   simpa [Addr.add_lit] using hc
 have h1' : ∀ u ∈ [y], u.oneCell' = true := fun u hu => by simp at hu; subst hu; exact h1
 have h63 : xs.length + 1 ≤ maxLen := by unfold maxLen; omega
 have hby : ((xs.length + 1) + (xs.length + 1) / 4 + 192) * 24 ≤ 281474976710656 := by omega
 refine wpList_plain hgd fun K hK => ?_
 obtain ⟨v', w', hr, h2, h3, h4⟩ := run_append_own_wide (P := Tryd.prog) w B 28 o.type 33 i0 (.slice none 0 0) 1 24 Tryd.underlying28 hi hz0 hz1 hz2 rfl (by decide) v xs.length xs hown ⟨b, 0, none⟩ 1 1 [y] rfl hcs h1' h63 hby hbase
 have h5 := own_at9 B 28 o.type 33 i0 (.slice none 0 0) 24 Tryd.underlying28 hi hz0 hz1 hz2 v xs.length xs hown ⟨b, 0, none⟩ y hcs h1' h63 hby hr
 unfold Oper.wp execOp
 simp only [ho, resolve, invoke, builtin, Sem.run_bind, Sem.run_pure, Result.andThen_ok, List.map_toArray, List.map_cons, List.map_nil, hs, hx, hr]
 refine hK _ _ (h v' w' ?_ ⟨h3, h5.imp id fun e => ⟨_, e, Nat.le_refl _⟩⟩)
 unfold OwnX
 rw [List.length_append]
 exact h2
structure Bo9 (w : World) (B bk : Nat) (v : Value) (V : List Value) (D : Nat → List Int) : Prop where
 box : w.heap[bk]? = some (.cells #[v] 70 (0, 0))
 row : OwnX w B v V
 own : ∀ (t : Nat) (u : Value), V[t]? = some u → OwnB w B u (D t) ∧ Wf (D t) ∧ (D t).length ≤ 65536
 ne : ∀ (t t' : Nat) (u u' : Value), V[t]? = some u → V[t']? = some u' → t ≠ t' → u.ownBlock = none ∨ u.ownBlock ≠ u'.ownBlock
theorem own_shape {w : World} {B : Nat} {u : Value} {l : List Int} (h : OwnB w B u l) : ∃ ao c, u = .slice ao l.length c ∧ (l.length = 0 ∨ ∃ g, ao = some ⟨g, 0, none⟩ ∧ B ≤ g) := by
 have h2 := h
 unfold OwnB at h2
 rcases h2.2 with ⟨rfl, h0⟩ | ⟨g, cap, cur, rfl, hg, _⟩
 ·exact ⟨none, 0, by rw [h0], .inl h0⟩
 ·exact ⟨_, cap, rfl, .inr ⟨g, rfl, hg⟩⟩
theorem Bo9.set {w : World} {B bk : Nat} {v : Value} {V : List Value} {D : Nat → List Int} (h : Bo9 w B bk v V D) {i g n c k : Nat} {y : Int} (hi : V[i]? = some (.slice (some ⟨g, 0, none⟩) n c)) (hn : (D i).length = n) (hk : k < n) (hy : 0 ≤ y ∧ y ≤ 255) :
  Bo9 (w.setCell ⟨g, k, none⟩ (.int .u8 y)) B bk v V (fun t => if t = i then (D i).set k y else D t) := by
 obtain ⟨ho, hw, hl⟩ := h.own i _ hi
 have hgu : (Value.slice (some ⟨g, 0, none⟩) n c).ownBlock = some g := rfl
 have hc : Cf (· = g) w (w.setCell ⟨g, k, none⟩ (.int .u8 y)) := Cf.setCell (F := (· = g)) w (p := ⟨g, k, none⟩) rfl _
 have hgr : w.grownBy (w.setCell ⟨g, k, none⟩ (.int .u8 y)) (some g) := ⟨hc.os, hc.tape, hc.output, hc.size, fun q hq hne => hc.block q hq (fun e => hne (by rw [e]))⟩
 refine ⟨(hc.block bk (lt_some h.box) (fun e => ho.noty h.box bk_ne8 (by rw [hgu, e]))).trans h.box, h.row.kept hgr ?_, fun t u ht => ?_, h.ne⟩
 ·rcases h.row.noB ho with e | e
  ·exact .inl e
  ·exact .inr e
 ·by_cases e : t = i
  ·subst e
   rw [hi] at ht
   cases ht
   simp only [if_true]
   refine ⟨own_set ho hn hk, ?_, by rw [List.length_set]; exact hl⟩
   intro z hz
   rcases List.mem_or_eq_of_mem_set hz with hz | hz
   ·exact hw z hz
   ·rw [hz]; exact hy
  ·simp only [if_neg e]
   obtain ⟨o2, w2, l2⟩ := h.own t u ht
   exact ⟨World.ownsRow.kept o2 hgr (by
    rcases h.ne t i u _ ht hi e with e2 | e2
    ·exact .inl e2
    ·exact .inr e2), w2, l2⟩
theorem Bo9.on {w w' : World} {B bk : Nat} {v : Value} {V : List Value} {D : Nat → List Int} (h : Bo9 w B bk v V D) (hb : Below w.heap.size w w') : Bo9 w' B bk v V D :=
 ⟨(hb.block _ (lt_some h.box)).trans h.box, h.row.on hb, fun t u ht => ⟨(h.own t u ht).1.on (Nat.le_refl _) hb, (h.own t u ht).2⟩, h.ne⟩
theorem Bo9.cong {w : World} {B bk : Nat} {v : Value} {V : List Value} {D E : Nat → List Int} (h : Bo9 w B bk v V D) (he : ∀ t, t < V.length → D t = E t) : Bo9 w B bk v V E :=
 ⟨h.box, h.row, fun t u ht => by rw [← he t (List.getElem?_eq_some_iff.1 ht).1]; exact h.own t u ht, h.ne⟩
theorem take9G (w : World) (B bk : Nat) (v : Value) (V : List Value) (D : Nat → List Int) (ao : Option Addr) (n c : Nat) (l : List Int) (h : Bo9 w B bk v V D) (hn : V.length ≤ 1300000000000) (hB : B ≤ w.heap.size) (ho : OwnB w B (.slice ao n c) l) (hw : Wf l) (hl : l.length ≤ 65536)
  (hne : ∀ (t : Nat) (u : Value), V[t]? = some u → u.ownBlock = none ∨ u.ownBlock ≠ (Value.slice ao n c).ownBlock) :
  Calls Tryd.prog 30 #[.pointer (some ⟨bk, 0, none⟩), .slice ao n c] w fun e w' => e = .returned (.tuple #[]) ∧ Hid (∃ v', Bo9 w' B bk v' (V ++ [.slice ao n c]) (fun t => if t < V.length then D t else l) ∧ Cf (fun k => k = bk ∨ v.ownBlock = some k) w w' ∧ ∀ g, v'.ownBlock = some g → v.ownBlock = some g ∨ w.heap.size ≤ g) := by
 have hbx := h.box
 have c0 : w.cell? ⟨bk, 0, none⟩ = some v := by rw [cell_of_row _ _ 0 _ _ _ hbx]; rfl
 have f0 : w.frozen? ⟨bk, 0, none⟩ = false := by simp [World.frozen?, hbx]
 obtain ⟨x, hx⟩ : ∃ x, w.alloc (.cells #[.slice ao n c] 33) = x := ⟨_, rfl⟩
 have hbx2 : Below w.heap.size w x := by rw [← hx]; exact bl_al (Below.refl _ _) (Nat.le_refl _) _
 have hcx : x.cell? ⟨w.heap.size, 0, none⟩ = some (.slice ao n c) := by rw [← hx]; simp
 have HX := hidden (h.on hbx2)
 have HOX : Hid (OwnB x B (.slice ao n c) l) := hidden (ho.on (Nat.le_refl _) hbx2)
 have hxs : B ≤ x.heap.size := Nat.le_trans hB hbx2.size
 have HBX := hidden hbx2
 have HNE := hidden hne
 have c0x : x.cell? ⟨bk, 0, none⟩ = some v := (hbx2.cell (p := ⟨bk, 0, none⟩) (lt_some hbx)).trans c0
 clear h ho hne hbx hbx2
 go_enter Tryd.func30, Tryd.ntmps30
 go_wp2_with (at_builtin; refine app_x _ rfl _ _ rfl B V v (.slice ao n c) rfl rfl HX.out.row w.heap.size rfl hcx (by omega) hxs ?_; refine Hid.out ?_)
 apply hidden
 intro v' w1 ho1 hg1
 obtain ⟨vo, vn, vc, rfl⟩ : ∃ vo vn vc, v' = .slice vo vn vc := by
  obtain ⟨vo, vc, e, _⟩ := ho1.cells
  exact ⟨vo, _, vc, e⟩
 have hbk1 : v.ownBlock ≠ some bk := HX.out.row.noty HX.out.box bk_neX
 have hbox1 : w1.heap[bk]? = some (.cells #[v] 70 (0, 0)) := (hg1.cf.block bk (lt_some HX.out.box) hbk1).trans HX.out.box
 have c1 : ∃ z, w1.cell? ⟨bk, 0, none⟩ = some z := ⟨v, by rw [cell_of_row _ _ 0 _ _ _ hbox1]; rfl⟩
 obtain ⟨z, c1⟩ := c1
 have f1 : w1.frozen? ⟨bk, 0, none⟩ = false := by simp [World.frozen?, hbox1]
 have hbk2 : (Value.slice vo vn vc).ownBlock ≠ some bk := ho1.noty hbox1 bk_neX
 have HF : Hid (Bo9 (w1.setCell ⟨bk, 0, none⟩ (.slice vo vn vc)) B bk (.slice vo vn vc) (V ++ [.slice ao n c]) (fun t => if t < V.length then D t else l) ∧ Cf (fun k => k = bk ∨ v.ownBlock = some k) w (w1.setCell ⟨bk, 0, none⟩ (.slice vo vn vc)) ∧ ∀ g, (Value.slice vo vn vc).ownBlock = some g → v.ownBlock = some g ∨ w.heap.size ≤ g) := hidden (by
  have hc2 : Cf (· = bk) w1 (w1.setCell ⟨bk, 0, none⟩ (.slice vo vn vc)) := Cf.setCell (F := (· = bk)) w1 (p := ⟨bk, 0, none⟩) rfl _
  have hgr2 : w1.grownBy (w1.setCell ⟨bk, 0, none⟩ (.slice vo vn vc)) (some bk) := ⟨hc2.os, hc2.tape, hc2.output, hc2.size, fun q hq hne => hc2.block q hq (fun e => hne (by rw [e]))⟩
  have keep : ∀ u d, OwnB x B u d → OwnB (w1.setCell ⟨bk, 0, none⟩ (.slice vo vn vc)) B u d := by
   intro u d hu
   have h1 : OwnB w1 B u d := World.ownsRow.kept hu hg1.grow (by
    rcases HX.out.row.noB hu with e | e
    ·rw [e]
     cases e2 : u.ownBlock with
     | none => exact .inl rfl
     | some _ => exact .inr (by simp)
    ·exact .inr fun e2 => e e2.symm)
   exact World.ownsRow.kept h1 hgr2 (.inr (h1.noty hbox1 bk_ne8))
  refine ⟨⟨?_, ho1.kept hgr2 (.inr hbk2), fun t u ht => ?_, fun t t' u u' ht ht' hne => ?_⟩, ((Cf.of_below HBX.out).go (hg1.cf.wide (fun k hk => .inr hk))).go (hc2.wide (fun k hk => .inl hk)), fun g e => by
   rcases hg1.own with e1 | ⟨k, e1, hk⟩
   ·exact .inl (e1.symm.trans e)
   ·rw [e1] at e
    injection e with e
    subst e
    exact .inr (Nat.le_trans HBX.out.size hk)⟩
  ·have := set_row (w := w1) (a := bk) (cs := [v]) (i := 0) (u := .slice vo vn vc) hbox1
   simpa using this
  ·by_cases e : t < V.length
   ·rw [List.getElem?_append_left e] at ht
    rw [if_pos e]
    obtain ⟨a1, a2, a3⟩ := HX.out.own t u ht
    exact ⟨keep u _ a1, a2, a3⟩
   ·have hlt := (List.getElem?_eq_some_iff.1 ht).1
    rw [List.length_append] at hlt
    simp only [List.length_cons, List.length_nil] at hlt
    obtain rfl : t = V.length := by omega
    rw [List.getElem?_concat_length] at ht
    cases ht
    rw [if_neg e]
    exact ⟨keep _ _ HOX.out, hw, hl⟩
  ·have l1 := (List.getElem?_eq_some_iff.1 ht).1
   have l2 := (List.getElem?_eq_some_iff.1 ht').1
   rw [List.length_append] at l1 l2
   simp only [List.length_cons, List.length_nil] at l1 l2
   by_cases e : t < V.length
   ·rw [List.getElem?_append_left e] at ht
    by_cases e' : t' < V.length
    ·rw [List.getElem?_append_left e'] at ht'
     exact HX.out.ne t t' u u' ht ht' hne
    ·obtain rfl : t' = V.length := by omega
     rw [List.getElem?_concat_length] at ht'
     cases ht'
     exact HNE.out t u ht
   ·obtain rfl : t = V.length := by omega
    rw [List.getElem?_concat_length] at ht
    cases ht
    have e' : t' < V.length := by omega
    rw [List.getElem?_append_left e'] at ht'
    rcases HNE.out t' u' ht' with e2 | e2
    ·rw [e2]
     cases e3 : (Value.slice ao n c).ownBlock with
     | none => exact .inl rfl
     | some _ => exact .inr (by simp)
    ·exact .inr fun e3 => e2 e3.symm)
 clear ho1 hg1 hx hcx c0 f0
 go_wp2
 go_end0
 exact ⟨rfl, hidden ⟨_, HF.out⟩⟩
end Go.Proofs.YtoejadhlkamcjaaDoor
