/- espalierref06.Book.TakeAll. -/
import Derived.Test.YtdmpbdppdcaabaaDoorJi
namespace Go.Proofs.YtdmpbdppdcaabaaDoor
open Go.RowKit
namespace Six

/-- Blocks of other types than the book's own stay (its lists of cells among them). -/
def K3 (w w' : World) : Prop := w.heap.size ≤ w'.heap.size ∧ ∀ (k : Nat) (cs : Array Value) (t : TypeId) (fz : Nat × Nat), w.heap[k]? = some (.cells cs t fz) → t ≠ 41 → t ≠ 22 → t ≠ 25 → w'.heap[k]? = w.heap[k]?
set_option maxRecDepth 100000 in
theorem K3.trans {a b c : World} (h : K3 a b) (k : K3 b c) : K3 a c := ⟨Nat.le_trans h.1 k.1, fun z cs t fz h1 h2 h3 h4 => by
  have e := h.2 z cs t fz h1 h2 h3 h4
  exact (k.2 z cs t fz (e.trans h1) h2 h3 h4).trans e⟩
set_option maxRecDepth 100000 in
theorem KT.k3 {a b : World} (h : KT a b) : K3 a b := ⟨h.1, fun z cs t fz h1 h2 h3 _ => h.2 z cs t fz h1 h2 h3⟩
set_option maxRecDepth 100000 in
theorem K3.of_below {a b : World} (h : Below a.heap.size a b) : K3 a b := (KT.of_below h).k3
set_option maxRecDepth 100000 in
theorem u8_neY : 5 ≠ 25 := by decide
set_option maxRecDepth 100000 in
theorem row_k3 {w w' : World} {C s n : Nat} {e : TypeId} {u : Value} {xs : List Value} (h : w.ownsRow C e s u n xs) (hk : K3 w w') (h1 : e ≠ 41) (h2 : e ≠ 22) (h3 : e ≠ 25) : w'.ownsRow C e s u n xs := by
  refine ⟨h.1, ?_⟩
  rcases h.2 with h0 | ⟨g, cap, cur, e1, hg, hh, rest⟩
  · exact .inl h0
  · exact .inr ⟨g, cap, cur, e1, hg, (hk.2 g _ _ _ hh h1 h2 h3).trans hh, rest⟩
set_option maxRecDepth 100000 in
theorem Bk.k3 {w w' : World} {g : Nat} {l : List Int} (h : Bk w g l) (hk : K3 w w') : Bk w' g l := (hk.2 g _ _ _ h u8_ne6 u8_neX u8_neY).trans h
set_option maxRecDepth 100000 in
theorem OwnC.k3 {w w' : World} {B g : Nat} {cs : List Cl} {P : Nat → Nat} (h : OwnC w B g cs P) (hk : K3 w w') : OwnC w' B g cs P := by
  obtain ⟨cur, hr, hs⟩ := h.row
  have e : w'.heap[g]? = w.heap[g]? := hk.2 g _ _ _ hr c_ne6 c_neX c_neY
  refine ⟨⟨cur, e.trans hr, hs⟩, h.hg, h.p0, h.up, Nat.le_trans h.top hk.1, fun i d hd => ?_⟩
  obtain ⟨g1, g2, h0, h1, h2, h3, h4, h5, h6, h7⟩ := h.at_ i d hd
  exact ⟨g1, g2, (World.cell?_of_block (a := ⟨g, _, none⟩) e).trans h0, (World.cell?_of_block (a := ⟨g, _, none⟩) e).trans h1, (World.cell?_of_block (a := ⟨g, _, none⟩) e).trans h2, (World.cell?_of_block (a := ⟨g, _, none⟩) e).trans h3, (World.cell?_of_block (a := ⟨g, _, none⟩) e).trans h4, Bk.k3 h5 hk, Bk.k3 h6 hk, h7⟩
set_option maxRecDepth 100000 in
theorem Bk.own {w : World} {B g n : Nat} {l : List Int} (h : Bk w g l) (hg : B ≤ g) (hl : l.length = n) (hn : n ≤ 140737488355328) : OwnB w B (.slice (some ⟨g, 0, none⟩) n n) l := by
  subst hl
  refine ⟨by simp [By], .inr ⟨g, l.length, _, rfl, hg, h, Nat.le_refl _, by unfold maxLen; omega, by simp [By], ?_⟩⟩
  simp only [By, Nat.mul_one]
  rw [List.take_of_length_le (by simp)]
/-- All the blocks are below U. -/
def VB (V : List Value) (U : Nat) : Prop := ∀ (t : Nat) (u : Value), V[t]? = some u → ∀ z, u.ownBlock = some z → z < U
set_option maxRecDepth 100000 in
theorem VB.up {V : List Value} {U U' : Nat} (h : VB V U) (hu : U ≤ U') : VB V U' := fun t u ht z hz => Nat.lt_of_lt_of_le (h t u ht z hz) hu
set_option maxRecDepth 100000 in
theorem VB.snoc {V : List Value} {U : Nat} {u : Value} (h : VB V U) (hu : ∀ z, u.ownBlock = some z → z < U) : VB (V ++ [u]) U := by
  intro t x ht
  by_cases e : t < V.length
  · rw [List.getElem?_append_left e] at ht
    exact h t x ht
  · have hlt := (List.getElem?_eq_some_iff.1 ht).1
    rw [List.length_append] at hlt
    simp only [List.length_cons, List.length_nil] at hlt
    obtain rfl : t = V.length := by omega
    rw [List.getElem?_concat_length] at ht
    cases ht
    exact hu
set_option maxRecDepth 100000 in
theorem VB.far {V : List Value} {U g n c : Nat} (h : VB V U) (hg : U ≤ g) : ∀ (t : Nat) (u : Value), V[t]? = some u → u.ownBlock = none ∨ u.ownBlock ≠ (Value.slice (some ⟨g, 0, none⟩) n c).ownBlock := by
  intro t u ht
  cases e : u.ownBlock with
  | none => exact .inl rfl
  | some z =>
    right
    intro e2
    have h1 := h t u ht z e
    have h2 : z = g := by injection e2
    omega
/-- Cells that came out: none, or one's own. -/
def Oc4 (w : World) (B : Nat) (ao : Option Addr) (n cap : Nat) (cs : List Cl) (P : Nat → Nat) : Prop := n = cs.length ∧ ((ao = none ∧ n = 0 ∧ cap = 0 ∧ B ≤ P 0) ∨ ∃ g, ao = some ⟨g, 0, none⟩ ∧ cap = n ∧ OwnC w B g cs P)
set_option maxRecDepth 100000 in
theorem Oc4.k3 {w w' : World} {B : Nat} {ao : Option Addr} {n cap : Nat} {cs : List Cl} {P : Nat → Nat} (h : Oc4 w B ao n cap cs P) (hk : K3 w w') : Oc4 w' B ao n cap cs P := ⟨h.1, h.2.imp id fun ⟨g, e, c, o⟩ => ⟨g, e, c, OwnC.k3 o hk⟩⟩
set_option maxRecDepth 100000 in
theorem Oc4.on {w w' : World} {B : Nat} {ao : Option Addr} {n cap : Nat} {cs : List Cl} {P : Nat → Nat} (h : Oc4 w B ao n cap cs P) (hb : Below w.heap.size w w') : Oc4 w' B ao n cap cs P := h.k3 (K3.of_below hb)
set_option maxRecDepth 100000 in
/-- The list of lists has grown. -/
theorem Bo9.lists {w w1 : World} {B bk : Nat} {lv lv2 v : Value} {V LV Y : List Value} {D : Nat → List Int} (h : Bo9 w B bk lv v V D) (hY : OwnY w B lv LV) (hg : Gr w lv w1 lv2) (hY2 : OwnY w1 B lv2 Y) (hbk : B ≤ bk) :
    Bo9 (w1.setCell ⟨bk, 1, none⟩ lv2) B bk lv2 v V D ∧ OwnY (w1.setCell ⟨bk, 1, none⟩ lv2) B lv2 Y ∧ K3 w (w1.setCell ⟨bk, 1, none⟩ lv2) ∧ Cf (B ≤ ·) w (w1.setCell ⟨bk, 1, none⟩ lv2) := by
  have hc2 : Cf (· = bk) w1 (w1.setCell ⟨bk, 1, none⟩ lv2) := Cf.setCell (F := (· = bk)) w1 (p := ⟨bk, 1, none⟩) rfl _
  have hbox1 : w1.heap[bk]? = some (.cells #[v, lv] 41 (0, 0)) := (hg.grow.block bk (lt_some h.box) (fun e => hY.noty h.box bk_neY e.symm)).trans h.box
  have hgr2 : w1.grownBy (w1.setCell ⟨bk, 1, none⟩ lv2) (some bk) := ⟨hc2.os, hc2.tape, hc2.output, hc2.size, fun q hq hne => hc2.block q hq (fun e => hne (by rw [e]))⟩
  have keep : ∀ (k : Nat) (cs : Array Value) (t : TypeId) (fz : Nat × Nat), w.heap[k]? = some (.cells cs t fz) → t ≠ 41 → t ≠ 25 → (w1.setCell ⟨bk, 1, none⟩ lv2).heap[k]? = w.heap[k]? := by
    intro k cs t fz hk h1 h2
    have e1 : w1.heap[k]? = w.heap[k]? := hg.grow.block k (lt_some hk) (fun e => hY.noty hk h2 e.symm)
    refine (hc2.block k (lt_some (e1.trans hk)) ?_).trans e1
    rintro rfl
    rw [h.box] at hk
    injection hk with hk
    injection hk with _ h4 _
    exact h1 h4.symm
  have rowk : ∀ {C s n : Nat} {e : TypeId} {u : Value} {xs : List Value}, w.ownsRow C e s u n xs → e ≠ 41 → e ≠ 25 → (w1.setCell ⟨bk, 1, none⟩ lv2).ownsRow C e s u n xs := by
    intro C s n e u xs ho h1 h2
    refine ⟨ho.1, ?_⟩
    rcases ho.2 with h0 | ⟨g, cap, cur, e1, hg, hh, rest⟩
    · exact .inl h0
    · exact .inr ⟨g, cap, cur, e1, hg, (keep g _ _ _ hh h1 h2).trans hh, rest⟩
  refine ⟨⟨?_, rowk h.row bk6_neX.symm x_neY, fun t u ht => ⟨rowk (h.own t u ht).1 u8_ne6 u8_neY, (h.own t u ht).2⟩, h.ne⟩, hY2.kept hgr2 (.inr (hY2.noty hbox1 bk_neY)), ⟨Nat.le_trans hg.grow.size hc2.size, fun k cs t fz h1 h2 _ h4 => keep k cs t fz h1 h2 h4⟩, ?_⟩
  · have := set_row (w := w1) (a := bk) (cs := [v, lv]) (i := 1) (u := lv2) hbox1
    simpa using this
  · refine Cf.go (⟨hg.grow.os, hg.grow.tape, hg.grow.output, hg.grow.size, fun z hz hf => hg.grow.block z hz (fun e => hf ?_)⟩) (hc2.wide fun k hk => by rw [hk]; exact hbk)
    unfold OwnY at hY
    exact (hY.lt z e.symm).1
set_option maxRecDepth 100000 in
set_option maxHeartbeats 1000000 in
theorem takeAll6 (w : World) (B bk : Nat) (lv v : Value) (V LV : List Value) (D : Nat → List Int) (U : Nat) (ao : Option Addr) (n cap : Nat) (cs : List Cl) (P : Nat → Nat) (h : Bo9 w B bk lv v V D) (hY : OwnY w B lv LV) (hn : V.length + 2 * n ≤ 1000000) (hn2 : n ≤ 100000) (hL : LV.length ≤ 1000) (hB : B ≤ w.heap.size) (hbk : B ≤ bk)
    (hc : Oc4 w B ao n cap cs P) (hw : ∀ d ∈ cs, d.Wf) (hl : ∀ d ∈ cs, d.key.length ≤ 65536 ∧ d.val.length ≤ 65536) (hV : VB V U) (hU : U ≤ P 0) :
    Calls Tryd.prog 11 #[.pointer (some ⟨bk, 0, none⟩), .slice ao n cap] w fun e w' => e = .returned (.tuple #[]) ∧ ∃ lv' v' V' D', Hid (Bo9 w' B bk lv' v' V' D') ∧ Hid (OwnY w' B lv' (LV ++ [.slice ao n cap])) ∧ Hid (VB V' (P n) ∧ V'.length = V.length + 2 * n) ∧ Hid (Cf (B ≤ ·) w w') ∧ Hid (K3 w w') := by
  have HB0 := hidden h
  have HY := hidden hY
  have HC := hidden hc
  have HW := hidden hw
  have HL := hidden hl
  have HV := hidden (hV.up hU)
  have HN := hidden hn
  have hnI : (n : Int) ≤ 100000 := by omega
  clear h hY hc hw hl hV hU hn
  go_enter Tryd.func11, Tryd.ntmps11
  go_wp2_with fail
  go_loopw [4] (fun x wr => ∃ (k : Nat) (v' : Value) (V' : List Value) (D' : Nat → List Int), k ≤ n ∧ x = .int .i64 (k : Int) ∧ Hid (Bo9 wr B bk lv v' V' D') ∧ Hid (VB V' (P k) ∧ V'.length = V.length + 2 * k) ∧ Hid (Cf (B ≤ ·) w wr) ∧ Hid (KT w wr)) (fun x _ => n - (intOf x).toNat)
  case atStart => exact ⟨0, v, V, D, by omega, rfl, HB0, hidden ⟨HV.out, rfl⟩, hidden (Cf.refl _ _), hidden (KT.of_below (Below.refl _ _))⟩
  case round =>
    obtain ⟨k, v1, V1, D1', hk, rfl, HB1, HV1, HC1, HK1⟩ := hrel
    by_cases hlt : k < n
    · have hltI : (k : Int) < (n : Int) := by omega
      obtain ⟨g, rfl, rfl, hoc⟩ : ∃ g, ao = some ⟨g, 0, none⟩ ∧ cap = n ∧ OwnC w B g cs P := by
        rcases HC.out.2 with ⟨_, h0, _⟩ | h0
        · omega
        · exact h0
      have hcl : k < cs.length := by rw [← HC.out.1]; exact hlt
      obtain ⟨d, hd⟩ : ∃ d, cs[k]? = some d := ⟨_, List.getElem?_eq_getElem hcl⟩
      obtain ⟨g1, g2, c0, c1, c2, c3, c4, b1, b2, q1, q2, q3, q4, q5⟩ := (OwnC.k3 hoc HK1.out.k3).at_ k d hd
      have hmem := List.mem_of_getElem? hd
      obtain ⟨w1, w2⟩ := HW.out d hmem
      obtain ⟨l1, l2⟩ := HL.out d hmem
      have hup := hoc.up k hcl
      have hBP : B ≤ P k := by
        have : ∀ j, j ≤ k → B ≤ P j := by
          intro j
          induction j with
          | zero => intro _; exact hoc.p0
          | succ j ih => intro hj; exact Nat.le_trans (ih (by omega)) (hoc.up j (by omega))
        exact this k (Nat.le_refl _)
      have hvl := HV1.out.2
      have hvn := HN.out
      have HT := hidden (take6 wr B bk lv v1 V1 D1' (some ⟨g1, 0, none⟩) (some ⟨g2, 0, none⟩) d.key.length d.key.length d.val.length d.val.length d.kd d.pg d.ct d.key d.val HB1.out (by omega) (Nat.le_trans hB HC1.out.size) hbk (Bk.own b1 (by omega) rfl (by omega)) w1 l1 (Bk.own b2 (by omega) rfl (by omega)) w2 l2 (HV1.out.1.far q1) (fun t u ht => by
        by_cases e : t < V1.length
        · rw [List.getElem?_append_left e] at ht
          exact HV1.out.1.far q2 t u ht
        · have hlt := (List.getElem?_eq_some_iff.1 ht).1
          rw [List.length_append] at hlt
          simp only [List.length_cons, List.length_nil] at hlt
          obtain rfl : t = V1.length := by omega
          rw [List.getElem?_concat_length] at ht
          cases ht
          right
          intro e2
          injection e2 with e2
          exact q5 e2))
      have HVN : Hid (VB (V1 ++ [Value.slice (some ⟨g1, 0, none⟩) d.key.length d.key.length] ++ [Value.slice (some ⟨g2, 0, none⟩) d.val.length d.val.length]) (P (k + 1)) ∧ (V1 ++ [Value.slice (some ⟨g1, 0, none⟩) d.key.length d.key.length] ++ [Value.slice (some ⟨g2, 0, none⟩) d.val.length d.val.length]).length = V.length + 2 * (k + 1)) := hidden ⟨((HV1.out.1.up hup).snoc (fun z hz => by injection hz with hz; rw [← hz]; exact q3)).snoc (fun z hz => by injection hz with hz; rw [← hz]; exact q4), by
        rw [List.length_append, List.length_append, hvl]
        simp only [List.length_cons, List.length_nil]
        omega⟩
      obtain ⟨kn, hkn⟩ : ∃ kn, d.key.length = kn := ⟨_, rfl⟩
      obtain ⟨vn, hvn⟩ : ∃ vn, d.val.length = vn := ⟨_, rfl⟩
      obtain ⟨kd', hkd⟩ : ∃ kd', d.kd = kd' := ⟨_, rfl⟩
      obtain ⟨pg, hpg⟩ : ∃ pg, d.pg = pg := ⟨_, rfl⟩
      obtain ⟨ct, hct⟩ : ∃ ct, d.ct = ct := ⟨_, rfl⟩
      rw [hkn] at c0
      rw [hkd] at c1
      rw [hvn] at c2
      rw [hpg] at c3
      rw [hct] at c4
      rw [hkn, hkd, hvn, hpg, hct] at HT
      rw [hkn, hvn] at HVN
      clear hoc hcl hd b1 b2 q1 q2 q3 q4 q5 hmem w1 w2 l1 l2 hup hBP hvl hkn hvn hkd hpg hct
      go_wp2_with (first | (go_at_call 29; refine HT.out.mono ?_; rintro e w2 ⟨rfl, v2, D2', HB2, HC2, HK2⟩; refine Hid.out ?_))
      apply hidden
      have HC3 : Hid (Cf (B ≤ ·) w w2) := hidden (HC1.out.go HC2.out)
      have HK3 : Hid (KT w w2) := hidden (HK1.out.trans HK2.out)
      clear HT HC1 HC2 HK1 HK2 HB1 HV1 c0 c1 c2 c3 c4
      go_wp2
      go_roundw
      case rel => exact ⟨k + 1, v2, _, D2', by omega, by go_num, HB2, HVN, HC3, HK3⟩
      case measure => simp [intOf]; omega
    · obtain rfl : k = n := by omega
      have hlI : ¬ (k : Int) < (k : Int) := by omega
      have hbx := HB1.out.box
      have c1 : wr.cell? ⟨bk, 1, none⟩ = some lv := by rw [cell_of_row _ _ 1 _ _ _ hbx]; rfl
      obtain ⟨x, hx⟩ : ∃ x, wr.alloc (.cells #[.slice ao k cap] 25) = x := ⟨_, rfl⟩
      have hbx2 : Below wr.heap.size wr x := by rw [← hx]; exact bl_al (Below.refl _ _) (Nat.le_refl _) _
      have hcx : x.cell? ⟨wr.heap.size, 0, none⟩ = some (.slice ao k cap) := by rw [← hx]; simp
      have HX := hidden (HB1.out.on hbx2)
      have HYX : Hid (OwnY x B lv LV) := hidden (OwnY.on (row_kt HY.out HK1.out y_ne6 y_neX) hbx2)
      have hxs : B ≤ x.heap.size := Nat.le_trans hB (Nat.le_trans HC1.out.size hbx2.size)
      have HCX : Hid (Cf (B ≤ ·) w x) := hidden (HC1.out.go (Cf.of_below hbx2))
      have HKX : Hid (K3 w x) := hidden (HK1.out.k3.trans (K3.of_below hbx2))
      clear HB1 HC1 HK1 hbx hbx2 HB0 HY
      go_wp2_with (at_builtin; refine app_y _ rfl _ _ rfl B LV lv (.slice ao k cap) rfl rfl HYX.out wr.heap.size rfl hcx (by omega) hxs ?_; refine Hid.out ?_)
      apply hidden
      intro v' w1 ho1 hg1
      obtain ⟨vo, vn, vc, rfl⟩ : ∃ vo vn vc, v' = .slice vo vn vc := by
        obtain ⟨vo, vc, e, _⟩ := ho1.cells
        exact ⟨vo, _, vc, e⟩
      obtain ⟨z1, z2, z3, z4⟩ := HX.out.lists HYX.out hg1 ho1 hbk
      have HZ1 := hidden z1
      have HZ2 := hidden z2
      have HZ3 := hidden (HKX.out.trans z3)
      have HZ4 := hidden (HCX.out.go z4)
      have hbox1 : w1.heap[bk]? = some (.cells #[v1, lv] 41 (0, 0)) := (hg1.grow.block bk (lt_some HX.out.box) (fun e => HYX.out.noty HX.out.box bk_neY e.symm)).trans HX.out.box
      have c2 : ∃ z, w1.cell? ⟨bk, 1, none⟩ = some z := ⟨lv, by rw [cell_of_row _ _ 1 _ _ _ hbox1]; rfl⟩
      obtain ⟨z, c2⟩ := c2
      have f1 : w1.frozen? ⟨bk, 1, none⟩ = false := by simp [World.frozen?, hbox1]
      clear ho1 hg1 hx hcx c1 z1 z2 z3 z4 hbox1 HX HYX HCX HKX
      go_wp2
      go_end0
      exact ⟨rfl, _, v1, V1, D1', HZ1, HZ2, HV1, HZ4, HZ3⟩
end Six
end Go.Proofs.YtdmpbdppdcaabaaDoor

/- espalierref06.Book.Owned. -/

namespace Go.Proofs.YtdmpbdppdcaabaaDoor
open Go.RowKit
namespace Six

set_option maxRecDepth 100000 in
theorem cf_grown {w w' : World} {B : Nat} {row : Option Nat} (h : w.grownBy w' row) (hr : ∀ z, row = some z → B ≤ z) : Cf (B ≤ ·) w w' := ⟨h.os, h.tape, h.output, h.size, fun k hk hf => h.block k hk (fun e => hf (hr k e.symm))⟩
set_option maxRecDepth 100000 in
set_option maxHeartbeats 8000000 in
theorem owned6 (w : World) (B bk N : Nat) (lv v : Value) (V LV : List Value) (D : Nat → List Int) (nn : Nat → Nat) (h : Bo9 w B bk lv v V D) (hV : V.length ≤ 1000000) (hY : OwnY w B lv LV) (hN : LV.length = N) (hN2 : N ≤ 1000) (hown : ∀ (t : Nat) (u : Value), LV[t]? = some u → OwnP w B u (nn t) 0 t)
    (hne : ∀ (t t' : Nat) (u u' : Value), LV[t]? = some u → LV[t']? = some u' → t ≠ t' → u.ownBlock = none ∨ u.ownBlock ≠ u'.ownBlock) (hnn : ∀ t, nn t ≤ 800000) (hB : B ≤ w.heap.size) :
    Calls Tryd.prog 12 #[.pointer (some ⟨bk, 0, none⟩)] w fun e u => e = .returned (.bool true) ∧ Hid (Cf (B ≤ ·) w u) := by
  have HOW := hidden (owned9F (fun z => ∃ (t : Nat) (u : Value), V[t]? = some u ∧ u.ownBlock = some z) w B bk V.length lv v V D h (fun t u ht z hz => .inl ⟨t, u, ht, hz⟩) rfl hV hB)
  have hnf : ∀ (k : Nat) (cs : Array Value) (ty : TypeId) (fz : Nat × Nat), w.heap[k]? = some (.cells cs ty fz) → ty ≠ 5 → ¬ ∃ (t : Nat) (u : Value), V[t]? = some u ∧ u.ownBlock = some k := by
    rintro k cs ty fz hk ht ⟨t, u, h1, h2⟩
    exact (h.own t u h1).1.noty hk ht h2
  have HNX : Hid (∀ u, Cf (fun z => ∃ (t : Nat) (u : Value), V[t]? = some u ∧ u.ownBlock = some z) w u → Bl u B bk v lv LV nn (fun t => if t < 0 then nn t else 0) ∧ Cf (B ≤ ·) w u) := hidden (by
    intro u hc
    have keep : ∀ (k : Nat) (cs : Array Value) (ty : TypeId) (fz : Nat × Nat), w.heap[k]? = some (.cells cs ty fz) → ty ≠ 5 → u.heap[k]? = some (.cells cs ty fz) := fun k cs ty fz hk ht => (hc.block k (lt_some hk) (hnf k cs ty fz hk ht)).trans hk
    have rowk : ∀ {C s n : Nat} {e : TypeId} {y : Value} {xs : List Value}, w.ownsRow C e s y n xs → e ≠ 5 → u.ownsRow C e s y n xs := by
      intro C s n e y xs ho h1
      refine ⟨ho.1, ?_⟩
      rcases ho.2 with h0 | ⟨g, cap, cur, e1, hg, hh, rest⟩
      · exact .inl h0
      · exact .inr ⟨g, cap, cur, e1, hg, keep g _ _ _ hh h1, rest⟩
    refine ⟨⟨keep bk _ _ _ h.box bk6_ne8, rowk hY u8_neY.symm, fun t x ht => ?_, hne⟩, hc.wide ?_⟩
    · obtain ⟨vs, h1, h2⟩ := hown t x ht
      exact ⟨vs, rowk h1 (by decide), fun a ha => by rw [if_neg (by omega)] at ha; omega⟩
    · rintro k ⟨t, x, h1, h2⟩
      exact (own_in (h.own t x h1).1 h2).1)
  obtain ⟨lo, lc, rfl, hcells⟩ := hY.cells
  rw [hN] at HNX
  have HN := hidden hN
  have HNE := hidden hne
  have HNN := hidden hnn
  have hNI : (N : Int) ≤ 1000 := by omega
  clear h hcells hY hown hne hnn hnf hV
  go_enter Tryd.func12, Tryd.ntmps12
  go_wp2_with (first | (go_at_call 30; refine HOW.out.mono ?_; rintro e w0 ⟨rfl, HCF⟩; refine Hid.out ?_))
  apply hidden
  obtain ⟨hbl, hcw⟩ := HNX.out w0 HCF.out
  have HBL := hidden hbl
  have HCW := hidden hcw
  clear HOW HNX HCF hbl hcw
  go_wp2_with fail
  go_loopw [4] (fun x wr => ∃ i : Nat, i ≤ N ∧ x = .int .i64 (i : Int) ∧ Hid (Bl wr B bk v (.slice lo N lc) LV nn (fun t => if t < i then nn t else 0)) ∧ Hid (Cf (B ≤ ·) w wr)) (fun x _ => N - (RowKit.intOf x).toNat)
  case atStart => exact ⟨0, by omega, rfl, HBL, HCW⟩
  case round =>
    obtain ⟨i, hi, rfl, HBi, HCi⟩ := hrel
    clear HBL HCW
    have hbx := HBi.out.box
    have c0 : wr.cell? ⟨bk, 1, none⟩ = some (.slice lo N lc) := by rw [cell_of_row _ _ 1 _ _ _ hbx]; rfl
    clear hbx
    by_cases hlt : i < N
    · have hltI : (i : Int) < (N : Int) := by omega
      obtain ⟨u, hu⟩ := cell_at HN.out hlt
      obtain ⟨R, rfl, cR⟩ : ∃ R, lo = some ⟨R, 0, none⟩ ∧ wr.cell? ⟨R, i, none⟩ = some u := by
        obtain ⟨ao, c, e, hc⟩ := HBi.out.row.cells
        injection e with e1 e2 _
        subst e1
        rcases hc with h0 | ⟨g, e3, _, hc⟩
        · omega
        · exact ⟨g, e3, hc i u hu⟩
      obtain ⟨ao, c, rfl, _⟩ := (HBi.out.own i u hu).shape
      have hlb := HNN.out i
      obtain ⟨n, hn⟩ : ∃ n, nn i = n := ⟨_, rfl⟩
      rw [hn] at cR hu hlb
      have HNL := hidden hn
      have HU := hidden hu
      have hnI : (n : Int) ≤ 800000 := by omega
      have HB2 : Hid (Bl wr B bk v (.slice (some ⟨R, 0, none⟩) N lc) LV nn (fun t => if t < i then nn t else if t = i then 0 else 0)) := hidden (HBi.out.cong (fun t _ => by
        by_cases e : t < i
        · rw [if_pos e, if_pos e]
        · rw [if_neg e, if_neg e]; split <;> rfl))
      clear hn hu HBi
      go_wp2_with fail
      go_loopw [6] (fun y wr2 => ∃ k : Nat, k ≤ n ∧ y = .int .i64 (k : Int) ∧ Hid (Bl wr2 B bk v (.slice (some ⟨R, 0, none⟩) N lc) LV nn (fun t => if t < i then nn t else if t = i then k else 0)) ∧ Hid (Cf (B ≤ ·) w wr2)) (fun y _ => n - (RowKit.intOf y).toNat)
      case atStart => exact ⟨0, by omega, rfl, HB2, HCi⟩
      case round =>
        obtain ⟨k, hk, rfl, HBk, HCk⟩ := hrel
        clear HB2 HCi c0 cR
        by_cases hkn : k < n
        · have hkI : (k : Int) < (n : Int) := by omega
          have hok := HBk.out.own i _ HU.out
          obtain ⟨g, rfl, hgB, hrow, hnc⟩ : ∃ g, ao = some ⟨g, 0, none⟩ ∧ B ≤ g ∧ RowC wr g c ∧ n ≤ c := by
            obtain ⟨ao', c', e, hs⟩ := hok.shape
            injection e with e1 e2 e3
            rcases hs with hs | ⟨g, e4, h1, h2, h3⟩
            · rw [HNL.out] at hs
              omega
            · rw [HNL.out] at h3
              subst e1
              subst e3
              exact ⟨g, e4, h1, h2, h3⟩
          obtain ⟨hset, hgrow⟩ := HBk.out.set (k := k) HU.out HNL.out (by rw [if_neg (by omega), if_pos rfl]) hkn
          have HST : Hid (Bl (wr.setCells g (k * 5) (mkV i)) B bk v (.slice (some ⟨R, 0, none⟩) N lc) LV nn (fun t => if t < i then nn t else if t = i then k + 1 else 0)) := hidden (hset.cong (fun t _ => by
            by_cases e : t = i
            · subst e
              simp
            · simp only [if_neg e]))
          have HCS : Hid (Cf (B ≤ ·) w (wr.setCells g (k * 5) (mkV i))) := hidden (HCk.out.go (cf_grown hgrow (fun z hz => by injection hz with hz; rw [← hz]; exact hgB)))
          have HRW := hidden hrow
          have hiI : (i : Int) ≤ 1000 := by omega
          clear hok hset hgrow hrow
          go_wp2_with (refine put_cell (by rfl) _ _ (by rfl) g (k * 5) c none none 0 0 0 0 (1000 + (i : Int)) 0 0 HRW.out (by rfl) (by rfl) (by omega) ?_; intro w2 HU2; refine Hid.out ?_)
          apply hidden
          have HST2 : Hid (Bl w2 B bk v (.slice (some ⟨R, 0, none⟩) N lc) LV nn (fun t => if t < i then nn t else if t = i then k + 1 else 0)) := hidden (by rw [HU2.out]; exact HST.out)
          have HCS2 : Hid (Cf (B ≤ ·) w w2) := hidden (by rw [HU2.out]; exact HCS.out)
          clear HST HCS HU2 HBk HCk HRW
          go_wp2
          go_roundw
          case rel => exact ⟨k + 1, by omega, by go_num, HST2, HCS2⟩
          case measure => simp [RowKit.intOf]; omega
        · obtain rfl : k = n := by omega
          have hkI : ¬ (k : Int) < (k : Int) := by omega
          have HB3 : Hid (Bl wr B bk v (.slice (some ⟨R, 0, none⟩) N lc) LV nn (fun t => if t < i + 1 then nn t else 0)) := hidden (HBk.out.cong (fun t _ => by
            by_cases e : t < i
            · rw [if_pos e, if_pos (by omega)]
            · rw [if_neg e]
              by_cases e2 : t = i
              · rw [if_pos e2, if_pos (by omega), e2, HNL.out]
              · rw [if_neg e2, if_neg (by omega)]))
          go_wp2
          go_roundw
          case rel => exact ⟨i + 1, by omega, by go_num, HB3, HCk⟩
          case measure => simp [RowKit.intOf]; omega
    · have hlI : ¬ (i : Int) < (N : Int) := by omega
      have HQ0 : Hid (Q5 wr B bk v (.slice lo N lc) LV nn 0 (.slice none 0 0) []) := hidden (Bl.start (HBi.out.cong (fun t ht => by rw [if_pos (by rw [HN.out] at ht; omega)])))
      clear HBi
      go_wp2_with fail
      clear hlI hi
      go_loopw [7, 8] (fun vg x wr => ∃ (i : Nat) (H : List Value), i ≤ N ∧ x = .int .i64 (i : Int) ∧ Hid (Q5 wr B bk v (.slice lo N lc) LV nn i vg H) ∧ Hid (H.length = 5 * i) ∧ Hid (Cf (B ≤ ·) w wr)) (fun _ x _ => N - (RowKit.intOf x).toNat)
      case atStart => exact ⟨0, [], by omega, rfl, HQ0, hidden rfl, HCi⟩
      case round =>
        obtain ⟨i, H, hi, rfl, HQ, HL, HC⟩ := hrel
        clear HQ0 HCi c0
        have hbx := HQ.out.box
        have c0 : wr.cell? ⟨bk, 1, none⟩ = some (.slice lo N lc) := by rw [cell_of_row _ _ 1 _ _ _ hbx]; rfl
        clear hbx
        by_cases hlt : i < N
        · have hltI : (i : Int) < (N : Int) := by omega
          have hiI : (i : Int) ≤ 1000 := by omega
          obtain ⟨u, hu⟩ := cell_at HN.out hlt
          obtain ⟨R, rfl, cR⟩ : ∃ R, lo = some ⟨R, 0, none⟩ ∧ wr.cell? ⟨R, i, none⟩ = some u := by
            obtain ⟨ao, c, e, hc⟩ := HQ.out.row.cells
            injection e with e1 e2 _
            subst e1
            rcases hc with h0 | ⟨g, e3, _, hc⟩
            · omega
            · exact ⟨g, e3, hc i u hu⟩
          obtain ⟨xo0, xc0, rfl, _⟩ := (HQ.out.own i u hu (Nat.le_refl _)).shape
          have HP0 := hidden (HQ.out.into hu)
          have hni := HNN.out i
          have hniI : (nn i : Int) ≤ 800000 := by omega
          clear hu HQ
          go_wp2_with fail
          go_loopw [7, 9, 10] (fun vg x kk wr => ∃ (k : Nat) (xo : Option Addr) (xc : Nat) (H : List Value), k ≤ 5 ∧ kk = .int .i64 (k : Int) ∧ x = .slice xo (nn i + k) xc ∧ Hid (P5 wr B bk v (.slice (some ⟨R, 0, none⟩) N lc) LV nn i k (.slice xo (nn i + k) xc) vg H) ∧ Hid (H.length = 5 * i + k) ∧ Hid (Cf (B ≤ ·) w wr)) (fun _ _ kk _ => 5 - (RowKit.intOf kk).toNat)
          case atStart => exact ⟨0, xo0, xc0, H, by omega, rfl, rfl, HP0, hidden HL.out, HC⟩
          case round =>
            obtain ⟨k, xo, xc, H, hk, rfl, rfl, HP, HL2, HC2⟩ := hrel
            clear HP0 HC HL c0 cR
            by_cases hk5 : k < 5
            · have hkI : (k : Int) < 5 := by omega
              obtain ⟨L, hL⟩ : ∃ L, nn i + k = L := ⟨_, rfl⟩
              have HLE := hidden hL
              have hL2 : L ≤ 800005 := by omega
              have hL2I : (L : Int) ≤ 800005 := by omega
              rw [hL] at HP ⊢
              obtain ⟨x, hx⟩ : ∃ x, wr.alloc (.cells #[.slice none 0 0, .int .i64 (1000 + (i : Int)), .slice none 0 0, .int .i64 0, .int .i64 0] 44) = x := ⟨_, rfl⟩
              have hbx : Below wr.heap.size wr x := by rw [← hx]; exact bl_al (Below.refl _ _) (Nat.le_refl _) _
              have hcx : ∀ t u, (mkV i)[t]? = some u → x.cell? ⟨wr.heap.size, t, none⟩ = some u := by
                intro t u ht
                rw [← hx, cell_of_row _ _ t _ _ _ (heap_alloc_last wr _)]
                simpa [mkV] using ht
              have hBx : B ≤ x.heap.size := Nat.le_trans hB (Nat.le_trans HC2.out.size hbx.size)
              have HPX := hidden (HP.out.on hbx)
              have hxo : OwnP x B (.slice xo L xc) L L i := by have := HPX.out.xo; rwa [hL] at this
              obtain ⟨v1, w1, hr, ho1, hcase⟩ := app_m x B 25 (.slice xo L xc) L i wr.heap.size hxo hcx (by omega) hBx
              obtain ⟨yo, yc, rfl, _⟩ := ho1.shape
              have HP1 : Hid (P5 w1 B bk v (.slice (some ⟨R, 0, none⟩) N lc) LV nn i (k + 1) (.slice yo (L + 1) yc) _ H) := hidden (HPX.out.appX (by rw [hL]; exact ho1) hcase)
              have HC1 : Hid (Cf (B ≤ ·) w w1) := hidden ((HC2.out.go (Cf.of_below hbx)).go (by
                rcases hcase with ⟨_, hg⟩ | ⟨hb, _⟩
                · exact cf_grown hg (fun z hz => (hxo.lt hz).1)
                · exact Cf.of_below hb))
              clear hcase ho1 hxo hbx hL HP HPX HC2 hcx
              go_wp2_with (at_builtin; refine app_run9 rfl _ _ _ _ rfl _ _ rfl rfl hr ?_; refine Hid.out ?_)
              apply hidden
              clear hr hx
              obtain ⟨y, hy⟩ : ∃ y, w1.alloc (.cells #[.slice yo (L + 1) yc] 25) = y := ⟨_, rfl⟩
              have hby : Below w1.heap.size w1 y := by rw [← hy]; exact bl_al (Below.refl _ _) (Nat.le_refl _) _
              have hcy : y.cell? ⟨w1.heap.size, 0, none⟩ = some (.slice yo (L + 1) yc) := by rw [← hy]; simp
              have HPY := hidden (HP1.out.on hby)
              have hBy : B ≤ y.heap.size := Nat.le_trans hB (Nat.le_trans HC1.out.size hby.size)
              have HCY : Hid (Cf (B ≤ ·) w y) := hidden (HC1.out.go (Cf.of_below hby))
              have hHl : H.length + 1 ≤ 100000000 := by rw [HL2.out]; omega
              have HDV : Hid (H.length / 5 = i) := hidden (by rw [HL2.out]; omega)
              clear hby HP1 HC1
              go_wp2_with (at_builtin; refine app_y _ rfl _ _ rfl B H _ (.slice yo (L + 1) yc) rfl rfl HPY.out.rowG w1.heap.size rfl hcy hHl hBy ?_; refine Hid.out ?_)
              apply hidden
              intro vG2 w2 hG2 hgr2
              have HP2 : Hid (P5 w2 B bk v (.slice (some ⟨R, 0, none⟩) N lc) LV nn i (k + 1) (.slice yo (L + 1) yc) vG2 (H ++ [.slice yo (L + 1) yc])) := hidden (HPY.out.appG hG2 hgr2 HDV.out (by have := HLE.out; omega))
              have HC3 : Hid (Cf (B ≤ ·) w w2) := hidden (HCY.out.go (cf_grown hgr2.grow (fun z hz => by
                have hrG := HPY.out.rowG
                unfold OwnY at hrG
                exact (hrG.lt z hz).1)))
              have HL3 : Hid ((H ++ [Value.slice yo (L + 1) yc]).length = 5 * i + (k + 1)) := hidden (by rw [List.length_append, HL2.out]; rfl)
              have HLK : Hid (nn i + (k + 1) = L + 1) := hidden (by have := HLE.out; omega)
              clear hG2 hgr2 hy hcy HPY
              go_wp2
              go_roundw
              case rel => exact ⟨k + 1, yo, yc, H ++ [.slice yo (L + 1) yc], by omega, by go_num, by rw [HLK.out], by rw [HLK.out]; exact HP2, HL3, HC3⟩
              case measure => simp [RowKit.intOf]; omega
            · obtain rfl : k = 5 := by omega
              have HQ1 : Hid (Q5 wr B bk v (.slice (some ⟨R, 0, none⟩) N lc) LV nn (i + 1) _ H) := hidden (HP.out.out HNE.out)
              have HL3 : Hid (H.length = 5 * (i + 1)) := hidden (by rw [HL2.out]; omega)
              clear HP
              go_wp2
              go_roundw
              case rel => exact ⟨i + 1, H, by omega, by go_num, HQ1, HL3, HC2⟩
              case measure => simp [RowKit.intOf]; omega
        · have hlI : ¬ (i : Int) < (N : Int) := by omega
          obtain ⟨go, gc, rfl, hgc⟩ := HQ.out.rowG.cells
          have hHl : H.length ≤ 5000 := by rw [HL.out]; omega
          have HGC := hidden hgc
          obtain ⟨hn, hhn⟩ : ∃ hn, H.length = hn := ⟨_, rfl⟩
          have HHN := hidden hhn
          have HQ2 := hidden HQ.out
          rw [hhn] at HGC HQ2 ⊢
          have hhnI : (hn : Int) ≤ 5000 := by omega
          clear hgc HQ HL hhn
          go_wp2_with fail
          go_loop [11] (fun x => ∃ s : Nat, s ≤ hn ∧ x = .int .i64 (s : Int)) (fun x => hn - (RowKit.intOf x).toNat)
          case atStart => exact ⟨0, by omega, rfl⟩
          case round =>
            obtain ⟨s, hs, rfl⟩ := hrel
            by_cases hsN : s < hn
            · have hsI : (s : Int) < (hn : Int) := by omega
              obtain ⟨u, hu⟩ := cell_at HHN.out hsN
              obtain ⟨G, rfl, cG⟩ : ∃ G, go = some ⟨G, 0, none⟩ ∧ wr.cell? ⟨G, s, none⟩ = some u := by
                rcases HGC.out with h0 | ⟨g, e3, _, hc⟩
                · omega
                · exact ⟨g, e3, hc s u hu⟩
              obtain ⟨m, hm9, ao, c, rfl, hsl⟩ := HQ2.out.gr s u hu
              have hmI : (m : Int) ≤ 900000 := by omega
              have HSL := hidden hsl
              have hq5 : Int.tdiv (s : Int) 5 = ((s / 5 : Nat) : Int) := by
                rw [Int.tdiv_eq_ediv_of_nonneg (by omega)]
                rfl
              obtain ⟨q, hq⟩ : ∃ q, s / 5 = q := ⟨_, rfl⟩
              rw [hq] at HSL hq5
              have hqs : (q : Int) ≤ 5000 := by omega
              have hqw : IntKind.i64.wrap (q : Int) = (q : Int) := by rw [IntKind.wrap_i64]; omega
              clear hsl hu hq
              go_wp2_with fail
              go_loop [12] (fun x => ∃ k : Nat, k ≤ m ∧ x = .int .i64 (k : Int)) (fun x => m - (RowKit.intOf x).toNat)
              case atStart => exact ⟨0, by omega, rfl⟩
              case round =>
                obtain ⟨k, hk, rfl⟩ := hrel
                by_cases hkm : k < m
                · have hkI : (k : Int) < (m : Int) := by omega
                  obtain ⟨g, rfl, cK⟩ : ∃ g, ao = some ⟨g, 0, none⟩ ∧ wr.cell? ⟨g, k * 5 + 1, none⟩ = some (.int .i64 (1000 + (q : Int))) := by
                    rcases HSL.out with h0 | ⟨g, e3, _, hc⟩
                    · omega
                    · exact ⟨g, e3, hc k hkm⟩
                  have e0 : (1000 + (q : Int) != 1000 + (q : Int)) = false := by simp
                  go_wp2
                  go_round
                  case rel => exact ⟨k + 1, by omega, by go_num⟩
                  case measure => simp [RowKit.intOf]; omega
                · have hkI : ¬ (k : Int) < (m : Int) := by omega
                  go_wp2
                  go_round
                  case rel => exact ⟨s + 1, by omega, by go_num⟩
                  case measure => simp [RowKit.intOf]; omega
            · have hsI : ¬ (s : Int) < (hn : Int) := by omega
              go_wp2
              go_ret
              exact ⟨rfl, HC⟩
end Six
end Go.Proofs.YtdmpbdppdcaabaaDoor
