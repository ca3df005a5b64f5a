/- Layer 6: the document's Copied. -/
import Derived.Test.YtphjnahmbdinmaaGreatDoorJ34
namespace Go.Proofs.YtphjnahmbdinmaaGreatDoor
open Go.RowKit

set_option maxRecDepth 100000 in
theorem OwnB.lowE {w : World} {B C : Nat} {v : Value} {l : List Int} (h : OwnB w C v l) (hB : B ≤ C) : OwnB w B v l := by
  unfold OwnB at *
  refine ⟨h.1, ?_⟩
  rcases h.2 with h2 | ⟨g, c, cur, e, hg, h4⟩
  · exact .inl h2
  · exact .inr ⟨g, c, cur, e, Nat.le_trans hB hg, h4⟩
set_option maxRecDepth 100000 in
theorem OwnB.geE {w : World} {C k : Nat} {v : Value} {l : List Int} (h : OwnB w C v l) (hv : v.ownBlock = some k) : C ≤ k := by
  unfold OwnB at h
  rcases h.2 with ⟨rfl, _⟩ | ⟨g, c, cur, rfl, hg, h4⟩
  · simp [Value.ownBlock] at hv
  · have : g = k := by simpa [Value.ownBlock] using hv
    omega
set_option maxRecDepth 100000 in
set_option maxHeartbeats 4000000 in
theorem rcopied_any (key val : List Int) (kd pg ct : Int) (ka va : Option Addr) (kn vn kc vc : Nat) (w : World) (hk : Sl w ka kn kc key) (hv : Sl w va vn vc val) :
    Calls Tryz.prog 58 #[.agg #[.slice ka kn kc, .int .i64 kd, .slice va vn vc, .int .i64 pg, .int .i64 ct]] w fun e w' => ∃ ao a2 bo b2, e = .returned (.agg #[.slice ao key.length a2, .int .i64 kd, .slice bo val.length b2, .int .i64 pg, .int .i64 ct]) ∧ Hid (OwnB w' w.heap.size (.slice ao key.length a2) key ∧ OwnB w' w.heap.size (.slice bo val.length b2) val) ∧ Hid (Below w.heap.size w w') := by
  obtain ⟨s, hs⟩ : ∃ s, w.heap.size = s := ⟨_, rfl⟩
  have hz : (w.alloc (.cells #[.slice ka kn kc, .int .i64 kd, .slice va vn vc, .int .i64 pg, .int .i64 ct] 40)).heap.size = s + 1 := by rw [← hs]; simp
  obtain ⟨x, hx⟩ : ∃ x, (w.alloc (.cells #[.slice ka kn kc, .int .i64 kd, .slice va vn vc, .int .i64 pg, .int .i64 ct] 40)).alloc (.cells #[.slice none 0 0, .int .i64 0, .slice none 0 0, .int .i64 0, .int .i64 0] 40) = x := ⟨_, rfl⟩
  have hbx : Below w.heap.size w x := by rw [← hx]; exact bl_al (bl_al (Below.refl _ _) (Nat.le_refl _) _) (Nat.le_refl _) _
  have HBOX : Hid (C5 x s (.slice ka kn kc) (.int .i64 kd) (.slice va vn vc) (.int .i64 pg) (.int .i64 ct)) := by
    have h1 := heap_alloc_last w (.cells #[.slice ka kn kc, .int .i64 kd, .slice va vn vc, .int .i64 pg, .int .i64 ct] 40)
    rw [hs] at h1
    rw [← hx]
    exact hidden ((Below.heap_alloc _ _ _ (by rw [hz]; exact Nat.lt_succ_self _)).trans h1)
  have HRES : Hid (C5 x (s + 1) (.slice none 0 0) (.int .i64 0) (.slice none 0 0) (.int .i64 0) (.int .i64 0)) := by
    have := heap_alloc_last (w.alloc (.cells #[.slice ka kn kc, .int .i64 kd, .slice va vn vc, .int .i64 pg, .int .i64 ct] 40)) (.cells #[.slice none 0 0, .int .i64 0, .slice none 0 0, .int .i64 0, .int .i64 0] 40)
    rw [hz, hx] at this
    exact hidden this
  have HV0 := hidden hv
  have HBX := hidden hbx
  have hxs : x.heap.size = s + 2 := by rw [← hx, ← hs]; simp
  have hnilB : ∀ (u : World) (C : Nat), OwnB u C (.slice none 0 0) [] := fun u C => World.ownsRow_nil _ _ _ _
  obtain ⟨v1, u1, hr1, ho1, hg1⟩ := run_app_sl x 38 x.heap.size [] key (.slice none 0 0) ka kn kc (hnilB _ _) (hk.on (Nat.le_refl _) hbx) (by have := hk.hroom; simp; omega) (Nat.le_refl _)
  have hb1 : Below x.heap.size x u1 := hg1.below (hnilB _ _) (Nat.le_refl _)
  rw [List.nil_append] at ho1
  obtain ⟨ao, a2, rfl⟩ := ho1.slice
  have hbox1 : C5 u1 s (.slice ka kn kc) (.int .i64 kd) (.slice va vn vc) (.int .i64 pg) (.int .i64 ct) := box_on HBOX.out hb1
  have hres1 : C5 u1 (s + 1) (.slice none 0 0) (.int .i64 0) (.slice none 0 0) (.int .i64 0) (.int .i64 0) := box_on HRES.out hb1
  obtain ⟨X, hX⟩ : ∃ X, Value.slice ao key.length a2 = X := ⟨_, rfl⟩
  rw [hX] at hr1 ho1
  obtain ⟨y1, hy1⟩ : ∃ y, u1.setCell ⟨s, 0, none⟩ X = y := ⟨_, rfl⟩
  have hc1 : Cf (· = s) u1 y1 := by rw [← hy1]; exact Cf.set _ _ _ _
  have HB1 : Hid (C5 y1 s X (.int .i64 kd) (.slice va vn vc) (.int .i64 pg) (.int .i64 ct)) := hidden (by rw [← hy1]; exact (hbox1.set X).1)
  have HR1 : Hid (C5 y1 (s + 1) (.slice none 0 0) (.int .i64 0) (.slice none 0 0) (.int .i64 0) (.int .i64 0)) := hidden (hres1.cf hc1 (by omega))
  have HO1 : Hid (OwnB y1 x.heap.size X key) := hidden (ho1.cfX hc1 (fun k hk e => by have := ho1.geE hk; omega))
  have HBY : Hid (Below w.heap.size w y1) := hidden ((HBX.out.trans (hb1.mono HBX.out.size)).trans (hc1.below (Nat.le_trans HBX.out.size hb1.size) (by intro i hi e; omega)))
  have HVY : Hid (Sl y1 va vn vc val) := hidden (HV0.out.on (Nat.le_refl _) HBY.out)
  have hsy : s + 2 ≤ y1.heap.size := by have := hc1.size; have := hb1.size; omega
  obtain ⟨v2, u2, hr2, ho2, hg2⟩ := run_app_sl y1 38 y1.heap.size [] val (.slice none 0 0) va vn vc (hnilB _ _) HVY.out (by have := hv.hroom; simp; omega) (Nat.le_refl _)
  have hb2 : Below y1.heap.size y1 u2 := hg2.below (hnilB _ _) (Nat.le_refl _)
  rw [List.nil_append] at ho2
  obtain ⟨bo, b2, rfl⟩ := ho2.slice
  have hbox2 : C5 u2 s X (.int .i64 kd) (.slice va vn vc) (.int .i64 pg) (.int .i64 ct) := box_on HB1.out hb2
  have hres2 : C5 u2 (s + 1) (.slice none 0 0) (.int .i64 0) (.slice none 0 0) (.int .i64 0) (.int .i64 0) := box_on HR1.out hb2
  obtain ⟨Y, hY⟩ : ∃ Y, Value.slice bo val.length b2 = Y := ⟨_, rfl⟩
  rw [hY] at hr2 ho2
  obtain ⟨y2, hy2⟩ : ∃ y, u2.setCell ⟨s, 2, none⟩ Y = y := ⟨_, rfl⟩
  have hc2 : Cf (· = s) u2 y2 := by rw [← hy2]; exact Cf.set _ _ _ _
  have HB2 : Hid (C5 y2 s X (.int .i64 kd) Y (.int .i64 pg) (.int .i64 ct)) := hidden (by rw [← hy2]; exact (hbox2.set Y).2.2.1)
  have HR2 : Hid (C5 y2 (s + 1) (.slice none 0 0) (.int .i64 0) (.slice none 0 0) (.int .i64 0) (.int .i64 0)) := hidden (hres2.cf hc2 (by omega))
  have HO2 : Hid (OwnB y2 x.heap.size X key) := hidden ((HO1.out.on (Nat.le_refl _) hb2).cfX hc2 (fun k hk e => by have := ho1.geE hk; omega))
  have HP2 : Hid (OwnB y2 y1.heap.size Y val) := hidden (ho2.cfX hc2 (fun k hk e => by have := ho2.geE hk; omega))
  have HBZ : Hid (Below w.heap.size w y2) := hidden ((HBY.out.trans (hb2.mono HBY.out.size)).trans (hc2.below (Nat.le_trans HBY.out.size hb2.size) (by intro i hi e; omega)))
  obtain ⟨c0, c1, c2, c3, c4⟩ := HBOX.out.cells
  obtain ⟨d0, d1, d2, d3, d4⟩ := hbox1.cells
  obtain ⟨f0, f1, f2, f3, f4⟩ := hbox1.free
  obtain ⟨e0, e1, e2, e3, e4⟩ := HB1.out.cells
  obtain ⟨i0, i1, i2, i3, i4⟩ := hbox2.cells
  obtain ⟨j0, j1, j2, j3, j4⟩ := hbox2.free
  obtain ⟨g0, g1, g2, g3, g4⟩ := HB2.out.cells
  obtain ⟨b0, b1, b2', b3, b4⟩ := HR2.out.cells
  obtain ⟨h0, h1, h2, h3, h4⟩ := HR2.out.free
  subst hX
  subst hY
  have HXS := hidden hxs
  have HSY := hidden hsy
  have HSW := hidden hs
  clear hk hv hbx hnilB ho1 ho2 hg1 hg2 hb1 hb2 hbox1 hbox2 hres1 hres2 hc1 hc2 hxs hsy hz HV0 HVY HBY
  go_enter Tryz.func58, Tryz.ntmps58
  go_wp2_with (at_builtin; refine append_wp rfl _ _ _ _ rfl _ _ rfl rfl hr1 ?_; refine Hid.out ?_)
  apply hidden
  clear hr1
  go_wp2_with (at_builtin; refine append_wp rfl _ _ _ _ rfl _ _ rfl rfl hr2 ?_; refine Hid.out ?_)
  apply hidden
  clear hr2
  go_wp2
  refine bodyPost_ret (results_cell_row rfl _ _ (s + 1) 40 #[.slice ao key.length a2, .int .i64 kd, .slice bo val.length b2, .int .i64 pg, .int .i64 ct] (0, 0) _ (by rfl) (HR2.out.put _ _ _ _ _) Tryz.underlying40 rfl sizeCell) rfl ?_
  have hf := put5_cf y2 (s + 1) (.slice ao key.length a2) (.int .i64 kd) (.slice bo val.length b2) (.int .i64 pg) (.int .i64 ct)
  have hxs := HXS.out
  have hsy := HSY.out
  have hsw := HSW.out
  refine ⟨ao, a2, bo, b2, rfl, hidden ⟨?_, ?_⟩, hidden (HBZ.out.trans (hf.below HBZ.out.size (by intro i hi e; omega)))⟩
  · exact (HO2.out.cfX hf (fun k hk e => by have := HO2.out.geE hk; omega)).lowE (by omega)
  · exact (HP2.out.cfX hf (fun k hk e => by have := HP2.out.geE hk; omega)).lowE (by omega)
end Go.Proofs.YtphjnahmbdinmaaGreatDoor

/- Layer 6: the document's page and its with. -/

namespace Go.Proofs.YtphjnahmbdinmaaGreatDoor
open Go.RowKit

/-- The document's page in its block. -/
def DR (w : World) (r : Nat) (k : Int) (n : Nat) (vl : Value) : Prop := w.heap[r]? = some (.cells #[.int .i64 k, .int .i64 (n : Int), vl] 58 (0, 0))
set_option maxRecDepth 100000 in
theorem DR.cells {w : World} {r : Nat} {k : Int} {n : Nat} {vl : Value} (h : DR w r k n vl) : w.cell? ⟨r, 0, none⟩ = some (.int .i64 k) ∧ w.cell? ⟨r, 1, none⟩ = some (.int .i64 (n : Int)) ∧ w.cell? ⟨r, 2, none⟩ = some vl := by
  unfold DR at h
  refine ⟨?_, ?_, ?_⟩
  · rw [cell_of_row _ _ 0 _ _ _ h]; rfl
  · rw [cell_of_row _ _ 1 _ _ _ h]; rfl
  · rw [cell_of_row _ _ 2 _ _ _ h]; rfl
set_option maxRecDepth 100000 in
theorem DR.free {w : World} {r : Nat} {k : Int} {n : Nat} {vl : Value} (h : DR w r k n vl) (i : Nat) : w.frozen? ⟨r, i, none⟩ = false := by
  unfold DR at h
  simp [World.frozen?, h]
set_option maxRecDepth 100000 in
theorem DR.set2 {w : World} {r : Nat} {k : Int} {n : Nat} {vl : Value} (h : DR w r k n vl) (v : Value) : DR (w.setCell ⟨r, 2, none⟩ v) r k n v := by
  unfold DR at *
  simpa using set_row (w := w) (a := r) (i := 2) (cs := [.int .i64 k, .int .i64 (n : Int), vl]) (u := v) h
set_option maxRecDepth 100000 in
theorem DR.on {w w' : World} {r : Nat} {k : Int} {n : Nat} {vl : Value} (h : DR w r k n vl) (hb : Below w.heap.size w w') : DR w' r k n vl := box_on h hb
set_option maxRecDepth 100000 in
theorem DR.cf {w w' : World} {r : Nat} {k : Int} {n : Nat} {vl : Value} {F : Nat → Prop} (h : DR w r k n vl) (hc : Cf F w w') (hf : ¬ F r) : DR w' r k n vl := (hc.block r (lt_some h) hf).trans h
/-- THE DOCUMENT'S PAGE, its cells in memory of their own. -/
structure Dp (w : World) (B : Nat) (K : Nat → Prop) (r : Nat) (k : Int) (n : Nat) (vl : Value) (cs : List Cl) : Prop where
  row : DR w r k n vl
  cells : OwnR w B B K vl cs
set_option maxRecDepth 100000 in
theorem Dp.own {w : World} {B : Nat} {K : Nat → Prop} {r : Nat} {k : Int} {n : Nat} {vl : Value} {cs : List Cl} (h : Dp w B K r k n vl cs) : OwnD w B vl cs := h.cells.own (Nat.le_refl _)
set_option maxRecDepth 100000 in
theorem Dp.on {w w' : World} {B : Nat} {K : Nat → Prop} {r : Nat} {k : Int} {n : Nat} {vl : Value} {cs : List Cl} (h : Dp w B K r k n vl cs) (hb : Below w.heap.size w w') : Dp w' B K r k n vl cs := ⟨h.row.on hb, h.cells.on hb⟩
set_option maxRecDepth 100000 in
theorem OwnR.below {w w' : World} {C B : Nat} {K : Nat → Prop} {v v' : Value} {cs : List Cl} (h : OwnR w C B K v cs) (g : Gr w v w' v') (hC : C ≤ w.heap.size) : Below C w w' := by
  obtain ⟨vs, h1, h2, _⟩ := h
  exact own_below h1 hC g.grow
set_option maxRecDepth 100000 in
theorem OwnR.lowC {w : World} {C D B : Nat} {K : Nat → Prop} {v : Value} {cs : List Cl} (h : OwnR w C B K v cs) (hD : D ≤ C) : OwnR w D B K v cs := by
  obtain ⟨vs, ⟨h1, h2⟩, h3⟩ := h
  refine ⟨vs, ⟨h1, ?_⟩, h3⟩
  rcases h2 with h2 | ⟨g, c, cur, e, hg, h4⟩
  · exact .inl h2
  · exact .inr ⟨g, c, cur, e, Nat.le_trans hD hg, h4⟩
set_option maxRecDepth 100000 in
theorem SrcC.on {w w' : World} {B : Nat} {K : Nat → Prop} {ao : Option Addr} {n c : Nat} {ds : List Cl} (h : SrcC w B K ao n c ds) (hb : Below w.heap.size w w') : SrcC w' B K ao n c ds := by
  refine ⟨h.hlen, ?_⟩
  rcases h.hat with h0 | ⟨g, off, us, e, ⟨h1, hku⟩, h2⟩
  · exact .inl h0
  · refine .inr ⟨g, off, us, e, ⟨h1.keep (fun v l h => h.on (Nat.le_refl _) hb), hku⟩, fun j u hu => ?_⟩
    have := h2 j u hu
    have hlt : g < w.heap.size := by
      rcases Nat.lt_or_ge g w.heap.size with h' | h'
      · exact h'
      · simp [World.cell?, Array.getElem?_eq_none h'] at this
    exact (hb.cell (p := ⟨g, off + j, none⟩) hlt).trans this
set_option maxRecDepth 100000 in
set_option maxHeartbeats 4000000 in
theorem rwith_any (w : World) (B : Nat) (K : Nat → Prop) (r : Nat) (k : Int) (n : Nat) (vl : Value) (cs : List Cl) (i gone j : Nat) (ka : Option Addr) (kn kc : Nat) (kd : Int) (va : Option Addr) (vn vc : Nat) (pg ct : Int) (key val : List Int) (hp : Dp w B K r k n vl cs) (hj : i + gone = j) (hig : j ≤ cs.length) (hl : cs.length ≤ 200000) (hk : Sl w ka kn kc key) (hv : Sl w va vn vc val) (hB : B ≤ w.heap.size) (hK : ∀ z, w.heap.size ≤ z → K z) :
    Calls Tryz.prog 100 #[.pointer (some ⟨r, 0, none⟩), .int .i64 (i : Int), .int .i64 (gone : Int), .agg #[.slice ka kn kc, .int .i64 kd, .slice va vn vc, .int .i64 pg, .int .i64 ct]] w fun e w' => ∃ v', e = .returned v' ∧ Hid (OwnR w' w.heap.size B K v' (cs.take i ++ [⟨key, kd, val, pg, ct⟩] ++ cs.drop j)) ∧ Hid (Below w.heap.size w w') := by
  obtain ⟨s, hs⟩ : ∃ s, w.heap.size = s := ⟨_, rfl⟩
  obtain ⟨x, hx⟩ : ∃ x, w.alloc (.cells #[.slice ka kn kc, .int .i64 kd, .slice va vn vc, .int .i64 pg, .int .i64 ct] 40) = x := ⟨_, rfl⟩
  have hbx : Below w.heap.size w x := by rw [← hx]; exact bl_al (Below.refl _ _) (Nat.le_refl _) _
  have hxs : x.heap.size = s + 1 := by rw [← hx, ← hs]; simp
  have HBOX : Hid (C5 x s (.slice ka kn kc) (.int .i64 kd) (.slice va vn vc) (.int .i64 pg) (.int .i64 ct)) := by rw [← hx, ← hs]; exact hidden (C5.box _ _ _ _ _ _)
  have hpx := hp.on hbx
  -- what is sliced
  obtain ⟨so, sn, sc, S2, c2, hvl, hsn, hsc, hS1, hS2, hnone⟩ : ∃ so sn sc S2 c2, vl = .slice so sn sc ∧ sn = cs.length ∧ sn ≤ sc ∧ SrcC x B K so i sc (cs.take i) ∧ SrcC x B K S2 (sn - j) c2 (cs.drop j) ∧ ((so = none ∧ S2 = none ∧ c2 = 0 ∧ sc = 0 ∧ sn = 0 ∧ i = 0 ∧ j = 0) ∨ ∃ g off, so = some ⟨g, 0, none⟩ ∧ S2 = some ⟨g, off, none⟩ ∧ ((sc = j ∧ off = 0 ∧ c2 = 0) ∨ (¬ sc = j ∧ off = j * 5 ∧ c2 = sc - j))) := by
    rcases hpx.own.shape with ⟨rfl, rfl⟩ | ⟨g, c, rfl, hc, _, _⟩
    · have : i = 0 := by simp at hig; omega
      subst this
      have : j = 0 := by simp at hig; omega
      subst this
      exact ⟨none, 0, 0, none, 0, rfl, rfl, Nat.le_refl _, ⟨rfl, .inl ⟨rfl, rfl, rfl⟩⟩, ⟨rfl, .inl ⟨rfl, rfl, rfl⟩⟩, .inl ⟨rfl, rfl, rfl, rfl, rfl, rfl, rfl⟩⟩
    · have h1 : SrcC x B K (some ⟨g, 0, none⟩) i c (cs.take i) := by
        have := hpx.cells.src 0 i (by omega) (by omega) c
        simpa using this
      by_cases hcj : c = j
      · refine ⟨_, _, c, some ⟨g, 0, none⟩, 0, rfl, rfl, hc, h1, ⟨by simp, .inr ⟨g, 0, [], rfl, ⟨?_, fun u hu => (by simp at hu)⟩, by simp⟩⟩, .inr ⟨g, 0, rfl, rfl, .inl ⟨hcj, rfl, rfl⟩⟩⟩
        rw [List.drop_of_length_le (by omega)]
        rfl
      · refine ⟨_, _, c, some ⟨g, j * 5, none⟩, c - j, rfl, rfl, hc, h1, ?_, .inr ⟨g, j * 5, rfl, rfl, .inr ⟨hcj, rfl, rfl⟩⟩⟩
        have := hpx.cells.src j cs.length (by omega) (Nat.le_refl _) (c - j)
        simpa using this
  subst hvl
  obtain ⟨v1, u1, hr1, ho1, hg1⟩ := run_app_cs x 32 x.heap.size B K [] (cs.take i) (.slice none 0 0) so i sc (OwnR.nil _ _ _ _) hS1 (by simp; omega) (Nat.le_refl _)
  have hb1 : Below x.heap.size x u1 := (OwnR.nil x x.heap.size B K).below hg1 (Nat.le_refl _)
  rw [List.nil_append] at ho1
  have HO1 := hidden ho1
  have HB1 := hidden hb1
  have HBOX1 : Hid (C5 u1 s (.slice ka kn kc) (.int .i64 kd) (.slice va vn vc) (.int .i64 pg) (.int .i64 ct)) := hidden (box_on HBOX.out hb1)
  have hbw1 : Below w.heap.size w u1 := bl_go hbx (Nat.le_refl _) hb1
  have HC := hidden (rcopied_any key val kd pg ct ka va kn vn kc vc u1 (hk.on (Nat.le_refl _) hbw1) (hv.on (Nat.le_refl _) hbw1))
  have HBX := hidden hbx
  have HXS := hidden hxs
  have HS2 := hidden hS2
  have HW := hidden hs
  have HSN := hidden hsn
  have HHB := hidden hB
  have HHK := hidden hK
  obtain ⟨p0, p1, p2⟩ := hpx.row.cells
  obtain ⟨q0, q1, q2⟩ := (hpx.row.on hb1).cells
  obtain ⟨c0, c1, c2', c3, c4⟩ := HBOX1.out.cells
  have HPX := hidden hpx
  have hisc : (i : Int) ≤ (sc : Int) := by omega
  have hi0 : (0 : Int) ≤ (i : Int) := by omega
  rw [hs]
  have HJ := hidden hj
  clear hK hk hv hp hpx hbx hb1 hbw1 ho1 hg1 hS1 hS2 hxs HBOX hsn hj
  rcases hnone with ⟨rfl, rfl, rfl, rfl, h1, h2, h3⟩ | ⟨g, off, rfl, rfl, ⟨hcj, rfl, rfl⟩ | ⟨hcj, rfl, rfl⟩⟩
  · subst h1 h2 h3
    go_enter Tryz.func100, Tryz.ntmps100
    go_wp2_with (at_builtin; refine append_wp rfl _ _ _ _ rfl _ _ rfl rfl hr1 ?_; refine Hid.out ?_)
    apply hidden
    clear hr1 p0 p1 p2
    go_wp2_with (first | (go_at_call 58; refine HC.out.mono ?_; rintro e u2 ⟨ao, a2, bo, b2, rfl, HK2, HB2⟩; refine Hid.out ?_))
    apply hidden
    obtain ⟨t, ht⟩ : ∃ t, u2.heap.size = t := ⟨_, rfl⟩
    obtain ⟨u3, hu3⟩ : ∃ u3, u2.alloc (.cells #[.slice ao key.length a2, .int .i64 kd, .slice bo val.length b2, .int .i64 pg, .int .i64 ct] 40) = u3 := ⟨_, rfl⟩
    have hb3 : Below u2.heap.size u2 u3 := by rw [← hu3]; exact bl_al (Below.refl _ _) (Nat.le_refl _) _
    have hsw := HW.out
    have hxs := HXS.out
    have hsz1 := HB1.out.size
    have hsz2 := HB2.out.size
    have hsz3 := hb3.size
    have hBB := HHB.out
    have hR : R5B u3 B [.slice ao key.length a2, .int .i64 kd, .slice bo val.length b2, .int .i64 pg, .int .i64 ct] [⟨key, kd, val, pg, ct⟩] := ⟨ao, a2, bo, b2, [], rfl, (HK2.out.1.on (Nat.le_refl _) hb3).low (by omega), (HK2.out.2.on (Nat.le_refl _) hb3).low (by omega), rfl⟩
    have hKV : KV K [.slice ao key.length a2, .int .i64 kd, .slice bo val.length b2, .int .i64 pg, .int .i64 ct] := by
      intro u hu z hz
      simp only [List.mem_cons, List.not_mem_nil, or_false] at hu
      rcases hu with rfl | rfl | rfl | rfl | rfl
      · exact HHK.out z (by have := HK2.out.1.geE hz; omega)
      · simp [Value.ownBlock] at hz
      · exact HHK.out z (by have := HK2.out.2.geE hz; omega)
      · simp [Value.ownBlock] at hz
      · simp [Value.ownBlock] at hz
    have hc3' : C5 u3 t (.slice ao key.length a2) (.int .i64 kd) (.slice bo val.length b2) (.int .i64 pg) (.int .i64 ct) := by rw [← hu3, ← ht]; exact C5.box _ _ _ _ _ _
    have hsrc : SrcC u3 B K (some ⟨t, 0, none⟩) 1 1 [⟨key, kd, val, pg, ct⟩] := by
      refine ⟨rfl, .inr ⟨t, 0, _, rfl, ⟨hR, hKV⟩, fun j u hu => ?_⟩⟩
      obtain ⟨z0, z1, z2, z3, z4⟩ := hc3'.cells
      match j, hu with
      | 0, hu => simp at hu; subst hu; exact z0
      | 1, hu => simp at hu; subst hu; exact z1
      | 2, hu => simp at hu; subst hu; exact z2
      | 3, hu => simp at hu; subst hu; exact z3
      | 4, hu => simp at hu; subst hu; exact z4
      | j + 5, hu => simp at hu
    have ho3 : OwnR u3 x.heap.size B K v1 (cs.take 0) := (HO1.out.on HB2.out).on hb3
    obtain ⟨v3, u4, hr3, ho4, hg4⟩ := run_app_cs u3 32 x.heap.size B K (cs.take 0) [⟨key, kd, val, pg, ct⟩] v1 (some ⟨t, 0, none⟩) 1 1 ho3 hsrc (by simp) (by omega)
    have hb4 : Below x.heap.size u3 u4 := ho3.below hg4 (by omega)
    have hbx4 : Below x.heap.size x u4 := ((HB1.out.trans (HB2.out.mono hsz1)).trans (hb3.mono (by omega))).trans hb4
    have hsz4 := hb4.size
    obtain ⟨v5, u5, hr5, ho5, hg5⟩ := run_app_cs u4 32 x.heap.size B K (cs.take 0 ++ [⟨key, kd, val, pg, ct⟩]) (cs.drop 0) v3 none (0 - 0) 0 ho4 (HS2.out.on hbx4) (by simp) (by omega)
    have hb5 : Below x.heap.size u4 u5 := ho4.below hg5 (by omega)
    have HO5 : Hid (OwnR u5 s B K v5 (cs.take 0 ++ [⟨key, kd, val, pg, ct⟩] ++ cs.drop 0)) := hidden (ho5.lowC (by omega))
    have HBF : Hid (Below s w u5) := by
      rw [← hsw]
      exact hidden ((HBX.out.trans (hbx4.mono (by omega))).trans (hb5.mono (by omega)))
    obtain ⟨r0, r1, r2⟩ := (HPX.out.row.on hbx4).cells
    clear hKV ho3 ho4 ho5 hg4 hg5 hb3 hb4 hb5 hbx4 hR hc3' hsrc hxs hsz1 hsz2 hsz3 hsz4 hsw hBB HK2 HB2 HO1 HB1 HBOX1 HBX HS2 HC HPX q0 q1 q2 c0 c1 c2' c3 c4 HXS HW HHB
    go_wp2_with (at_builtin; refine append_wp rfl _ _ _ _ rfl _ _ rfl rfl hr3 ?_; refine Hid.out ?_)
    apply hidden
    clear hr3
    have hjI : gone = 0 := by have := HJ.out; omega
    subst hjI
    go_wp2_with (at_builtin; refine append_wp rfl _ _ _ _ rfl _ _ rfl rfl hr5 ?_; refine Hid.out ?_)
    apply hidden
    clear hr5
    go_wp2
    go_ret
    exact ⟨v5, rfl, HO5, HBF⟩
  · go_enter Tryz.func100, Tryz.ntmps100
    go_wp2_with (at_builtin; refine append_wp rfl _ _ _ _ rfl _ _ rfl rfl hr1 ?_; refine Hid.out ?_)
    apply hidden
    clear hr1 p0 p1 p2
    go_wp2_with (first | (go_at_call 58; refine HC.out.mono ?_; rintro e u2 ⟨ao, a2, bo, b2, rfl, HK2, HB2⟩; refine Hid.out ?_))
    apply hidden
    obtain ⟨t, ht⟩ : ∃ t, u2.heap.size = t := ⟨_, rfl⟩
    obtain ⟨u3, hu3⟩ : ∃ u3, u2.alloc (.cells #[.slice ao key.length a2, .int .i64 kd, .slice bo val.length b2, .int .i64 pg, .int .i64 ct] 40) = u3 := ⟨_, rfl⟩
    have hb3 : Below u2.heap.size u2 u3 := by rw [← hu3]; exact bl_al (Below.refl _ _) (Nat.le_refl _) _
    have hsw := HW.out
    have hxs := HXS.out
    have hsz1 := HB1.out.size
    have hsz2 := HB2.out.size
    have hsz3 := hb3.size
    have hBB := HHB.out
    have hR : R5B u3 B [.slice ao key.length a2, .int .i64 kd, .slice bo val.length b2, .int .i64 pg, .int .i64 ct] [⟨key, kd, val, pg, ct⟩] := ⟨ao, a2, bo, b2, [], rfl, (HK2.out.1.on (Nat.le_refl _) hb3).low (by omega), (HK2.out.2.on (Nat.le_refl _) hb3).low (by omega), rfl⟩
    have hKV : KV K [.slice ao key.length a2, .int .i64 kd, .slice bo val.length b2, .int .i64 pg, .int .i64 ct] := by
      intro u hu z hz
      simp only [List.mem_cons, List.not_mem_nil, or_false] at hu
      rcases hu with rfl | rfl | rfl | rfl | rfl
      · exact HHK.out z (by have := HK2.out.1.geE hz; omega)
      · simp [Value.ownBlock] at hz
      · exact HHK.out z (by have := HK2.out.2.geE hz; omega)
      · simp [Value.ownBlock] at hz
      · simp [Value.ownBlock] at hz
    have hc3' : C5 u3 t (.slice ao key.length a2) (.int .i64 kd) (.slice bo val.length b2) (.int .i64 pg) (.int .i64 ct) := by rw [← hu3, ← ht]; exact C5.box _ _ _ _ _ _
    have hsrc : SrcC u3 B K (some ⟨t, 0, none⟩) 1 1 [⟨key, kd, val, pg, ct⟩] := by
      refine ⟨rfl, .inr ⟨t, 0, _, rfl, ⟨hR, hKV⟩, fun j u hu => ?_⟩⟩
      obtain ⟨z0, z1, z2, z3, z4⟩ := hc3'.cells
      match j, hu with
      | 0, hu => simp at hu; subst hu; exact z0
      | 1, hu => simp at hu; subst hu; exact z1
      | 2, hu => simp at hu; subst hu; exact z2
      | 3, hu => simp at hu; subst hu; exact z3
      | 4, hu => simp at hu; subst hu; exact z4
      | j + 5, hu => simp at hu
    have ho3 : OwnR u3 x.heap.size B K v1 (cs.take i) := (HO1.out.on HB2.out).on hb3
    obtain ⟨v3, u4, hr3, ho4, hg4⟩ := run_app_cs u3 32 x.heap.size B K (cs.take i) [⟨key, kd, val, pg, ct⟩] v1 (some ⟨t, 0, none⟩) 1 1 ho3 hsrc (by have := HJ.out; simp; omega) (by omega)
    have hb4 : Below x.heap.size u3 u4 := ho3.below hg4 (by omega)
    have hbx4 : Below x.heap.size x u4 := ((HB1.out.trans (HB2.out.mono hsz1)).trans (hb3.mono (by omega))).trans hb4
    have hsz4 := hb4.size
    obtain ⟨v5, u5, hr5, ho5, hg5⟩ := run_app_cs u4 32 x.heap.size B K (cs.take i ++ [⟨key, kd, val, pg, ct⟩]) (cs.drop j) v3 (some ⟨g, 0, none⟩) (sn - j) 0 ho4 (HS2.out.on hbx4) (by have := HSN.out; have := HJ.out; simp; omega) (by omega)
    have hb5 : Below x.heap.size u4 u5 := ho4.below hg5 (by omega)
    have HO5 : Hid (OwnR u5 s B K v5 (cs.take i ++ [⟨key, kd, val, pg, ct⟩] ++ cs.drop j)) := hidden (ho5.lowC (by omega))
    have HBF : Hid (Below s w u5) := by
      rw [← hsw]
      exact hidden ((HBX.out.trans (hbx4.mono (by omega))).trans (hb5.mono (by omega)))
    obtain ⟨r0, r1, r2⟩ := (HPX.out.row.on hbx4).cells
    have hjs : j ≤ sn := by have := HSN.out; omega
    clear hKV ho3 ho4 ho5 hg4 hg5 hb3 hb4 hb5 hbx4 hR hc3' hsrc hxs hsz1 hsz2 hsz3 hsz4 hsw hBB HK2 HB2 HO1 HB1 HBOX1 HBX HS2 HC HPX q0 q1 q2 c0 c1 c2' c3 c4 HXS HW HHB
    go_wp2_with (at_builtin; refine append_wp rfl _ _ _ _ rfl _ _ rfl rfl hr3 ?_; refine Hid.out ?_)
    apply hidden
    clear hr3
    have hjI : (i : Int) + (gone : Int) = (j : Int) := by have := HJ.out; omega
    have hwr : IntKind.i64.wrap (j : Int) = (j : Int) := wrap64n _ (by omega)
    have hjb : (j : Int) ≤ (sn : Int) := by omega
    have hj0 : (0 : Int) ≤ (j : Int) := by omega
    have hsb : (sn : Int) ≤ (sc : Int) := by omega
    go_wp2_with (at_builtin; refine append_wp rfl _ _ _ _ rfl _ _ rfl rfl hr5 ?_; refine Hid.out ?_)
    apply hidden
    clear hr5
    go_wp2
    go_ret
    exact ⟨v5, rfl, HO5, HBF⟩
  · go_enter Tryz.func100, Tryz.ntmps100
    go_wp2_with (at_builtin; refine append_wp rfl _ _ _ _ rfl _ _ rfl rfl hr1 ?_; refine Hid.out ?_)
    apply hidden
    clear hr1 p0 p1 p2
    go_wp2_with (first | (go_at_call 58; refine HC.out.mono ?_; rintro e u2 ⟨ao, a2, bo, b2, rfl, HK2, HB2⟩; refine Hid.out ?_))
    apply hidden
    obtain ⟨t, ht⟩ : ∃ t, u2.heap.size = t := ⟨_, rfl⟩
    obtain ⟨u3, hu3⟩ : ∃ u3, u2.alloc (.cells #[.slice ao key.length a2, .int .i64 kd, .slice bo val.length b2, .int .i64 pg, .int .i64 ct] 40) = u3 := ⟨_, rfl⟩
    have hb3 : Below u2.heap.size u2 u3 := by rw [← hu3]; exact bl_al (Below.refl _ _) (Nat.le_refl _) _
    have hsw := HW.out
    have hxs := HXS.out
    have hsz1 := HB1.out.size
    have hsz2 := HB2.out.size
    have hsz3 := hb3.size
    have hBB := HHB.out
    have hR : R5B u3 B [.slice ao key.length a2, .int .i64 kd, .slice bo val.length b2, .int .i64 pg, .int .i64 ct] [⟨key, kd, val, pg, ct⟩] := ⟨ao, a2, bo, b2, [], rfl, (HK2.out.1.on (Nat.le_refl _) hb3).low (by omega), (HK2.out.2.on (Nat.le_refl _) hb3).low (by omega), rfl⟩
    have hKV : KV K [.slice ao key.length a2, .int .i64 kd, .slice bo val.length b2, .int .i64 pg, .int .i64 ct] := by
      intro u hu z hz
      simp only [List.mem_cons, List.not_mem_nil, or_false] at hu
      rcases hu with rfl | rfl | rfl | rfl | rfl
      · exact HHK.out z (by have := HK2.out.1.geE hz; omega)
      · simp [Value.ownBlock] at hz
      · exact HHK.out z (by have := HK2.out.2.geE hz; omega)
      · simp [Value.ownBlock] at hz
      · simp [Value.ownBlock] at hz
    have hc3' : C5 u3 t (.slice ao key.length a2) (.int .i64 kd) (.slice bo val.length b2) (.int .i64 pg) (.int .i64 ct) := by rw [← hu3, ← ht]; exact C5.box _ _ _ _ _ _
    have hsrc : SrcC u3 B K (some ⟨t, 0, none⟩) 1 1 [⟨key, kd, val, pg, ct⟩] := by
      refine ⟨rfl, .inr ⟨t, 0, _, rfl, ⟨hR, hKV⟩, fun j u hu => ?_⟩⟩
      obtain ⟨z0, z1, z2, z3, z4⟩ := hc3'.cells
      match j, hu with
      | 0, hu => simp at hu; subst hu; exact z0
      | 1, hu => simp at hu; subst hu; exact z1
      | 2, hu => simp at hu; subst hu; exact z2
      | 3, hu => simp at hu; subst hu; exact z3
      | 4, hu => simp at hu; subst hu; exact z4
      | j + 5, hu => simp at hu
    have ho3 : OwnR u3 x.heap.size B K v1 (cs.take i) := (HO1.out.on HB2.out).on hb3
    obtain ⟨v3, u4, hr3, ho4, hg4⟩ := run_app_cs u3 32 x.heap.size B K (cs.take i) [⟨key, kd, val, pg, ct⟩] v1 (some ⟨t, 0, none⟩) 1 1 ho3 hsrc (by have := HJ.out; simp; omega) (by omega)
    have hb4 : Below x.heap.size u3 u4 := ho3.below hg4 (by omega)
    have hbx4 : Below x.heap.size x u4 := ((HB1.out.trans (HB2.out.mono hsz1)).trans (hb3.mono (by omega))).trans hb4
    have hsz4 := hb4.size
    obtain ⟨v5, u5, hr5, ho5, hg5⟩ := run_app_cs u4 32 x.heap.size B K (cs.take i ++ [⟨key, kd, val, pg, ct⟩]) (cs.drop j) v3 (some ⟨g, j * 5, none⟩) (sn - j) (sc - j) ho4 (HS2.out.on hbx4) (by have := HSN.out; have := HJ.out; simp; omega) (by omega)
    have hb5 : Below x.heap.size u4 u5 := ho4.below hg5 (by omega)
    have HO5 : Hid (OwnR u5 s B K v5 (cs.take i ++ [⟨key, kd, val, pg, ct⟩] ++ cs.drop j)) := hidden (ho5.lowC (by omega))
    have HBF : Hid (Below s w u5) := by
      rw [← hsw]
      exact hidden ((HBX.out.trans (hbx4.mono (by omega))).trans (hb5.mono (by omega)))
    obtain ⟨r0, r1, r2⟩ := (HPX.out.row.on hbx4).cells
    have hjs : j ≤ sn := by have := HSN.out; omega
    clear hKV ho3 ho4 ho5 hg4 hg5 hb3 hb4 hb5 hbx4 hR hc3' hsrc hxs hsz1 hsz2 hsz3 hsz4 hsw hBB HK2 HB2 HO1 HB1 HBOX1 HBX HS2 HC HPX q0 q1 q2 c0 c1 c2' c3 c4 HXS HW HHB
    go_wp2_with (at_builtin; refine append_wp rfl _ _ _ _ rfl _ _ rfl rfl hr3 ?_; refine Hid.out ?_)
    apply hidden
    clear hr3
    have hjI : (i : Int) + (gone : Int) = (j : Int) := by have := HJ.out; omega
    have hwr : IntKind.i64.wrap (j : Int) = (j : Int) := wrap64n _ (by omega)
    have hjb : (j : Int) ≤ (sn : Int) := by omega
    have hj0 : (0 : Int) ≤ (j : Int) := by omega
    have hsb : (sn : Int) ≤ (sc : Int) := by omega
    go_wp2_with (at_builtin; refine append_wp rfl _ _ _ _ rfl _ _ rfl rfl hr5 ?_; refine Hid.out ?_)
    apply hidden
    clear hr5
    go_wp2
    go_ret
    exact ⟨v5, rfl, HO5, HBF⟩
end Go.Proofs.YtphjnahmbdinmaaGreatDoor
