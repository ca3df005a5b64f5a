/- Layer 12: what a way finds. -/
import Derived.Test.YtfcbfombobelmaaGreatDoorJ34
import Derived.Deep.DeepCutAuto
import Derived.Deep.CutRange
import Derived.Test.YtfcbfombobelmaaGreatDoorJ36
import Derived.Test.YtfcbfombobelmaaGreatDoorJ24
import Derived.Test.YtfcbfombobelmaaGreatDoorJ30
namespace Go.Proofs.YtfcbfombobelmaaGreatDoor
open Go.RowKit

set_option maxRecDepth 100000 in
theorem OwnB.apart6F {w z : World} {B s : Nat} {v : Value} {l : List Int} {x0 x1 x2 x3 x4 x5 : Value} (h : OwnB w B v l) (hq : QV6F w s x0 x1 x2 x3 x4 x5) (hc : Cf (· = s) w z) : OwnB z B v l := by
  unfold QV6F at hq
  refine World.ownsRow.kept (row := some s) h ⟨hc.os, hc.tape, hc.output, hc.size, fun k hk h => hc.block k hk (fun e => h (by rw [e]))⟩ ?_
  cases e : v.ownBlock with
  | none => exact .inl rfl
  | some q =>
    right
    intro e2
    injection e2 with e2
    subst e2
    unfold OwnB at h
    rcases h.2 with ⟨h, _⟩ | ⟨q, c', cu, h, _, h2, _⟩
    · rw [h] at e; simp [Value.ownBlock] at e
    · rw [h] at e
      simp [Value.ownBlock] at e
      subst e
      rw [hq] at h2
      injection h2 with h2
      injection h2 with _ h3
      exact absurd h3 (by decide)
set_option maxRecDepth 100000 in
set_option maxHeartbeats 2000000 in
theorem find_yes (w : World) (v : Value) (d : Cl) (qo : Option Addr) (qn qc : Nat) (q : List Int) (hq : Sl w qo qn qc q) (hd : d.key = q) (hw : d.Wf) (hl : d.key.length ≤ 65536)
    (he : ∀ u, Below w.heap.size w u → Calls Tryz.prog 37 #[v] u (FoTo d true u)) :
    Calls Tryz.prog 20 #[v, .slice qo qn qc] w (FoTo d true w) := by
  obtain ⟨s, hs⟩ : ∃ s, w.heap.size = s := ⟨_, rfl⟩
  obtain ⟨x, hx⟩ : ∃ x, w.alloc (.cells #[.slice none 0 0, .int .i64 0, .slice none 0 0, .int .i64 0, .int .i64 0, .bool false] 46) = x := ⟨_, rfl⟩
  have hbx : Below w.heap.size w x := by rw [← hx]; exact bl_al (Below.refl _ _) (Nat.le_refl _) _
  have hqx : QV6F x s (.slice none 0 0) (.int .i64 0) (.slice none 0 0) (.int .i64 0) (.int .i64 0) (.bool false) := by unfold QV6F; rw [← hx, ← hs]; exact heap_alloc_last w _
  have HE := hidden (he x hbx)
  have HQX := hidden hqx
  have HBX := hidden hbx
  have HSQ := hidden hq
  have HSW := hidden hs
  have HD := hidden hd
  clear he hqx hbx hq hd
  go_enter Tryz.func20, Tryz.ntmps20
  go_wp2_with (first | (go_at_call 37; refine HE.out.mono ?_; rintro e w2 ⟨ko, kc, vo, vc, rfl, HO2, HB2⟩; refine Hid.out ?_))
  apply hidden
  obtain ⟨z, hz⟩ : ∃ z, w2.alloc (.cells #[.slice ko d.key.length kc, .int .i64 d.kd, .slice vo d.val.length vc, .int .i64 d.pg, .int .i64 d.ct, .bool true] 46) = z := ⟨_, rfl⟩
  have hbz : Below w2.heap.size w2 z := by rw [← hz]; exact bl_al (Below.refl _ _) (Nat.le_refl _) _
  have hqz : QV6F z s (.slice none 0 0) (.int .i64 0) (.slice none 0 0) (.int .i64 0) (.int .i64 0) (.bool false) := box_on (box_on HQX.out HB2.out) hbz
  have hq2 : QV6F z w2.heap.size (.slice ko d.key.length kc) (.int .i64 d.kd) (.slice vo d.val.length vc) (.int .i64 d.pg) (.int .i64 d.ct) (.bool true) := by unfold QV6F; rw [← hz]; exact heap_alloc_last w2 _
  have hbwz : Below w.heap.size w z := bl_go (bl_go HBX.out (Nat.le_refl _) HB2.out) (Nat.le_refl _) hbz
  have ho1 := HO2.out.1.on (Nat.le_refl _) hbz
  have ho2 := HO2.out.2.on (Nat.le_refl _) hbz
  obtain ⟨ao', c', e1, hsk, _⟩ := ho1.sl hw.1 (by omega)
  injection e1 with i1 i2 i3
  subst i1 i3
  have HEQ : Hid (Calls Tryz.prog 38 #[.slice ko d.key.length kc, .slice qo qn qc] z fun e w' => e = .returned (.bool true) ∧ w' = z) := hidden (by
    have h := equal6 ko qo d.key.length qn kc qc d.key q z hsk (HSQ.out.on (Nat.le_refl _) hbwz)
    rwa [decide_eq_true HD.out] at h)
  have r0 := cell_of_row _ _ 0 _ _ _ hqz
  have r1 := cell_of_row _ _ 1 _ _ _ hqz
  have r2 := cell_of_row _ _ 2 _ _ _ hqz
  have r3 := cell_of_row _ _ 3 _ _ _ hqz
  have r4 := cell_of_row _ _ 4 _ _ _ hqz
  have r5 := cell_of_row _ _ 5 _ _ _ hqz
  have t0 := cell_of_row _ _ 0 _ _ _ hq2
  have t1 := cell_of_row _ _ 1 _ _ _ hq2
  have t2 := cell_of_row _ _ 2 _ _ _ hq2
  have t3 := cell_of_row _ _ 3 _ _ _ hq2
  have t4 := cell_of_row _ _ 4 _ _ _ hq2
  have t5 := cell_of_row _ _ 5 _ _ _ hq2
  simp at r0 r1 r2 r3 r4 r5 t0 t1 t2 t3 t4 t5
  have fz : ∀ i, z.frozen? ⟨s, i, none⟩ = false := fun i => by unfold QV6F at hqz; simp [World.frozen?, hqz]
  have HQZ := hidden hqz
  have HBZ := hidden hbwz
  have HOZ := hidden (And.intro (ho1.low HBX.out.size) (ho2.low HBX.out.size))
  clear hqz hq2 hbz hbwz ho1 ho2 hsk HO2 HB2 HE HQX hx
  go_wp2_with (first | (go_at_call 38; refine same_call HEQ.out ?_))
  refine bodyPost_ret (results_cell_row rfl _ _ s 46 #[.slice ko d.key.length kc, .int .i64 d.kd, .slice vo d.val.length vc, .int .i64 d.pg, .int .i64 d.ct, .bool true] (0, 0) _ (by rfl) (put6F_row HQZ.out _ _ _ _ _ _) Tryz.underlying46 rfl sizeFo1) rfl ?_
  have hcf := put6F_cf z s (.slice ko d.key.length kc) (.int .i64 d.kd) (.slice vo d.val.length vc) (.int .i64 d.pg) (.int .i64 d.ct) (.bool true)
  have hsw := HSW.out
  exact ⟨ko, kc, vo, vc, rfl, hidden ⟨HOZ.out.1.apart6F HQZ.out hcf, HOZ.out.2.apart6F HQZ.out hcf⟩, hidden (HBZ.out.trans (hcf.below HBZ.out.size (fun i hi e => by omega)))⟩
set_option maxRecDepth 100000 in
set_option maxHeartbeats 2000000 in
theorem find_no (w : World) (v : Value) (d : Cl) (qo : Option Addr) (qn qc : Nat) (he : ∀ u, Below w.heap.size w u → Calls Tryz.prog 37 #[v] u (FoTo d false u)) : Calls Tryz.prog 20 #[v, .slice qo qn qc] w (FoTo noCl false w) := by
  obtain ⟨s, hs⟩ : ∃ s, w.heap.size = s := ⟨_, rfl⟩
  obtain ⟨x, hx⟩ : ∃ x, w.alloc (.cells #[.slice none 0 0, .int .i64 0, .slice none 0 0, .int .i64 0, .int .i64 0, .bool false] 46) = x := ⟨_, rfl⟩
  have hbx : Below w.heap.size w x := by rw [← hx]; exact bl_al (Below.refl _ _) (Nat.le_refl _) _
  have hqx : QV6F x s (.slice none 0 0) (.int .i64 0) (.slice none 0 0) (.int .i64 0) (.int .i64 0) (.bool false) := by unfold QV6F; rw [← hx, ← hs]; exact heap_alloc_last w _
  have HE := hidden (he x hbx)
  have HQX := hidden hqx
  have HBX := hidden hbx
  have HSW := hidden hs
  clear he hqx hbx
  go_enter Tryz.func20, Tryz.ntmps20
  go_wp2_with (first | (go_at_call 37; refine HE.out.mono ?_; rintro e w2 ⟨ko, kc, vo, vc, rfl, HO2, HB2⟩; refine Hid.out ?_))
  apply hidden
  have hq2 : QV6F w2 s (.slice none 0 0) (.int .i64 0) (.slice none 0 0) (.int .i64 0) (.int .i64 0) (.bool false) := box_on HQX.out HB2.out
  go_upto_region 2 with fail
  obtain ⟨z, hz⟩ : ∃ z, w2.alloc (.cells #[.slice ko d.key.length kc, .int .i64 d.kd, .slice vo d.val.length vc, .int .i64 d.pg, .int .i64 d.ct, .bool false] 46) = z := ⟨_, rfl⟩
  have hbz : Below w2.heap.size w2 z := by rw [← hz]; exact bl_al (Below.refl _ _) (Nat.le_refl _) _
  have hqz : QV6F z s (.slice none 0 0) (.int .i64 0) (.slice none 0 0) (.int .i64 0) (.int .i64 0) (.bool false) := box_on hq2 hbz
  have hqn : QV6F z w2.heap.size (.slice ko d.key.length kc) (.int .i64 d.kd) (.slice vo d.val.length vc) (.int .i64 d.pg) (.int .i64 d.ct) (.bool false) := by unfold QV6F; rw [← hz]; exact heap_alloc_last w2 _
  obtain ⟨o0, r0⟩ : ∃ o, z.cell? ⟨s, 0, none⟩ = some o := ⟨_, by rw [cell_of_row _ _ 0 _ _ _ hqz]; rfl⟩
  obtain ⟨o1, r1⟩ : ∃ o, z.cell? ⟨s, 1, none⟩ = some o := ⟨_, by rw [cell_of_row _ _ 1 _ _ _ hqz]; rfl⟩
  obtain ⟨o2, r2⟩ : ∃ o, z.cell? ⟨s, 2, none⟩ = some o := ⟨_, by rw [cell_of_row _ _ 2 _ _ _ hqz]; rfl⟩
  obtain ⟨o3, r3⟩ : ∃ o, z.cell? ⟨s, 3, none⟩ = some o := ⟨_, by rw [cell_of_row _ _ 3 _ _ _ hqz]; rfl⟩
  obtain ⟨o4, r4⟩ : ∃ o, z.cell? ⟨s, 4, none⟩ = some o := ⟨_, by rw [cell_of_row _ _ 4 _ _ _ hqz]; rfl⟩
  obtain ⟨o5, r5⟩ : ∃ o, z.cell? ⟨s, 5, none⟩ = some o := ⟨_, by rw [cell_of_row _ _ 5 _ _ _ hqz]; rfl⟩
  have t5 := cell_of_row _ _ 5 _ _ _ hqn
  simp at t5
  have fz : ∀ i, z.frozen? ⟨s, i, none⟩ = false := fun i => by unfold QV6F at hqz; simp [World.frozen?, hqz]
  have HQZ := hidden hqz
  have HBZ : Hid (Below w.heap.size w z) := hidden (bl_go (bl_go HBX.out (Nat.le_refl _) HB2.out) (Nat.le_refl _) hbz)
  rw [hz]
  clear hq2 hqz hqn hbz HO2 HB2 HE HQX hx
  go_wp2_with fail
  refine bodyPost_ret (results_cell_row rfl _ _ s 46 #[.slice none 0 0, .int .i64 0, .slice none 0 0, .int .i64 0, .int .i64 0, .bool false] (0, 0) _ (by rfl) (put6F_row HQZ.out _ _ _ _ _ _) Tryz.underlying46 rfl sizeFo1) rfl ?_
  have hcf := put6F_cf z s (.slice none 0 0) (.int .i64 0) (.slice none 0 0) (.int .i64 0) (.int .i64 0) (.bool false)
  have hsw := HSW.out
  exact ⟨none, 0, none, 0, rfl, hidden ⟨OwnB.nil _ _, OwnB.nil _ _⟩, hidden (HBZ.out.trans (hcf.below HBZ.out.size (fun i hi e => by omega)))⟩
set_option maxRecDepth 100000 in
theorem find_0 (w : World) (qo : Option Addr) (qn qc : Nat) : Calls Tryz.prog 20 #[.slice none 0 0, .slice qo qn qc] w (FoTo noCl false w) := find_no w _ noCl qo qn qc (fun u _ => end_0 u)
end Go.Proofs.YtfcbfombobelmaaGreatDoor

/- Layer 12: a change of the empty tree. -/

namespace Go.Proofs.YtfcbfombobelmaaGreatDoor
open Go.RowKit

set_option maxRecDepth 100000 in
set_option maxHeartbeats 1000000 in
theorem changeLeaf_0 (w : World) (b m : Nat) (rd : Int) (M : Int → Option Pf) (ct : Nat) (hb : Bq w b m rd M ct) (ht : TB w b m) (ko : Option Addr) (kn kc : Nat) (kd : Int) (vo : Option Addr) (vn vc : Nat) (pg cn : Int) (is : Bool) (ao : Option Addr) (n cap : Nat) (cs : List Cl) (hs : SlC w ao n cap cs) (gd : Gd1 cs) (hn : 0 < n) (hM : M 2 = none) (hlen : ∀ k f, M k = some f → 0 < f.l.length) (hct : ct < 999999) :
    Calls Tryz.prog 32 #[iB b, .slice none 0 0, .agg #[.slice ko kn kc, .int .i64 kd, .slice vo vn vc, .int .i64 pg, .int .i64 cn, .bool is], .slice ao n cap] w fun e w' => e = .returned (.int .i64 2) ∧ Hid (Cf (Bo b m) w w' ∧ ∃ f0 f : Pf, f.l = pgB 2 512 cs ∧ w.heap.size ≤ f.g ∧ Bq w' b m rd (putM (putM M 2 f0) 2 f) (ct + 1)) := by
  obtain ⟨x, hx⟩ : ∃ x, (w.alloc (.cells #[.slice ko kn kc, .int .i64 kd, .slice vo vn vc, .int .i64 pg, .int .i64 cn, .bool is] 46)).alloc (.cells #[iB b, .slice none 0 0] 86) = x := ⟨_, rfl⟩
  have hbx : Below w.heap.size w x := by rw [← hx]; exact bl_al (bl_al (Below.refl _ _) (Nat.le_refl _) _) (Nat.le_refl _) _
  have hch : Chg x (w.heap.size + 1) b (.slice none 0 0) := by
    unfold Chg
    rw [← hx]
    have := heap_alloc_last (w.alloc (.cells #[.slice ko kn kc, .int .i64 kd, .slice vo vn vc, .int .i64 pg, .int .i64 cn, .bool is] 46)) (.cells #[iB b, .slice none 0 0] 86)
    simp only [World.size_alloc] at this
    exact this
  have hlt := hb.lt
  have hmt := hb.mlt
  have HR := hidden (rooted_leaf x (w.heap.size + 1) b m rd M ct (.slice none 0 0) hch (hb.on hbx) (ht.go (Cf.of_below hbx)) ⟨by omega, by omega⟩ ao n cap cs (hs.on hbx) gd hn hM hlen hct)
  have HBX := hidden hbx
  clear hb ht hs gd hM hlen hch hbx hlt hmt
  go_enter Tryz.func32, Tryz.ntmps32
  go_wp2_with (first | (go_at_call 48; refine HR.out.mono ?_; rintro e w1 ⟨rfl, HQ⟩))
  go_ret
  obtain ⟨q1, f0, f, q2, q3, q4⟩ := HQ.out
  exact ⟨rfl, hidden ⟨(Cf.of_below HBX.out).go q1, f0, f, q2, Nat.le_trans HBX.out.size q3, q4⟩⟩
/-- The cell of a change, as it is handed in. -/
structure Ca (w : World) (b m : Nat) (c : Cl) (ka va : Option Addr) (kc vc : Nat) : Prop where
  k : KS w b m ka c.key.length kc c.key
  v : KS w b m va c.val.length vc c.val
set_option maxRecDepth 100000 in
theorem Ca.go {w u : World} {b m : Nat} {c : Cl} {ka va : Option Addr} {kc vc : Nat} (h : Ca w b m c ka va kc vc) (hc : Cf (Bo b m) w u) : Ca u b m c ka va kc vc := ⟨h.k.go hc, h.v.go hc⟩
end Go.Proofs.YtfcbfombobelmaaGreatDoor

/- Layer 12: what package slices does to rows of one cell. -/

namespace Go.Proofs.YtfcbfombobelmaaGreatDoor
open Go.RowKit

set_option maxRecDepth 100000 in
theorem app_none (w : World) (ty : TypeId) (ao : Option Addr) (c : Nat) (o : Option Addr) (n cap : Nat) (hn : n ≤ cap) : (Builtin.append_ #[83, 83] ty #[.slice o n cap, .slice ao 0 c]).run Tryz.prog w = .ok (.slice o n cap) w := by
  obtain ⟨ic, hic, hz0, hz1, hz2⟩ := info_parts infoC
  cases o <;> cases ao <;> simp [Builtin.append_, run_underlying Tryz.underlying83, sizeOf, typeInfo, hic, Builtin.lenOf, Builtin.firstCells, loadCells, loadCellsFrom, hn, storeCells]
set_option maxRecDepth 100000 in
theorem C5.own {w : World} {g : Nat} {x0 x1 x2 x3 x4 : Value} (h : C5 w g x0 x1 x2 x3 x4) {B : Nat} (hB : B ≤ g) : w.ownsRow B 29 5 (.slice (some ⟨g, 0, none⟩) 1 1) 1 [x0, x1, x2, x3, x4] :=
  ⟨rfl, .inr ⟨g, 1, _, rfl, hB, h, Nat.le_refl _, by unfold maxLen; omega, rfl, rfl⟩⟩
set_option maxRecDepth 100000 in
/-- A row of one cell, whatever it holds. -/
theorem rowC_c5 {w : World} {g : Nat} (h : RowC w g 1) : ∃ x0 x1 x2 x3 x4, C5 w g x0 x1 x2 x3 x4 := by
  obtain ⟨cur, h1, h2⟩ := h
  obtain ⟨l⟩ := cur
  match l, h2 with
  | [a, b, c, d, e], _ => exact ⟨a, b, c, d, e, h1⟩
set_option maxRecDepth 100000 in
set_option maxHeartbeats 1000000 in
theorem replace_1 (w : World) (g h hc : Nat) (y0 y1 y2 y3 y4 : Value) (hg : C5 w g y0 y1 y2 y3 y4) (ka : Option Addr) (kn kc : Nat) (kd : Int) (va : Option Addr) (vn vc : Nat) (pg ct : Int) (hx : C5 w h (.slice ka kn kc) (.int .i64 kd) (.slice va vn vc) (.int .i64 pg) (.int .i64 ct)) :
    Calls Tryz.prog 50 #[.slice (some ⟨g, 0, none⟩) 1 1, .int .i64 0, .int .i64 1, .slice (some ⟨h, 0, none⟩) 1 hc] w fun e w' => e = .returned (.slice (some ⟨g, 0, none⟩) 1 1) ∧ Hid (C5 w' g (.slice ka kn kc) (.int .i64 kd) (.slice va vn vc) (.int .i64 pg) (.int .i64 ct) ∧ Cf (· = g) w w') := by
  obtain ⟨ic, hic, hz0, hz1, hz2⟩ := info_parts infoC
  have hr : ∀ ty, (Builtin.append_ #[83, 83] ty #[.slice (some ⟨g, 0, none⟩) 0 1, .slice (some ⟨h, 0, none⟩) 1 hc]).run Tryz.prog w = .ok (.slice (some ⟨g, 0, none⟩) 1 1) (w.setRow g #[.slice ka kn kc, .int .i64 kd, .slice va vn vc, .int .i64 pg, .int .i64 ct]) := fun ty => by
    have := run_append_room (P := Tryz.prog) w 83 ty 29 ic Tryz.underlying83 hic g 0 1 _ hg ⟨h, 0, none⟩ 1 hc [.slice ka kn kc, .int .i64 kd, .slice va vn vc, .int .i64 pg, .int .i64 ct] (by rw [hz1]; rfl) (fun j u hj => by
      rw [Addr.add_lit, Nat.zero_add, cell_of_row _ _ j _ _ _ hx]
      simpa using hj) (by simp [Value.oneCell']) (by omega) (by simp)
    simpa using this
  obtain ⟨w1, hw1⟩ : ∃ w1, w.setRow g #[.slice ka kn kc, .int .i64 kd, .slice va vn vc, .int .i64 pg, .int .i64 ct] = w1 := ⟨_, rfl⟩
  have HF : Hid (C5 w1 g (.slice ka kn kc) (.int .i64 kd) (.slice va vn vc) (.int .i64 pg) (.int .i64 ct) ∧ Cf (· = g) w w1) := hidden (by
    rw [← hw1]
    exact ⟨setRow_heap w g _ _ _ _ hg, ⟨rfl, rfl, rfl, by simp, fun k _ hk => setRow_other w g k _ hk⟩⟩)
  rw [hw1] at hr
  clear hg hx hw1
  go_enter Tryz.func50, Tryz.ntmps50
  go_wp2_with (at_builtin; refine append_wp rfl _ _ _ _ rfl _ _ rfl rfl (hr _) ?_)
  go_ret
  exact ⟨rfl, HF⟩
set_option maxRecDepth 100000 in
set_option maxHeartbeats 1000000 in
theorem replace_0 (w : World) (g : Nat) (y0 y1 y2 y3 y4 : Value) (hg : C5 w g y0 y1 y2 y3 y4) :
    Calls Tryz.prog 50 #[.slice (some ⟨g, 0, none⟩) 1 1, .int .i64 0, .int .i64 1, .slice none 0 0] w fun e w' => e = .returned (.slice (some ⟨g, 0, none⟩) 0 1) ∧ Hid (Cf (· = g) w w') := by
  have hr : ∀ ty, (Builtin.append_ #[83, 83] ty #[.slice (some ⟨g, 0, none⟩) 0 1, .slice none 0 0]).run Tryz.prog w = .ok (.slice (some ⟨g, 0, none⟩) 0 1) w := fun ty => app_none w ty none 0 _ 0 1 (by omega)
  obtain ⟨w1, hw1⟩ : ∃ w1, w.setCells g 0 [.slice none 0 0, .int .i64 0, .slice none 0 0, .int .i64 0, .int .i64 0] = w1 := ⟨_, rfl⟩
  have hcl : ∀ ty c, (Builtin.clear_ #[83] ty #[.slice (some ⟨g, 0, none⟩) 1 c]).run Tryz.prog w = .ok (.tuple #[]) w1 := fun ty c => by
    have hst := run_storeCells_cells (P := Tryz.prog) g 0 [.slice none 0 0, .int .i64 0, .slice none 0 0, .int .i64 0, .int .i64 0] 0 w (fun j hj => by
      rw [cell_of_row _ _ _ _ _ _ hg]
      simp at hj ⊢
      omega) (fun j hj => frozen_of_row w g _ _ _ hg) (by simp [Value.oneCell'])
    rw [Nat.add_zero] at hst
    have hzc : (Builtin.zeroCells #[.slice none 0 0, .int .i64 0, .slice none 0 0, .int .i64 0, .int .i64 0] 1).toList = [.slice none 0 0, .int .i64 0, .slice none 0 0, .int .i64 0, .int .i64 0] := by kernel_rfl
    simp [Builtin.clear_, run_underlying Tryz.underlying83, Value.cells, hzc, hst, hw1]
  have HF : Hid (Cf (· = g) w w1) := hidden (by
    rw [← hw1]
    simp only [World.setCells]
    exact ((((Cf.set _ _ _ _).go (Cf.set _ _ _ _)).go (Cf.set _ _ _ _)).go (Cf.set _ _ _ _)).go (Cf.set _ _ _ _))
  clear hg hw1
  go_enter Tryz.func50, Tryz.ntmps50
  go_wp2_with (at_builtin; first | refine append_wp rfl _ _ _ _ rfl _ _ rfl rfl (hr _) ?_ | refine clear_wp rfl _ _ rfl _ rfl (hcl _ _) ?_)
  go_ret
  exact ⟨rfl, HF⟩
set_option maxRecDepth 100000 in
theorem above_0 (w : World) (B g c : Nat) (root : Int) (a r : Nat) (hw : Wy w B g c root a r) :
    Calls Tryz.prog 59 #[.slice (some ⟨g, 0, none⟩) 1 c, .int .i64 0] w fun e w' => ∃ s, e = .returned (.tuple #[.slice (some ⟨s, 0, none⟩) 1 1, .int .i64 0]) ∧ Hid (C5 w' s (.slice none 0 0) (.int .i64 3) (.slice none 0 0) (.int .i64 root) (.int .i64 0) ∧ w.heap.size ≤ s) ∧ Hid (Below w.heap.size w w') := by
  obtain ⟨c0, c1, c2, hc1⟩ := hw.cells
  clear hw
  go_enter Tryz.func59, Tryz.ntmps59
  go_wp2
  go_ret2
  exact ⟨w.heap.size, rfl, hidden ⟨C5.box _ _ _ _ _ _, Nat.le_refl _⟩, hidden (bl_al (Below.refl _ _) (Nat.le_refl _) _)⟩
set_option maxRecDepth 100000 in
theorem leadAlike_no (w : World) (ka : Option Addr) (kn kc : Nat) (k1 : Int) (va : Option Addr) (vn vc : Nat) (pg : Int) (la : Option Addr) (ln lc : Nat) (k2 : Int) (ua : Option Addr) (un uc : Nat) (ct : Int) (hct : ¬ ct = 0) :
    Calls Tryz.prog 62 #[.agg #[.slice ka kn kc, .int .i64 k1, .slice va vn vc, .int .i64 pg, .int .i64 ct], .agg #[.slice la ln lc, .int .i64 k2, .slice ua un uc, .int .i64 pg, .int .i64 0]] w fun e w' => e = .returned (.bool false) ∧ Hid (Below w.heap.size w w') := by
  have hd : decide (ct = 0) = false := decide_eq_false hct
  have HB : Hid (∀ o o', Below w.heap.size w ((w.alloc o).alloc o')) := hidden fun o o' => bl_al (bl_al (Below.refl _ _) (Nat.le_refl _) _) (Nat.le_refl _) _
  go_enter Tryz.func62, Tryz.ntmps62
  go_wp2
  go_ret
  exact ⟨rfl, hidden (HB.out _ _)⟩
set_option maxRecDepth 100000 in
theorem equalF_len (w : World) (ao : Option Addr) (n c : Nat) (bo : Option Addr) (n2 c2 : Nat) (f : Value) (hn : ¬ (n : Int) = (n2 : Int)) :
    Calls Tryz.prog 61 #[.slice ao n c, .slice bo n2 c2, f] w fun e w' => e = .returned (.bool false) ∧ w' = w := by
  go_enter Tryz.func61, Tryz.ntmps61
  go_wp2
  go_ret
  exact ⟨rfl, rfl⟩
end Go.Proofs.YtfcbfombobelmaaGreatDoor
