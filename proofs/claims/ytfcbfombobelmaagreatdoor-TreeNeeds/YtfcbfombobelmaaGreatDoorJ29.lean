/- Layer 12: caught: what work answers, or what it throws. -/
import Derived.Test.YtfcbfombobelmaaGreatDoorJ28
import Derived.Test.YtfcbfombobelmaaGreatDoorJ05
import Derived.Test.YtfcbfombobelmaaGreatDoorJ08
namespace Go.Proofs.YtfcbfombobelmaaGreatDoor
open Go.RowKit

set_option maxRecDepth 100000 in
theorem sizeCh : (Tryz.prog.info? 48).map (·.size) = some 7 := by kernel_rfl
/-- The two blocks of caught's answers. -/
def Tw2 (s : Nat) (k : Nat) : Prop := k = s ∨ k = s + 1
set_option maxRecDepth 100000 in
theorem Cf.wideB {F G : Nat → Prop} {w w' : World} (h : Cf F w w') (hf : ∀ b, F b → G b) : Cf G w w' := ⟨h.os, h.tape, h.output, h.size, fun k hk hg => h.block k hk (fun e => hg (hf k e))⟩
/-- A row of seven values. -/
def QV7 (w : World) (g : Nat) (x0 x1 x2 x3 x4 x5 x6 : Value) : Prop := w.heap[g]? = some (.cells #[x0, x1, x2, x3, x4, x5, x6] 48 (0, 0))
def put7 (w : World) (g : Nat) (y0 y1 y2 y3 y4 y5 y6 : Value) : World := ((((((w.setCell ⟨g, 0, none⟩ y0).setCell ⟨g, 1, none⟩ y1).setCell ⟨g, 2, none⟩ y2).setCell ⟨g, 3, none⟩ y3).setCell ⟨g, 4, none⟩ y4).setCell ⟨g, 5, none⟩ y5).setCell ⟨g, 6, none⟩ y6
set_option maxRecDepth 100000 in
theorem put7_row {w : World} {g : Nat} {x0 x1 x2 x3 x4 x5 x6 : Value} (h : QV7 w g x0 x1 x2 x3 x4 x5 x6) (y0 y1 y2 y3 y4 y5 y6 : Value) : QV7 (put7 w g y0 y1 y2 y3 y4 y5 y6) g y0 y1 y2 y3 y4 y5 y6 := by
  unfold QV7 put7 at *
  have a0 : (w.setCell ⟨g, 0, none⟩ y0).heap[g]? = some (.cells #[y0, x1, x2, x3, x4, x5, x6] 48 (0, 0)) := by simpa using set_row (w := w) (a := g) (i := 0) (cs := [x0, x1, x2, x3, x4, x5, x6]) (u := y0) h
  have a1 := set_row (a := g) (i := 1) (cs := [y0, x1, x2, x3, x4, x5, x6]) (u := y1) a0
  simp at a1
  have a2 := set_row (a := g) (i := 2) (cs := [y0, y1, x2, x3, x4, x5, x6]) (u := y2) a1
  simp at a2
  have a3 := set_row (a := g) (i := 3) (cs := [y0, y1, y2, x3, x4, x5, x6]) (u := y3) a2
  simp at a3
  have a4 := set_row (a := g) (i := 4) (cs := [y0, y1, y2, y3, x4, x5, x6]) (u := y4) a3
  simp at a4
  have a5 := set_row (a := g) (i := 5) (cs := [y0, y1, y2, y3, y4, x5, x6]) (u := y5) a4
  simp at a5
  have a6 := set_row (a := g) (i := 6) (cs := [y0, y1, y2, y3, y4, y5, x6]) (u := y6) a5
  simp at a6
  exact a6
set_option maxRecDepth 100000 in
theorem put7_cf (w : World) (g : Nat) (y0 y1 y2 y3 y4 y5 y6 : Value) : Cf (· = g) w (put7 w g y0 y1 y2 y3 y4 y5 y6) := ((((((Cf.set _ _ _ _).go (Cf.set _ _ _ _)).go (Cf.set _ _ _ _)).go (Cf.set _ _ _ _)).go (Cf.set _ _ _ _)).go (Cf.set _ _ _ _)).go (Cf.set _ _ _ _)
set_option maxRecDepth 100000 in
theorem results_cc {P : Program} {fn : Func} {p q : Tmp} {ty tq : TypeId} (h : fn.results = #[.cell p ty, .cell q tq]) (tmps : Array Value) (w : World) (g g2 : Nat) (t : TypeId) (cs : Array Value) (fr : Nat × Nat) (d : TypeDesc) (v : Value)
    (hp : tmps.getD p undef = .pointer (some ⟨g, 0, none⟩)) (hq : tmps.getD q undef = .pointer (some ⟨g2, 0, none⟩)) (hg : w.heap[g]? = some (.cells cs t fr))
    (hu : P.underlying ty = some d) (hd : (match d with | .struct _ | .array _ _ => true | _ => false) = true) (hi : (P.info? ty).map (·.size) = some cs.size)
    (hv : (loadVar tq ⟨g2, 0, none⟩).run P w = .ok v w) :
    (results fn tmps).run P w = .ok (.tuple #[.agg cs, v]) w := by
  have hp' : (tmps[p]?.getD undef) = .pointer (some ⟨g, 0, none⟩) := by simpa using hp
  have hq' : (tmps[q]?.getD undef) = .pointer (some ⟨g2, 0, none⟩) := by simpa using hq
  simp [results, h, hp', hq', asAddr, run_loadVar_row w g t ty cs fr d hg hu hd hi, hv]
set_option maxRecDepth 100000 in
set_option maxHeartbeats 2000000 in
theorem caughtP_ok (cap : Array Value) (w : World) (G : Nat → Prop) (hG : ∀ i, G i → i < w.heap.size)
    (Q : Int → Option Addr → Nat → Nat → Int → Option Addr → Nat → Nat → Int → Int → Bool → World → Prop)
    (hw : ∀ x, Below w.heap.size w x → x.heap.size = w.heap.size + 2 → Calls Tryz.prog 15 cap x fun e x' => ∃ r ko kn kc kd vo vn vc pg ct is, e = .returned (.agg #[.int .i64 r, .slice ko kn kc, .int .i64 kd, .slice vo vn vc, .int .i64 pg, .int .i64 ct, .bool is]) ∧ Hid (Cf G x x') ∧ Hid (Q r ko kn kc kd vo vn vc pg ct is x'))
    (hQ : ∀ r ko kn kc kd vo vn vc pg ct is x y, Q r ko kn kc kd vo vn vc pg ct is x → Cf (Tw2 w.heap.size) x y → Q r ko kn kc kd vo vn vc pg ct is y) :
    Calls Tryz.prog 14 #[.func (.func 15) #[] cap] w fun e w' => ∃ r ko kn kc kd vo vn vc pg ct is, e = .returned (.tuple #[.agg #[.int .i64 r, .slice ko kn kc, .int .i64 kd, .slice vo vn vc, .int .i64 pg, .int .i64 ct, .bool is], .int .i64 0]) ∧ Hid (Cf G w w') ∧ Hid (Q r ko kn kc kd vo vn vc pg ct is w') := by
  have hmf : ∀ (fn : Fn) (first cap : Array Value) (w : World), (Instr.makeFunc fn first cap).run Tryz.prog w = .ok (.func fn first cap) w := fun _ _ _ _ => rfl
  obtain ⟨s, hs⟩ : ∃ s, w.heap.size = s := ⟨_, rfl⟩
  obtain ⟨x, hx⟩ : ∃ x, (w.alloc (.cells #[.int .i64 0, .slice none 0 0, .int .i64 0, .slice none 0 0, .int .i64 0, .int .i64 0, .bool false] 48)).alloc (.cells #[.int .i64 0] 30) = x := ⟨_, rfl⟩
  have hbx : Below w.heap.size w x := by rw [← hx]; exact bl_al (bl_al (Below.refl _ _) (Nat.le_refl _) _) (Nat.le_refl _) _
  have hxs : x.heap.size = w.heap.size + 2 := by rw [← hx]; simp
  have HW := hidden (hw x hbx hxs)
  have hr0 : x.heap[s]? = some (.cells #[.int .i64 0, .slice none 0 0, .int .i64 0, .slice none 0 0, .int .i64 0, .int .i64 0, .bool false] 48 (0, 0)) := by
    rw [← hx]
    refine (Below.heap_alloc _ _ _ (by simp; omega)).trans ?_
    rw [← hs]
    exact heap_alloc_last w _
  have hr1 : x.heap[s + 1]? = some (.cells #[.int .i64 0] 30 (0, 0)) := by
    rw [← hx]
    have := heap_alloc_last (w.alloc (.cells #[.int .i64 0, .slice none 0 0, .int .i64 0, .slice none 0 0, .int .i64 0, .int .i64 0, .bool false] 48)) (.cells #[.int .i64 0] 30)
    simp only [World.size_alloc, hs] at this
    exact this
  have HR := hidden (And.intro hr0 hr1)
  have HBX := hidden hbx
  have HGs : Hid (¬ G s ∧ ¬ G (s + 1)) := hidden ⟨fun h => by have := hG _ h; omega, fun h => by have := hG _ h; omega⟩
  have HXS : Hid (x.heap.size = s + 2) := hidden (by omega)
  clear hw hbx hxs hr0 hr1
  go_enter_defers Tryz.func14, Tryz.ntmps14
  go_wp2_with (first | (go_at_call 15; refine HW.out.mono ?_; rintro e x1 ⟨r, ko, kn, kc, kd, vo, vn, vc, pg, ct, is, rfl, HC1, HQ1⟩; refine Hid.out ?_))
  apply hidden
  clear HW hx
  have hx1 : x1.heap[s]? = some (.cells #[.int .i64 0, .slice none 0 0, .int .i64 0, .slice none 0 0, .int .i64 0, .int .i64 0, .bool false] 48 (0, 0)) := (HC1.out.block s (by have := HXS.out; omega) HGs.out.1).trans HR.out.1
  have hx2 : x1.heap[s + 1]? = some (.cells #[.int .i64 0] 30 (0, 0)) := (HC1.out.block (s + 1) (by have := HXS.out; omega) HGs.out.2).trans HR.out.2
  have d0 := cell_of_row _ _ 0 _ _ _ hx1
  have d1 := cell_of_row _ _ 1 _ _ _ hx1
  have d2 := cell_of_row _ _ 2 _ _ _ hx1
  have d3 := cell_of_row _ _ 3 _ _ _ hx1
  have d4 := cell_of_row _ _ 4 _ _ _ hx1
  have d5 := cell_of_row _ _ 5 _ _ _ hx1
  have d6 := cell_of_row _ _ 6 _ _ _ hx1
  have e0 := cell_of_row _ _ 0 _ _ _ hx2
  simp at d0 d1 d2 d3 d4 d5 d6 e0
  have fz : ∀ i, x1.frozen? ⟨s, i, none⟩ = false := fun i => by simp [World.frozen?, hx1]
  have fy : x1.frozen? ⟨s + 1, 0, none⟩ = false := by simp [World.frozen?, hx2]
  have HX12 := hidden (And.intro hx1 hx2)
  clear hx1 hx2
  go_wp2
  show bodyPostD _ _ _ _ _ ((put7 x1 s (.int .i64 r) (.slice ko kn kc) (.int .i64 kd) (.slice vo vn vc) (.int .i64 pg) (.int .i64 ct) (.bool is)).setCell ⟨s + 1, 0, none⟩ (.int .i64 0))
  have hcp := put7_cf x1 s (.int .i64 r) (.slice ko kn kc) (.int .i64 kd) (.slice vo vn vc) (.int .i64 pg) (.int .i64 ct) (.bool is)
  have hrp := put7_row (show QV7 x1 s _ _ _ _ _ _ _ from HX12.out.1) (.int .i64 r) (.slice ko kn kc) (.int .i64 kd) (.slice vo vn vc) (.int .i64 pg) (.int .i64 ct) (.bool is)
  obtain ⟨y, hy⟩ : ∃ y, put7 x1 s (.int .i64 r) (.slice ko kn kc) (.int .i64 kd) (.slice vo vn vc) (.int .i64 pg) (.int .i64 ct) (.bool is) = y := ⟨_, rfl⟩
  rw [hy] at hcp hrp ⊢
  have hy2 : y.heap[s + 1]? = some (.cells #[.int .i64 0] 30 (0, 0)) := (hcp.block (s + 1) (lt_some HX12.out.2) (by omega)).trans HX12.out.2
  obtain ⟨z, hz⟩ : ∃ z, y.setCell ⟨s + 1, 0, none⟩ (.int .i64 0) = z := ⟨_, rfl⟩
  have hcz : Cf (· = s + 1) y z := by rw [← hz]; exact Cf.set _ _ _ _
  have hrz : z.heap[s]? = some (.cells #[.int .i64 r, .slice ko kn kc, .int .i64 kd, .slice vo vn vc, .int .i64 pg, .int .i64 ct, .bool is] 48 (0, 0)) := (hcz.block s (lt_some hrp) (by omega)).trans hrp
  have hez : z.cell? ⟨s + 1, 0, none⟩ = some (.int .i64 0) := by
    rw [← hz]
    exact World.cell?_setCell_same _ _ _ (by rw [cell_of_row _ _ 0 _ _ _ hy2]; rfl)
  rw [hz]
  refine leaves_cons (f := 27) (args := #[.pointer (some ⟨s + 1, 0, none⟩)]) (by simp) (by simp [go_sem]) ?_
  refine (catchC_idle ⟨s + 1, 0, none⟩ z).mono ?_
  rintro e u' w'' ⟨rfl, rfl, rfl⟩
  have hcc : Cf (Tw2 s) x1 w'' := (hcp.wideB (fun b e => .inl e)).go (hcz.wideB (fun b e => .inr e))
  have hcw : Cf G w w'' := ((Cf.of_below HBX.out).go HC1.out).trans hcc (fun i hi e => by
    rcases e with e | e <;> (exfalso; omega))
  have hld : (loadVar 30 ⟨s + 1, 0, none⟩).run Tryz.prog w'' = .ok (.int .i64 0) w'' := by
    simp [go_sem, hez]
  refine ⟨_, results_cc rfl _ _ s (s + 1) _ _ _ _ (.int .i64 0) (by rfl) (by rfl) hrz Tryz.underlying48 rfl sizeCh hld, ?_⟩
  exact ⟨r, ko, kn, kc, kd, vo, vn, vc, pg, ct, is, rfl, hidden hcw, hidden (hQ _ _ _ _ _ _ _ _ _ _ _ _ _ HQ1.out (by rw [hs]; exact hcc))⟩
set_option maxRecDepth 100000 in
set_option maxHeartbeats 2000000 in
theorem caughtD_ok (cap : Array Value) (w : World) (G : Nat → Prop) (hG : ∀ i, G i → i < w.heap.size)
    (Q : Int → Option Addr → Nat → Nat → Int → Option Addr → Nat → Nat → Int → Int → Bool → World → Prop)
    (hw : ∀ x, Below w.heap.size w x → x.heap.size = w.heap.size + 2 → Calls Tryz.prog 25 cap x fun e x' => ∃ r ko kn kc kd vo vn vc pg ct is, e = .returned (.agg #[.int .i64 r, .slice ko kn kc, .int .i64 kd, .slice vo vn vc, .int .i64 pg, .int .i64 ct, .bool is]) ∧ Hid (Cf G x x') ∧ Hid (Q r ko kn kc kd vo vn vc pg ct is x'))
    (hQ : ∀ r ko kn kc kd vo vn vc pg ct is x y, Q r ko kn kc kd vo vn vc pg ct is x → Cf (Tw2 w.heap.size) x y → Q r ko kn kc kd vo vn vc pg ct is y) :
    Calls Tryz.prog 14 #[.func (.func 25) #[] cap] w fun e w' => ∃ r ko kn kc kd vo vn vc pg ct is, e = .returned (.tuple #[.agg #[.int .i64 r, .slice ko kn kc, .int .i64 kd, .slice vo vn vc, .int .i64 pg, .int .i64 ct, .bool is], .int .i64 0]) ∧ Hid (Cf G w w') ∧ Hid (Q r ko kn kc kd vo vn vc pg ct is w') := by
  have hmf : ∀ (fn : Fn) (first cap : Array Value) (w : World), (Instr.makeFunc fn first cap).run Tryz.prog w = .ok (.func fn first cap) w := fun _ _ _ _ => rfl
  obtain ⟨s, hs⟩ : ∃ s, w.heap.size = s := ⟨_, rfl⟩
  obtain ⟨x, hx⟩ : ∃ x, (w.alloc (.cells #[.int .i64 0, .slice none 0 0, .int .i64 0, .slice none 0 0, .int .i64 0, .int .i64 0, .bool false] 48)).alloc (.cells #[.int .i64 0] 30) = x := ⟨_, rfl⟩
  have hbx : Below w.heap.size w x := by rw [← hx]; exact bl_al (bl_al (Below.refl _ _) (Nat.le_refl _) _) (Nat.le_refl _) _
  have hxs : x.heap.size = w.heap.size + 2 := by rw [← hx]; simp
  have HW := hidden (hw x hbx hxs)
  have hr0 : x.heap[s]? = some (.cells #[.int .i64 0, .slice none 0 0, .int .i64 0, .slice none 0 0, .int .i64 0, .int .i64 0, .bool false] 48 (0, 0)) := by
    rw [← hx]
    refine (Below.heap_alloc _ _ _ (by simp; omega)).trans ?_
    rw [← hs]
    exact heap_alloc_last w _
  have hr1 : x.heap[s + 1]? = some (.cells #[.int .i64 0] 30 (0, 0)) := by
    rw [← hx]
    have := heap_alloc_last (w.alloc (.cells #[.int .i64 0, .slice none 0 0, .int .i64 0, .slice none 0 0, .int .i64 0, .int .i64 0, .bool false] 48)) (.cells #[.int .i64 0] 30)
    simp only [World.size_alloc, hs] at this
    exact this
  have HR := hidden (And.intro hr0 hr1)
  have HBX := hidden hbx
  have HGs : Hid (¬ G s ∧ ¬ G (s + 1)) := hidden ⟨fun h => by have := hG _ h; omega, fun h => by have := hG _ h; omega⟩
  have HXS : Hid (x.heap.size = s + 2) := hidden (by omega)
  clear hw hbx hxs hr0 hr1
  go_enter_defers Tryz.func14, Tryz.ntmps14
  go_wp2_with (first | (go_at_call 25; refine HW.out.mono ?_; rintro e x1 ⟨r, ko, kn, kc, kd, vo, vn, vc, pg, ct, is, rfl, HC1, HQ1⟩; refine Hid.out ?_))
  apply hidden
  clear HW hx
  have hx1 : x1.heap[s]? = some (.cells #[.int .i64 0, .slice none 0 0, .int .i64 0, .slice none 0 0, .int .i64 0, .int .i64 0, .bool false] 48 (0, 0)) := (HC1.out.block s (by have := HXS.out; omega) HGs.out.1).trans HR.out.1
  have hx2 : x1.heap[s + 1]? = some (.cells #[.int .i64 0] 30 (0, 0)) := (HC1.out.block (s + 1) (by have := HXS.out; omega) HGs.out.2).trans HR.out.2
  have d0 := cell_of_row _ _ 0 _ _ _ hx1
  have d1 := cell_of_row _ _ 1 _ _ _ hx1
  have d2 := cell_of_row _ _ 2 _ _ _ hx1
  have d3 := cell_of_row _ _ 3 _ _ _ hx1
  have d4 := cell_of_row _ _ 4 _ _ _ hx1
  have d5 := cell_of_row _ _ 5 _ _ _ hx1
  have d6 := cell_of_row _ _ 6 _ _ _ hx1
  have e0 := cell_of_row _ _ 0 _ _ _ hx2
  simp at d0 d1 d2 d3 d4 d5 d6 e0
  have fz : ∀ i, x1.frozen? ⟨s, i, none⟩ = false := fun i => by simp [World.frozen?, hx1]
  have fy : x1.frozen? ⟨s + 1, 0, none⟩ = false := by simp [World.frozen?, hx2]
  have HX12 := hidden (And.intro hx1 hx2)
  clear hx1 hx2
  go_wp2
  show bodyPostD _ _ _ _ _ ((put7 x1 s (.int .i64 r) (.slice ko kn kc) (.int .i64 kd) (.slice vo vn vc) (.int .i64 pg) (.int .i64 ct) (.bool is)).setCell ⟨s + 1, 0, none⟩ (.int .i64 0))
  have hcp := put7_cf x1 s (.int .i64 r) (.slice ko kn kc) (.int .i64 kd) (.slice vo vn vc) (.int .i64 pg) (.int .i64 ct) (.bool is)
  have hrp := put7_row (show QV7 x1 s _ _ _ _ _ _ _ from HX12.out.1) (.int .i64 r) (.slice ko kn kc) (.int .i64 kd) (.slice vo vn vc) (.int .i64 pg) (.int .i64 ct) (.bool is)
  obtain ⟨y, hy⟩ : ∃ y, put7 x1 s (.int .i64 r) (.slice ko kn kc) (.int .i64 kd) (.slice vo vn vc) (.int .i64 pg) (.int .i64 ct) (.bool is) = y := ⟨_, rfl⟩
  rw [hy] at hcp hrp ⊢
  have hy2 : y.heap[s + 1]? = some (.cells #[.int .i64 0] 30 (0, 0)) := (hcp.block (s + 1) (lt_some HX12.out.2) (by omega)).trans HX12.out.2
  obtain ⟨z, hz⟩ : ∃ z, y.setCell ⟨s + 1, 0, none⟩ (.int .i64 0) = z := ⟨_, rfl⟩
  have hcz : Cf (· = s + 1) y z := by rw [← hz]; exact Cf.set _ _ _ _
  have hrz : z.heap[s]? = some (.cells #[.int .i64 r, .slice ko kn kc, .int .i64 kd, .slice vo vn vc, .int .i64 pg, .int .i64 ct, .bool is] 48 (0, 0)) := (hcz.block s (lt_some hrp) (by omega)).trans hrp
  have hez : z.cell? ⟨s + 1, 0, none⟩ = some (.int .i64 0) := by
    rw [← hz]
    exact World.cell?_setCell_same _ _ _ (by rw [cell_of_row _ _ 0 _ _ _ hy2]; rfl)
  rw [hz]
  refine leaves_cons (f := 27) (args := #[.pointer (some ⟨s + 1, 0, none⟩)]) (by simp) (by simp [go_sem]) ?_
  refine (catchC_idle ⟨s + 1, 0, none⟩ z).mono ?_
  rintro e u' w'' ⟨rfl, rfl, rfl⟩
  have hcc : Cf (Tw2 s) x1 w'' := (hcp.wideB (fun b e => .inl e)).go (hcz.wideB (fun b e => .inr e))
  have hcw : Cf G w w'' := ((Cf.of_below HBX.out).go HC1.out).trans hcc (fun i hi e => by
    rcases e with e | e <;> (exfalso; omega))
  have hld : (loadVar 30 ⟨s + 1, 0, none⟩).run Tryz.prog w'' = .ok (.int .i64 0) w'' := by
    simp [go_sem, hez]
  refine ⟨_, results_cc rfl _ _ s (s + 1) _ _ _ _ (.int .i64 0) (by rfl) (by rfl) hrz Tryz.underlying48 rfl sizeCh hld, ?_⟩
  exact ⟨r, ko, kn, kc, kd, vo, vn, vc, pg, ct, is, rfl, hidden hcw, hidden (hQ _ _ _ _ _ _ _ _ _ _ _ _ _ HQ1.out (by rw [hs]; exact hcc))⟩
end Go.Proofs.YtfcbfombobelmaaGreatDoor
