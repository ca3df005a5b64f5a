/- Layer 12: caught of a look, and of a change that throws. -/
import Derived.Test.YtfcbfombobelmaaGreatDoorJ29
namespace Go.Proofs.YtfcbfombobelmaaGreatDoor
open Go.RowKit

/-- A row of six values. -/
def QV6F (w : World) (g : Nat) (x0 x1 x2 x3 x4 x5 : Value) : Prop := w.heap[g]? = some (.cells #[x0, x1, x2, x3, x4, x5] 46 (0, 0))
def put6F (w : World) (g : Nat) (y0 y1 y2 y3 y4 y5 : Value) : World := (((((w.setCell ⟨g, 0, none⟩ y0).setCell ⟨g, 1, none⟩ y1).setCell ⟨g, 2, none⟩ y2).setCell ⟨g, 3, none⟩ y3).setCell ⟨g, 4, none⟩ y4).setCell ⟨g, 5, none⟩ y5
set_option maxRecDepth 100000 in
theorem put6F_row {w : World} {g : Nat} {x0 x1 x2 x3 x4 x5 : Value} (h : QV6F w g x0 x1 x2 x3 x4 x5) (y0 y1 y2 y3 y4 y5 : Value) : QV6F (put6F w g y0 y1 y2 y3 y4 y5) g y0 y1 y2 y3 y4 y5 := by
  unfold QV6F put6F at *
  have a0 : (w.setCell ⟨g, 0, none⟩ y0).heap[g]? = some (.cells #[y0, x1, x2, x3, x4, x5] 46 (0, 0)) := by simpa using set_row (w := w) (a := g) (i := 0) (cs := [x0, x1, x2, x3, x4, x5]) (u := y0) h
  have a1 := set_row (a := g) (i := 1) (cs := [y0, x1, x2, x3, x4, x5]) (u := y1) a0
  simp at a1
  have a2 := set_row (a := g) (i := 2) (cs := [y0, y1, x2, x3, x4, x5]) (u := y2) a1
  simp at a2
  have a3 := set_row (a := g) (i := 3) (cs := [y0, y1, y2, x3, x4, x5]) (u := y3) a2
  simp at a3
  have a4 := set_row (a := g) (i := 4) (cs := [y0, y1, y2, y3, x4, x5]) (u := y4) a3
  simp at a4
  have a5 := set_row (a := g) (i := 5) (cs := [y0, y1, y2, y3, y4, x5]) (u := y5) a4
  simp at a5
  exact a5
set_option maxRecDepth 100000 in
theorem put6F_cf (w : World) (g : Nat) (y0 y1 y2 y3 y4 y5 : Value) : Cf (· = g) w (put6F w g y0 y1 y2 y3 y4 y5) := (((((Cf.set _ _ _ _).go (Cf.set _ _ _ _)).go (Cf.set _ _ _ _)).go (Cf.set _ _ _ _)).go (Cf.set _ _ _ _)).go (Cf.set _ _ _ _)
set_option maxRecDepth 100000 in
theorem sizeFo : (Tryz.prog.info? 46).map (·.size) = some 6 := by kernel_rfl
set_option maxRecDepth 100000 in
set_option maxHeartbeats 2000000 in
theorem caughtG_ok (cap : Array Value) (w : World) (G : Nat → Prop) (hG : ∀ i, G i → i < w.heap.size)
    (Q : Option Addr → Nat → Nat → Int → Option Addr → Nat → Nat → Int → Int → Bool → World → Prop)
    (hw : ∀ x, Below w.heap.size w x → x.heap.size = w.heap.size + 2 → Calls Tryz.prog 18 cap x fun e x' => ∃ ko kn kc kd vo vn vc pg ct is, e = .returned (.agg #[.slice ko kn kc, .int .i64 kd, .slice vo vn vc, .int .i64 pg, .int .i64 ct, .bool is]) ∧ Hid (Cf G x x') ∧ Hid (Q ko kn kc kd vo vn vc pg ct is x'))
    (hQ : ∀ ko kn kc kd vo vn vc pg ct is x y, Q ko kn kc kd vo vn vc pg ct is x → Cf (Tw2 w.heap.size) x y → Q ko kn kc kd vo vn vc pg ct is y) :
    Calls Tryz.prog 17 #[.func (.func 18) #[] cap] w fun e w' => ∃ ko kn kc kd vo vn vc pg ct is, e = .returned (.tuple #[.agg #[.slice ko kn kc, .int .i64 kd, .slice vo vn vc, .int .i64 pg, .int .i64 ct, .bool is], .int .i64 0]) ∧ Hid (Cf G w w') ∧ Hid (Q ko kn kc kd vo vn vc pg ct is w') := by
  have hmf : ∀ (fn : Fn) (first cap : Array Value) (w : World), (Instr.makeFunc fn first cap).run Tryz.prog w = .ok (.func fn first cap) w := fun _ _ _ _ => rfl
  obtain ⟨s, hs⟩ : ∃ s, w.heap.size = s := ⟨_, rfl⟩
  obtain ⟨x, hx⟩ : ∃ x, (w.alloc (.cells #[.slice none 0 0, .int .i64 0, .slice none 0 0, .int .i64 0, .int .i64 0, .bool false] 46)).alloc (.cells #[.int .i64 0] 30) = x := ⟨_, rfl⟩
  have hbx : Below w.heap.size w x := by rw [← hx]; exact bl_al (bl_al (Below.refl _ _) (Nat.le_refl _) _) (Nat.le_refl _) _
  have hxs : x.heap.size = w.heap.size + 2 := by rw [← hx]; simp
  have HW := hidden (hw x hbx hxs)
  have hr0 : x.heap[s]? = some (.cells #[.slice none 0 0, .int .i64 0, .slice none 0 0, .int .i64 0, .int .i64 0, .bool false] 46 (0, 0)) := by
    rw [← hx]
    refine (Below.heap_alloc _ _ _ (by simp; omega)).trans ?_
    rw [← hs]
    exact heap_alloc_last w _
  have hr1 : x.heap[s + 1]? = some (.cells #[.int .i64 0] 30 (0, 0)) := by
    rw [← hx]
    have := heap_alloc_last (w.alloc (.cells #[.slice none 0 0, .int .i64 0, .slice none 0 0, .int .i64 0, .int .i64 0, .bool false] 46)) (.cells #[.int .i64 0] 30)
    simp only [World.size_alloc, hs] at this
    exact this
  have HR := hidden (And.intro hr0 hr1)
  have HBX := hidden hbx
  have HGs : Hid (¬ G s ∧ ¬ G (s + 1)) := hidden ⟨fun h => by have := hG _ h; omega, fun h => by have := hG _ h; omega⟩
  have HXS : Hid (x.heap.size = s + 2) := hidden (by omega)
  clear hw hbx hxs hr0 hr1
  go_enter_defers Tryz.func17, Tryz.ntmps17
  go_wp2_with (first | (go_at_call 18; refine HW.out.mono ?_; rintro e x1 ⟨ko, kn, kc, kd, vo, vn, vc, pg, ct, is, rfl, HC1, HQ1⟩; refine Hid.out ?_))
  apply hidden
  clear HW hx
  have hx1 : x1.heap[s]? = some (.cells #[.slice none 0 0, .int .i64 0, .slice none 0 0, .int .i64 0, .int .i64 0, .bool false] 46 (0, 0)) := (HC1.out.block s (by have := HXS.out; omega) HGs.out.1).trans HR.out.1
  have hx2 : x1.heap[s + 1]? = some (.cells #[.int .i64 0] 30 (0, 0)) := (HC1.out.block (s + 1) (by have := HXS.out; omega) HGs.out.2).trans HR.out.2
  have d0 := cell_of_row _ _ 0 _ _ _ hx1
  have d1 := cell_of_row _ _ 1 _ _ _ hx1
  have d2 := cell_of_row _ _ 2 _ _ _ hx1
  have d3 := cell_of_row _ _ 3 _ _ _ hx1
  have d4 := cell_of_row _ _ 4 _ _ _ hx1
  have d5 := cell_of_row _ _ 5 _ _ _ hx1
  have e0 := cell_of_row _ _ 0 _ _ _ hx2
  simp at d0 d1 d2 d3 d4 d5 e0
  have fz : ∀ i, x1.frozen? ⟨s, i, none⟩ = false := fun i => by simp [World.frozen?, hx1]
  have fy : x1.frozen? ⟨s + 1, 0, none⟩ = false := by simp [World.frozen?, hx2]
  have HX12 := hidden (And.intro hx1 hx2)
  clear hx1 hx2
  go_wp2
  show bodyPostD _ _ _ _ _ ((put6F x1 s (.slice ko kn kc) (.int .i64 kd) (.slice vo vn vc) (.int .i64 pg) (.int .i64 ct) (.bool is)).setCell ⟨s + 1, 0, none⟩ (.int .i64 0))
  have hcp := put6F_cf x1 s (.slice ko kn kc) (.int .i64 kd) (.slice vo vn vc) (.int .i64 pg) (.int .i64 ct) (.bool is)
  have hrp := put6F_row (show QV6F x1 s _ _ _ _ _ _ from HX12.out.1) (.slice ko kn kc) (.int .i64 kd) (.slice vo vn vc) (.int .i64 pg) (.int .i64 ct) (.bool is)
  obtain ⟨y, hy⟩ : ∃ y, put6F x1 s (.slice ko kn kc) (.int .i64 kd) (.slice vo vn vc) (.int .i64 pg) (.int .i64 ct) (.bool is) = y := ⟨_, rfl⟩
  rw [hy] at hcp hrp ⊢
  have hy2 : y.heap[s + 1]? = some (.cells #[.int .i64 0] 30 (0, 0)) := (hcp.block (s + 1) (lt_some HX12.out.2) (by omega)).trans HX12.out.2
  obtain ⟨z, hz⟩ : ∃ z, y.setCell ⟨s + 1, 0, none⟩ (.int .i64 0) = z := ⟨_, rfl⟩
  have hcz : Cf (· = s + 1) y z := by rw [← hz]; exact Cf.set _ _ _ _
  have hrz : z.heap[s]? = some (.cells #[.slice ko kn kc, .int .i64 kd, .slice vo vn vc, .int .i64 pg, .int .i64 ct, .bool is] 46 (0, 0)) := (hcz.block s (lt_some hrp) (by omega)).trans hrp
  have hez : z.cell? ⟨s + 1, 0, none⟩ = some (.int .i64 0) := by
    rw [← hz]
    exact World.cell?_setCell_same _ _ _ (by rw [cell_of_row _ _ 0 _ _ _ hy2]; rfl)
  rw [hz]
  refine leaves_cons (f := 33) (args := #[.pointer (some ⟨s + 1, 0, none⟩)]) (by simp) (by simp [go_sem]) ?_
  refine (catchF_idle ⟨s + 1, 0, none⟩ z).mono ?_
  rintro e u' w'' ⟨rfl, rfl, rfl⟩
  have hcc : Cf (Tw2 s) x1 w'' := (hcp.wideB (fun b e => .inl e)).go (hcz.wideB (fun b e => .inr e))
  have hcw : Cf G w w'' := ((Cf.of_below HBX.out).go HC1.out).trans hcc (fun i hi e => by
    rcases e with e | e <;> (exfalso; omega))
  have hld : (loadVar 30 ⟨s + 1, 0, none⟩).run Tryz.prog w'' = .ok (.int .i64 0) w'' := by
    simp [go_sem, hez]
  refine ⟨_, results_cc rfl _ _ s (s + 1) _ _ _ _ (.int .i64 0) (by rfl) (by rfl) hrz Tryz.underlying46 rfl sizeFo hld, ?_⟩
  exact ⟨ko, kn, kc, kd, vo, vn, vc, pg, ct, is, rfl, hidden hcw, hidden (hQ _ _ _ _ _ _ _ _ _ _ _ _ HQ1.out (by rw [hs]; exact hcc))⟩
set_option maxRecDepth 100000 in
set_option maxHeartbeats 2000000 in
theorem caughtP_bad (cap : Array Value) (w : World) (G : Nat → Prop) (hG : ∀ i, G i → i < w.heap.size)
    (Q : World → Prop) (c : Int)
    (hw : ∀ x, Below w.heap.size w x → x.heap.size = w.heap.size + 2 → Calls Tryz.prog 15 cap x fun e x' => e = .panicked [{ v := fltV c, recovered := false }] ∧ Hid (Cf G x x') ∧ Hid (Q x'))
    (hQ : ∀ x y, Q x → Cf (Tw2 w.heap.size) x y → Q y) :
    Calls Tryz.prog 14 #[.func (.func 15) #[] cap] w fun e w' => e = .returned (.tuple #[.agg #[.int .i64 0, .slice none 0 0, .int .i64 0, .slice none 0 0, .int .i64 0, .int .i64 0, .bool false], .int .i64 c]) ∧ Hid (Cf G w w') ∧ Hid (Q w') := by
  have hmf : ∀ (fn : Fn) (first cap : Array Value) (w : World), (Instr.makeFunc fn first cap).run Tryz.prog w = .ok (.func fn first cap) w := fun _ _ _ _ => rfl
  obtain ⟨s, hs⟩ : ∃ s, w.heap.size = s := ⟨_, rfl⟩
  obtain ⟨x, hx⟩ : ∃ x, (w.alloc (.cells #[.int .i64 0, .slice none 0 0, .int .i64 0, .slice none 0 0, .int .i64 0, .int .i64 0, .bool false] 48)).alloc (.cells #[.int .i64 0] 30) = x := ⟨_, rfl⟩
  have hbx : Below w.heap.size w x := by rw [← hx]; exact bl_al (bl_al (Below.refl _ _) (Nat.le_refl _) _) (Nat.le_refl _) _
  have hxs : x.heap.size = w.heap.size + 2 := by rw [← hx]; simp
  have HW := hidden (hw x hbx hxs)
  have hr0 : x.heap[s]? = some (.cells #[.int .i64 0, .slice none 0 0, .int .i64 0, .slice none 0 0, .int .i64 0, .int .i64 0, .bool false] 48 (0, 0)) := by
    rw [← hx]
    refine (Below.heap_alloc _ _ _ (by simp; omega)).trans ?_
    rw [← hs]
    exact heap_alloc_last w _
  have hr1 : x.heap[s + 1]? = some (.cells #[.int .i64 0] 30 (0, 0)) := by
    rw [← hx]
    have := heap_alloc_last (w.alloc (.cells #[.int .i64 0, .slice none 0 0, .int .i64 0, .slice none 0 0, .int .i64 0, .int .i64 0, .bool false] 48)) (.cells #[.int .i64 0] 30)
    simp only [World.size_alloc, hs] at this
    exact this
  have HR := hidden (And.intro hr0 hr1)
  have HBX := hidden hbx
  have HGs : Hid (¬ G s ∧ ¬ G (s + 1)) := hidden ⟨fun h => by have := hG _ h; omega, fun h => by have := hG _ h; omega⟩
  have HXS : Hid (x.heap.size = s + 2) := hidden (by omega)
  clear hw hbx hxs hr0 hr1
  go_enter_defers Tryz.func14, Tryz.ntmps14
  go_wp2_with (first | (go_at_call 15; refine HW.out.mono ?_; rintro e x1 ⟨rfl, HC1, HQ1⟩; refine Hid.out ?_))
  apply hidden
  clear HW hx
  have hx1 : x1.heap[s]? = some (.cells #[.int .i64 0, .slice none 0 0, .int .i64 0, .slice none 0 0, .int .i64 0, .int .i64 0, .bool false] 48 (0, 0)) := (HC1.out.block s (by have := HXS.out; omega) HGs.out.1).trans HR.out.1
  have hx2 : x1.heap[s + 1]? = some (.cells #[.int .i64 0] 30 (0, 0)) := (HC1.out.block (s + 1) (by have := HXS.out; omega) HGs.out.2).trans HR.out.2
  have d0 := cell_of_row _ _ 0 _ _ _ hx1
  have d1 := cell_of_row _ _ 1 _ _ _ hx1
  have d2 := cell_of_row _ _ 2 _ _ _ hx1
  have d3 := cell_of_row _ _ 3 _ _ _ hx1
  have d4 := cell_of_row _ _ 4 _ _ _ hx1
  have d5 := cell_of_row _ _ 5 _ _ _ hx1
  have d6 := cell_of_row _ _ 6 _ _ _ hx1
  have e0 := cell_of_row _ _ 0 _ _ _ hx2
  simp at d0 d1 d2 d3 d4 d5 d6 e0
  have fz : ∀ i, x1.frozen? ⟨s, i, none⟩ = false := fun i => by simp [World.frozen?, hx1]
  have fy : x1.frozen? ⟨s + 1, 0, none⟩ = false := by simp [World.frozen?, hx2]
  have HX12 := hidden (And.intro hx1 hx2)
  clear hx1 hx2
  go_wp2
  obtain ⟨z, hz⟩ : ∃ z, x1.setCell ⟨s + 1, 0, none⟩ (.int .i64 c) = z := ⟨_, rfl⟩
  have hcz : Cf (· = s + 1) x1 z := by rw [← hz]; exact Cf.set _ _ _ _
  have hrz : z.heap[s]? = some (.cells #[.int .i64 0, .slice none 0 0, .int .i64 0, .slice none 0 0, .int .i64 0, .int .i64 0, .bool false] 48 (0, 0)) := (hcz.block s (lt_some HX12.out.1) (by omega)).trans HX12.out.1
  have hez : z.cell? ⟨s + 1, 0, none⟩ = some (.int .i64 c) := by
    rw [← hz]
    exact World.cell?_setCell_same _ _ _ (by rw [cell_of_row _ _ 0 _ _ _ HX12.out.2]; rfl)
  have hcc : Cf (Tw2 s) x1 z := hcz.wideB (fun b e => .inr e)
  have hcw : Cf G w z := ((Cf.of_below HBX.out).go HC1.out).trans hcc (fun i hi e => by
    rcases e with e | e <;> (exfalso; omega))
  have hld : (loadVar 30 ⟨s + 1, 0, none⟩).run Tryz.prog z = .ok (.int .i64 c) z := by
    simp [go_sem, hez]
  refine leaves_cons (f := 27) (args := #[.pointer (some ⟨s + 1, 0, none⟩)]) (by simp) (by simp [go_sem]) ?_
  refine (catchC_flt ⟨s + 1, 0, none⟩ c 0 [] x1 e0 fy).mono ?_
  rintro e u' w'' ⟨rfl, rfl, rfl⟩
  rw [hz]
  refine ⟨_, results_cc rfl _ _ s (s + 1) _ _ _ _ (.int .i64 c) (by rfl) (by rfl) hrz Tryz.underlying48 rfl sizeCh hld, ?_⟩
  exact ⟨rfl, hidden hcw, hidden (hQ _ _ HQ1.out (by rw [hs]; exact hcc))⟩
set_option maxRecDepth 100000 in
theorem results_tc {P : Program} {fn : Func} {p q : Tmp} {tq : TypeId} (h : fn.results = #[.tmp p, .cell q tq]) (tmps : Array Value) (w : World) (g2 : Nat) (x v : Value)
    (hp : tmps.getD p undef = x) (hq : tmps.getD q undef = .pointer (some ⟨g2, 0, none⟩)) (hv : (loadVar tq ⟨g2, 0, none⟩).run P w = .ok v w) :
    (results fn tmps).run P w = .ok (.tuple #[x, v]) w := by
  have hp' : (tmps[p]?.getD undef) = x := by simpa using hp
  have hq' : (tmps[q]?.getD undef) = .pointer (some ⟨g2, 0, none⟩) := by simpa using hq
  simp [results, h, hp', hq', asAddr, hv]
set_option maxRecDepth 100000 in
set_option maxHeartbeats 2000000 in
theorem caughtL_ok (cap : Array Value) (w : World) (G : Nat → Prop) (hG : ∀ i, G i → i < w.heap.size) (Q : Int → World → Prop)
    (hw : ∀ x, Below w.heap.size w x → x.heap.size = w.heap.size + 1 → Calls Tryz.prog 22 cap x fun e x' => ∃ r, e = .returned (.int .i64 r) ∧ Hid (Cf G x x') ∧ Hid (Q r x'))
    (hQ : ∀ r x y, Q r x → Cf (Tw2 w.heap.size) x y → Q r y) :
    Calls Tryz.prog 21 #[.func (.func 22) #[] cap] w fun e w' => ∃ r, e = .returned (.tuple #[.int .i64 r, .int .i64 0]) ∧ Hid (Cf G w w') ∧ Hid (Q r w') := by
  have hmf : ∀ (fn : Fn) (first cap : Array Value) (w : World), (Instr.makeFunc fn first cap).run Tryz.prog w = .ok (.func fn first cap) w := fun _ _ _ _ => rfl
  obtain ⟨s, hs⟩ : ∃ s, w.heap.size = s := ⟨_, rfl⟩
  obtain ⟨x, hx⟩ : ∃ x, w.alloc (.cells #[.int .i64 0] 30) = x := ⟨_, rfl⟩
  have hbx : Below w.heap.size w x := by rw [← hx]; exact bl_al (Below.refl _ _) (Nat.le_refl _) _
  have hxs : x.heap.size = w.heap.size + 1 := by rw [← hx]; simp
  have HW := hidden (hw x hbx hxs)
  have hr1 : x.heap[s]? = some (.cells #[.int .i64 0] 30 (0, 0)) := by
    rw [← hx, ← hs]
    exact heap_alloc_last w _
  have HR := hidden hr1
  have HBX := hidden hbx
  have HGs : Hid (¬ G s) := hidden fun h => by have := hG _ h; omega
  have HXS : Hid (x.heap.size = s + 1) := hidden (by omega)
  clear hw hbx hxs hr1
  go_enter_defers Tryz.func21, Tryz.ntmps21
  go_wp2_with (first | (go_at_call 22; refine HW.out.mono ?_; rintro e x1 ⟨r, rfl, HC1, HQ1⟩; refine Hid.out ?_))
  apply hidden
  clear HW hx
  have hx2 : x1.heap[s]? = some (.cells #[.int .i64 0] 30 (0, 0)) := (HC1.out.block s (by have := HXS.out; omega) HGs.out).trans HR.out
  have e0 := cell_of_row _ _ 0 _ _ _ hx2
  simp at e0
  have fy : x1.frozen? ⟨s, 0, none⟩ = false := by simp [World.frozen?, hx2]
  have HX2 := hidden hx2
  clear hx2
  go_wp2
  obtain ⟨z, hz⟩ : ∃ z, x1.setCell ⟨s, 0, none⟩ (.int .i64 0) = z := ⟨_, rfl⟩
  have hcz : Cf (· = s) x1 z := by rw [← hz]; exact Cf.set _ _ _ _
  have hez : z.cell? ⟨s, 0, none⟩ = some (.int .i64 0) := by
    rw [← hz]
    exact World.cell?_setCell_same _ _ _ (by rw [cell_of_row _ _ 0 _ _ _ HX2.out]; rfl)
  have hcc : Cf (Tw2 s) x1 z := hcz.wideB (fun b e => .inl e)
  have hcw : Cf G w z := ((Cf.of_below HBX.out).go HC1.out).trans hcc (fun i hi e => by
    rcases e with e | e <;> (exfalso; omega))
  have hld : (loadVar 30 ⟨s, 0, none⟩).run Tryz.prog z = .ok (.int .i64 0) z := by
    simp [go_sem, hez]
  rw [hz]
  refine leaves_cons (f := 39) (args := #[.pointer (some ⟨s, 0, none⟩)]) (by simp) (by simp [go_sem]) ?_
  refine (catchI_idle ⟨s, 0, none⟩ z).mono ?_
  rintro e u' w'' ⟨rfl, rfl, rfl⟩
  refine ⟨_, results_tc rfl _ _ s (.int .i64 r) (.int .i64 0) (by rfl) (by rfl) hld, ?_⟩
  exact ⟨r, rfl, hidden hcw, hidden (hQ _ _ _ HQ1.out (by rw [hs]; exact hcc))⟩
end Go.Proofs.YtfcbfombobelmaaGreatDoor
