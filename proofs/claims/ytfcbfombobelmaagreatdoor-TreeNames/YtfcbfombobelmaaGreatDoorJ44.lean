/- Layer 12: Put and Delete over what put and remove come to. -/
import Derived.Test.YtfcbfombobelmaaGreatDoorJ42
import Derived.Test.YtfcbfombobelmaaGreatDoorJ43
namespace Go.Proofs.YtfcbfombobelmaaGreatDoor
open Go.RowKit

/-- The blocks that Put and Delete make ahead of the change. -/
def Sv (s k : Nat) : Prop := s ≤ k ∧ k < s + 7
def put5c (w : World) (g : Nat) (y0 y1 y2 y3 y4 : Value) : World := ((((w.setCell ⟨g, 0, none⟩ y0).setCell ⟨g, 1, none⟩ y1).setCell ⟨g, 2, none⟩ y2).setCell ⟨g, 3, none⟩ y3).setCell ⟨g, 4, none⟩ y4
set_option maxRecDepth 100000 in
theorem put5c_row {w : World} {g : Nat} {x0 x1 x2 x3 x4 : Value} (h : C5 w g x0 x1 x2 x3 x4) (y0 y1 y2 y3 y4 : Value) : C5 (put5c w g y0 y1 y2 y3 y4) g y0 y1 y2 y3 y4 := by
  unfold C5 put5c at *
  have a0 := set_row (w := w) (a := g) (i := 0) (cs := [x0, x1, x2, x3, x4]) (u := y0) h
  simp at a0
  have a1 := set_row (a := g) (i := 1) (cs := [y0, x1, x2, x3, x4]) (u := y1) a0
  simp at a1
  have a2 := set_row (a := g) (i := 2) (cs := [y0, y1, x2, x3, x4]) (u := y2) a1
  simp at a2
  have a3 := set_row (a := g) (i := 3) (cs := [y0, y1, y2, x3, x4]) (u := y3) a2
  simp at a3
  have a4 := set_row (a := g) (i := 4) (cs := [y0, y1, y2, y3, x4]) (u := y4) a3
  simp at a4
  exact a4
set_option maxRecDepth 100000 in
theorem put5c_cf (w : World) (g : Nat) (y0 y1 y2 y3 y4 : Value) : Cf (· = g) w (put5c w g y0 y1 y2 y3 y4) := ((((Cf.set _ _ _ _).go (Cf.set _ _ _ _)).go (Cf.set _ _ _ _)).go (Cf.set _ _ _ _)).go (Cf.set _ _ _ _)
set_option maxRecDepth 100000 in
theorem sizeCe : (Tryz.prog.info? 29).map (·.size) = some 5 := by kernel_rfl
set_option maxRecDepth 100000 in
theorem results_tctt {P : Program} {fn : Func} {p q r t : Tmp} {ty : TypeId} (h : fn.results = #[.tmp p, .cell q ty, .tmp r, .tmp t]) (tmps : Array Value) (w : World) (g : Nat) (tt : TypeId) (cs : Array Value) (fr : Nat × Nat) (d : TypeDesc) (x y z : Value)
    (hp : tmps.getD p undef = x) (hq : tmps.getD q undef = .pointer (some ⟨g, 0, none⟩)) (hr : tmps.getD r undef = y) (ht : tmps.getD t undef = z) (hg : w.heap[g]? = some (.cells cs tt fr))
    (hu : P.underlying ty = some d) (hd : (match d with | .struct _ | .array _ _ => true | _ => false) = true) (hi : (P.info? ty).map (·.size) = some cs.size) :
    (results fn tmps).run P w = .ok (.tuple #[x, .agg cs, y, z]) w := by
  have hp' : (tmps[p]?.getD undef) = x := by simpa using hp
  have hq' : (tmps[q]?.getD undef) = .pointer (some ⟨g, 0, none⟩) := by simpa using hq
  have hr' : (tmps[r]?.getD undef) = y := by simpa using hr
  have ht' : (tmps[t]?.getD undef) = z := by simpa using ht
  simp [results, h, hp', hq', hr', ht', asAddr, run_loadVar_row w g tt ty cs fr d hg hu hd hi]
/-- What the loads behind a change read. -/
def S7c (fb : Nat) (f0 f1 f2 f3 f4 f5 f6 : Value) (u : World) : Prop :=
  u.cell? ⟨fb, 0, none⟩ = some f0 ∧ u.cell? ⟨fb, 1, none⟩ = some f1 ∧ u.cell? ⟨fb, 2, none⟩ = some f2 ∧ u.cell? ⟨fb, 3, none⟩ = some f3 ∧ u.cell? ⟨fb, 4, none⟩ = some f4 ∧ u.cell? ⟨fb, 5, none⟩ = some f5 ∧ u.cell? ⟨fb, 6, none⟩ = some f6
set_option maxRecDepth 100000 in
theorem S7c.of {fb : Nat} {f0 f1 f2 f3 f4 f5 f6 : Value} {u : World} (hq : QV7 u fb f0 f1 f2 f3 f4 f5 f6) : S7c fb f0 f1 f2 f3 f4 f5 f6 u := by
  unfold QV7 at hq
  exact ⟨by rw [cell_of_row _ _ 0 _ _ _ hq]; rfl, by rw [cell_of_row _ _ 1 _ _ _ hq]; rfl, by rw [cell_of_row _ _ 2 _ _ _ hq]; rfl, by rw [cell_of_row _ _ 3 _ _ _ hq]; rfl, by rw [cell_of_row _ _ 4 _ _ _ hq]; rfl, by rw [cell_of_row _ _ 5 _ _ _ hq]; rfl, by rw [cell_of_row _ _ 6 _ _ _ hq]; rfl⟩
set_option maxRecDepth 100000 in
set_option maxHeartbeats 1000000 in
theorem putC_any (w : World) (b : Nat) (root : Int) (p0 p1 p2 : Nat) (k0 k1 k2 k3 k4 : Value) (c0 : w.cell? ⟨p0, 0, none⟩ = some (iB b)) (c1 : w.cell? ⟨p1, 0, none⟩ = some (.int .i64 root)) (c2 : C5 w p2 k0 k1 k2 k3 k4) (G : Nat → Prop) (hG : ∀ i, G i → i < w.heap.size)
    (Q : Int → Option Addr → Nat → Nat → Int → Option Addr → Nat → Nat → Int → Int → Bool → World → Prop)
    (hp : ∀ u, Below w.heap.size w u → u.heap.size = w.heap.size + 1 → Calls Tryz.prog 16 #[iB b, .int .i64 root, .agg #[k0, k1, k2, k3, k4]] u fun e u' => ∃ r ko kn kc kd vo vn vc pg ct is, e = .returned (.agg #[.int .i64 r, .slice ko kn kc, .int .i64 kd, .slice vo vn vc, .int .i64 pg, .int .i64 ct, .bool is]) ∧ Hid (Cf G u u') ∧ Hid (Q r ko kn kc kd vo vn vc pg ct is u'))
    (hQ : ∀ r ko kn kc kd vo vn vc pg ct is x y, Q r ko kn kc kd vo vn vc pg ct is x → Cf (· = w.heap.size) x y → Q r ko kn kc kd vo vn vc pg ct is y) :
    Calls Tryz.prog 15 #[.pointer (some ⟨p0, 0, none⟩), .pointer (some ⟨p1, 0, none⟩), .pointer (some ⟨p2, 0, none⟩)] w fun e w' => ∃ r ko kn kc kd vo vn vc pg ct is, e = .returned (.agg #[.int .i64 r, .slice ko kn kc, .int .i64 kd, .slice vo vn vc, .int .i64 pg, .int .i64 ct, .bool is]) ∧ Hid (Cf G w w') ∧ Hid (Q r ko kn kc kd vo vn vc pg ct is w') := by
  obtain ⟨s, hs⟩ : ∃ s, w.heap.size = s := ⟨_, rfl⟩
  obtain ⟨x, hx⟩ : ∃ x, w.alloc (.cells #[.int .i64 0, .slice none 0 0, .int .i64 0, .slice none 0 0, .int .i64 0, .int .i64 0, .bool false] 48) = x := ⟨_, rfl⟩
  have hbx : Below w.heap.size w x := by rw [← hx]; exact bl_al (Below.refl _ _) (Nat.le_refl _) _
  have hq7 : QV7 x s (.int .i64 0) (.slice none 0 0) (.int .i64 0) (.slice none 0 0) (.int .i64 0) (.int .i64 0) (.bool false) := by unfold QV7; rw [← hx, ← hs]; exact heap_alloc_last w _
  have hxs : x.heap.size = w.heap.size + 1 := by rw [← hx]; simp
  have x0 := (hbx.cell (p := ⟨p0, 0, none⟩) (World.block_lt_of_cell? w ⟨p0, 0, none⟩ (by rw [c0]))).trans c0
  have x1 := (hbx.cell (p := ⟨p1, 0, none⟩) (World.block_lt_of_cell? w ⟨p1, 0, none⟩ (by rw [c1]))).trans c1
  obtain ⟨y0, y1, y2, y3, y4⟩ := (show C5 x p2 k0 k1 k2 k3 k4 from box_on c2 hbx).cells
  clear c2
  have HP := hidden (hp x hbx hxs)
  have HQ := hidden hQ
  have HBX := hidden hbx
  have HQ7 := hidden hq7
  have HN : Hid (x.heap.size = s + 1 ∧ w.heap.size = s ∧ ¬ G s) := hidden ⟨by omega, hs, fun h => by have := hG s h; omega⟩
  clear hp hQ hbx hq7 hxs c0 c1
  go_enter Tryz.func15, Tryz.ntmps15
  go_wp2_with (first | (go_at_call 16; refine HP.out.mono ?_; rintro e w1 ⟨r, ko, kn, kc, kd, vo, vn, vc, pg, ct, is, rfl, HC1, HQ1⟩; refine Hid.out ?_))
  apply hidden
  have hq1 : QV7 w1 s (.int .i64 0) (.slice none 0 0) (.int .i64 0) (.slice none 0 0) (.int .i64 0) (.int .i64 0) (.bool false) := (HC1.out.block s (by have := HN.out; omega) HN.out.2.2).trans HQ7.out
  have hq1' := hq1
  unfold QV7 at hq1'
  have d0 := cell_of_row _ _ 0 _ _ _ hq1'
  have d1 := cell_of_row _ _ 1 _ _ _ hq1'
  have d2 := cell_of_row _ _ 2 _ _ _ hq1'
  have d3 := cell_of_row _ _ 3 _ _ _ hq1'
  have d4 := cell_of_row _ _ 4 _ _ _ hq1'
  have d5 := cell_of_row _ _ 5 _ _ _ hq1'
  have d6 := cell_of_row _ _ 6 _ _ _ hq1'
  simp at d0 d1 d2 d3 d4 d5 d6
  have fz : ∀ i, w1.frozen? ⟨s, i, none⟩ = false := fun i => by simp [World.frozen?, hq1']
  have HQ17 := hidden hq1
  clear hq1 hq1' HP hx
  go_wp2
  refine bodyPost_ret (results_cell_row rfl _ _ s 48 #[.int .i64 r, .slice ko kn kc, .int .i64 kd, .slice vo vn vc, .int .i64 pg, .int .i64 ct, .bool is] (0, 0) _ (by rfl) (put7_row HQ17.out (.int .i64 r) (.slice ko kn kc) (.int .i64 kd) (.slice vo vn vc) (.int .i64 pg) (.int .i64 ct) (.bool is)) Tryz.underlying48 rfl sizeCh) rfl ?_
  have hcp := put7_cf w1 s (.int .i64 r) (.slice ko kn kc) (.int .i64 kd) (.slice vo vn vc) (.int .i64 pg) (.int .i64 ct) (.bool is)
  have hn := HN.out
  exact ⟨r, ko, kn, kc, kd, vo, vn, vc, pg, ct, is, rfl, hidden (((Cf.of_below HBX.out).go HC1.out).trans hcp (fun i hi e => by omega)), hidden (HQ.out _ _ _ _ _ _ _ _ _ _ _ _ _ HQ1.out (by rw [hn.2.1]; exact hcp))⟩
set_option maxRecDepth 100000 in
set_option maxHeartbeats 1000000 in
theorem delC_any (w : World) (b : Nat) (root : Int) (p0 p1 p2 : Nat) (k0 : Value) (c0 : w.cell? ⟨p0, 0, none⟩ = some (iB b)) (c1 : w.cell? ⟨p1, 0, none⟩ = some (.int .i64 root)) (c2 : w.cell? ⟨p2, 0, none⟩ = some k0) (G : Nat → Prop) (hG : ∀ i, G i → i < w.heap.size)
    (Q : Int → Option Addr → Nat → Nat → Int → Option Addr → Nat → Nat → Int → Int → Bool → World → Prop)
    (hp : ∀ u, Below w.heap.size w u → u.heap.size = w.heap.size + 1 → Calls Tryz.prog 26 #[iB b, .int .i64 root, k0] u fun e u' => ∃ r ko kn kc kd vo vn vc pg ct is, e = .returned (.agg #[.int .i64 r, .slice ko kn kc, .int .i64 kd, .slice vo vn vc, .int .i64 pg, .int .i64 ct, .bool is]) ∧ Hid (Cf G u u') ∧ Hid (Q r ko kn kc kd vo vn vc pg ct is u'))
    (hQ : ∀ r ko kn kc kd vo vn vc pg ct is x y, Q r ko kn kc kd vo vn vc pg ct is x → Cf (· = w.heap.size) x y → Q r ko kn kc kd vo vn vc pg ct is y) :
    Calls Tryz.prog 25 #[.pointer (some ⟨p0, 0, none⟩), .pointer (some ⟨p1, 0, none⟩), .pointer (some ⟨p2, 0, none⟩)] w fun e w' => ∃ r ko kn kc kd vo vn vc pg ct is, e = .returned (.agg #[.int .i64 r, .slice ko kn kc, .int .i64 kd, .slice vo vn vc, .int .i64 pg, .int .i64 ct, .bool is]) ∧ Hid (Cf G w w') ∧ Hid (Q r ko kn kc kd vo vn vc pg ct is w') := by
  obtain ⟨s, hs⟩ : ∃ s, w.heap.size = s := ⟨_, rfl⟩
  obtain ⟨x, hx⟩ : ∃ x, w.alloc (.cells #[.int .i64 0, .slice none 0 0, .int .i64 0, .slice none 0 0, .int .i64 0, .int .i64 0, .bool false] 48) = x := ⟨_, rfl⟩
  have hbx : Below w.heap.size w x := by rw [← hx]; exact bl_al (Below.refl _ _) (Nat.le_refl _) _
  have hq7 : QV7 x s (.int .i64 0) (.slice none 0 0) (.int .i64 0) (.slice none 0 0) (.int .i64 0) (.int .i64 0) (.bool false) := by unfold QV7; rw [← hx, ← hs]; exact heap_alloc_last w _
  have hxs : x.heap.size = w.heap.size + 1 := by rw [← hx]; simp
  have x0 := (hbx.cell (p := ⟨p0, 0, none⟩) (World.block_lt_of_cell? w ⟨p0, 0, none⟩ (by rw [c0]))).trans c0
  have x1 := (hbx.cell (p := ⟨p1, 0, none⟩) (World.block_lt_of_cell? w ⟨p1, 0, none⟩ (by rw [c1]))).trans c1
  have x2 := (hbx.cell (p := ⟨p2, 0, none⟩) (World.block_lt_of_cell? w ⟨p2, 0, none⟩ (by rw [c2]))).trans c2
  clear c2
  have HP := hidden (hp x hbx hxs)
  have HQ := hidden hQ
  have HBX := hidden hbx
  have HQ7 := hidden hq7
  have HN : Hid (x.heap.size = s + 1 ∧ w.heap.size = s ∧ ¬ G s) := hidden ⟨by omega, hs, fun h => by have := hG s h; omega⟩
  clear hp hQ hbx hq7 hxs c0 c1
  go_enter Tryz.func25, Tryz.ntmps25
  go_wp2_with (first | (go_at_call 26; refine HP.out.mono ?_; rintro e w1 ⟨r, ko, kn, kc, kd, vo, vn, vc, pg, ct, is, rfl, HC1, HQ1⟩; refine Hid.out ?_))
  apply hidden
  have hq1 : QV7 w1 s (.int .i64 0) (.slice none 0 0) (.int .i64 0) (.slice none 0 0) (.int .i64 0) (.int .i64 0) (.bool false) := (HC1.out.block s (by have := HN.out; omega) HN.out.2.2).trans HQ7.out
  have hq1' := hq1
  unfold QV7 at hq1'
  have d0 := cell_of_row _ _ 0 _ _ _ hq1'
  have d1 := cell_of_row _ _ 1 _ _ _ hq1'
  have d2 := cell_of_row _ _ 2 _ _ _ hq1'
  have d3 := cell_of_row _ _ 3 _ _ _ hq1'
  have d4 := cell_of_row _ _ 4 _ _ _ hq1'
  have d5 := cell_of_row _ _ 5 _ _ _ hq1'
  have d6 := cell_of_row _ _ 6 _ _ _ hq1'
  simp at d0 d1 d2 d3 d4 d5 d6
  have fz : ∀ i, w1.frozen? ⟨s, i, none⟩ = false := fun i => by simp [World.frozen?, hq1']
  have HQ17 := hidden hq1
  clear hq1 hq1' HP hx
  go_wp2
  refine bodyPost_ret (results_cell_row rfl _ _ s 48 #[.int .i64 r, .slice ko kn kc, .int .i64 kd, .slice vo vn vc, .int .i64 pg, .int .i64 ct, .bool is] (0, 0) _ (by rfl) (put7_row HQ17.out (.int .i64 r) (.slice ko kn kc) (.int .i64 kd) (.slice vo vn vc) (.int .i64 pg) (.int .i64 ct) (.bool is)) Tryz.underlying48 rfl sizeCh) rfl ?_
  have hcp := put7_cf w1 s (.int .i64 r) (.slice ko kn kc) (.int .i64 kd) (.slice vo vn vc) (.int .i64 pg) (.int .i64 ct) (.bool is)
  have hn := HN.out
  exact ⟨r, ko, kn, kc, kd, vo, vn, vc, pg, ct, is, rfl, hidden (((Cf.of_below HBX.out).go HC1.out).trans hcp (fun i hi e => by omega)), hidden (HQ.out _ _ _ _ _ _ _ _ _ _ _ _ _ HQ1.out (by rw [hn.2.1]; exact hcp))⟩
set_option maxRecDepth 100000 in
set_option maxHeartbeats 2000000 in
theorem Put_ok (w : World) (b : Nat) (root : Int) (k0 k1 k2 k3 k4 : Value) (G : Nat → Prop) (hG : ∀ i, G i → i < w.heap.size)
    (Q : Int → Option Addr → Nat → Nat → Int → Option Addr → Nat → Nat → Int → Int → Bool → World → Prop)
    (hp : ∀ u, Below w.heap.size w u → u.heap.size = w.heap.size + 7 → Calls Tryz.prog 16 #[iB b, .int .i64 root, .agg #[k0, k1, k2, k3, k4]] u fun e u' => ∃ r ko kn kc kd vo vn vc pg ct is, e = .returned (.agg #[.int .i64 r, .slice ko kn kc, .int .i64 kd, .slice vo vn vc, .int .i64 pg, .int .i64 ct, .bool is]) ∧ Hid (Cf G u u') ∧ Hid (Q r ko kn kc kd vo vn vc pg ct is u'))
    (hQ : ∀ r ko kn kc kd vo vn vc pg ct is x y, Q r ko kn kc kd vo vn vc pg ct is x → Cf (Sv w.heap.size) x y → Q r ko kn kc kd vo vn vc pg ct is y) :
    Calls Tryz.prog 9 #[iB b, .int .i64 root, .agg #[k0, k1, k2, k3, k4]] w fun e w' => ∃ r ko kn kc kd vo vn vc pg ct is, e = .returned (.tuple #[.int .i64 r, .agg #[.slice ko kn kc, .int .i64 kd, .slice vo vn vc, .int .i64 pg, .int .i64 ct], .bool is, .int .i64 0]) ∧ Hid (Cf G w w') ∧ Hid (Q r ko kn kc kd vo vn vc pg ct is w') := by
  have hmf : ∀ (fn : Fn) (first cap : Array Value) (w : World), (Instr.makeFunc fn first cap).run Tryz.prog w = .ok (.func fn first cap) w := fun _ _ _ _ => rfl
  obtain ⟨s, hs⟩ : ∃ s, w.heap.size = s := ⟨_, rfl⟩
  obtain ⟨x, hx⟩ : ∃ x, (((w.alloc (.cells #[iB b] 44)).alloc (.cells #[.int .i64 root] 3)).alloc (.cells #[k0, k1, k2, k3, k4] 29)).alloc (.cells #[.slice none 0 0, .int .i64 0, .slice none 0 0, .int .i64 0, .int .i64 0] 29) = x := ⟨_, rfl⟩
  have hbx : Below w.heap.size w x := by rw [← hx]; exact bl_al (bl_al (bl_al (bl_al (Below.refl _ _) (Nat.le_refl _) _) (Nat.le_refl _) _) (Nat.le_refl _) _) (Nat.le_refl _) _
  have hxs : x.heap.size = s + 4 := by rw [← hx, ← hs]; simp
  have b0 : x.heap[s]? = some (.cells #[iB b] 44 (0, 0)) := by
    rw [← hx, ← hs]
    exact (Below.heap_alloc _ _ _ (by simp only [World.size_alloc]; omega)).trans ((Below.heap_alloc _ _ _ (by simp only [World.size_alloc]; omega)).trans ((Below.heap_alloc _ _ _ (by simp only [World.size_alloc]; omega)).trans (heap_alloc_last w _)))
  have b1 : x.heap[s + 1]? = some (.cells #[.int .i64 root] 3 (0, 0)) := by
    rw [← hx, ← hs]
    refine (Below.heap_alloc _ _ _ (by simp only [World.size_alloc]; omega)).trans ((Below.heap_alloc _ _ _ (by simp only [World.size_alloc]; omega)).trans ?_)
    have := heap_alloc_last (w.alloc (.cells #[iB b] 44)) (.cells #[.int .i64 root] 3)
    simp only [World.size_alloc] at this
    exact this
  have b2 : x.heap[s + 2]? = some (.cells #[k0, k1, k2, k3, k4] 29) := by
    rw [← hx, ← hs]
    refine (Below.heap_alloc _ _ _ (by simp only [World.size_alloc]; omega)).trans ?_
    have := heap_alloc_last ((w.alloc (.cells #[iB b] 44)).alloc (.cells #[.int .i64 root] 3)) (.cells #[k0, k1, k2, k3, k4] 29)
    simp only [World.size_alloc] at this
    exact this
  have b3 : C5 x (s + 3) (.slice none 0 0) (.int .i64 0) (.slice none 0 0) (.int .i64 0) (.int .i64 0) := by
    unfold C5
    rw [← hx, ← hs]
    have := heap_alloc_last (((w.alloc (.cells #[iB b] 44)).alloc (.cells #[.int .i64 root] 3)).alloc (.cells #[k0, k1, k2, k3, k4] 29)) (.cells #[.slice none 0 0, .int .i64 0, .slice none 0 0, .int .i64 0, .int .i64 0] 29)
    simp only [World.size_alloc] at this
    exact this
  have HCT := hidden (caughtP_ok #[.pointer (some ⟨s, 0, none⟩), .pointer (some ⟨s + 1, 0, none⟩), .pointer (some ⟨s + 2, 0, none⟩)] x G (fun i hi => by have := hG i hi; omega) Q (fun u hu hus => by
    have h0 : u.cell? ⟨s, 0, none⟩ = some (iB b) := by rw [cell_of_row _ _ 0 _ _ _ ((hu.block s (by omega)).trans b0)]; rfl
    have h1 : u.cell? ⟨s + 1, 0, none⟩ = some (.int .i64 root) := by rw [cell_of_row _ _ 0 _ _ _ ((hu.block (s + 1) (by omega)).trans b1)]; rfl
    have h2 := (hu.block (s + 2) (by omega)).trans b2
    exact putC_any u b root s (s + 1) (s + 2) k0 k1 k2 k3 k4 h0 h1 h2 G (fun i hi => by have := hG i hi; omega) Q (fun v hv hvs => hp v (bl_go (bl_go hbx (Nat.le_refl _) hu) (Nat.le_refl _) hv) (by omega)) (fun r ko kn kc kd vo vn vc pg ct is x' y' h h' => hQ r ko kn kc kd vo vn vc pg ct is x' y' h (h'.wideB (fun k e => ⟨by omega, by omega⟩))))
    (fun r ko kn kc kd vo vn vc pg ct is x' y' h h' => hQ r ko kn kc kd vo vn vc pg ct is x' y' h (h'.wideB (fun k e => by rcases e with e | e <;> exact ⟨by omega, by omega⟩))))
  have HQ := hidden hQ
  have HBX := hidden hbx
  have HB3 := hidden b3
  have HN : Hid (x.heap.size = s + 4 ∧ w.heap.size = s ∧ ¬ G (s + 3)) := hidden ⟨hxs, hs, fun h => by have := hG _ h; omega⟩
  clear hp hQ hbx hxs b0 b1 b2 b3
  go_enter Tryz.func9, Tryz.ntmps9
  go_wp2_with (first | (go_at_call 14; refine HCT.out.mono ?_; rintro e w1 ⟨r, ko, kn, kc, kd, vo, vn, vc, pg, ct, is, rfl, HC1, HQ1⟩; refine Hid.out ?_))
  apply hidden
  clear HCT hx
  go_upto_region 2 with fail
  obtain ⟨z, hz⟩ : ∃ z, w1.alloc (.cells #[.int .i64 r, .slice ko kn kc, .int .i64 kd, .slice vo vn vc, .int .i64 pg, .int .i64 ct, .bool is] 48) = z := ⟨_, rfl⟩
  obtain ⟨fb, hfb⟩ : ∃ fb, w1.heap.size = fb := ⟨_, rfl⟩
  have hbz : Below w1.heap.size w1 z := by rw [← hz]; exact bl_al (Below.refl _ _) (Nat.le_refl _) _
  have hq7 : QV7 z fb (.int .i64 r) (.slice ko kn kc) (.int .i64 kd) (.slice vo vn vc) (.int .i64 pg) (.int .i64 ct) (.bool is) := by unfold QV7; rw [← hz, ← hfb]; exact heap_alloc_last w1 _
  have h1 : C5 w1 (s + 3) (.slice none 0 0) (.int .i64 0) (.slice none 0 0) (.int .i64 0) (.int .i64 0) := (HC1.out.block (s + 3) (by have := HN.out; omega) HN.out.2.2).trans HB3.out
  have hcz : C5 z (s + 3) (.slice none 0 0) (.int .i64 0) (.slice none 0 0) (.int .i64 0) (.int .i64 0) := box_on h1 hbz
  obtain ⟨g0, g1, g2, g3, g4⟩ := hcz.cells
  have fz : ∀ i, z.frozen? ⟨s + 3, i, none⟩ = false := fun i => by unfold C5 at hcz; simp [World.frozen?, hcz]
  have HF : Hid (s + 3 < fb ∧ fb < z.heap.size) := hidden ⟨by have := lt_some h1; omega, lt_some hq7⟩
  have HQ7 := hidden hq7
  have HCZ := hidden hcz
  have HBZ := hidden hbz
  rw [hz, hfb]
  clear hz hfb hbz hq7 h1 hcz
  refine wp_region_held_drew (S := S7c fb (.int .i64 r) (.slice ko kn kc) (.int .i64 kd) (.slice vo vn vc) (.int .i64 pg) (.int .i64 ct) (.bool is)) (by kernel_rfl) (S7c.of HQ7.out) (fun hHeld => ?_)
  refine wpAnyH_take (i := 0) (v := ?_) rfl (by kernel_rfl) (by kernel_rfl) (by kernel_rfl) (fun _ _ _ h => h) (Or.inl ⟨by rfl, ?_⟩) (by assumption) ?_
  rotate_left
  · (intro w hSw; obtain ⟨s0, s1, s2, s3, s4, s5, s6⟩ := hSw; go_simp; try (with_reducible rfl))
  try simp only [Act.put, List.getElem_toArray, List.getElem_cons_zero, List.setIfInBounds_toArray, List.set_cons_zero, List.set_cons_succ]
  refine wpAnyH_take (i := 1) (v := ?_) rfl (by kernel_rfl) (by kernel_rfl) (by kernel_rfl) (fun _ _ _ h => h) (Or.inl ⟨by rfl, ?_⟩) (by assumption) ?_
  rotate_left
  · (intro w hSw; obtain ⟨s0, s1, s2, s3, s4, s5, s6⟩ := hSw; go_simp; try (with_reducible rfl))
  try simp only [Act.put, List.getElem_toArray, List.getElem_cons_succ, List.getElem_cons_zero, List.setIfInBounds_toArray, List.set_cons_zero, List.set_cons_succ]
  refine wpAnyH_take (i := 2) (v := ?_) rfl (by kernel_rfl) (by kernel_rfl) (by kernel_rfl) (fun _ _ _ h => h) (Or.inl ⟨by rfl, ?_⟩) (by assumption) ?_
  rotate_left
  · (intro w hSw; obtain ⟨s0, s1, s2, s3, s4, s5, s6⟩ := hSw; go_simp; try (with_reducible rfl))
  try simp only [Act.put, List.getElem_toArray, List.getElem_cons_succ, List.getElem_cons_zero, List.setIfInBounds_toArray, List.set_cons_zero, List.set_cons_succ]
  refine wpAnyH_take (i := 3) (v := ?_) rfl (by kernel_rfl) (by kernel_rfl) (by kernel_rfl) (fun _ _ _ h => h) (Or.inl ⟨by rfl, ?_⟩) (by assumption) ?_
  rotate_left
  · (intro w hSw; obtain ⟨s0, s1, s2, s3, s4, s5, s6⟩ := hSw; go_simp; try (with_reducible rfl))
  try simp only [Act.put, List.getElem_toArray, List.getElem_cons_succ, List.getElem_cons_zero, List.setIfInBounds_toArray, List.set_cons_zero, List.set_cons_succ]
  refine wpAnyH_take (i := 4) (v := ?_) rfl (by kernel_rfl) (by kernel_rfl) (by kernel_rfl) (fun _ _ _ h => h) (Or.inl ⟨by rfl, ?_⟩) (by assumption) ?_
  rotate_left
  · (intro w hSw; obtain ⟨s0, s1, s2, s3, s4, s5, s6⟩ := hSw; go_simp; try (with_reducible rfl))
  try simp only [Act.put, List.getElem_toArray, List.getElem_cons_succ, List.getElem_cons_zero, List.setIfInBounds_toArray, List.set_cons_zero, List.set_cons_succ]
  refine wpAnyH_take (i := 5) (v := ?_) rfl (by kernel_rfl) (by kernel_rfl) (by kernel_rfl) (fun _ _ _ h => h) (Or.inl ⟨by rfl, ?_⟩) (by assumption) ?_
  rotate_left
  · (intro w hSw; obtain ⟨s0, s1, s2, s3, s4, s5, s6⟩ := hSw; go_simp; try (with_reducible rfl))
  try simp only [Act.put, List.getElem_toArray, List.getElem_cons_succ, List.getElem_cons_zero, List.setIfInBounds_toArray, List.set_cons_zero, List.set_cons_succ]
  refine wpAnyH_take (i := 6) (v := ?_) rfl (by kernel_rfl) (by kernel_rfl) (by kernel_rfl) (fun _ _ _ h => h) (Or.inl ⟨by rfl, ?_⟩) (by assumption) ?_
  rotate_left
  · (intro w hSw; obtain ⟨s0, s1, s2, s3, s4, s5, s6⟩ := hSw; go_simp; try (with_reducible rfl))
  try simp only [Act.put, List.getElem_toArray, List.getElem_cons_succ, List.getElem_cons_zero, List.setIfInBounds_toArray, List.set_cons_zero, List.set_cons_succ]
  refine wpAnyH_take (i := 7) (v := ?_) rfl (by kernel_rfl) (by kernel_rfl) (by kernel_rfl) (fun _ _ _ h => h) (Or.inl ⟨by rfl, ?_⟩) (by assumption) ?_
  rotate_left
  · (intro w hSw; obtain ⟨s0, s1, s2, s3, s4, s5, s6⟩ := hSw; go_simp; try (with_reducible rfl))
  try simp only [Act.put, List.getElem_toArray, List.getElem_cons_succ, List.getElem_cons_zero, List.setIfInBounds_toArray, List.set_cons_zero, List.set_cons_succ]
  refine wpAnyH_take (i := 8) (v := ?_) rfl (by kernel_rfl) (by kernel_rfl) (by kernel_rfl) (fun _ _ _ h => h) (Or.inl ⟨by rfl, ?_⟩) (by assumption) ?_
  rotate_left
  · (intro w hSw; obtain ⟨s0, s1, s2, s3, s4, s5, s6⟩ := hSw; go_simp; try (with_reducible rfl))
  try simp only [Act.put, List.getElem_toArray, List.getElem_cons_succ, List.getElem_cons_zero, List.setIfInBounds_toArray, List.set_cons_zero, List.set_cons_succ]
  refine wpAnyH_take (i := 9) (v := ?_) rfl (by kernel_rfl) (by kernel_rfl) (by kernel_rfl) (fun _ _ _ h => h) (Or.inl ⟨by rfl, ?_⟩) (by assumption) ?_
  rotate_left
  · (intro w hSw; obtain ⟨s0, s1, s2, s3, s4, s5, s6⟩ := hSw; go_simp; try (with_reducible rfl))
  try simp only [Act.put, List.getElem_toArray, List.getElem_cons_succ, List.getElem_cons_zero, List.setIfInBounds_toArray, List.set_cons_zero, List.set_cons_succ]
  refine wpAnyH_ready (rs := [10]) (by kernel_rfl) (by simp) ?_
  refine AllReadyH.cons rfl (fun K hK => ?_) AllReadyH.nil
  go_simp
  have hcp := put5c_cf z.drew (s + 3) (.slice ko kn kc) (.int .i64 kd) (.slice vo vn vc) (.int .i64 pg) (.int .i64 ct)
  have hrp := put5c_row (w := z.drew) HCZ.out (.slice ko kn kc) (.int .i64 kd) (.slice vo vn vc) (.int .i64 pg) (.int .i64 ct)
  have hf := HF.out
  have hS8 : S7c fb (.int .i64 r) (.slice ko kn kc) (.int .i64 kd) (.slice vo vn vc) (.int .i64 pg) (.int .i64 ct) (.bool is) (put5c z.drew (s + 3) (.slice ko kn kc) (.int .i64 kd) (.slice vo vn vc) (.int .i64 pg) (.int .i64 ct)) := S7c.of ((hcp.block fb hf.2 (by omega)).trans HQ7.out)
  change K _ (put5c z.drew (s + 3) (.slice ko kn kc) (.int .i64 kd) (.slice vo vn vc) (.int .i64 pg) (.int .i64 ct))
  obtain ⟨y, hy⟩ : ∃ y, put5c z.drew (s + 3) (.slice ko kn kc) (.int .i64 kd) (.slice vo vn vc) (.int .i64 pg) (.int .i64 ct) = y := ⟨_, rfl⟩
  rw [hy] at hcp hrp hS8 ⊢
  have HCP := hidden hcp
  have HRP := hidden hrp
  refine hK.out _ _ hS8 (fun hHeld => ?_)
  clear hK K hS8 hy hcp hrp hf g0 g1 g2 g3 g4 fz
  try simp only [Act.put, List.getElem_toArray, List.getElem_cons_succ, List.getElem_cons_zero, List.setIfInBounds_toArray, List.set_cons_zero, List.set_cons_succ]
  refine wpAnyH_take (i := 11) (v := ?_) rfl (by kernel_rfl) (by kernel_rfl) (by kernel_rfl) (fun _ _ _ h => h) (Or.inl ⟨by rfl, ?_⟩) (by assumption) ?_
  rotate_left
  · (intro w hSw; obtain ⟨s0, s1, s2, s3, s4, s5, s6⟩ := hSw; go_simp; try (with_reducible rfl))
  try simp only [Act.put, List.getElem_toArray, List.getElem_cons_succ, List.getElem_cons_zero, List.setIfInBounds_toArray, List.set_cons_zero, List.set_cons_succ]
  refine wpAnyH_take (i := 12) (v := ?_) rfl (by kernel_rfl) (by kernel_rfl) (by kernel_rfl) (fun _ _ _ h => h) (Or.inl ⟨by rfl, ?_⟩) (by assumption) ?_
  rotate_left
  · (intro w hSw; obtain ⟨s0, s1, s2, s3, s4, s5, s6⟩ := hSw; go_simp; try (with_reducible rfl))
  try simp only [Act.put, List.getElem_toArray, List.getElem_cons_succ, List.getElem_cons_zero, List.setIfInBounds_toArray, List.set_cons_zero, List.set_cons_succ]
  refine wpAnyH_done (by kernel_rfl) ?_ _
  clear hHeld
  go_wp2
  refine bodyPost_ret (results_tctt rfl _ _ (s + 3) 29 #[.slice ko kn kc, .int .i64 kd, .slice vo vn vc, .int .i64 pg, .int .i64 ct] (0, 0) _ _ _ _ (by rfl) (by rfl) (by rfl) (by rfl) HRP.out Tryz.underlying29 rfl sizeCe) rfl ?_
  have hn := HN.out
  have hcq : Cf (· = s + 3) w1 y := (Cf.of_below (HBZ.out.drew)).go HCP.out
  exact ⟨r, ko, kn, kc, kd, vo, vn, vc, pg, ct, is, rfl, hidden (((Cf.of_below HBX.out).go HC1.out).trans hcq (fun i hi e => by omega)), hidden (HQ.out _ _ _ _ _ _ _ _ _ _ _ _ _ HQ1.out (hcq.wideB (fun k e => ⟨by omega, by omega⟩)))⟩
set_option maxRecDepth 100000 in
set_option maxHeartbeats 2000000 in
theorem Delete_ok (w : World) (b : Nat) (root : Int) (ka : Option Addr) (kl kq : Nat) (G : Nat → Prop) (hG : ∀ i, G i → i < w.heap.size)
    (Q : Int → Option Addr → Nat → Nat → Int → Option Addr → Nat → Nat → Int → Int → Bool → World → Prop)
    (hp : ∀ u, Below w.heap.size w u → u.heap.size = w.heap.size + 7 → Calls Tryz.prog 26 #[iB b, .int .i64 root, .slice ka kl kq] u fun e u' => ∃ r ko kn kc kd vo vn vc pg ct is, e = .returned (.agg #[.int .i64 r, .slice ko kn kc, .int .i64 kd, .slice vo vn vc, .int .i64 pg, .int .i64 ct, .bool is]) ∧ Hid (Cf G u u') ∧ Hid (Q r ko kn kc kd vo vn vc pg ct is u'))
    (hQ : ∀ r ko kn kc kd vo vn vc pg ct is x y, Q r ko kn kc kd vo vn vc pg ct is x → Cf (Sv w.heap.size) x y → Q r ko kn kc kd vo vn vc pg ct is y) :
    Calls Tryz.prog 12 #[iB b, .int .i64 root, .slice ka kl kq] w fun e w' => ∃ r ko kn kc kd vo vn vc pg ct is, e = .returned (.tuple #[.int .i64 r, .agg #[.slice ko kn kc, .int .i64 kd, .slice vo vn vc, .int .i64 pg, .int .i64 ct], .bool is, .int .i64 0]) ∧ Hid (Cf G w w') ∧ Hid (Q r ko kn kc kd vo vn vc pg ct is w') := by
  have hmf : ∀ (fn : Fn) (first cap : Array Value) (w : World), (Instr.makeFunc fn first cap).run Tryz.prog w = .ok (.func fn first cap) w := fun _ _ _ _ => rfl
  obtain ⟨s, hs⟩ : ∃ s, w.heap.size = s := ⟨_, rfl⟩
  obtain ⟨x, hx⟩ : ∃ x, (((w.alloc (.cells #[iB b] 44)).alloc (.cells #[.int .i64 root] 3)).alloc (.cells #[.slice ka kl kq] 27)).alloc (.cells #[.slice none 0 0, .int .i64 0, .slice none 0 0, .int .i64 0, .int .i64 0] 29) = x := ⟨_, rfl⟩
  have hbx : Below w.heap.size w x := by rw [← hx]; exact bl_al (bl_al (bl_al (bl_al (Below.refl _ _) (Nat.le_refl _) _) (Nat.le_refl _) _) (Nat.le_refl _) _) (Nat.le_refl _) _
  have hxs : x.heap.size = s + 4 := by rw [← hx, ← hs]; simp
  have b0 : x.heap[s]? = some (.cells #[iB b] 44 (0, 0)) := by
    rw [← hx, ← hs]
    exact (Below.heap_alloc _ _ _ (by simp only [World.size_alloc]; omega)).trans ((Below.heap_alloc _ _ _ (by simp only [World.size_alloc]; omega)).trans ((Below.heap_alloc _ _ _ (by simp only [World.size_alloc]; omega)).trans (heap_alloc_last w _)))
  have b1 : x.heap[s + 1]? = some (.cells #[.int .i64 root] 3 (0, 0)) := by
    rw [← hx, ← hs]
    refine (Below.heap_alloc _ _ _ (by simp only [World.size_alloc]; omega)).trans ((Below.heap_alloc _ _ _ (by simp only [World.size_alloc]; omega)).trans ?_)
    have := heap_alloc_last (w.alloc (.cells #[iB b] 44)) (.cells #[.int .i64 root] 3)
    simp only [World.size_alloc] at this
    exact this
  have b2 : x.heap[s + 2]? = some (.cells #[.slice ka kl kq] 27) := by
    rw [← hx, ← hs]
    refine (Below.heap_alloc _ _ _ (by simp only [World.size_alloc]; omega)).trans ?_
    have := heap_alloc_last ((w.alloc (.cells #[iB b] 44)).alloc (.cells #[.int .i64 root] 3)) (.cells #[.slice ka kl kq] 27)
    simp only [World.size_alloc] at this
    exact this
  have b3 : C5 x (s + 3) (.slice none 0 0) (.int .i64 0) (.slice none 0 0) (.int .i64 0) (.int .i64 0) := by
    unfold C5
    rw [← hx, ← hs]
    have := heap_alloc_last (((w.alloc (.cells #[iB b] 44)).alloc (.cells #[.int .i64 root] 3)).alloc (.cells #[.slice ka kl kq] 27)) (.cells #[.slice none 0 0, .int .i64 0, .slice none 0 0, .int .i64 0, .int .i64 0] 29)
    simp only [World.size_alloc] at this
    exact this
  have HCT := hidden (caughtD_ok #[.pointer (some ⟨s, 0, none⟩), .pointer (some ⟨s + 1, 0, none⟩), .pointer (some ⟨s + 2, 0, none⟩)] x G (fun i hi => by have := hG i hi; omega) Q (fun u hu hus => by
    have h0 : u.cell? ⟨s, 0, none⟩ = some (iB b) := by rw [cell_of_row _ _ 0 _ _ _ ((hu.block s (by omega)).trans b0)]; rfl
    have h1 : u.cell? ⟨s + 1, 0, none⟩ = some (.int .i64 root) := by rw [cell_of_row _ _ 0 _ _ _ ((hu.block (s + 1) (by omega)).trans b1)]; rfl
    have h2 := (hu.block (s + 2) (by omega)).trans b2
    exact delC_any u b root s (s + 1) (s + 2) (.slice ka kl kq) h0 h1 (by rw [cell_of_row _ _ 0 _ _ _ h2]; rfl) G (fun i hi => by have := hG i hi; omega) Q (fun v hv hvs => hp v (bl_go (bl_go hbx (Nat.le_refl _) hu) (Nat.le_refl _) hv) (by omega)) (fun r ko kn kc kd vo vn vc pg ct is x' y' h h' => hQ r ko kn kc kd vo vn vc pg ct is x' y' h (h'.wideB (fun k e => ⟨by omega, by omega⟩))))
    (fun r ko kn kc kd vo vn vc pg ct is x' y' h h' => hQ r ko kn kc kd vo vn vc pg ct is x' y' h (h'.wideB (fun k e => by rcases e with e | e <;> exact ⟨by omega, by omega⟩))))
  have HQ := hidden hQ
  have HBX := hidden hbx
  have HB3 := hidden b3
  have HN : Hid (x.heap.size = s + 4 ∧ w.heap.size = s ∧ ¬ G (s + 3)) := hidden ⟨hxs, hs, fun h => by have := hG _ h; omega⟩
  clear hp hQ hbx hxs b0 b1 b2 b3
  go_enter Tryz.func12, Tryz.ntmps12
  go_wp2_with (first | (go_at_call 14; refine HCT.out.mono ?_; rintro e w1 ⟨r, ko, kn, kc, kd, vo, vn, vc, pg, ct, is, rfl, HC1, HQ1⟩; refine Hid.out ?_))
  apply hidden
  clear HCT hx
  go_upto_region 2 with fail
  obtain ⟨z, hz⟩ : ∃ z, w1.alloc (.cells #[.int .i64 r, .slice ko kn kc, .int .i64 kd, .slice vo vn vc, .int .i64 pg, .int .i64 ct, .bool is] 48) = z := ⟨_, rfl⟩
  obtain ⟨fb, hfb⟩ : ∃ fb, w1.heap.size = fb := ⟨_, rfl⟩
  have hbz : Below w1.heap.size w1 z := by rw [← hz]; exact bl_al (Below.refl _ _) (Nat.le_refl _) _
  have hq7 : QV7 z fb (.int .i64 r) (.slice ko kn kc) (.int .i64 kd) (.slice vo vn vc) (.int .i64 pg) (.int .i64 ct) (.bool is) := by unfold QV7; rw [← hz, ← hfb]; exact heap_alloc_last w1 _
  have h1 : C5 w1 (s + 3) (.slice none 0 0) (.int .i64 0) (.slice none 0 0) (.int .i64 0) (.int .i64 0) := (HC1.out.block (s + 3) (by have := HN.out; omega) HN.out.2.2).trans HB3.out
  have hcz : C5 z (s + 3) (.slice none 0 0) (.int .i64 0) (.slice none 0 0) (.int .i64 0) (.int .i64 0) := box_on h1 hbz
  obtain ⟨g0, g1, g2, g3, g4⟩ := hcz.cells
  have fz : ∀ i, z.frozen? ⟨s + 3, i, none⟩ = false := fun i => by unfold C5 at hcz; simp [World.frozen?, hcz]
  have HF : Hid (s + 3 < fb ∧ fb < z.heap.size) := hidden ⟨by have := lt_some h1; omega, lt_some hq7⟩
  have HQ7 := hidden hq7
  have HCZ := hidden hcz
  have HBZ := hidden hbz
  rw [hz, hfb]
  clear hz hfb hbz hq7 h1 hcz
  refine wp_region_held_drew (S := S7c fb (.int .i64 r) (.slice ko kn kc) (.int .i64 kd) (.slice vo vn vc) (.int .i64 pg) (.int .i64 ct) (.bool is)) (by kernel_rfl) (S7c.of HQ7.out) (fun hHeld => ?_)
  refine wpAnyH_take (i := 0) (v := ?_) rfl (by kernel_rfl) (by kernel_rfl) (by kernel_rfl) (fun _ _ _ h => h) (Or.inl ⟨by rfl, ?_⟩) (by assumption) ?_
  rotate_left
  · (intro w hSw; obtain ⟨s0, s1, s2, s3, s4, s5, s6⟩ := hSw; go_simp; try (with_reducible rfl))
  try simp only [Act.put, List.getElem_toArray, List.getElem_cons_zero, List.setIfInBounds_toArray, List.set_cons_zero, List.set_cons_succ]
  refine wpAnyH_take (i := 1) (v := ?_) rfl (by kernel_rfl) (by kernel_rfl) (by kernel_rfl) (fun _ _ _ h => h) (Or.inl ⟨by rfl, ?_⟩) (by assumption) ?_
  rotate_left
  · (intro w hSw; obtain ⟨s0, s1, s2, s3, s4, s5, s6⟩ := hSw; go_simp; try (with_reducible rfl))
  try simp only [Act.put, List.getElem_toArray, List.getElem_cons_succ, List.getElem_cons_zero, List.setIfInBounds_toArray, List.set_cons_zero, List.set_cons_succ]
  refine wpAnyH_take (i := 2) (v := ?_) rfl (by kernel_rfl) (by kernel_rfl) (by kernel_rfl) (fun _ _ _ h => h) (Or.inl ⟨by rfl, ?_⟩) (by assumption) ?_
  rotate_left
  · (intro w hSw; obtain ⟨s0, s1, s2, s3, s4, s5, s6⟩ := hSw; go_simp; try (with_reducible rfl))
  try simp only [Act.put, List.getElem_toArray, List.getElem_cons_succ, List.getElem_cons_zero, List.setIfInBounds_toArray, List.set_cons_zero, List.set_cons_succ]
  refine wpAnyH_take (i := 3) (v := ?_) rfl (by kernel_rfl) (by kernel_rfl) (by kernel_rfl) (fun _ _ _ h => h) (Or.inl ⟨by rfl, ?_⟩) (by assumption) ?_
  rotate_left
  · (intro w hSw; obtain ⟨s0, s1, s2, s3, s4, s5, s6⟩ := hSw; go_simp; try (with_reducible rfl))
  try simp only [Act.put, List.getElem_toArray, List.getElem_cons_succ, List.getElem_cons_zero, List.setIfInBounds_toArray, List.set_cons_zero, List.set_cons_succ]
  refine wpAnyH_take (i := 4) (v := ?_) rfl (by kernel_rfl) (by kernel_rfl) (by kernel_rfl) (fun _ _ _ h => h) (Or.inl ⟨by rfl, ?_⟩) (by assumption) ?_
  rotate_left
  · (intro w hSw; obtain ⟨s0, s1, s2, s3, s4, s5, s6⟩ := hSw; go_simp; try (with_reducible rfl))
  try simp only [Act.put, List.getElem_toArray, List.getElem_cons_succ, List.getElem_cons_zero, List.setIfInBounds_toArray, List.set_cons_zero, List.set_cons_succ]
  refine wpAnyH_take (i := 5) (v := ?_) rfl (by kernel_rfl) (by kernel_rfl) (by kernel_rfl) (fun _ _ _ h => h) (Or.inl ⟨by rfl, ?_⟩) (by assumption) ?_
  rotate_left
  · (intro w hSw; obtain ⟨s0, s1, s2, s3, s4, s5, s6⟩ := hSw; go_simp; try (with_reducible rfl))
  try simp only [Act.put, List.getElem_toArray, List.getElem_cons_succ, List.getElem_cons_zero, List.setIfInBounds_toArray, List.set_cons_zero, List.set_cons_succ]
  refine wpAnyH_take (i := 6) (v := ?_) rfl (by kernel_rfl) (by kernel_rfl) (by kernel_rfl) (fun _ _ _ h => h) (Or.inl ⟨by rfl, ?_⟩) (by assumption) ?_
  rotate_left
  · (intro w hSw; obtain ⟨s0, s1, s2, s3, s4, s5, s6⟩ := hSw; go_simp; try (with_reducible rfl))
  try simp only [Act.put, List.getElem_toArray, List.getElem_cons_succ, List.getElem_cons_zero, List.setIfInBounds_toArray, List.set_cons_zero, List.set_cons_succ]
  refine wpAnyH_take (i := 7) (v := ?_) rfl (by kernel_rfl) (by kernel_rfl) (by kernel_rfl) (fun _ _ _ h => h) (Or.inl ⟨by rfl, ?_⟩) (by assumption) ?_
  rotate_left
  · (intro w hSw; obtain ⟨s0, s1, s2, s3, s4, s5, s6⟩ := hSw; go_simp; try (with_reducible rfl))
  try simp only [Act.put, List.getElem_toArray, List.getElem_cons_succ, List.getElem_cons_zero, List.setIfInBounds_toArray, List.set_cons_zero, List.set_cons_succ]
  refine wpAnyH_take (i := 8) (v := ?_) rfl (by kernel_rfl) (by kernel_rfl) (by kernel_rfl) (fun _ _ _ h => h) (Or.inl ⟨by rfl, ?_⟩) (by assumption) ?_
  rotate_left
  · (intro w hSw; obtain ⟨s0, s1, s2, s3, s4, s5, s6⟩ := hSw; go_simp; try (with_reducible rfl))
  try simp only [Act.put, List.getElem_toArray, List.getElem_cons_succ, List.getElem_cons_zero, List.setIfInBounds_toArray, List.set_cons_zero, List.set_cons_succ]
  refine wpAnyH_take (i := 9) (v := ?_) rfl (by kernel_rfl) (by kernel_rfl) (by kernel_rfl) (fun _ _ _ h => h) (Or.inl ⟨by rfl, ?_⟩) (by assumption) ?_
  rotate_left
  · (intro w hSw; obtain ⟨s0, s1, s2, s3, s4, s5, s6⟩ := hSw; go_simp; try (with_reducible rfl))
  try simp only [Act.put, List.getElem_toArray, List.getElem_cons_succ, List.getElem_cons_zero, List.setIfInBounds_toArray, List.set_cons_zero, List.set_cons_succ]
  refine wpAnyH_ready (rs := [10]) (by kernel_rfl) (by simp) ?_
  refine AllReadyH.cons rfl (fun K hK => ?_) AllReadyH.nil
  go_simp
  have hcp := put5c_cf z.drew (s + 3) (.slice ko kn kc) (.int .i64 kd) (.slice vo vn vc) (.int .i64 pg) (.int .i64 ct)
  have hrp := put5c_row (w := z.drew) HCZ.out (.slice ko kn kc) (.int .i64 kd) (.slice vo vn vc) (.int .i64 pg) (.int .i64 ct)
  have hf := HF.out
  have hS8 : S7c fb (.int .i64 r) (.slice ko kn kc) (.int .i64 kd) (.slice vo vn vc) (.int .i64 pg) (.int .i64 ct) (.bool is) (put5c z.drew (s + 3) (.slice ko kn kc) (.int .i64 kd) (.slice vo vn vc) (.int .i64 pg) (.int .i64 ct)) := S7c.of ((hcp.block fb hf.2 (by omega)).trans HQ7.out)
  change K _ (put5c z.drew (s + 3) (.slice ko kn kc) (.int .i64 kd) (.slice vo vn vc) (.int .i64 pg) (.int .i64 ct))
  obtain ⟨y, hy⟩ : ∃ y, put5c z.drew (s + 3) (.slice ko kn kc) (.int .i64 kd) (.slice vo vn vc) (.int .i64 pg) (.int .i64 ct) = y := ⟨_, rfl⟩
  rw [hy] at hcp hrp hS8 ⊢
  have HCP := hidden hcp
  have HRP := hidden hrp
  refine hK.out _ _ hS8 (fun hHeld => ?_)
  clear hK K hS8 hy hcp hrp hf g0 g1 g2 g3 g4 fz
  try simp only [Act.put, List.getElem_toArray, List.getElem_cons_succ, List.getElem_cons_zero, List.setIfInBounds_toArray, List.set_cons_zero, List.set_cons_succ]
  refine wpAnyH_take (i := 11) (v := ?_) rfl (by kernel_rfl) (by kernel_rfl) (by kernel_rfl) (fun _ _ _ h => h) (Or.inl ⟨by rfl, ?_⟩) (by assumption) ?_
  rotate_left
  · (intro w hSw; obtain ⟨s0, s1, s2, s3, s4, s5, s6⟩ := hSw; go_simp; try (with_reducible rfl))
  try simp only [Act.put, List.getElem_toArray, List.getElem_cons_succ, List.getElem_cons_zero, List.setIfInBounds_toArray, List.set_cons_zero, List.set_cons_succ]
  refine wpAnyH_take (i := 12) (v := ?_) rfl (by kernel_rfl) (by kernel_rfl) (by kernel_rfl) (fun _ _ _ h => h) (Or.inl ⟨by rfl, ?_⟩) (by assumption) ?_
  rotate_left
  · (intro w hSw; obtain ⟨s0, s1, s2, s3, s4, s5, s6⟩ := hSw; go_simp; try (with_reducible rfl))
  try simp only [Act.put, List.getElem_toArray, List.getElem_cons_succ, List.getElem_cons_zero, List.setIfInBounds_toArray, List.set_cons_zero, List.set_cons_succ]
  refine wpAnyH_done (by kernel_rfl) ?_ _
  clear hHeld
  go_wp2
  refine bodyPost_ret (results_tctt rfl _ _ (s + 3) 29 #[.slice ko kn kc, .int .i64 kd, .slice vo vn vc, .int .i64 pg, .int .i64 ct] (0, 0) _ _ _ _ (by rfl) (by rfl) (by rfl) (by rfl) HRP.out Tryz.underlying29 rfl sizeCe) rfl ?_
  have hn := HN.out
  have hcq : Cf (· = s + 3) w1 y := (Cf.of_below (HBZ.out.drew)).go HCP.out
  exact ⟨r, ko, kn, kc, kd, vo, vn, vc, pg, ct, is, rfl, hidden (((Cf.of_below HBX.out).go HC1.out).trans hcq (fun i hi e => by omega)), hidden (HQ.out _ _ _ _ _ _ _ _ _ _ _ _ _ HQ1.out (hcq.wideB (fun k e => ⟨by omega, by omega⟩)))⟩
end Go.Proofs.YtfcbfombobelmaaGreatDoor
