/- Layer 12: a put that is refused; Get and Len of a tree of one leaf. -/
import Derived.Test.YtfcbfombobelmaaGreatDoorJ44
namespace Go.Proofs.YtfcbfombobelmaaGreatDoor
open Go.RowKit

set_option maxRecDepth 100000 in
set_option maxHeartbeats 2000000 in
theorem put_bad (w : World) (b m : Nat) (rd root : Int) (M : Int → Option Pf) (ct : Nat) (hb : Bq w b m rd M ct) (va : Option Addr) (vn vc : Nat) (h2 : vn ≤ 96) :
    Calls Tryz.prog 16 #[iB b, .int .i64 root, .agg #[.slice none 0 0, .int .i64 1, .slice va vn vc, .int .i64 0, .int .i64 0]] w fun e w' => e = .panicked [{ v := fltV 31, recovered := false }] ∧ Hid (Below w.heap.size w w') := by
  obtain ⟨s, hs⟩ : ∃ s, w.heap.size = s := ⟨_, rfl⟩
  obtain ⟨x, hx⟩ : ∃ x, (w.alloc (.cells #[.slice none 0 0, .int .i64 1, .slice va vn vc, .int .i64 0, .int .i64 0] 29)).alloc (.cells #[.int .i64 0, .slice none 0 0, .int .i64 0, .slice none 0 0, .int .i64 0, .int .i64 0, .bool false] 48) = x := ⟨_, rfl⟩
  have hbx : Below w.heap.size w x := by rw [← hx]; exact bl_al (bl_al (Below.refl _ _) (Nat.le_refl _) _) (Nat.le_refl _) _
  have hc5 : C5 x s (.slice none 0 0) (.int .i64 1) (.slice va vn vc) (.int .i64 0) (.int .i64 0) := by
    rw [← hx, ← hs]
    exact box_on (C5.box w _ _ _ _ _) (bl_al (Below.refl _ _) (Nat.le_refl _) _)
  have HSZ : Hid (∀ u, Below x.heap.size x u → Calls Tryz.prog 211 #[pB b] u fun e w' => e = .returned (.int .i64 512) ∧ w' = u) := hidden fun u hu => bsize_any (hb.on (bl_go hbx (Nat.le_refl _) hu))
  have HIS := hidden (fun u => isSized_no none 0 va vn vc 0 0 u h2)
  have HMU := hidden (fun u => must_bad 31 (by omega) u)
  have HBX := hidden hbx
  obtain ⟨a0, a1, a2, a3, a4⟩ := hc5.cells
  clear hbx hc5 hb
  go_enter Tryz.func16, Tryz.ntmps16
  go_upto_region 1 with fail
  clear hx
  go_cut [13] from 9 to 13 (fun v u => v = .bool true ∧ Hid (Below x.heap.size x u))
  case first =>
    go_wp2_with fail
    go_region_with (first | (go_at_call 28; refine (HIS.out _).mono ?_; rintro e w1 ⟨rfl, HB1⟩; have HX1 : Hid (Below x.heap.size x w1) := hidden (by first | exact HB1.out | exact bl_go (Below.refl _ _).drew (Nat.le_refl _) HB1.out | exact bl_go (bl_dr (Below.refl _ _) _) (Nat.le_refl _) HB1.out)) | (go_at_call 211; refine same_call (HSZ.out _ (by first | exact Below.refl _ _ | exact (Below.refl _ _).drew | exact bl_dr (Below.refl _ _) _)) ?_))
    all_goals (try go_wp2_with fail)
    all_goals go_meet
    all_goals exact ⟨by simp, by first | exact HX1 | exact hidden HX1.out.drew | exact hidden (bl_dr HX1.out _)⟩
  obtain ⟨rfl, HX1⟩ := hcut
  obtain ⟨w1, hw1⟩ : ∃ w1, w1 = wc := ⟨_, rfl⟩
  subst hw1
  clear a0 a1 a2 a3 a4 HIS HSZ
  go_wp2_with (first | (go_at_call 29; refine (HMU.out _).mono ?_; rintro e w2 ⟨rfl, rfl⟩))
  simp only [bodyPost]
  exact ⟨trivial, trivial, hidden (bl_go HBX.out (Nat.le_refl _) HX1.out)⟩
set_option maxRecDepth 100000 in
set_option maxHeartbeats 1000000 in
theorem putC_bad (w : World) (b : Nat) (root : Int) (p0 p1 p2 : Nat) (k0 k1 k2 k3 k4 : Value) (c0 : w.cell? ⟨p0, 0, none⟩ = some (iB b)) (c1 : w.cell? ⟨p1, 0, none⟩ = some (.int .i64 root)) (c2 : C5 w p2 k0 k1 k2 k3 k4) (G : Nat → Prop) (_hG : ∀ i, G i → i < w.heap.size)
    (Q : World → Prop) (c : Int)
    (hp : ∀ u, Below w.heap.size w u → u.heap.size = w.heap.size + 1 → Calls Tryz.prog 16 #[iB b, .int .i64 root, .agg #[k0, k1, k2, k3, k4]] u fun e u' => e = .panicked [{ v := fltV c, recovered := false }] ∧ Hid (Cf G u u') ∧ Hid (Q u'))
    (_hQ : ∀ x y, Q x → Cf (· = w.heap.size) x y → Q y) :
    Calls Tryz.prog 15 #[.pointer (some ⟨p0, 0, none⟩), .pointer (some ⟨p1, 0, none⟩), .pointer (some ⟨p2, 0, none⟩)] w fun e w' => e = .panicked [{ v := fltV c, recovered := false }] ∧ Hid (Cf G w w') ∧ Hid (Q w') := by
  obtain ⟨x, hx⟩ : ∃ x, w.alloc (.cells #[.int .i64 0, .slice none 0 0, .int .i64 0, .slice none 0 0, .int .i64 0, .int .i64 0, .bool false] 48) = x := ⟨_, rfl⟩
  have hbx : Below w.heap.size w x := by rw [← hx]; exact bl_al (Below.refl _ _) (Nat.le_refl _) _
  have hxs : x.heap.size = w.heap.size + 1 := by rw [← hx]; simp
  have x0 := (hbx.cell (p := ⟨p0, 0, none⟩) (World.block_lt_of_cell? w ⟨p0, 0, none⟩ (by rw [c0]))).trans c0
  have x1 := (hbx.cell (p := ⟨p1, 0, none⟩) (World.block_lt_of_cell? w ⟨p1, 0, none⟩ (by rw [c1]))).trans c1
  obtain ⟨y0, y1, y2, y3, y4⟩ := (show C5 x p2 k0 k1 k2 k3 k4 from box_on c2 hbx).cells
  clear c2
  have HP := hidden (hp x hbx hxs)
  have HBX := hidden hbx
  clear hp hbx hxs c0 c1
  go_enter Tryz.func15, Tryz.ntmps15
  go_wp2_with (first | (go_at_call 16; refine HP.out.mono ?_; rintro e w1 ⟨rfl, HC1, HQ1⟩))
  simp only [bodyPost]
  exact ⟨trivial, trivial, hidden ((Cf.of_below HBX.out).go HC1.out), HQ1⟩
set_option maxRecDepth 100000 in
set_option maxHeartbeats 2000000 in
theorem Put_bad (w : World) (b : Nat) (root : Int) (k0 k1 k2 k3 k4 : Value) (G : Nat → Prop) (hG : ∀ i, G i → i < w.heap.size)
    (Q : World → Prop) (c : Int)
    (hp : ∀ u, Below w.heap.size w u → u.heap.size = w.heap.size + 7 → Calls Tryz.prog 16 #[iB b, .int .i64 root, .agg #[k0, k1, k2, k3, k4]] u fun e u' => e = .panicked [{ v := fltV c, recovered := false }] ∧ Hid (Cf G u u') ∧ Hid (Q u'))
    (hQ : ∀ x y, Q x → Cf (Sv w.heap.size) x y → Q y) :
    Calls Tryz.prog 9 #[iB b, .int .i64 root, .agg #[k0, k1, k2, k3, k4]] w fun e w' => e = .returned (.tuple #[.int .i64 0, .agg #[.slice none 0 0, .int .i64 0, .slice none 0 0, .int .i64 0, .int .i64 0], .bool false, .int .i64 c]) ∧ Hid (Cf G w w') ∧ Hid (Q w') := by
  have hmf : ∀ (fn : Fn) (first cap : Array Value) (w : World), (Instr.makeFunc fn first cap).run Tryz.prog w = .ok (.func fn first cap) w := fun _ _ _ _ => rfl
  obtain ⟨s, hs⟩ : ∃ s, w.heap.size = s := ⟨_, rfl⟩
  obtain ⟨x, hx⟩ : ∃ x, (((w.alloc (.cells #[iB b] 44)).alloc (.cells #[.int .i64 root] 3)).alloc (.cells #[k0, k1, k2, k3, k4] 29)).alloc (.cells #[.slice none 0 0, .int .i64 0, .slice none 0 0, .int .i64 0, .int .i64 0] 29) = x := ⟨_, rfl⟩
  have hbx : Below w.heap.size w x := by rw [← hx]; exact bl_al (bl_al (bl_al (bl_al (Below.refl _ _) (Nat.le_refl _) _) (Nat.le_refl _) _) (Nat.le_refl _) _) (Nat.le_refl _) _
  have hxs : x.heap.size = s + 4 := by rw [← hx, ← hs]; simp
  have b0 : x.heap[s]? = some (.cells #[iB b] 44 (0, 0)) := by
    rw [← hx, ← hs]
    exact (Below.heap_alloc _ _ _ (by simp only [World.size_alloc]; omega)).trans ((Below.heap_alloc _ _ _ (by simp only [World.size_alloc]; omega)).trans ((Below.heap_alloc _ _ _ (by simp only [World.size_alloc]; omega)).trans (heap_alloc_last w _)))
  have b1 : x.heap[s + 1]? = some (.cells #[.int .i64 root] 3 (0, 0)) := by
    rw [← hx, ← hs]
    refine (Below.heap_alloc _ _ _ (by simp only [World.size_alloc]; omega)).trans ((Below.heap_alloc _ _ _ (by simp only [World.size_alloc]; omega)).trans ?_)
    have := heap_alloc_last (w.alloc (.cells #[iB b] 44)) (.cells #[.int .i64 root] 3)
    simp only [World.size_alloc] at this
    exact this
  have b2 : x.heap[s + 2]? = some (.cells #[k0, k1, k2, k3, k4] 29) := by
    rw [← hx, ← hs]
    refine (Below.heap_alloc _ _ _ (by simp only [World.size_alloc]; omega)).trans ?_
    have := heap_alloc_last ((w.alloc (.cells #[iB b] 44)).alloc (.cells #[.int .i64 root] 3)) (.cells #[k0, k1, k2, k3, k4] 29)
    simp only [World.size_alloc] at this
    exact this
  have b3 : C5 x (s + 3) (.slice none 0 0) (.int .i64 0) (.slice none 0 0) (.int .i64 0) (.int .i64 0) := by
    unfold C5
    rw [← hx, ← hs]
    have := heap_alloc_last (((w.alloc (.cells #[iB b] 44)).alloc (.cells #[.int .i64 root] 3)).alloc (.cells #[k0, k1, k2, k3, k4] 29)) (.cells #[.slice none 0 0, .int .i64 0, .slice none 0 0, .int .i64 0, .int .i64 0] 29)
    simp only [World.size_alloc] at this
    exact this
  have HCT := hidden (caughtP_bad #[.pointer (some ⟨s, 0, none⟩), .pointer (some ⟨s + 1, 0, none⟩), .pointer (some ⟨s + 2, 0, none⟩)] x G (fun i hi => by have := hG i hi; omega) Q c (fun u hu hus => by
    have h0 : u.cell? ⟨s, 0, none⟩ = some (iB b) := by rw [cell_of_row _ _ 0 _ _ _ ((hu.block s (by omega)).trans b0)]; rfl
    have h1 : u.cell? ⟨s + 1, 0, none⟩ = some (.int .i64 root) := by rw [cell_of_row _ _ 0 _ _ _ ((hu.block (s + 1) (by omega)).trans b1)]; rfl
    have h2 := (hu.block (s + 2) (by omega)).trans b2
    exact putC_bad u b root s (s + 1) (s + 2) k0 k1 k2 k3 k4 h0 h1 h2 G (fun i hi => by have := hG i hi; omega) Q c (fun v hv hvs => hp v (bl_go (bl_go hbx (Nat.le_refl _) hu) (Nat.le_refl _) hv) (by omega)) (fun x' y' h h' => hQ x' y' h (h'.wideB (fun k e => ⟨by omega, by omega⟩))))
    (fun x' y' h h' => hQ x' y' h (h'.wideB (fun k e => by rcases e with e | e <;> exact ⟨by omega, by omega⟩))))
  have HQ := hidden hQ
  have HBX := hidden hbx
  have HB3 := hidden b3
  have HN : Hid (x.heap.size = s + 4 ∧ w.heap.size = s ∧ ¬ G (s + 3)) := hidden ⟨hxs, hs, fun h => by have := hG _ h; omega⟩
  clear hp hQ hbx hxs b0 b1 b2 b3
  go_enter Tryz.func9, Tryz.ntmps9
  go_wp2_with (first | (go_at_call 14; refine HCT.out.mono ?_; rintro e w1 ⟨rfl, HC1, HQ1⟩; refine Hid.out ?_))
  apply hidden
  clear HCT hx
  go_upto_region 2 with fail
  obtain ⟨z, hz⟩ : ∃ z, w1.alloc (.cells #[.int .i64 0, .slice none 0 0, .int .i64 0, .slice none 0 0, .int .i64 0, .int .i64 0, .bool false] 48) = z := ⟨_, rfl⟩
  obtain ⟨fb, hfb⟩ : ∃ fb, w1.heap.size = fb := ⟨_, rfl⟩
  have hbz : Below w1.heap.size w1 z := by rw [← hz]; exact bl_al (Below.refl _ _) (Nat.le_refl _) _
  have hq7 : QV7 z fb (.int .i64 0) (.slice none 0 0) (.int .i64 0) (.slice none 0 0) (.int .i64 0) (.int .i64 0) (.bool false) := by unfold QV7; rw [← hz, ← hfb]; exact heap_alloc_last w1 _
  have h1 : C5 w1 (s + 3) (.slice none 0 0) (.int .i64 0) (.slice none 0 0) (.int .i64 0) (.int .i64 0) := (HC1.out.block (s + 3) (by have := HN.out; omega) HN.out.2.2).trans HB3.out
  have hcz : C5 z (s + 3) (.slice none 0 0) (.int .i64 0) (.slice none 0 0) (.int .i64 0) (.int .i64 0) := box_on h1 hbz
  obtain ⟨g0, g1, g2, g3, g4⟩ := hcz.cells
  have fz : ∀ i, z.frozen? ⟨s + 3, i, none⟩ = false := fun i => by unfold C5 at hcz; simp [World.frozen?, hcz]
  have HF : Hid (s + 3 < fb ∧ fb < z.heap.size) := hidden ⟨by have := lt_some h1; omega, lt_some hq7⟩
  have HQ7 := hidden hq7
  have HCZ := hidden hcz
  have HBZ := hidden hbz
  rw [hz, hfb]
  clear hz hfb hbz hq7 h1 hcz
  refine wp_region_held_drew (S := S7c fb (.int .i64 0) (.slice none 0 0) (.int .i64 0) (.slice none 0 0) (.int .i64 0) (.int .i64 0) (.bool false)) (by kernel_rfl) (S7c.of HQ7.out) (fun hHeld => ?_)
  refine wpAnyH_take (i := 0) (v := ?_) rfl (by kernel_rfl) (by kernel_rfl) (by kernel_rfl) (fun _ _ _ h => h) (Or.inl ⟨by rfl, ?_⟩) (by assumption) ?_
  rotate_left
  · (intro w hSw; obtain ⟨s0, s1, s2, s3, s4, s5, s6⟩ := hSw; go_simp; try (with_reducible rfl))
  try simp only [Act.put, List.getElem_toArray, List.getElem_cons_zero, List.setIfInBounds_toArray, List.set_cons_zero, List.set_cons_succ]
  refine wpAnyH_take (i := 1) (v := ?_) rfl (by kernel_rfl) (by kernel_rfl) (by kernel_rfl) (fun _ _ _ h => h) (Or.inl ⟨by rfl, ?_⟩) (by assumption) ?_
  rotate_left
  · (intro w hSw; obtain ⟨s0, s1, s2, s3, s4, s5, s6⟩ := hSw; go_simp; try (with_reducible rfl))
  try simp only [Act.put, List.getElem_toArray, List.getElem_cons_succ, List.getElem_cons_zero, List.setIfInBounds_toArray, List.set_cons_zero, List.set_cons_succ]
  refine wpAnyH_take (i := 2) (v := ?_) rfl (by kernel_rfl) (by kernel_rfl) (by kernel_rfl) (fun _ _ _ h => h) (Or.inl ⟨by rfl, ?_⟩) (by assumption) ?_
  rotate_left
  · (intro w hSw; obtain ⟨s0, s1, s2, s3, s4, s5, s6⟩ := hSw; go_simp; try (with_reducible rfl))
  try simp only [Act.put, List.getElem_toArray, List.getElem_cons_succ, List.getElem_cons_zero, List.setIfInBounds_toArray, List.set_cons_zero, List.set_cons_succ]
  refine wpAnyH_take (i := 3) (v := ?_) rfl (by kernel_rfl) (by kernel_rfl) (by kernel_rfl) (fun _ _ _ h => h) (Or.inl ⟨by rfl, ?_⟩) (by assumption) ?_
  rotate_left
  · (intro w hSw; obtain ⟨s0, s1, s2, s3, s4, s5, s6⟩ := hSw; go_simp; try (with_reducible rfl))
  try simp only [Act.put, List.getElem_toArray, List.getElem_cons_succ, List.getElem_cons_zero, List.setIfInBounds_toArray, List.set_cons_zero, List.set_cons_succ]
  refine wpAnyH_take (i := 4) (v := ?_) rfl (by kernel_rfl) (by kernel_rfl) (by kernel_rfl) (fun _ _ _ h => h) (Or.inl ⟨by rfl, ?_⟩) (by assumption) ?_
  rotate_left
  · (intro w hSw; obtain ⟨s0, s1, s2, s3, s4, s5, s6⟩ := hSw; go_simp; try (with_reducible rfl))
  try simp only [Act.put, List.getElem_toArray, List.getElem_cons_succ, List.getElem_cons_zero, List.setIfInBounds_toArray, List.set_cons_zero, List.set_cons_succ]
  refine wpAnyH_take (i := 5) (v := ?_) rfl (by kernel_rfl) (by kernel_rfl) (by kernel_rfl) (fun _ _ _ h => h) (Or.inl ⟨by rfl, ?_⟩) (by assumption) ?_
  rotate_left
  · (intro w hSw; obtain ⟨s0, s1, s2, s3, s4, s5, s6⟩ := hSw; go_simp; try (with_reducible rfl))
  try simp only [Act.put, List.getElem_toArray, List.getElem_cons_succ, List.getElem_cons_zero, List.setIfInBounds_toArray, List.set_cons_zero, List.set_cons_succ]
  refine wpAnyH_take (i := 6) (v := ?_) rfl (by kernel_rfl) (by kernel_rfl) (by kernel_rfl) (fun _ _ _ h => h) (Or.inl ⟨by rfl, ?_⟩) (by assumption) ?_
  rotate_left
  · (intro w hSw; obtain ⟨s0, s1, s2, s3, s4, s5, s6⟩ := hSw; go_simp; try (with_reducible rfl))
  try simp only [Act.put, List.getElem_toArray, List.getElem_cons_succ, List.getElem_cons_zero, List.setIfInBounds_toArray, List.set_cons_zero, List.set_cons_succ]
  refine wpAnyH_take (i := 7) (v := ?_) rfl (by kernel_rfl) (by kernel_rfl) (by kernel_rfl) (fun _ _ _ h => h) (Or.inl ⟨by rfl, ?_⟩) (by assumption) ?_
  rotate_left
  · (intro w hSw; obtain ⟨s0, s1, s2, s3, s4, s5, s6⟩ := hSw; go_simp; try (with_reducible rfl))
  try simp only [Act.put, List.getElem_toArray, List.getElem_cons_succ, List.getElem_cons_zero, List.setIfInBounds_toArray, List.set_cons_zero, List.set_cons_succ]
  refine wpAnyH_take (i := 8) (v := ?_) rfl (by kernel_rfl) (by kernel_rfl) (by kernel_rfl) (fun _ _ _ h => h) (Or.inl ⟨by rfl, ?_⟩) (by assumption) ?_
  rotate_left
  · (intro w hSw; obtain ⟨s0, s1, s2, s3, s4, s5, s6⟩ := hSw; go_simp; try (with_reducible rfl))
  try simp only [Act.put, List.getElem_toArray, List.getElem_cons_succ, List.getElem_cons_zero, List.setIfInBounds_toArray, List.set_cons_zero, List.set_cons_succ]
  refine wpAnyH_take (i := 9) (v := ?_) rfl (by kernel_rfl) (by kernel_rfl) (by kernel_rfl) (fun _ _ _ h => h) (Or.inl ⟨by rfl, ?_⟩) (by assumption) ?_
  rotate_left
  · (intro w hSw; obtain ⟨s0, s1, s2, s3, s4, s5, s6⟩ := hSw; go_simp; try (with_reducible rfl))
  try simp only [Act.put, List.getElem_toArray, List.getElem_cons_succ, List.getElem_cons_zero, List.setIfInBounds_toArray, List.set_cons_zero, List.set_cons_succ]
  refine wpAnyH_ready (rs := [10]) (by kernel_rfl) (by simp) ?_
  refine AllReadyH.cons rfl (fun K hK => ?_) AllReadyH.nil
  go_simp
  have hcp := put5c_cf z.drew (s + 3) (.slice none 0 0) (.int .i64 0) (.slice none 0 0) (.int .i64 0) (.int .i64 0)
  have hrp := put5c_row (w := z.drew) HCZ.out (.slice none 0 0) (.int .i64 0) (.slice none 0 0) (.int .i64 0) (.int .i64 0)
  have hf := HF.out
  have hS8 : S7c fb (.int .i64 0) (.slice none 0 0) (.int .i64 0) (.slice none 0 0) (.int .i64 0) (.int .i64 0) (.bool false) (put5c z.drew (s + 3) (.slice none 0 0) (.int .i64 0) (.slice none 0 0) (.int .i64 0) (.int .i64 0)) := S7c.of ((hcp.block fb hf.2 (by omega)).trans HQ7.out)
  change K _ (put5c z.drew (s + 3) (.slice none 0 0) (.int .i64 0) (.slice none 0 0) (.int .i64 0) (.int .i64 0))
  obtain ⟨y, hy⟩ : ∃ y, put5c z.drew (s + 3) (.slice none 0 0) (.int .i64 0) (.slice none 0 0) (.int .i64 0) (.int .i64 0) = y := ⟨_, rfl⟩
  rw [hy] at hcp hrp hS8 ⊢
  have HCP := hidden hcp
  have HRP := hidden hrp
  refine hK.out _ _ hS8 (fun hHeld => ?_)
  clear hK K hS8 hy hcp hrp hf g0 g1 g2 g3 g4 fz
  try simp only [Act.put, List.getElem_toArray, List.getElem_cons_succ, List.getElem_cons_zero, List.setIfInBounds_toArray, List.set_cons_zero, List.set_cons_succ]
  refine wpAnyH_take (i := 11) (v := ?_) rfl (by kernel_rfl) (by kernel_rfl) (by kernel_rfl) (fun _ _ _ h => h) (Or.inl ⟨by rfl, ?_⟩) (by assumption) ?_
  rotate_left
  · (intro w hSw; obtain ⟨s0, s1, s2, s3, s4, s5, s6⟩ := hSw; go_simp; try (with_reducible rfl))
  try simp only [Act.put, List.getElem_toArray, List.getElem_cons_succ, List.getElem_cons_zero, List.setIfInBounds_toArray, List.set_cons_zero, List.set_cons_succ]
  refine wpAnyH_take (i := 12) (v := ?_) rfl (by kernel_rfl) (by kernel_rfl) (by kernel_rfl) (fun _ _ _ h => h) (Or.inl ⟨by rfl, ?_⟩) (by assumption) ?_
  rotate_left
  · (intro w hSw; obtain ⟨s0, s1, s2, s3, s4, s5, s6⟩ := hSw; go_simp; try (with_reducible rfl))
  try simp only [Act.put, List.getElem_toArray, List.getElem_cons_succ, List.getElem_cons_zero, List.setIfInBounds_toArray, List.set_cons_zero, List.set_cons_succ]
  refine wpAnyH_done (by kernel_rfl) ?_ _
  clear hHeld
  go_wp2
  refine bodyPost_ret (results_tctt rfl _ _ (s + 3) 29 #[.slice none 0 0, .int .i64 0, .slice none 0 0, .int .i64 0, .int .i64 0] (0, 0) _ _ _ _ (by rfl) (by rfl) (by rfl) (by rfl) HRP.out Tryz.underlying29 rfl sizeCe) rfl ?_
  have hn := HN.out
  have hcq : Cf (· = s + 3) w1 y := (Cf.of_below (HBZ.out.drew)).go HCP.out
  exact ⟨rfl, hidden (((Cf.of_below HBX.out).go HC1.out).trans hcq (fun i hi e => by omega)), hidden (HQ.out _ _ HQ1.out (hcq.wideB (fun k e => ⟨by omega, by omega⟩)))⟩
/-- A value that stands in a block from B on. -/
def VL (u : World) (vo : Option Addr) (vn vc : Nat) (l : List Int) (B : Nat) : Prop := Sl u vo vn vc l ∧ ∀ q, vo = some q → B ≤ q.block
set_option maxRecDepth 100000 in
theorem VL.cf {u v : World} {vo : Option Addr} {vn vc : Nat} {l : List Int} {B : Nat} {F : Nat → Prop} (h : VL u vo vn vc l B) (hc : Cf F u v) (hF : ∀ k, B ≤ k → ¬ F k) : VL v vo vn vc l B := ⟨h.1.cf hc (.inr fun q hq => hF _ (h.2 q hq)), h.2⟩
/-- What a look at a tree of one leaf finds. -/
def GtTo (b m : Nat) (rd : Int) (M : Int → Option Pf) (ct0 : Nat) (d : Cl) (B : Nat) (_ko : Option Addr) (_kn _kc : Nat) (_kd : Int) (vo : Option Addr) (vn vc : Nat) (_pg _ct : Int) (is : Bool) (u : World) : Prop := is = true ∧ vn = d.val.length ∧ VL u vo vn vc d.val B ∧ Bq u b m (rd + 1) M ct0
set_option maxRecDepth 100000 in
theorem GtTo.cf {b m : Nat} {rd : Int} {M : Int → Option Pf} {ct0 : Nat} {d : Cl} {s : Nat} {ko : Option Addr} {kn kc : Nat} {kd : Int} {vo : Option Addr} {vn vc : Nat} {pg ct : Int} {is : Bool} {u v : World} (h : GtTo b m rd M ct0 d (s + 7) ko kn kc kd vo vn vc pg ct is u) (hb : b < s) (hm : m < s) (hM : ∀ k f, M k = some f → f.g < s) (hc : Cf (Sv s) u v) : GtTo b m rd M ct0 d (s + 7) ko kn kc kd vo vn vc pg ct is v := by
  obtain ⟨h1, h2, h3, h4⟩ := h
  exact ⟨h1, h2, h3.cf hc (fun k hk e => by have := e.2; omega), h4.cf hc (fun e => by have := e.1; omega) (fun e => by have := e.1; omega) (fun k f hk e => by have := hM k f hk; have := e.1; omega)⟩
/-- What the loads of Get's look read. -/
def S3c (p0 p1 p2 : Nat) (v0 v1 v2 : Value) (u : World) : Prop := u.cell? ⟨p0, 0, none⟩ = some v0 ∧ u.cell? ⟨p1, 0, none⟩ = some v1 ∧ u.cell? ⟨p2, 0, none⟩ = some v2
set_option maxRecDepth 100000 in
set_option maxHeartbeats 2000000 in
theorem getC_1 (w : World) (b m : Nat) (rd root : Int) (M : Int → Option Pf) (ct0 : Nat) (hb : Bq w b m rd M ct0) (ht : TB w b m) (fp : Pf) (d : Cl) (hMr : M root = some fp) (hfp : fp.l = pgB 2 512 [d]) (gd1 : Gd1 [d]) (hr : (Lit.int .i64 root).wf = true) (hr1 : ¬ root = 0) (hrd : rd < 4611686018427387000) (hr0 : 0 ≤ rd)
    (key : List Int) (ka : Option Addr) (kc0 : Nat) (hk : KS w b m ka key.length kc0 key) (h1 : key.length ≤ 64) (hdk : d.key = key) (hdv : d.val.length ≤ 96) (hlen : ∀ k f, M k = some f → f.g < w.heap.size) (p0 p1 p2 : Nat) (hp : p0 ≠ b ∧ p0 ≠ m ∧ p1 ≠ b ∧ p1 ≠ m ∧ p2 ≠ b ∧ p2 ≠ m)
    (c0 : w.cell? ⟨p0, 0, none⟩ = some (iB b)) (c1 : w.cell? ⟨p1, 0, none⟩ = some (.int .i64 root)) (c2 : w.cell? ⟨p2, 0, none⟩ = some (.slice ka key.length kc0)) :
    Calls Tryz.prog 18 #[.pointer (some ⟨p0, 0, none⟩), .pointer (some ⟨p1, 0, none⟩), .pointer (some ⟨p2, 0, none⟩)] w fun e w' => ∃ ko kn kc kd vo vn vc pg ct is, e = .returned (.agg #[.slice ko kn kc, .int .i64 kd, .slice vo vn vc, .int .i64 pg, .int .i64 ct, .bool is]) ∧ Hid (Cf (Bo b m) w w') ∧ Hid (GtTo b m rd M ct0 d (w.heap.size + 1) ko kn kc kd vo vn vc pg ct is w') := by
  obtain ⟨s, hs⟩ : ∃ s, w.heap.size = s := ⟨_, rfl⟩
  obtain ⟨x, hx⟩ : ∃ x, w.alloc (.cells #[.slice none 0 0, .int .i64 0, .slice none 0 0, .int .i64 0, .int .i64 0, .bool false] 46) = x := ⟨_, rfl⟩
  have hbx : Below w.heap.size w x := by rw [← hx]; exact bl_al (Below.refl _ _) (Nat.le_refl _) _
  have hq6 : QV6F x s (.slice none 0 0) (.int .i64 0) (.slice none 0 0) (.int .i64 0) (.int .i64 0) (.bool false) := by unfold QV6F; rw [← hx, ← hs]; exact heap_alloc_last w _
  have hxs : x.heap.size = s + 1 := by rw [← hx, ← hs]; simp
  have hcx : Cf (Bo b m) w x := Cf.of_below hbx
  have HN : Hid (b < s ∧ m < s ∧ x.heap.size = s + 1 ∧ w.heap.size = s) := hidden ⟨by have := hb.lt; omega, by have := hb.mlt; omega, hxs, hs⟩
  have HSF : Hid (∀ u, Cf (Bo b m) w u → S3c p0 p1 p2 (iB b) (.int .i64 root) (.slice ka key.length kc0) u) := hidden fun u hu => by
    have k : ∀ g q, ¬ Bo b m g → w.cell? ⟨g, 0, none⟩ = some q → u.cell? ⟨g, 0, none⟩ = some q := fun g q hg hq => (World.cell?_of_block (a := ⟨g, 0, none⟩) (hu.block g (World.block_lt_of_cell? w ⟨g, 0, none⟩ (by rw [hq])) hg)).trans hq
    exact ⟨k _ _ (by rintro (e | e) <;> omega) c0, k _ _ (by rintro (e | e) <;> omega) c1, k _ _ (by rintro (e | e) <;> omega) c2⟩
  have HWF : Hid (Calls Tryz.prog 19 #[iB b, .int .i64 root, .slice ka key.length kc0] x.drew (WayTo b m rd root M ct0 [d] key x.drew)) := hidden (by
    have hxd : Below w.heap.size w x.drew := hbx.drew
    have hcd : Cf (Bo b m) w x.drew := Cf.of_below hxd
    exact wayFor_leaf x.drew b m rd root M ct0 fp [d] (hb.on hxd) hr hr1 hMr hfp gd1 (by omega) hr0 (ht.go hcd) ka key.length kc0 key (hk.go hcd))
  have HK := hidden hk
  have HG := hidden gd1
  have HDK := hidden hdk
  have HCX := hidden hcx
  have HQ6 := hidden hq6
  have HMS := hidden hlen
  clear hbx hq6 hxs hcx hb ht hk hMr hfp gd1 hr hr1 hdk c0 c1 c2 hlen hp
  go_enter Tryz.func18, Tryz.ntmps18
  go_upto_region 1 with fail
  try rw [hx]
  clear hx
  refine wp_region_held_drew (S := S3c p0 p1 p2 (iB b) (.int .i64 root) (.slice ka key.length kc0)) (by kernel_rfl) (HSF.out _ (HCX.out.go (Cf.of_below (Below.refl _ _).drew))) (fun hHeld => ?_)
  refine wpAnyH_take (i := 0) (v := ?_) rfl (by kernel_rfl) (by kernel_rfl) (by kernel_rfl) (fun _ _ _ h => h) (Or.inl ⟨by rfl, ?_⟩) (by assumption) ?_
  rotate_left
  · (intro w hSw; obtain ⟨s0, s1, s2⟩ := hSw; go_simp; try (with_reducible rfl))
  try simp only [Act.put, List.getElem_toArray, List.getElem_cons_zero, List.setIfInBounds_toArray, List.set_cons_zero, List.set_cons_succ]
  refine wpAnyH_take (i := 1) (v := ?_) rfl (by kernel_rfl) (by kernel_rfl) (by kernel_rfl) (fun _ _ _ h => h) (Or.inl ⟨by rfl, ?_⟩) (by assumption) ?_
  rotate_left
  · (intro w hSw; obtain ⟨s0, s1, s2⟩ := hSw; go_simp; try (with_reducible rfl))
  try simp only [Act.put, List.getElem_toArray, List.getElem_cons_succ, List.getElem_cons_zero, List.setIfInBounds_toArray, List.set_cons_zero, List.set_cons_succ]
  refine wpAnyH_take (i := 2) (v := ?_) rfl (by kernel_rfl) (by kernel_rfl) (by kernel_rfl) (fun _ _ _ h => h) (Or.inl ⟨by rfl, ?_⟩) (by assumption) ?_
  rotate_left
  · (intro w hSw; obtain ⟨s0, s1, s2⟩ := hSw; go_simp; try (with_reducible rfl))
  try simp only [Act.put, List.getElem_toArray, List.getElem_cons_succ, List.getElem_cons_zero, List.setIfInBounds_toArray, List.set_cons_zero, List.set_cons_succ]
  refine wpAnyH_take (i := 4) (v := ?_) rfl (by kernel_rfl) (by kernel_rfl) (by kernel_rfl) (fun _ _ _ h => h) (Or.inl ⟨by rfl, ?_⟩) (by assumption) ?_
  rotate_left
  · (intro w hSw; obtain ⟨s0, s1, s2⟩ := hSw; go_simp; try (with_reducible rfl))
  try simp only [Act.put, List.getElem_toArray, List.getElem_cons_succ, List.getElem_cons_zero, List.setIfInBounds_toArray, List.set_cons_zero, List.set_cons_succ]
  refine wpAnyH_ready (rs := [3]) (by kernel_rfl) (by simp) ?_
  refine AllReadyH.cons rfl (fun K hK => ?_) AllReadyH.nil
  go_simp
  go_at_call 19
  refine HWF.out.mono ?_
  rintro e w4 ⟨gw, cw, rfl, HQ4⟩
  dsimp only
  have HC4 : Hid (Cf (Bo b m) x w4) := hidden ((Cf.of_below (Below.refl _ _).drew).go (by obtain ⟨_, _, _, _, h, _⟩ := HQ4.out; exact h))
  refine hK.out _ _ (HSF.out _ (HCX.out.go HC4.out)) (fun hHeld => ?_)
  clear hK K
  try simp only [Act.put, List.getElem_toArray, List.getElem_cons_succ, List.getElem_cons_zero, List.setIfInBounds_toArray, List.set_cons_zero, List.set_cons_succ]
  have HFD : Hid (Calls Tryz.prog 20 #[.slice (some ⟨gw, 0, none⟩) 1 cw, .slice ka key.length kc0] w4 (FoTo d true w4)) := hidden (by
    obtain ⟨a, r, q1, q2, q3, q4, vb, vs, q5⟩ := HQ4.out
    have hr0' : r = 0 := q2.one (by
      have := fnd_self (cs := [d]) (HG.out.is.rise) 0 d rfl
      rwa [HDK.out] at this)
    subst hr0'
    refine find_yes w4 _ d ka key.length kc0 key (HK.out w4 (HCX.out.go HC4.out)) HDK.out (HG.out.wf d (by simp)) (by rw [HDK.out]; omega) (fun u hu => ?_)
    have h := end_leaf u x.drew.heap.size x.drew.heap.size gw cw root a 0 (q1.on hu) vb vs [d] (q5.on hu) HG.out
    have e1 : cellE [d] ((0 : Nat) : Int) = d := by simp [cellE]
    have e2 : decide (remE [d] ((0 : Nat) : Int) = 0) = true := by simp [remE]
    rw [e1, e2] at h
    exact h)
  refine wpAnyH_ready (rs := [5]) (by kernel_rfl) (by simp) ?_
  refine AllReadyH.cons rfl (fun K hK => ?_) AllReadyH.nil
  go_simp
  go_at_call 20
  refine HFD.out.mono ?_
  rintro e w5 ⟨ko, kc', vo, vc', rfl, HO5, HB5⟩
  dsimp only
  have HC5 : Hid (Cf (Bo b m) x w5) := hidden (HC4.out.go (Cf.of_below HB5.out))
  refine hK.out _ _ (HSF.out _ (HCX.out.go HC5.out)) (fun hHeld => ?_)
  clear hK K HFD
  try simp only [Act.put, List.getElem_toArray, List.getElem_cons_succ, List.getElem_cons_zero, List.setIfInBounds_toArray, List.set_cons_zero, List.set_cons_succ]
  have hq5 : QV6F w5 s (.slice none 0 0) (.int .i64 0) (.slice none 0 0) (.int .i64 0) (.int .i64 0) (.bool false) := (HC5.out.block s (by have := HN.out; omega) (by have := HN.out; rintro (e | e) <;> omega)).trans HQ6.out
  have hq5' := hq5
  unfold QV6F at hq5'
  have r0 := cell_of_row _ _ 0 _ _ _ hq5'
  have r1 := cell_of_row _ _ 1 _ _ _ hq5'
  have r2 := cell_of_row _ _ 2 _ _ _ hq5'
  have r3 := cell_of_row _ _ 3 _ _ _ hq5'
  have r4 := cell_of_row _ _ 4 _ _ _ hq5'
  have r5 := cell_of_row _ _ 5 _ _ _ hq5'
  simp at r0 r1 r2 r3 r4 r5
  have fz : ∀ i, w5.frozen? ⟨s, i, none⟩ = false := fun i => by simp [World.frozen?, hq5']
  clear hq5'
  refine wpAnyH_ready (rs := [6]) (by kernel_rfl) (by simp) ?_
  refine AllReadyH.cons rfl (fun K hK => ?_) AllReadyH.nil
  go_simp
  have hcp := put6F_cf w5 s (.slice ko d.key.length kc') (.int .i64 d.kd) (.slice vo d.val.length vc') (.int .i64 d.pg) (.int .i64 d.ct) (.bool true)
  have hrp := put6F_row hq5 (.slice ko d.key.length kc') (.int .i64 d.kd) (.slice vo d.val.length vc') (.int .i64 d.pg) (.int .i64 d.ct) (.bool true)
  change K _ (put6F w5 s (.slice ko d.key.length kc') (.int .i64 d.kd) (.slice vo d.val.length vc') (.int .i64 d.pg) (.int .i64 d.ct) (.bool true))
  obtain ⟨y, hy⟩ : ∃ y, put6F w5 s (.slice ko d.key.length kc') (.int .i64 d.kd) (.slice vo d.val.length vc') (.int .i64 d.pg) (.int .i64 d.ct) (.bool true) = y := ⟨_, rfl⟩
  rw [hy] at hcp hrp ⊢
  have HCP := hidden hcp
  have HRP := hidden hrp
  have hS8 : S3c p0 p1 p2 (iB b) (.int .i64 root) (.slice ka key.length kc0) y := by
    refine HSF.out y ((HCX.out.go HC5.out).trans hcp (fun i hi e => by have := HN.out; omega))
  refine hK.out _ _ hS8 (fun hHeld => ?_)
  clear hK K hS8 hHeld hy hcp hrp r0 r1 r2 r3 r4 r5 fz hq5
  refine wpAnyH_done (by kernel_rfl) ?_ _
  go_wp2
  refine bodyPost_ret (results_cell_row rfl _ _ s 46 #[.slice ko d.key.length kc', .int .i64 d.kd, .slice vo d.val.length vc', .int .i64 d.pg, .int .i64 d.ct, .bool true] (0, 0) _ (by rfl) HRP.out Tryz.underlying46 rfl sizeFo1) rfl ?_
  have hn := HN.out
  have h4 := HC4.out.size
  obtain ⟨ao', c', e1, k1, k2⟩ := HO5.out.2.sl (HG.out.wf d (by simp)).2 (by omega)
  injection e1 with i1 i2 i3
  subst i1 i3
  have hv : VL w5 vo d.val.length vc' d.val (w.heap.size + 1) := ⟨k1, fun q hq => by have := k2 q hq; omega⟩
  have hbq : Bq w5 b m (rd + 1) M ct0 := by
    obtain ⟨a, r, q1, q2, q3, q4, vb, vs, q5⟩ := HQ4.out
    exact q4.on HB5.out
  exact ⟨ko, _, kc', d.kd, vo, _, vc', d.pg, d.ct, true, rfl, hidden ((HCX.out.go HC5.out).trans HCP.out (fun i hi e => by omega)), hidden ⟨rfl, rfl, hv.cf HCP.out (fun k hk e => by omega), hbq.cf HCP.out (by omega) (by omega) (fun k f hk e => by have := HMS.out k f hk; omega)⟩⟩
set_option maxRecDepth 100000 in
theorem results_ctt {P : Program} {fn : Func} {q r t : Tmp} {ty : TypeId} (h : fn.results = #[.cell q ty, .tmp r, .tmp t]) (tmps : Array Value) (w : World) (g : Nat) (tt : TypeId) (cs : Array Value) (fr : Nat × Nat) (d : TypeDesc) (y z : Value)
    (hq : tmps.getD q undef = .pointer (some ⟨g, 0, none⟩)) (hr : tmps.getD r undef = y) (ht : tmps.getD t undef = z) (hg : w.heap[g]? = some (.cells cs tt fr))
    (hu : P.underlying ty = some d) (hd : (match d with | .struct _ | .array _ _ => true | _ => false) = true) (hi : (P.info? ty).map (·.size) = some cs.size) :
    (results fn tmps).run P w = .ok (.tuple #[.agg cs, y, z]) w := by
  have hq' : (tmps[q]?.getD undef) = .pointer (some ⟨g, 0, none⟩) := by simpa using hq
  have hr' : (tmps[r]?.getD undef) = y := by simpa using hr
  have ht' : (tmps[t]?.getD undef) = z := by simpa using ht
  simp [results, h, hq', hr', ht', asAddr, run_loadVar_row w g tt ty cs fr d hg hu hd hi]
end Go.Proofs.YtfcbfombobelmaaGreatDoor
