/- Layer 12: Get and Len. -/
import Derived.Test.YtfcbfombobelmaaGreatDoorJ45
namespace Go.Proofs.YtfcbfombobelmaaGreatDoor
open Go.RowKit

set_option maxRecDepth 100000 in
set_option maxHeartbeats 2000000 in
theorem Get_ok (w : World) (b : Nat) (root : Int) (ka : Option Addr) (kl kq : Nat) (G : Nat → Prop) (hG : ∀ i, G i → i < w.heap.size)
    (Q : Option Addr → Nat → Nat → Int → Option Addr → Nat → Nat → Int → Int → Bool → World → Prop)
    (hp : ∀ u, Below w.heap.size w u → u.heap.size = w.heap.size + 6 → u.cell? ⟨w.heap.size, 0, none⟩ = some (iB b) → u.cell? ⟨w.heap.size + 1, 0, none⟩ = some (.int .i64 root) → u.cell? ⟨w.heap.size + 2, 0, none⟩ = some (.slice ka kl kq) → Calls Tryz.prog 18 #[.pointer (some ⟨w.heap.size, 0, none⟩), .pointer (some ⟨w.heap.size + 1, 0, none⟩), .pointer (some ⟨w.heap.size + 2, 0, none⟩)] u fun e u' => ∃ ko kn kc kd vo vn vc pg ct is, e = .returned (.agg #[.slice ko kn kc, .int .i64 kd, .slice vo vn vc, .int .i64 pg, .int .i64 ct, .bool is]) ∧ Hid (Cf G u u') ∧ Hid (Q ko kn kc kd vo vn vc pg ct is u'))
    (hQ : ∀ ko kn kc kd vo vn vc pg ct is x y, Q ko kn kc kd vo vn vc pg ct is x → Cf (Sv w.heap.size) x y → Q ko kn kc kd vo vn vc pg ct is y) :
    Calls Tryz.prog 10 #[iB b, .int .i64 root, .slice ka kl kq] w fun e w' => ∃ ko kn kc kd vo vn vc pg ct is, e = .returned (.tuple #[.agg #[.slice ko kn kc, .int .i64 kd, .slice vo vn vc, .int .i64 pg, .int .i64 ct], .bool is, .int .i64 0]) ∧ Hid (Cf G w w') ∧ Hid (Q ko kn kc kd vo vn vc pg ct is w') := by
  have hmf : ∀ (fn : Fn) (first cap : Array Value) (w : World), (Instr.makeFunc fn first cap).run Tryz.prog w = .ok (.func fn first cap) w := fun _ _ _ _ => rfl
  obtain ⟨s, hs⟩ : ∃ s, w.heap.size = s := ⟨_, rfl⟩
  obtain ⟨x, hx⟩ : ∃ x, (((w.alloc (.cells #[iB b] 44)).alloc (.cells #[.int .i64 root] 3)).alloc (.cells #[.slice ka kl kq] 27)).alloc (.cells #[.slice none 0 0, .int .i64 0, .slice none 0 0, .int .i64 0, .int .i64 0] 29) = x := ⟨_, rfl⟩
  have hbx : Below w.heap.size w x := by rw [← hx]; exact bl_al (bl_al (bl_al (bl_al (Below.refl _ _) (Nat.le_refl _) _) (Nat.le_refl _) _) (Nat.le_refl _) _) (Nat.le_refl _) _
  have hxs : x.heap.size = s + 4 := by rw [← hx, ← hs]; simp
  have b0 : x.heap[s]? = some (.cells #[iB b] 44 (0, 0)) := by
    rw [← hx, ← hs]
    exact (Below.heap_alloc _ _ _ (by simp only [World.size_alloc]; omega)).trans ((Below.heap_alloc _ _ _ (by simp only [World.size_alloc]; omega)).trans ((Below.heap_alloc _ _ _ (by simp only [World.size_alloc]; omega)).trans (heap_alloc_last w _)))
  have b1 : x.heap[s + 1]? = some (.cells #[.int .i64 root] 3 (0, 0)) := by
    rw [← hx, ← hs]
    refine (Below.heap_alloc _ _ _ (by simp only [World.size_alloc]; omega)).trans ((Below.heap_alloc _ _ _ (by simp only [World.size_alloc]; omega)).trans ?_)
    have := heap_alloc_last (w.alloc (.cells #[iB b] 44)) (.cells #[.int .i64 root] 3)
    simp only [World.size_alloc] at this
    exact this
  have b2 : x.heap[s + 2]? = some (.cells #[.slice ka kl kq] 27) := by
    rw [← hx, ← hs]
    refine (Below.heap_alloc _ _ _ (by simp only [World.size_alloc]; omega)).trans ?_
    have := heap_alloc_last ((w.alloc (.cells #[iB b] 44)).alloc (.cells #[.int .i64 root] 3)) (.cells #[.slice ka kl kq] 27)
    simp only [World.size_alloc] at this
    exact this
  have b3 : C5 x (s + 3) (.slice none 0 0) (.int .i64 0) (.slice none 0 0) (.int .i64 0) (.int .i64 0) := by
    unfold C5
    rw [← hx, ← hs]
    have := heap_alloc_last (((w.alloc (.cells #[iB b] 44)).alloc (.cells #[.int .i64 root] 3)).alloc (.cells #[.slice ka kl kq] 27)) (.cells #[.slice none 0 0, .int .i64 0, .slice none 0 0, .int .i64 0, .int .i64 0] 29)
    simp only [World.size_alloc] at this
    exact this
  have HCT := hidden (caughtG_ok #[.pointer (some ⟨s, 0, none⟩), .pointer (some ⟨s + 1, 0, none⟩), .pointer (some ⟨s + 2, 0, none⟩)] x G (fun i hi => by have := hG i hi; omega) Q (fun u hu hus => by
    have h0 : u.cell? ⟨s, 0, none⟩ = some (iB b) := by rw [cell_of_row _ _ 0 _ _ _ ((hu.block s (by omega)).trans b0)]; rfl
    have h1 : u.cell? ⟨s + 1, 0, none⟩ = some (.int .i64 root) := by rw [cell_of_row _ _ 0 _ _ _ ((hu.block (s + 1) (by omega)).trans b1)]; rfl
    have h2 := (hu.block (s + 2) (by omega)).trans b2
    have h2' : u.cell? ⟨s + 2, 0, none⟩ = some (.slice ka kl kq) := by rw [cell_of_row _ _ 0 _ _ _ h2]; rfl
    have := hp u (bl_go hbx (Nat.le_refl _) hu) (by omega)
    rw [hs] at this
    exact this h0 h1 h2')
    (fun ko kn kc kd vo vn vc pg ct is x' y' h h' => hQ ko kn kc kd vo vn vc pg ct is x' y' h (h'.wideB (fun k e => by rcases e with e | e <;> exact ⟨by omega, by omega⟩))))
  have HQ := hidden hQ
  have HBX := hidden hbx
  have HB3 := hidden b3
  have HN : Hid (x.heap.size = s + 4 ∧ w.heap.size = s ∧ ¬ G (s + 3)) := hidden ⟨hxs, hs, fun h => by have := hG _ h; omega⟩
  clear hp hQ hbx hxs b0 b1 b2 b3
  go_enter Tryz.func10, Tryz.ntmps10
  go_wp2_with (first | (go_at_call 17; refine HCT.out.mono ?_; rintro e w1 ⟨ko, kn, kc, kd, vo, vn, vc, pg, ct, is, rfl, HC1, HQ1⟩; refine Hid.out ?_))
  apply hidden
  clear HCT hx
  go_upto_region 2 with fail
  obtain ⟨z, hz⟩ : ∃ z, w1.alloc (.cells #[.slice ko kn kc, .int .i64 kd, .slice vo vn vc, .int .i64 pg, .int .i64 ct, .bool is] 46) = z := ⟨_, rfl⟩
  obtain ⟨fb, hfb⟩ : ∃ fb, w1.heap.size = fb := ⟨_, rfl⟩
  have hbz : Below w1.heap.size w1 z := by rw [← hz]; exact bl_al (Below.refl _ _) (Nat.le_refl _) _
  have hq7 : QV6F z fb (.slice ko kn kc) (.int .i64 kd) (.slice vo vn vc) (.int .i64 pg) (.int .i64 ct) (.bool is) := by unfold QV6F; rw [← hz, ← hfb]; exact heap_alloc_last w1 _
  have h1 : C5 w1 (s + 3) (.slice none 0 0) (.int .i64 0) (.slice none 0 0) (.int .i64 0) (.int .i64 0) := (HC1.out.block (s + 3) (by have := HN.out; omega) HN.out.2.2).trans HB3.out
  have hcz : C5 z (s + 3) (.slice none 0 0) (.int .i64 0) (.slice none 0 0) (.int .i64 0) (.int .i64 0) := box_on h1 hbz
  obtain ⟨g0, g1, g2, g3, g4⟩ := hcz.cells
  have fz : ∀ i, z.frozen? ⟨s + 3, i, none⟩ = false := fun i => by unfold C5 at hcz; simp [World.frozen?, hcz]
  have HF : Hid (s + 3 < fb ∧ fb < z.heap.size) := hidden ⟨by have := lt_some h1; omega, lt_some hq7⟩
  have HQ7 := hidden hq7
  have HCZ := hidden hcz
  have HBZ := hidden hbz
  rw [hz, hfb]
  clear hz hfb hbz hq7 h1 hcz
  refine wp_region_held_drew (S := S6 fb (.slice ko kn kc) (.int .i64 kd) (.slice vo vn vc) (.int .i64 pg) (.int .i64 ct) (.bool is)) (by kernel_rfl) (S6.of HQ7.out) (fun hHeld => ?_)
  refine wpAnyH_take (i := 0) (v := ?_) rfl (by kernel_rfl) (by kernel_rfl) (by kernel_rfl) (fun _ _ _ h => h) (Or.inl ⟨by rfl, ?_⟩) (by assumption) ?_
  rotate_left
  · (intro w hSw; obtain ⟨s0, s1, s2, s3, s4, s5⟩ := hSw; go_simp; try (with_reducible rfl))
  try simp only [Act.put, List.getElem_toArray, List.getElem_cons_zero, List.setIfInBounds_toArray, List.set_cons_zero, List.set_cons_succ]
  refine wpAnyH_take (i := 1) (v := ?_) rfl (by kernel_rfl) (by kernel_rfl) (by kernel_rfl) (fun _ _ _ h => h) (Or.inl ⟨by rfl, ?_⟩) (by assumption) ?_
  rotate_left
  · (intro w hSw; obtain ⟨s0, s1, s2, s3, s4, s5⟩ := hSw; go_simp; try (with_reducible rfl))
  try simp only [Act.put, List.getElem_toArray, List.getElem_cons_succ, List.getElem_cons_zero, List.setIfInBounds_toArray, List.set_cons_zero, List.set_cons_succ]
  refine wpAnyH_take (i := 2) (v := ?_) rfl (by kernel_rfl) (by kernel_rfl) (by kernel_rfl) (fun _ _ _ h => h) (Or.inl ⟨by rfl, ?_⟩) (by assumption) ?_
  rotate_left
  · (intro w hSw; obtain ⟨s0, s1, s2, s3, s4, s5⟩ := hSw; go_simp; try (with_reducible rfl))
  try simp only [Act.put, List.getElem_toArray, List.getElem_cons_succ, List.getElem_cons_zero, List.setIfInBounds_toArray, List.set_cons_zero, List.set_cons_succ]
  refine wpAnyH_take (i := 3) (v := ?_) rfl (by kernel_rfl) (by kernel_rfl) (by kernel_rfl) (fun _ _ _ h => h) (Or.inl ⟨by rfl, ?_⟩) (by assumption) ?_
  rotate_left
  · (intro w hSw; obtain ⟨s0, s1, s2, s3, s4, s5⟩ := hSw; go_simp; try (with_reducible rfl))
  try simp only [Act.put, List.getElem_toArray, List.getElem_cons_succ, List.getElem_cons_zero, List.setIfInBounds_toArray, List.set_cons_zero, List.set_cons_succ]
  refine wpAnyH_take (i := 4) (v := ?_) rfl (by kernel_rfl) (by kernel_rfl) (by kernel_rfl) (fun _ _ _ h => h) (Or.inl ⟨by rfl, ?_⟩) (by assumption) ?_
  rotate_left
  · (intro w hSw; obtain ⟨s0, s1, s2, s3, s4, s5⟩ := hSw; go_simp; try (with_reducible rfl))
  try simp only [Act.put, List.getElem_toArray, List.getElem_cons_succ, List.getElem_cons_zero, List.setIfInBounds_toArray, List.set_cons_zero, List.set_cons_succ]
  refine wpAnyH_ready (rs := [5]) (by kernel_rfl) (by simp) ?_
  refine AllReadyH.cons rfl (fun K hK => ?_) AllReadyH.nil
  go_simp
  have hcp := put5c_cf z.drew (s + 3) (.slice ko kn kc) (.int .i64 kd) (.slice vo vn vc) (.int .i64 pg) (.int .i64 ct)
  have hrp := put5c_row (w := z.drew) HCZ.out (.slice ko kn kc) (.int .i64 kd) (.slice vo vn vc) (.int .i64 pg) (.int .i64 ct)
  have hf := HF.out
  have hS8 : S6 fb (.slice ko kn kc) (.int .i64 kd) (.slice vo vn vc) (.int .i64 pg) (.int .i64 ct) (.bool is) (put5c z.drew (s + 3) (.slice ko kn kc) (.int .i64 kd) (.slice vo vn vc) (.int .i64 pg) (.int .i64 ct)) := S6.of ((hcp.block fb hf.2 (by omega)).trans HQ7.out)
  change K _ (put5c z.drew (s + 3) (.slice ko kn kc) (.int .i64 kd) (.slice vo vn vc) (.int .i64 pg) (.int .i64 ct))
  obtain ⟨y, hy⟩ : ∃ y, put5c z.drew (s + 3) (.slice ko kn kc) (.int .i64 kd) (.slice vo vn vc) (.int .i64 pg) (.int .i64 ct) = y := ⟨_, rfl⟩
  rw [hy] at hcp hrp hS8 ⊢
  have HCP := hidden hcp
  have HRP := hidden hrp
  refine hK.out _ _ hS8 (fun hHeld => ?_)
  clear hK K hS8 hy hcp hrp hf g0 g1 g2 g3 g4 fz
  try simp only [Act.put, List.getElem_toArray, List.getElem_cons_succ, List.getElem_cons_zero, List.setIfInBounds_toArray, List.set_cons_zero, List.set_cons_succ]
  refine wpAnyH_take (i := 6) (v := ?_) rfl (by kernel_rfl) (by kernel_rfl) (by kernel_rfl) (fun _ _ _ h => h) (Or.inl ⟨by rfl, ?_⟩) (by assumption) ?_
  rotate_left
  · (intro w hSw; obtain ⟨s0, s1, s2, s3, s4, s5⟩ := hSw; go_simp; try (with_reducible rfl))
  try simp only [Act.put, List.getElem_toArray, List.getElem_cons_succ, List.getElem_cons_zero, List.setIfInBounds_toArray, List.set_cons_zero, List.set_cons_succ]
  refine wpAnyH_take (i := 7) (v := ?_) rfl (by kernel_rfl) (by kernel_rfl) (by kernel_rfl) (fun _ _ _ h => h) (Or.inl ⟨by rfl, ?_⟩) (by assumption) ?_
  rotate_left
  · (intro w hSw; obtain ⟨s0, s1, s2, s3, s4, s5⟩ := hSw; go_simp; try (with_reducible rfl))
  try simp only [Act.put, List.getElem_toArray, List.getElem_cons_succ, List.getElem_cons_zero, List.setIfInBounds_toArray, List.set_cons_zero, List.set_cons_succ]
  refine wpAnyH_done (by kernel_rfl) ?_ _
  clear hHeld
  go_wp2
  refine bodyPost_ret (results_ctt rfl _ _ (s + 3) 29 #[.slice ko kn kc, .int .i64 kd, .slice vo vn vc, .int .i64 pg, .int .i64 ct] (0, 0) _ _ _ (by rfl) (by rfl) (by rfl) HRP.out Tryz.underlying29 rfl sizeCe) rfl ?_
  have hn := HN.out
  have hcq : Cf (· = s + 3) w1 y := (Cf.of_below (HBZ.out.drew)).go HCP.out
  exact ⟨ko, kn, kc, kd, vo, vn, vc, pg, ct, is, rfl, hidden (((Cf.of_below HBX.out).go HC1.out).trans hcq (fun i hi e => by omega)), hidden (HQ.out _ _ _ _ _ _ _ _ _ _ _ _ HQ1.out (hcq.wideB (fun k e => ⟨by omega, by omega⟩)))⟩
set_option maxRecDepth 100000 in
theorem ahead_leaf (w : World) (B a : Nat) (vb vs : Value) (cs : List Cl) (x : Int) (hp : Po w B a 2 512 vb vs cs) :
    Calls Tryz.prog 24 #[iP a, .int .i64 x] w fun e w' => e = .returned (.int .i64 x) ∧ w' = w := by
  have HK := hidden (kindP_any w a 2 512 _ _ hp.row)
  clear hp
  go_enter Tryz.func24, Tryz.ntmps24
  go_wp2_with (first | (go_at_call 217; refine same_call HK.out ?_))
  go_ret
  exact ⟨rfl, rfl⟩
set_option maxRecDepth 100000 in
theorem lenC_1 (w : World) (b m : Nat) (rd root : Int) (M : Int → Option Pf) (ct0 : Nat) (hb : Bq w b m rd M ct0) (ht : TB w b m) (fp : Pf) (d : Cl) (hMr : M root = some fp) (hfp : fp.l = pgB 2 512 [d]) (gd1 : Gd1 [d]) (hr : (Lit.int .i64 root).wf = true) (hrd : rd < 4611686018427387000) (hr0 : 0 ≤ rd) (p0 p1 : Nat)
    (c0 : w.cell? ⟨p0, 0, none⟩ = some (iB b)) (c1 : w.cell? ⟨p1, 0, none⟩ = some (.int .i64 root)) :
    Calls Tryz.prog 22 #[.pointer (some ⟨p0, 0, none⟩), .pointer (some ⟨p1, 0, none⟩)] w fun e w' => ∃ r, e = .returned (.int .i64 r) ∧ Hid (Cf (Bo b m) w w') ∧ Hid (r = 1 ∧ Bq w' b m (rd + 1) M ct0) := by
  have HR := hidden (tread_leaf w b m rd root M ct0 fp [d] hb hr hMr hfp gd1 (by omega) hr0 ht)
  clear hb ht hMr hfp gd1 hr
  go_enter Tryz.func22, Tryz.ntmps22
  go_wp2_with (first | (go_at_call 23; refine HR.out.mono ?_; rintro e w1 ⟨a, rfl, HQ⟩; refine Hid.out ?_))
  apply hidden
  have HLN : Hid (Calls Tryz.prog 103 #[.pointer (some ⟨a, 0, none⟩)] w1 fun e w' => e = .returned (.int .i64 1) ∧ w' = w1) := hidden (by
    obtain ⟨_, _, _, vb, vs, hp⟩ := HQ.out
    obtain ⟨bo, bc, rfl⟩ := hp.body.slice
    obtain ⟨so, sc, rfl⟩ := hp.starts.shape
    exact lenR_any w1 a 2 512 _ so 1 sc hp.row)
  have HAH : Hid (Calls Tryz.prog 24 #[iP a, .int .i64 1] w1 fun e w' => e = .returned (.int .i64 1) ∧ w' = w1) := hidden (by
    obtain ⟨_, _, _, vb, vs, hp⟩ := HQ.out
    exact ahead_leaf w1 _ a vb vs [d] 1 hp)
  go_wp2_with (first | (go_at_call 103; refine same_call HLN.out ?_) | (go_at_call 24; refine same_call HAH.out ?_))
  go_ret
  obtain ⟨h1, h2, _⟩ := HQ.out
  exact ⟨1, rfl, hidden h1, hidden ⟨rfl, h2⟩⟩
set_option maxRecDepth 100000 in
theorem Len_1 (w : World) (b m : Nat) (rd root : Int) (M : Int → Option Pf) (ct0 : Nat) (hb : Bq w b m rd M ct0) (ht : TB w b m) (fp : Pf) (d : Cl) (hMr : M root = some fp) (hfp : fp.l = pgB 2 512 [d]) (gd1 : Gd1 [d]) (hr : (Lit.int .i64 root).wf = true) (hr1 : ¬ root = 0) (hrd : rd < 4611686018427387000) (hr0 : 0 ≤ rd) (hMs : ∀ k f, M k = some f → f.g < w.heap.size) :
    Calls Tryz.prog 11 #[iB b, .int .i64 root] w fun e w' => e = .returned (.tuple #[.int .i64 1, .int .i64 0]) ∧ Hid (Cf (Bo b m) w w' ∧ Bq w' b m (rd + 1) M ct0) := by
  have hmf : ∀ (fn : Fn) (first cap : Array Value) (w : World), (Instr.makeFunc fn first cap).run Tryz.prog w = .ok (.func fn first cap) w := fun _ _ _ _ => rfl
  obtain ⟨s, hs⟩ : ∃ s, w.heap.size = s := ⟨_, rfl⟩
  obtain ⟨x, hx⟩ : ∃ x, (w.alloc (.cells #[iB b] 44)).alloc (.cells #[.int .i64 root] 3) = x := ⟨_, rfl⟩
  have hbx : Below w.heap.size w x := by rw [← hx]; exact bl_al (bl_al (Below.refl _ _) (Nat.le_refl _) _) (Nat.le_refl _) _
  have hxs : x.heap.size = s + 2 := by rw [← hx, ← hs]; simp
  have b0 : x.heap[s]? = some (.cells #[iB b] 44 (0, 0)) := by
    rw [← hx, ← hs]
    exact (Below.heap_alloc _ _ _ (by simp only [World.size_alloc]; omega)).trans (heap_alloc_last w _)
  have b1 : x.heap[s + 1]? = some (.cells #[.int .i64 root] 3 (0, 0)) := by
    rw [← hx, ← hs]
    have := heap_alloc_last (w.alloc (.cells #[iB b] 44)) (.cells #[.int .i64 root] 3)
    simp only [World.size_alloc] at this
    exact this
  have y1 : x.cell? ⟨s + 1, 0, none⟩ = some (.int .i64 root) := by rw [cell_of_row _ _ 0 _ _ _ b1]; rfl
  have hbl := hb.lt
  have hml := hb.mlt
  have HCT := hidden (caughtL_ok #[.pointer (some ⟨s, 0, none⟩), .pointer (some ⟨s + 1, 0, none⟩)] x (Bo b m) (fun i hi => by rcases hi with e | e <;> omega) (fun r u => r = 1 ∧ Bq u b m (rd + 1) M ct0) (fun u hu hus => by
    have h0 : u.cell? ⟨s, 0, none⟩ = some (iB b) := by rw [cell_of_row _ _ 0 _ _ _ ((hu.block s (by omega)).trans b0)]; rfl
    have h1 : u.cell? ⟨s + 1, 0, none⟩ = some (.int .i64 root) := by rw [cell_of_row _ _ 0 _ _ _ ((hu.block (s + 1) (by omega)).trans b1)]; rfl
    have hwu := bl_go hbx (Nat.le_refl _) hu
    exact lenC_1 u b m rd root M ct0 (hb.on hwu) (ht.go (Cf.of_below hwu)) fp d hMr hfp gd1 hr hrd hr0 s (s + 1) h0 h1)
    (fun r u v h h' => ⟨h.1, h.2.cf h' (by rintro (e | e) <;> omega) (by rintro (e | e) <;> omega) (fun k f hk e => by have := hMs k f hk; rcases e with e | e <;> omega)⟩))
  have HBX := hidden hbx
  clear hb ht hMr hfp gd1 hr hMs hbx hxs b0 b1 hbl hml
  go_enter Tryz.func11, Tryz.ntmps11
  go_wp2_with (first | (go_at_call 21; refine HCT.out.mono ?_; rintro e w1 ⟨r, rfl, HC1, HQ1⟩))
  go_ret2
  obtain ⟨h1, h2⟩ := HQ1.out
  subst h1
  exact ⟨rfl, hidden ⟨(Cf.of_below HBX.out).go HC1.out, h2⟩⟩
end Go.Proofs.YtfcbfombobelmaaGreatDoor
