/- The document's Decode of a meta page, followed as its text goes. -/
import Derived.Test.YtoifjcliepongaaDoorMv
import Derived.Deep.RegionHeld3
namespace Go.Proofs.YtoifjcliepongaaDoor
open Go.RowKit

set_option maxRecDepth 100000 in
theorem sl_heap {w v : World} {ao : Option Addr} {n cap : Nat} {l : List Int} (h : Sl w ao n cap l) (hv : v.heap = w.heap) : Sl v ao n cap l := by
  refine ⟨h.hlen, h.hcap, h.hroom, h.wf, h.hnil, ?_⟩
  rcases h.hat with h0 | ⟨b, off, e, hlt, hc⟩
  · exact .inl h0
  · exact .inr ⟨b, off, e, by rw [hv]; exact hlt, fun i hi => (World.cell?_of_block (w := w) (a := ⟨b, off + i, none⟩) (by rw [hv])).trans (hc i hi)⟩

set_option maxRecDepth 100000 in
set_option maxHeartbeats 4000000 in
theorem rDecode_any (ao : Option Addr) (n cap : Nat) (l : List Int) (w : World) (hs : Sl w ao n cap l) : Calls Tryd.prog 18 #[.slice ao n cap] w fun e w' => Dec5 l w e w' := by
  have HS := hidden hs
  have hlen := hs.hlen
  have HL := hidden hlen
  have hroom := hs.hroom
  have HWF := hidden hs.wf
  clear hs
  have HW0 : Hid (Below w.heap.size w (w.alloc (.cells (mtC Mt.z) 24))) := hidden (bl_al (Below.refl _ w) (Nat.le_refl _) _)
  by_cases h512 : n < 512
  · have hc : (n : Int) < 512 := by omega
    have HSN := hidden (says_short (l := l) (by omega))
    clear hlen
    go_enter Tryd.func18, Tryd.ntmps18
    go_wp2_with (refine wpList_store_row rfl _ _ _ rfl w.heap.size (mtC Mt.z) (by rfl) (by rfl) 24 _ (heap_alloc_last w _) (mtC_size _) (by rfl) (mtC_one _) ?_; rw [World.setRow_alloc_new])
    refine bodyPost_ret (results_row2 rfl _ _ w.heap.size 24 (mtC Mt.z) (0, 0) _ (.int .i64 50) (by rfl) (by rfl) (heap_alloc_last w _) Tryd.underlying24 rfl (mtC_size _)) rfl ?_
    exact Dec5.no HSN.out HW0.out
  have hge : 512 ≤ n := by omega
  have hc : ¬ (n : Int) < 512 := by omega
  obtain ⟨b, off, hao, hbl, hbc⟩ := HS.out.hat.resolve_left (by omega)
  subst hao
  have hal : ∀ o i, i < n → (w.alloc o).cell? ⟨b, off + i, none⟩ = some (.int .u8 (l.getD i 0)) := fun o i hi => ((Below.refl _ _).alloc (Nat.le_refl _) o).cell (p := ⟨b, off + i, none⟩) hbl |>.trans (hbc i hi)
  have h12 := hbc 12 (by omega)
  have g12 := HWF.out.getD 12
  by_cases d12 : 127 < l.getD 12 0
  · have HSN : Hid (¬ ∃ m', Says l m') := hidden fun ⟨m', h⟩ => by have := says_12 HWF.out h; omega
    generalize l.getD 12 0 = y at *
    clear hbc hal hlen
    go_enter Tryd.func18, Tryd.ntmps18
    go_wp2_with (refine wpList_store_row rfl _ _ _ rfl w.heap.size (mtC Mt.z) (by rfl) (by rfl) 24 _ (heap_alloc_last w _) (mtC_size _) (by rfl) (mtC_one _) ?_; rw [World.setRow_alloc_new])
    refine bodyPost_ret (results_row2 rfl _ _ w.heap.size 24 (mtC Mt.z) (0, 0) _ (.int .i64 50) (by rfl) (by rfl) (heap_alloc_last w _) Tryd.underlying24 rfl (mtC_size _)) rfl ?_
    exact Dec5.no HSN.out HW0.out
  have HN12 := hidden (low_12 HWF.out (by omega) (by omega))
  have h1 := hal (.cells (mtC Mt.z) 24) 1 (by omega)
  have h1w := hbc 1 (by omega)
  have g1 := HWF.out.getD 1
  have HE1 := hidden (one_1 (l := l) (by omega))
  have H1A : Hid (∀ o, ((w.alloc (.cells (mtC Mt.z) 24)).alloc o).cell? ⟨b, off + 1, none⟩ = some (.int .u8 (l.getD 1 0))) := hidden fun o => ((Below.refl _ _).alloc (Nat.le_refl _) o).cell (p := ⟨b, off + 1, none⟩) (by simp; omega) |>.trans h1
  have HW0' : Hid (Below w.heap.size w (w.alloc (.cells #[.int .i64 0, .int .i64 0, .int .i64 0, .int .i64 0, .int .i64 0, .int .i64 0, .int .i64 0, .int .i64 0] 24))) := HW0
  have HNUM : Hid (∀ p d : Nat, p + d ≤ 512 → d ≤ 8 → rdN l p d ≤ 9223372036854775807 → ∀ v, Below w.heap.size w v → Calls Tryd.prog 36 #[.slice (some ⟨b, off, none⟩) n cap, .int .i64 (p : Int), .int .i64 (d : Int)] v fun e w' => e = .returned (.int .i64 (rdN l p d)) ∧ w' = v) :=
    hidden fun p d h1 h2 h3 v hv => number_any _ _ _ _ p d v (HS.out.on (Nat.le_refl _) hv) (by omega) h2 h3
  have A8 : Hid (Calls Tryd.prog 36 #[.slice (some ⟨b, off, none⟩) n cap, .int .i64 8, .int .i64 4] (w.alloc (.cells #[.int .i64 0, .int .i64 0, .int .i64 0, .int .i64 0, .int .i64 0, .int .i64 0, .int .i64 0, .int .i64 0] 24)).drew fun e w' => e = .returned (.int .i64 (rdN l 8 4)) ∧ w' = (w.alloc (.cells #[.int .i64 0, .int .i64 0, .int .i64 0, .int .i64 0, .int .i64 0, .int .i64 0, .int .i64 0, .int .i64 0] 24)).drew) := hidden (HNUM.out 8 4 (by omega) (by omega) (by have := rd_four l HWF.out 8; omega) _ HW0'.out.drew)
  have B8 : Hid (Calls Tryd.prog 36 #[.slice (some ⟨b, off, none⟩) n cap, .int .i64 8, .int .i64 4] ((w.alloc (.cells #[.int .i64 0, .int .i64 0, .int .i64 0, .int .i64 0, .int .i64 0, .int .i64 0, .int .i64 0, .int .i64 0] 24)).alloc (.cells #[.int .i64 0, .int .i64 0, .int .i64 0, .int .i64 0, .int .i64 0, .int .i64 0, .int .i64 0, .int .i64 0] 24)).drew fun e w' => e = .returned (.int .i64 (rdN l 8 4)) ∧ w' = ((w.alloc (.cells #[.int .i64 0, .int .i64 0, .int .i64 0, .int .i64 0, .int .i64 0, .int .i64 0, .int .i64 0, .int .i64 0] 24)).alloc (.cells #[.int .i64 0, .int .i64 0, .int .i64 0, .int .i64 0, .int .i64 0, .int .i64 0, .int .i64 0, .int .i64 0] 24)).drew) := hidden (HNUM.out 8 4 (by omega) (by omega) (by have := rd_four l HWF.out 8; omega) _ (bl_al HW0'.out (Nat.le_refl _) _).drew)
  have A12 : Hid (Calls Tryd.prog 36 #[.slice (some ⟨b, off, none⟩) n cap, .int .i64 12, .int .i64 8] (w.alloc (.cells #[.int .i64 0, .int .i64 0, .int .i64 0, .int .i64 0, .int .i64 0, .int .i64 0, .int .i64 0, .int .i64 0] 24)).drew fun e w' => e = .returned (.int .i64 (rdN l 12 8)) ∧ w' = (w.alloc (.cells #[.int .i64 0, .int .i64 0, .int .i64 0, .int .i64 0, .int .i64 0, .int .i64 0, .int .i64 0, .int .i64 0] 24)).drew) := hidden (HNUM.out 12 8 (by omega) (by omega) HN12.out _ HW0'.out.drew)
  have B12 : Hid (Calls Tryd.prog 36 #[.slice (some ⟨b, off, none⟩) n cap, .int .i64 12, .int .i64 8] ((w.alloc (.cells #[.int .i64 0, .int .i64 0, .int .i64 0, .int .i64 0, .int .i64 0, .int .i64 0, .int .i64 0, .int .i64 0] 24)).alloc (.cells #[.int .i64 0, .int .i64 0, .int .i64 0, .int .i64 0, .int .i64 0, .int .i64 0, .int .i64 0, .int .i64 0] 24)).drew fun e w' => e = .returned (.int .i64 (rdN l 12 8)) ∧ w' = ((w.alloc (.cells #[.int .i64 0, .int .i64 0, .int .i64 0, .int .i64 0, .int .i64 0, .int .i64 0, .int .i64 0, .int .i64 0] 24)).alloc (.cells #[.int .i64 0, .int .i64 0, .int .i64 0, .int .i64 0, .int .i64 0, .int .i64 0, .int .i64 0, .int .i64 0] 24)).drew) := hidden (HNUM.out 12 8 (by omega) (by omega) HN12.out _ (bl_al HW0'.out (Nat.le_refl _) _).drew)
  have A20 : Hid (Calls Tryd.prog 36 #[.slice (some ⟨b, off, none⟩) n cap, .int .i64 20, .int .i64 4] (w.alloc (.cells #[.int .i64 0, .int .i64 0, .int .i64 0, .int .i64 0, .int .i64 0, .int .i64 0, .int .i64 0, .int .i64 0] 24)).drew fun e w' => e = .returned (.int .i64 (rdN l 20 4)) ∧ w' = (w.alloc (.cells #[.int .i64 0, .int .i64 0, .int .i64 0, .int .i64 0, .int .i64 0, .int .i64 0, .int .i64 0, .int .i64 0] 24)).drew) := hidden (HNUM.out 20 4 (by omega) (by omega) (by have := rd_four l HWF.out 20; omega) _ HW0'.out.drew)
  have B20 : Hid (Calls Tryd.prog 36 #[.slice (some ⟨b, off, none⟩) n cap, .int .i64 20, .int .i64 4] ((w.alloc (.cells #[.int .i64 0, .int .i64 0, .int .i64 0, .int .i64 0, .int .i64 0, .int .i64 0, .int .i64 0, .int .i64 0] 24)).alloc (.cells #[.int .i64 0, .int .i64 0, .int .i64 0, .int .i64 0, .int .i64 0, .int .i64 0, .int .i64 0, .int .i64 0] 24)).drew fun e w' => e = .returned (.int .i64 (rdN l 20 4)) ∧ w' = ((w.alloc (.cells #[.int .i64 0, .int .i64 0, .int .i64 0, .int .i64 0, .int .i64 0, .int .i64 0, .int .i64 0, .int .i64 0] 24)).alloc (.cells #[.int .i64 0, .int .i64 0, .int .i64 0, .int .i64 0, .int .i64 0, .int .i64 0, .int .i64 0, .int .i64 0] 24)).drew) := hidden (HNUM.out 20 4 (by omega) (by omega) (by have := rd_four l HWF.out 20; omega) _ (bl_al HW0'.out (Nat.le_refl _) _).drew)
  have A24 : Hid (Calls Tryd.prog 36 #[.slice (some ⟨b, off, none⟩) n cap, .int .i64 24, .int .i64 4] (w.alloc (.cells #[.int .i64 0, .int .i64 0, .int .i64 0, .int .i64 0, .int .i64 0, .int .i64 0, .int .i64 0, .int .i64 0] 24)).drew fun e w' => e = .returned (.int .i64 (rdN l 24 4)) ∧ w' = (w.alloc (.cells #[.int .i64 0, .int .i64 0, .int .i64 0, .int .i64 0, .int .i64 0, .int .i64 0, .int .i64 0, .int .i64 0] 24)).drew) := hidden (HNUM.out 24 4 (by omega) (by omega) (by have := rd_four l HWF.out 24; omega) _ HW0'.out.drew)
  have B24 : Hid (Calls Tryd.prog 36 #[.slice (some ⟨b, off, none⟩) n cap, .int .i64 24, .int .i64 4] ((w.alloc (.cells #[.int .i64 0, .int .i64 0, .int .i64 0, .int .i64 0, .int .i64 0, .int .i64 0, .int .i64 0, .int .i64 0] 24)).alloc (.cells #[.int .i64 0, .int .i64 0, .int .i64 0, .int .i64 0, .int .i64 0, .int .i64 0, .int .i64 0, .int .i64 0] 24)).drew fun e w' => e = .returned (.int .i64 (rdN l 24 4)) ∧ w' = ((w.alloc (.cells #[.int .i64 0, .int .i64 0, .int .i64 0, .int .i64 0, .int .i64 0, .int .i64 0, .int .i64 0, .int .i64 0] 24)).alloc (.cells #[.int .i64 0, .int .i64 0, .int .i64 0, .int .i64 0, .int .i64 0, .int .i64 0, .int .i64 0, .int .i64 0] 24)).drew) := hidden (HNUM.out 24 4 (by omega) (by omega) (by have := rd_four l HWF.out 24; omega) _ (bl_al HW0'.out (Nat.le_refl _) _).drew)
  have A28 : Hid (Calls Tryd.prog 36 #[.slice (some ⟨b, off, none⟩) n cap, .int .i64 28, .int .i64 4] (w.alloc (.cells #[.int .i64 0, .int .i64 0, .int .i64 0, .int .i64 0, .int .i64 0, .int .i64 0, .int .i64 0, .int .i64 0] 24)).drew fun e w' => e = .returned (.int .i64 (rdN l 28 4)) ∧ w' = (w.alloc (.cells #[.int .i64 0, .int .i64 0, .int .i64 0, .int .i64 0, .int .i64 0, .int .i64 0, .int .i64 0, .int .i64 0] 24)).drew) := hidden (HNUM.out 28 4 (by omega) (by omega) (by have := rd_four l HWF.out 28; omega) _ HW0'.out.drew)
  have B28 : Hid (Calls Tryd.prog 36 #[.slice (some ⟨b, off, none⟩) n cap, .int .i64 28, .int .i64 4] ((w.alloc (.cells #[.int .i64 0, .int .i64 0, .int .i64 0, .int .i64 0, .int .i64 0, .int .i64 0, .int .i64 0, .int .i64 0] 24)).alloc (.cells #[.int .i64 0, .int .i64 0, .int .i64 0, .int .i64 0, .int .i64 0, .int .i64 0, .int .i64 0, .int .i64 0] 24)).drew fun e w' => e = .returned (.int .i64 (rdN l 28 4)) ∧ w' = ((w.alloc (.cells #[.int .i64 0, .int .i64 0, .int .i64 0, .int .i64 0, .int .i64 0, .int .i64 0, .int .i64 0, .int .i64 0] 24)).alloc (.cells #[.int .i64 0, .int .i64 0, .int .i64 0, .int .i64 0, .int .i64 0, .int .i64 0, .int .i64 0, .int .i64 0] 24)).drew) := hidden (HNUM.out 28 4 (by omega) (by omega) (by have := rd_four l HWF.out 28; omega) _ (bl_al HW0'.out (Nat.le_refl _) _).drew)
  have A32 : Hid (Calls Tryd.prog 36 #[.slice (some ⟨b, off, none⟩) n cap, .int .i64 32, .int .i64 4] (w.alloc (.cells #[.int .i64 0, .int .i64 0, .int .i64 0, .int .i64 0, .int .i64 0, .int .i64 0, .int .i64 0, .int .i64 0] 24)).drew fun e w' => e = .returned (.int .i64 (rdN l 32 4)) ∧ w' = (w.alloc (.cells #[.int .i64 0, .int .i64 0, .int .i64 0, .int .i64 0, .int .i64 0, .int .i64 0, .int .i64 0, .int .i64 0] 24)).drew) := hidden (HNUM.out 32 4 (by omega) (by omega) (by have := rd_four l HWF.out 32; omega) _ HW0'.out.drew)
  have B32 : Hid (Calls Tryd.prog 36 #[.slice (some ⟨b, off, none⟩) n cap, .int .i64 32, .int .i64 4] ((w.alloc (.cells #[.int .i64 0, .int .i64 0, .int .i64 0, .int .i64 0, .int .i64 0, .int .i64 0, .int .i64 0, .int .i64 0] 24)).alloc (.cells #[.int .i64 0, .int .i64 0, .int .i64 0, .int .i64 0, .int .i64 0, .int .i64 0, .int .i64 0, .int .i64 0] 24)).drew fun e w' => e = .returned (.int .i64 (rdN l 32 4)) ∧ w' = ((w.alloc (.cells #[.int .i64 0, .int .i64 0, .int .i64 0, .int .i64 0, .int .i64 0, .int .i64 0, .int .i64 0, .int .i64 0] 24)).alloc (.cells #[.int .i64 0, .int .i64 0, .int .i64 0, .int .i64 0, .int .i64 0, .int .i64 0, .int .i64 0, .int .i64 0] 24)).drew) := hidden (HNUM.out 32 4 (by omega) (by omega) (by have := rd_four l HWF.out 32; omega) _ (bl_al HW0'.out (Nat.le_refl _) _).drew)
  have A36 : Hid (Calls Tryd.prog 36 #[.slice (some ⟨b, off, none⟩) n cap, .int .i64 36, .int .i64 4] (w.alloc (.cells #[.int .i64 0, .int .i64 0, .int .i64 0, .int .i64 0, .int .i64 0, .int .i64 0, .int .i64 0, .int .i64 0] 24)).drew fun e w' => e = .returned (.int .i64 (rdN l 36 4)) ∧ w' = (w.alloc (.cells #[.int .i64 0, .int .i64 0, .int .i64 0, .int .i64 0, .int .i64 0, .int .i64 0, .int .i64 0, .int .i64 0] 24)).drew) := hidden (HNUM.out 36 4 (by omega) (by omega) (by have := rd_four l HWF.out 36; omega) _ HW0'.out.drew)
  have B36 : Hid (Calls Tryd.prog 36 #[.slice (some ⟨b, off, none⟩) n cap, .int .i64 36, .int .i64 4] ((w.alloc (.cells #[.int .i64 0, .int .i64 0, .int .i64 0, .int .i64 0, .int .i64 0, .int .i64 0, .int .i64 0, .int .i64 0] 24)).alloc (.cells #[.int .i64 0, .int .i64 0, .int .i64 0, .int .i64 0, .int .i64 0, .int .i64 0, .int .i64 0, .int .i64 0] 24)).drew fun e w' => e = .returned (.int .i64 (rdN l 36 4)) ∧ w' = ((w.alloc (.cells #[.int .i64 0, .int .i64 0, .int .i64 0, .int .i64 0, .int .i64 0, .int .i64 0, .int .i64 0, .int .i64 0] 24)).alloc (.cells #[.int .i64 0, .int .i64 0, .int .i64 0, .int .i64 0, .int .i64 0, .int .i64 0, .int .i64 0, .int .i64 0] 24)).drew) := hidden (HNUM.out 36 4 (by omega) (by omega) (by have := rd_four l HWF.out 36; omega) _ (bl_al HW0'.out (Nat.le_refl _) _).drew)
  have H1B : Hid (((w.alloc (.cells #[.int .i64 0, .int .i64 0, .int .i64 0, .int .i64 0, .int .i64 0, .int .i64 0, .int .i64 0, .int .i64 0] 24)).alloc (.cells #[.int .i64 0, .int .i64 0, .int .i64 0, .int .i64 0, .int .i64 0, .int .i64 0, .int .i64 0, .int .i64 0] 24)).drew.cell? ⟨b, off + 1, none⟩ = some (.int .u8 (l.getD 1 0))) := hidden (H1A.out _)
  have HRD : Hid (rdM l = ⟨l.getD 1 0, rdN l 8 4, rdN l 12 8, rdN l 20 4, rdN l 24 4, rdN l 28 4, rdN l 32 4, rdN l 36 4⟩) := hidden (by
    unfold rdM
    rw [HE1.out, wrap_small _ (rdN_bound l HWF.out 12 8).1 (by have := HN12.out; omega)])
  have h1n : (1 : Int) < (n : Int) := by omega
  have h1n2 : 1 < n := by omega
  have hc64 : IntKind.i64.wrap (l.getD 1 0) = l.getD 1 0 := by rw [IntKind.wrap_i64]; omega
  clear HNUM HN12 HE1 hbc hal hlen HW0'
  generalize rdN l 8 4 = x8 at *
  generalize rdN l 12 8 = x12 at *
  generalize rdN l 20 4 = x20 at *
  generalize rdN l 24 4 = x24 at *
  generalize rdN l 28 4 = x28 at *
  generalize rdN l 32 4 = x32 at *
  generalize rdN l 36 4 = x36 at *
  generalize l.getD 12 0 = y at *
  generalize l.getD 1 0 = x1 at *
  go_enter Tryd.func18, Tryd.ntmps18
  go_upto_region 3 with fail
  go_cut [4] (fun v u => v = .pointer (some ⟨w.heap.size + 1, 0, none⟩) ∧ u = ((w.alloc (.cells (mtC Mt.z) 24)).alloc (.cells (mtC ⟨x1, x8, x12, x20, x24, x28, x32, x36⟩) 24)).drew)
  case first =>
    refine wp_region_held_drew (S := fun u => u.cell? ⟨b, off + 1, none⟩ = some (.int .u8 x1)) (by kernel_rfl) (h1) (fun hHeld => ?_)
    refine wpAnyH_take (i := 0) (v := ?_) rfl (by kernel_rfl) (by kernel_rfl) (by kernel_rfl) (fun _ _ _ h => h) (Or.inl ⟨by rfl, ?_⟩) (by assumption) ?_
    rotate_left
    · (intro w hSw; (try dsimp only at hSw); go_simp; try (with_reducible rfl))
    try simp only [Act.put, List.getElem_toArray, List.getElem_cons_zero, List.setIfInBounds_toArray, List.set_cons_zero, List.set_cons_succ]
    refine wpAnyH_take (i := 1) (v := ?_) rfl (by kernel_rfl) (by kernel_rfl) (by kernel_rfl) (fun _ _ _ h => h) (Or.inl ⟨by rfl, ?_⟩) (by assumption) ?_
    rotate_left
    · (intro w hSw; (try dsimp only at hSw); go_simp; try (with_reducible rfl))
    try simp only [Act.put, List.getElem_toArray, List.getElem_cons_succ, List.getElem_cons_zero, List.setIfInBounds_toArray, List.set_cons_zero, List.set_cons_succ]
    refine wpAnyH_take (i := 2) (v := ?_) rfl (by kernel_rfl) (by kernel_rfl) (by kernel_rfl) (fun _ _ _ h => h) (Or.inl ⟨by rfl, ?_⟩) (by assumption) ?_
    rotate_left
    · (intro w hSw; (try dsimp only at hSw); go_simp; try (with_reducible rfl))
    try simp only [Act.put, List.getElem_toArray, List.getElem_cons_succ, List.getElem_cons_zero, List.setIfInBounds_toArray, List.set_cons_zero, List.set_cons_succ]
    refine wpAnyH_take (i := 3) (v := ?_) rfl (by kernel_rfl) (by kernel_rfl) (by kernel_rfl) (fun _ _ _ h => h) (Or.inl ⟨by rfl, ?_⟩) (by assumption) ?_
    rotate_left
    · (intro w hSw; (try dsimp only at hSw); go_simp; try (with_reducible rfl))
    try simp only [Act.put, List.getElem_toArray, List.getElem_cons_succ, List.getElem_cons_zero, List.setIfInBounds_toArray, List.set_cons_zero, List.set_cons_succ]
    refine wpAnyH_take (i := 4) (v := ?_) rfl (by kernel_rfl) (by kernel_rfl) (by kernel_rfl) (fun _ _ _ h => h) (Or.inl ⟨by rfl, ?_⟩) (by assumption) ?_
    rotate_left
    · (intro w hSw; (try dsimp only at hSw); go_simp; try (with_reducible rfl))
    try simp only [Act.put, List.getElem_toArray, List.getElem_cons_succ, List.getElem_cons_zero, List.setIfInBounds_toArray, List.set_cons_zero, List.set_cons_succ]
    refine wpAnyH_take (i := 6) (v := ?_) rfl (by kernel_rfl) (by kernel_rfl) (by kernel_rfl) (fun _ _ _ h => h) (Or.inl ⟨by rfl, ?_⟩) (by assumption) ?_
    rotate_left
    · (intro w hSw; (try dsimp only at hSw); go_simp; try (with_reducible rfl))
    try simp only [Act.put, List.getElem_toArray, List.getElem_cons_succ, List.getElem_cons_zero, List.setIfInBounds_toArray, List.set_cons_zero, List.set_cons_succ]
    refine wpAnyH_take (i := 8) (v := ?_) rfl (by kernel_rfl) (by kernel_rfl) (by kernel_rfl) (fun _ _ _ h => h) (Or.inl ⟨by rfl, ?_⟩) (by assumption) ?_
    rotate_left
    · (intro w hSw; (try dsimp only at hSw); go_simp; try (with_reducible rfl))
    try simp only [Act.put, List.getElem_toArray, List.getElem_cons_succ, List.getElem_cons_zero, List.setIfInBounds_toArray, List.set_cons_zero, List.set_cons_succ]
    refine wpAnyH_take (i := 10) (v := ?_) rfl (by kernel_rfl) (by kernel_rfl) (by kernel_rfl) (fun _ _ _ h => h) (Or.inl ⟨by rfl, ?_⟩) (by assumption) ?_
    rotate_left
    · (intro w hSw; (try dsimp only at hSw); go_simp; try (with_reducible rfl))
    try simp only [Act.put, List.getElem_toArray, List.getElem_cons_succ, List.getElem_cons_zero, List.setIfInBounds_toArray, List.set_cons_zero, List.set_cons_succ]
    refine wpAnyH_take (i := 12) (v := ?_) rfl (by kernel_rfl) (by kernel_rfl) (by kernel_rfl) (fun _ _ _ h => h) (Or.inl ⟨by rfl, ?_⟩) (by assumption) ?_
    rotate_left
    · (intro w hSw; (try dsimp only at hSw); go_simp; try (with_reducible rfl))
    try simp only [Act.put, List.getElem_toArray, List.getElem_cons_succ, List.getElem_cons_zero, List.setIfInBounds_toArray, List.set_cons_zero, List.set_cons_succ]
    refine wpAnyH_take (i := 14) (v := ?_) rfl (by kernel_rfl) (by kernel_rfl) (by kernel_rfl) (fun _ _ _ h => h) (Or.inl ⟨by rfl, ?_⟩) (by assumption) ?_
    rotate_left
    · (intro w hSw; (try dsimp only at hSw); go_simp; try (with_reducible rfl))
    try simp only [Act.put, List.getElem_toArray, List.getElem_cons_succ, List.getElem_cons_zero, List.setIfInBounds_toArray, List.set_cons_zero, List.set_cons_succ]
    refine wpAnyH_take (i := 16) (v := ?_) rfl (by kernel_rfl) (by kernel_rfl) (by kernel_rfl) (fun _ _ _ h => h) (Or.inl ⟨by rfl, ?_⟩) (by assumption) ?_
    rotate_left
    · (intro w hSw; (try dsimp only at hSw); go_simp; try (with_reducible rfl))
    try simp only [Act.put, List.getElem_toArray, List.getElem_cons_succ, List.getElem_cons_zero, List.setIfInBounds_toArray, List.set_cons_zero, List.set_cons_succ]
    refine wpAnyH_ready (rs := [5, 19]) (by kernel_rfl) (by simp) ?_
    refine AllReadyH.cons rfl (fun K hK => ?_) (AllReadyH.cons rfl (fun K hK => ?_) AllReadyH.nil)
    rotate_left
    · skip
      go_simp
      refine hK.out _ _ (H1B.out) (fun hHeld => ?_)
      clear hK K
      try simp only [Act.put, List.getElem_toArray, List.getElem_cons_succ, List.getElem_cons_zero, List.setIfInBounds_toArray, List.set_cons_zero, List.set_cons_succ]
      refine wpAnyH_ready (rs := [5]) (by kernel_rfl) (by simp) ?_
      refine AllReadyH.cons rfl (fun K hK => ?_) AllReadyH.nil
      go_simp
      go_at_call 36
      refine same_call B8.out ?_
      dsimp only
      refine hK.out _ _ (H1B.out) (fun hHeld => ?_)
      clear hK K
      try simp only [Act.put, List.getElem_toArray, List.getElem_cons_succ, List.getElem_cons_zero, List.setIfInBounds_toArray, List.set_cons_zero, List.set_cons_succ]
      refine wpAnyH_ready (rs := [7]) (by kernel_rfl) (by simp) ?_
      refine AllReadyH.cons rfl (fun K hK => ?_) AllReadyH.nil
      go_simp
      go_at_call 36
      refine same_call B12.out ?_
      dsimp only
      refine hK.out _ _ (H1B.out) (fun hHeld => ?_)
      clear hK K
      try simp only [Act.put, List.getElem_toArray, List.getElem_cons_succ, List.getElem_cons_zero, List.setIfInBounds_toArray, List.set_cons_zero, List.set_cons_succ]
      refine wpAnyH_ready (rs := [9]) (by kernel_rfl) (by simp) ?_
      refine AllReadyH.cons rfl (fun K hK => ?_) AllReadyH.nil
      go_simp
      go_at_call 36
      refine same_call B20.out ?_
      dsimp only
      refine hK.out _ _ (H1B.out) (fun hHeld => ?_)
      clear hK K
      try simp only [Act.put, List.getElem_toArray, List.getElem_cons_succ, List.getElem_cons_zero, List.setIfInBounds_toArray, List.set_cons_zero, List.set_cons_succ]
      refine wpAnyH_ready (rs := [11]) (by kernel_rfl) (by simp) ?_
      refine AllReadyH.cons rfl (fun K hK => ?_) AllReadyH.nil
      go_simp
      go_at_call 36
      refine same_call B24.out ?_
      dsimp only
      refine hK.out _ _ (H1B.out) (fun hHeld => ?_)
      clear hK K
      try simp only [Act.put, List.getElem_toArray, List.getElem_cons_succ, List.getElem_cons_zero, List.setIfInBounds_toArray, List.set_cons_zero, List.set_cons_succ]
      refine wpAnyH_ready (rs := [13]) (by kernel_rfl) (by simp) ?_
      refine AllReadyH.cons rfl (fun K hK => ?_) AllReadyH.nil
      go_simp
      go_at_call 36
      refine same_call B28.out ?_
      dsimp only
      refine hK.out _ _ (H1B.out) (fun hHeld => ?_)
      clear hK K
      try simp only [Act.put, List.getElem_toArray, List.getElem_cons_succ, List.getElem_cons_zero, List.setIfInBounds_toArray, List.set_cons_zero, List.set_cons_succ]
      refine wpAnyH_ready (rs := [15]) (by kernel_rfl) (by simp) ?_
      refine AllReadyH.cons rfl (fun K hK => ?_) AllReadyH.nil
      go_simp
      go_at_call 36
      refine same_call B32.out ?_
      dsimp only
      refine hK.out _ _ (H1B.out) (fun hHeld => ?_)
      clear hK K
      try simp only [Act.put, List.getElem_toArray, List.getElem_cons_succ, List.getElem_cons_zero, List.setIfInBounds_toArray, List.set_cons_zero, List.set_cons_succ]
      refine wpAnyH_ready (rs := [17]) (by kernel_rfl) (by simp) ?_
      refine AllReadyH.cons rfl (fun K hK => ?_) AllReadyH.nil
      go_simp
      go_at_call 36
      refine same_call B36.out ?_
      dsimp only
      refine hK.out _ _ (H1B.out) (fun hHeld => ?_)
      clear hK K
      try simp only [Act.put, List.getElem_toArray, List.getElem_cons_succ, List.getElem_cons_zero, List.setIfInBounds_toArray, List.set_cons_zero, List.set_cons_succ]
      refine wpAnyH_take (i := 18) (v := ?_) rfl (by kernel_rfl) (by kernel_rfl) (by kernel_rfl) (fun _ _ _ h => h) (Or.inl ⟨by rfl, ?_⟩) (by assumption) ?_
      rotate_left
      · (intro w hSw; (try dsimp only at hSw); go_simp; try (with_reducible rfl))
      try simp only [Act.put, List.getElem_toArray, List.getElem_cons_succ, List.getElem_cons_zero, List.setIfInBounds_toArray, List.set_cons_zero, List.set_cons_succ]
      refine wpAnyH_ready (rs := [20]) (by kernel_rfl) (by simp) ?_
      refine AllReadyH.cons rfl (fun K hK => ?_) AllReadyH.nil
      go_simp
      refine hK.out _ _ (H1A.out _) (fun hHeld => ?_)
      clear hK K
      refine wpAnyH_done (by kernel_rfl) ?_ _
      go_wp2
      go_meet
      case rel => exact ⟨rfl, rfl⟩
    go_simp
    go_at_call 36
    refine same_call A8.out ?_
    dsimp only
    refine hK.out _ _ (h1) (fun hHeld => ?_)
    clear hK K
    try simp only [Act.put, List.getElem_toArray, List.getElem_cons_succ, List.getElem_cons_zero, List.setIfInBounds_toArray, List.set_cons_zero, List.set_cons_succ]
    refine wpAnyH_ready (rs := [7, 19]) (by kernel_rfl) (by simp) ?_
    refine AllReadyH.cons rfl (fun K hK => ?_) (AllReadyH.cons rfl (fun K hK => ?_) AllReadyH.nil)
    rotate_left
    · skip
      go_simp
      refine hK.out _ _ (H1B.out) (fun hHeld => ?_)
      clear hK K
      try simp only [Act.put, List.getElem_toArray, List.getElem_cons_succ, List.getElem_cons_zero, List.setIfInBounds_toArray, List.set_cons_zero, List.set_cons_succ]
      refine wpAnyH_ready (rs := [7]) (by kernel_rfl) (by simp) ?_
      refine AllReadyH.cons rfl (fun K hK => ?_) AllReadyH.nil
      go_simp
      go_at_call 36
      refine same_call B12.out ?_
      dsimp only
      refine hK.out _ _ (H1B.out) (fun hHeld => ?_)
      clear hK K
      try simp only [Act.put, List.getElem_toArray, List.getElem_cons_succ, List.getElem_cons_zero, List.setIfInBounds_toArray, List.set_cons_zero, List.set_cons_succ]
      refine wpAnyH_ready (rs := [9]) (by kernel_rfl) (by simp) ?_
      refine AllReadyH.cons rfl (fun K hK => ?_) AllReadyH.nil
      go_simp
      go_at_call 36
      refine same_call B20.out ?_
      dsimp only
      refine hK.out _ _ (H1B.out) (fun hHeld => ?_)
      clear hK K
      try simp only [Act.put, List.getElem_toArray, List.getElem_cons_succ, List.getElem_cons_zero, List.setIfInBounds_toArray, List.set_cons_zero, List.set_cons_succ]
      refine wpAnyH_ready (rs := [11]) (by kernel_rfl) (by simp) ?_
      refine AllReadyH.cons rfl (fun K hK => ?_) AllReadyH.nil
      go_simp
      go_at_call 36
      refine same_call B24.out ?_
      dsimp only
      refine hK.out _ _ (H1B.out) (fun hHeld => ?_)
      clear hK K
      try simp only [Act.put, List.getElem_toArray, List.getElem_cons_succ, List.getElem_cons_zero, List.setIfInBounds_toArray, List.set_cons_zero, List.set_cons_succ]
      refine wpAnyH_ready (rs := [13]) (by kernel_rfl) (by simp) ?_
      refine AllReadyH.cons rfl (fun K hK => ?_) AllReadyH.nil
      go_simp
      go_at_call 36
      refine same_call B28.out ?_
      dsimp only
      refine hK.out _ _ (H1B.out) (fun hHeld => ?_)
      clear hK K
      try simp only [Act.put, List.getElem_toArray, List.getElem_cons_succ, List.getElem_cons_zero, List.setIfInBounds_toArray, List.set_cons_zero, List.set_cons_succ]
      refine wpAnyH_ready (rs := [15]) (by kernel_rfl) (by simp) ?_
      refine AllReadyH.cons rfl (fun K hK => ?_) AllReadyH.nil
      go_simp
      go_at_call 36
      refine same_call B32.out ?_
      dsimp only
      refine hK.out _ _ (H1B.out) (fun hHeld => ?_)
      clear hK K
      try simp only [Act.put, List.getElem_toArray, List.getElem_cons_succ, List.getElem_cons_zero, List.setIfInBounds_toArray, List.set_cons_zero, List.set_cons_succ]
      refine wpAnyH_ready (rs := [17]) (by kernel_rfl) (by simp) ?_
      refine AllReadyH.cons rfl (fun K hK => ?_) AllReadyH.nil
      go_simp
      go_at_call 36
      refine same_call B36.out ?_
      dsimp only
      refine hK.out _ _ (H1B.out) (fun hHeld => ?_)
      clear hK K
      try simp only [Act.put, List.getElem_toArray, List.getElem_cons_succ, List.getElem_cons_zero, List.setIfInBounds_toArray, List.set_cons_zero, List.set_cons_succ]
      refine wpAnyH_take (i := 18) (v := ?_) rfl (by kernel_rfl) (by kernel_rfl) (by kernel_rfl) (fun _ _ _ h => h) (Or.inl ⟨by rfl, ?_⟩) (by assumption) ?_
      rotate_left
      · (intro w hSw; (try dsimp only at hSw); go_simp; try (with_reducible rfl))
      try simp only [Act.put, List.getElem_toArray, List.getElem_cons_succ, List.getElem_cons_zero, List.setIfInBounds_toArray, List.set_cons_zero, List.set_cons_succ]
      refine wpAnyH_ready (rs := [20]) (by kernel_rfl) (by simp) ?_
      refine AllReadyH.cons rfl (fun K hK => ?_) AllReadyH.nil
      go_simp
      refine hK.out _ _ (H1A.out _) (fun hHeld => ?_)
      clear hK K
      refine wpAnyH_done (by kernel_rfl) ?_ _
      go_wp2
      go_meet
      case rel => exact ⟨rfl, rfl⟩
    go_simp
    go_at_call 36
    refine same_call A12.out ?_
    dsimp only
    refine hK.out _ _ (h1) (fun hHeld => ?_)
    clear hK K
    try simp only [Act.put, List.getElem_toArray, List.getElem_cons_succ, List.getElem_cons_zero, List.setIfInBounds_toArray, List.set_cons_zero, List.set_cons_succ]
    refine wpAnyH_ready (rs := [9, 19]) (by kernel_rfl) (by simp) ?_
    refine AllReadyH.cons rfl (fun K hK => ?_) (AllReadyH.cons rfl (fun K hK => ?_) AllReadyH.nil)
    rotate_left
    · skip
      go_simp
      refine hK.out _ _ (H1B.out) (fun hHeld => ?_)
      clear hK K
      try simp only [Act.put, List.getElem_toArray, List.getElem_cons_succ, List.getElem_cons_zero, List.setIfInBounds_toArray, List.set_cons_zero, List.set_cons_succ]
      refine wpAnyH_ready (rs := [9]) (by kernel_rfl) (by simp) ?_
      refine AllReadyH.cons rfl (fun K hK => ?_) AllReadyH.nil
      go_simp
      go_at_call 36
      refine same_call B20.out ?_
      dsimp only
      refine hK.out _ _ (H1B.out) (fun hHeld => ?_)
      clear hK K
      try simp only [Act.put, List.getElem_toArray, List.getElem_cons_succ, List.getElem_cons_zero, List.setIfInBounds_toArray, List.set_cons_zero, List.set_cons_succ]
      refine wpAnyH_ready (rs := [11]) (by kernel_rfl) (by simp) ?_
      refine AllReadyH.cons rfl (fun K hK => ?_) AllReadyH.nil
      go_simp
      go_at_call 36
      refine same_call B24.out ?_
      dsimp only
      refine hK.out _ _ (H1B.out) (fun hHeld => ?_)
      clear hK K
      try simp only [Act.put, List.getElem_toArray, List.getElem_cons_succ, List.getElem_cons_zero, List.setIfInBounds_toArray, List.set_cons_zero, List.set_cons_succ]
      refine wpAnyH_ready (rs := [13]) (by kernel_rfl) (by simp) ?_
      refine AllReadyH.cons rfl (fun K hK => ?_) AllReadyH.nil
      go_simp
      go_at_call 36
      refine same_call B28.out ?_
      dsimp only
      refine hK.out _ _ (H1B.out) (fun hHeld => ?_)
      clear hK K
      try simp only [Act.put, List.getElem_toArray, List.getElem_cons_succ, List.getElem_cons_zero, List.setIfInBounds_toArray, List.set_cons_zero, List.set_cons_succ]
      refine wpAnyH_ready (rs := [15]) (by kernel_rfl) (by simp) ?_
      refine AllReadyH.cons rfl (fun K hK => ?_) AllReadyH.nil
      go_simp
      go_at_call 36
      refine same_call B32.out ?_
      dsimp only
      refine hK.out _ _ (H1B.out) (fun hHeld => ?_)
      clear hK K
      try simp only [Act.put, List.getElem_toArray, List.getElem_cons_succ, List.getElem_cons_zero, List.setIfInBounds_toArray, List.set_cons_zero, List.set_cons_succ]
      refine wpAnyH_ready (rs := [17]) (by kernel_rfl) (by simp) ?_
      refine AllReadyH.cons rfl (fun K hK => ?_) AllReadyH.nil
      go_simp
      go_at_call 36
      refine same_call B36.out ?_
      dsimp only
      refine hK.out _ _ (H1B.out) (fun hHeld => ?_)
      clear hK K
      try simp only [Act.put, List.getElem_toArray, List.getElem_cons_succ, List.getElem_cons_zero, List.setIfInBounds_toArray, List.set_cons_zero, List.set_cons_succ]
      refine wpAnyH_take (i := 18) (v := ?_) rfl (by kernel_rfl) (by kernel_rfl) (by kernel_rfl) (fun _ _ _ h => h) (Or.inl ⟨by rfl, ?_⟩) (by assumption) ?_
      rotate_left
      · (intro w hSw; (try dsimp only at hSw); go_simp; try (with_reducible rfl))
      try simp only [Act.put, List.getElem_toArray, List.getElem_cons_succ, List.getElem_cons_zero, List.setIfInBounds_toArray, List.set_cons_zero, List.set_cons_succ]
      refine wpAnyH_ready (rs := [20]) (by kernel_rfl) (by simp) ?_
      refine AllReadyH.cons rfl (fun K hK => ?_) AllReadyH.nil
      go_simp
      refine hK.out _ _ (H1A.out _) (fun hHeld => ?_)
      clear hK K
      refine wpAnyH_done (by kernel_rfl) ?_ _
      go_wp2
      go_meet
      case rel => exact ⟨rfl, rfl⟩
    go_simp
    go_at_call 36
    refine same_call A20.out ?_
    dsimp only
    refine hK.out _ _ (h1) (fun hHeld => ?_)
    clear hK K
    try simp only [Act.put, List.getElem_toArray, List.getElem_cons_succ, List.getElem_cons_zero, List.setIfInBounds_toArray, List.set_cons_zero, List.set_cons_succ]
    refine wpAnyH_ready (rs := [11, 19]) (by kernel_rfl) (by simp) ?_
    refine AllReadyH.cons rfl (fun K hK => ?_) (AllReadyH.cons rfl (fun K hK => ?_) AllReadyH.nil)
    rotate_left
    · skip
      go_simp
      refine hK.out _ _ (H1B.out) (fun hHeld => ?_)
      clear hK K
      try simp only [Act.put, List.getElem_toArray, List.getElem_cons_succ, List.getElem_cons_zero, List.setIfInBounds_toArray, List.set_cons_zero, List.set_cons_succ]
      refine wpAnyH_ready (rs := [11]) (by kernel_rfl) (by simp) ?_
      refine AllReadyH.cons rfl (fun K hK => ?_) AllReadyH.nil
      go_simp
      go_at_call 36
      refine same_call B24.out ?_
      dsimp only
      refine hK.out _ _ (H1B.out) (fun hHeld => ?_)
      clear hK K
      try simp only [Act.put, List.getElem_toArray, List.getElem_cons_succ, List.getElem_cons_zero, List.setIfInBounds_toArray, List.set_cons_zero, List.set_cons_succ]
      refine wpAnyH_ready (rs := [13]) (by kernel_rfl) (by simp) ?_
      refine AllReadyH.cons rfl (fun K hK => ?_) AllReadyH.nil
      go_simp
      go_at_call 36
      refine same_call B28.out ?_
      dsimp only
      refine hK.out _ _ (H1B.out) (fun hHeld => ?_)
      clear hK K
      try simp only [Act.put, List.getElem_toArray, List.getElem_cons_succ, List.getElem_cons_zero, List.setIfInBounds_toArray, List.set_cons_zero, List.set_cons_succ]
      refine wpAnyH_ready (rs := [15]) (by kernel_rfl) (by simp) ?_
      refine AllReadyH.cons rfl (fun K hK => ?_) AllReadyH.nil
      go_simp
      go_at_call 36
      refine same_call B32.out ?_
      dsimp only
      refine hK.out _ _ (H1B.out) (fun hHeld => ?_)
      clear hK K
      try simp only [Act.put, List.getElem_toArray, List.getElem_cons_succ, List.getElem_cons_zero, List.setIfInBounds_toArray, List.set_cons_zero, List.set_cons_succ]
      refine wpAnyH_ready (rs := [17]) (by kernel_rfl) (by simp) ?_
      refine AllReadyH.cons rfl (fun K hK => ?_) AllReadyH.nil
      go_simp
      go_at_call 36
      refine same_call B36.out ?_
      dsimp only
      refine hK.out _ _ (H1B.out) (fun hHeld => ?_)
      clear hK K
      try simp only [Act.put, List.getElem_toArray, List.getElem_cons_succ, List.getElem_cons_zero, List.setIfInBounds_toArray, List.set_cons_zero, List.set_cons_succ]
      refine wpAnyH_take (i := 18) (v := ?_) rfl (by kernel_rfl) (by kernel_rfl) (by kernel_rfl) (fun _ _ _ h => h) (Or.inl ⟨by rfl, ?_⟩) (by assumption) ?_
      rotate_left
      · (intro w hSw; (try dsimp only at hSw); go_simp; try (with_reducible rfl))
      try simp only [Act.put, List.getElem_toArray, List.getElem_cons_succ, List.getElem_cons_zero, List.setIfInBounds_toArray, List.set_cons_zero, List.set_cons_succ]
      refine wpAnyH_ready (rs := [20]) (by kernel_rfl) (by simp) ?_
      refine AllReadyH.cons rfl (fun K hK => ?_) AllReadyH.nil
      go_simp
      refine hK.out _ _ (H1A.out _) (fun hHeld => ?_)
      clear hK K
      refine wpAnyH_done (by kernel_rfl) ?_ _
      go_wp2
      go_meet
      case rel => exact ⟨rfl, rfl⟩
    go_simp
    go_at_call 36
    refine same_call A24.out ?_
    dsimp only
    refine hK.out _ _ (h1) (fun hHeld => ?_)
    clear hK K
    try simp only [Act.put, List.getElem_toArray, List.getElem_cons_succ, List.getElem_cons_zero, List.setIfInBounds_toArray, List.set_cons_zero, List.set_cons_succ]
    refine wpAnyH_ready (rs := [13, 19]) (by kernel_rfl) (by simp) ?_
    refine AllReadyH.cons rfl (fun K hK => ?_) (AllReadyH.cons rfl (fun K hK => ?_) AllReadyH.nil)
    rotate_left
    · skip
      go_simp
      refine hK.out _ _ (H1B.out) (fun hHeld => ?_)
      clear hK K
      try simp only [Act.put, List.getElem_toArray, List.getElem_cons_succ, List.getElem_cons_zero, List.setIfInBounds_toArray, List.set_cons_zero, List.set_cons_succ]
      refine wpAnyH_ready (rs := [13]) (by kernel_rfl) (by simp) ?_
      refine AllReadyH.cons rfl (fun K hK => ?_) AllReadyH.nil
      go_simp
      go_at_call 36
      refine same_call B28.out ?_
      dsimp only
      refine hK.out _ _ (H1B.out) (fun hHeld => ?_)
      clear hK K
      try simp only [Act.put, List.getElem_toArray, List.getElem_cons_succ, List.getElem_cons_zero, List.setIfInBounds_toArray, List.set_cons_zero, List.set_cons_succ]
      refine wpAnyH_ready (rs := [15]) (by kernel_rfl) (by simp) ?_
      refine AllReadyH.cons rfl (fun K hK => ?_) AllReadyH.nil
      go_simp
      go_at_call 36
      refine same_call B32.out ?_
      dsimp only
      refine hK.out _ _ (H1B.out) (fun hHeld => ?_)
      clear hK K
      try simp only [Act.put, List.getElem_toArray, List.getElem_cons_succ, List.getElem_cons_zero, List.setIfInBounds_toArray, List.set_cons_zero, List.set_cons_succ]
      refine wpAnyH_ready (rs := [17]) (by kernel_rfl) (by simp) ?_
      refine AllReadyH.cons rfl (fun K hK => ?_) AllReadyH.nil
      go_simp
      go_at_call 36
      refine same_call B36.out ?_
      dsimp only
      refine hK.out _ _ (H1B.out) (fun hHeld => ?_)
      clear hK K
      try simp only [Act.put, List.getElem_toArray, List.getElem_cons_succ, List.getElem_cons_zero, List.setIfInBounds_toArray, List.set_cons_zero, List.set_cons_succ]
      refine wpAnyH_take (i := 18) (v := ?_) rfl (by kernel_rfl) (by kernel_rfl) (by kernel_rfl) (fun _ _ _ h => h) (Or.inl ⟨by rfl, ?_⟩) (by assumption) ?_
      rotate_left
      · (intro w hSw; (try dsimp only at hSw); go_simp; try (with_reducible rfl))
      try simp only [Act.put, List.getElem_toArray, List.getElem_cons_succ, List.getElem_cons_zero, List.setIfInBounds_toArray, List.set_cons_zero, List.set_cons_succ]
      refine wpAnyH_ready (rs := [20]) (by kernel_rfl) (by simp) ?_
      refine AllReadyH.cons rfl (fun K hK => ?_) AllReadyH.nil
      go_simp
      refine hK.out _ _ (H1A.out _) (fun hHeld => ?_)
      clear hK K
      refine wpAnyH_done (by kernel_rfl) ?_ _
      go_wp2
      go_meet
      case rel => exact ⟨rfl, rfl⟩
    go_simp
    go_at_call 36
    refine same_call A28.out ?_
    dsimp only
    refine hK.out _ _ (h1) (fun hHeld => ?_)
    clear hK K
    try simp only [Act.put, List.getElem_toArray, List.getElem_cons_succ, List.getElem_cons_zero, List.setIfInBounds_toArray, List.set_cons_zero, List.set_cons_succ]
    refine wpAnyH_ready (rs := [15, 19]) (by kernel_rfl) (by simp) ?_
    refine AllReadyH.cons rfl (fun K hK => ?_) (AllReadyH.cons rfl (fun K hK => ?_) AllReadyH.nil)
    rotate_left
    · skip
      go_simp
      refine hK.out _ _ (H1B.out) (fun hHeld => ?_)
      clear hK K
      try simp only [Act.put, List.getElem_toArray, List.getElem_cons_succ, List.getElem_cons_zero, List.setIfInBounds_toArray, List.set_cons_zero, List.set_cons_succ]
      refine wpAnyH_ready (rs := [15]) (by kernel_rfl) (by simp) ?_
      refine AllReadyH.cons rfl (fun K hK => ?_) AllReadyH.nil
      go_simp
      go_at_call 36
      refine same_call B32.out ?_
      dsimp only
      refine hK.out _ _ (H1B.out) (fun hHeld => ?_)
      clear hK K
      try simp only [Act.put, List.getElem_toArray, List.getElem_cons_succ, List.getElem_cons_zero, List.setIfInBounds_toArray, List.set_cons_zero, List.set_cons_succ]
      refine wpAnyH_ready (rs := [17]) (by kernel_rfl) (by simp) ?_
      refine AllReadyH.cons rfl (fun K hK => ?_) AllReadyH.nil
      go_simp
      go_at_call 36
      refine same_call B36.out ?_
      dsimp only
      refine hK.out _ _ (H1B.out) (fun hHeld => ?_)
      clear hK K
      try simp only [Act.put, List.getElem_toArray, List.getElem_cons_succ, List.getElem_cons_zero, List.setIfInBounds_toArray, List.set_cons_zero, List.set_cons_succ]
      refine wpAnyH_take (i := 18) (v := ?_) rfl (by kernel_rfl) (by kernel_rfl) (by kernel_rfl) (fun _ _ _ h => h) (Or.inl ⟨by rfl, ?_⟩) (by assumption) ?_
      rotate_left
      · (intro w hSw; (try dsimp only at hSw); go_simp; try (with_reducible rfl))
      try simp only [Act.put, List.getElem_toArray, List.getElem_cons_succ, List.getElem_cons_zero, List.setIfInBounds_toArray, List.set_cons_zero, List.set_cons_succ]
      refine wpAnyH_ready (rs := [20]) (by kernel_rfl) (by simp) ?_
      refine AllReadyH.cons rfl (fun K hK => ?_) AllReadyH.nil
      go_simp
      refine hK.out _ _ (H1A.out _) (fun hHeld => ?_)
      clear hK K
      refine wpAnyH_done (by kernel_rfl) ?_ _
      go_wp2
      go_meet
      case rel => exact ⟨rfl, rfl⟩
    go_simp
    go_at_call 36
    refine same_call A32.out ?_
    dsimp only
    refine hK.out _ _ (h1) (fun hHeld => ?_)
    clear hK K
    try simp only [Act.put, List.getElem_toArray, List.getElem_cons_succ, List.getElem_cons_zero, List.setIfInBounds_toArray, List.set_cons_zero, List.set_cons_succ]
    refine wpAnyH_ready (rs := [17, 19]) (by kernel_rfl) (by simp) ?_
    refine AllReadyH.cons rfl (fun K hK => ?_) (AllReadyH.cons rfl (fun K hK => ?_) AllReadyH.nil)
    rotate_left
    · skip
      go_simp
      refine hK.out _ _ (H1B.out) (fun hHeld => ?_)
      clear hK K
      try simp only [Act.put, List.getElem_toArray, List.getElem_cons_succ, List.getElem_cons_zero, List.setIfInBounds_toArray, List.set_cons_zero, List.set_cons_succ]
      refine wpAnyH_ready (rs := [17]) (by kernel_rfl) (by simp) ?_
      refine AllReadyH.cons rfl (fun K hK => ?_) AllReadyH.nil
      go_simp
      go_at_call 36
      refine same_call B36.out ?_
      dsimp only
      refine hK.out _ _ (H1B.out) (fun hHeld => ?_)
      clear hK K
      try simp only [Act.put, List.getElem_toArray, List.getElem_cons_succ, List.getElem_cons_zero, List.setIfInBounds_toArray, List.set_cons_zero, List.set_cons_succ]
      refine wpAnyH_take (i := 18) (v := ?_) rfl (by kernel_rfl) (by kernel_rfl) (by kernel_rfl) (fun _ _ _ h => h) (Or.inl ⟨by rfl, ?_⟩) (by assumption) ?_
      rotate_left
      · (intro w hSw; (try dsimp only at hSw); go_simp; try (with_reducible rfl))
      try simp only [Act.put, List.getElem_toArray, List.getElem_cons_succ, List.getElem_cons_zero, List.setIfInBounds_toArray, List.set_cons_zero, List.set_cons_succ]
      refine wpAnyH_ready (rs := [20]) (by kernel_rfl) (by simp) ?_
      refine AllReadyH.cons rfl (fun K hK => ?_) AllReadyH.nil
      go_simp
      refine hK.out _ _ (H1A.out _) (fun hHeld => ?_)
      clear hK K
      refine wpAnyH_done (by kernel_rfl) ?_ _
      go_wp2
      go_meet
      case rel => exact ⟨rfl, rfl⟩
    go_simp
    go_at_call 36
    refine same_call A36.out ?_
    dsimp only
    refine hK.out _ _ (h1) (fun hHeld => ?_)
    clear hK K
    try simp only [Act.put, List.getElem_toArray, List.getElem_cons_succ, List.getElem_cons_zero, List.setIfInBounds_toArray, List.set_cons_zero, List.set_cons_succ]
    refine wpAnyH_take (i := 18) (v := ?_) rfl (by kernel_rfl) (by kernel_rfl) (by kernel_rfl) (fun _ _ _ h => h) (Or.inl ⟨by rfl, ?_⟩) (by assumption) ?_
    rotate_left
    · (intro w hSw; (try dsimp only at hSw); go_simp; try (with_reducible rfl))
    try simp only [Act.put, List.getElem_toArray, List.getElem_cons_succ, List.getElem_cons_zero, List.setIfInBounds_toArray, List.set_cons_zero, List.set_cons_succ]
    refine wpAnyH_ready (rs := [19]) (by kernel_rfl) (by simp) ?_
    refine AllReadyH.cons rfl (fun K hK => ?_) AllReadyH.nil
    go_simp
    refine hK.out _ _ (H1B.out) (fun hHeld => ?_)
    clear hK K
    try simp only [Act.put, List.getElem_toArray, List.getElem_cons_succ, List.getElem_cons_zero, List.setIfInBounds_toArray, List.set_cons_zero, List.set_cons_succ]
    refine wpAnyH_ready (rs := [20]) (by kernel_rfl) (by simp) ?_
    refine AllReadyH.cons rfl (fun K hK => ?_) AllReadyH.nil
    go_simp
    refine hK.out _ _ (H1A.out _) (fun hHeld => ?_)
    clear hK K
    refine wpAnyH_done (by kernel_rfl) ?_ _
    go_wp2
    go_meet
    case rel => exact ⟨rfl, rfl⟩
  case rest =>
  obtain ⟨hv4, hwc⟩ := hcut
  subst hv4
  have HSw := hidden (HS.out.on (Nat.le_refl _) HW0.out)
  have HXz : Hid (wc.heap[w.heap.size]? = some (.cells (mtC Mt.z) 24 (0, 0))) := hidden (by rw [hwc]; exact heap_alloc2_old w _ _)
  have HXm : Hid (wc.heap[w.heap.size + 1]? = some (.cells (mtC (rdM l)) 24 (0, 0))) := hidden (by rw [hwc, HRD.out]; exact heap_alloc2_new w _ _)
  have HWc : Hid (Below w.heap.size w wc) := hidden (by rw [hwc]; exact (bl_al (bl_al (Below.refl _ w) (Nat.le_refl _) _) (Nat.le_refl _) _).drew)
  clear hwc HRD A8 A12 A20 A24 A28 A32 A36 B8 B12 B20 B24 B28 B32 B36 h1 h1w g1 hc64 h12 g12 d12 HSw H1A H1B
  have NO : Hid (∀ v : World, v.heap[w.heap.size]? = some (.cells (mtC Mt.z) 24 (0, 0)) → Below w.heap.size w v → ∀ m', Hid ((v.setRow w.heap.size (mtC m')).heap[w.heap.size]? = some (.cells (mtC m') 24 (0, 0))) ∧ Hid (Below w.heap.size w (v.setRow w.heap.size (mtC m')))) :=
    hidden fun v h1 h2 m' => ⟨setRow_heap _ _ _ _ _ _ h1, below_setRow h2 (Nat.le_refl _) _⟩
  obtain ⟨c0, c1, c2, c3, c4, c5, c6, c7⟩ := row8 HXm.out
  by_cases hpn : (rdM l).pg = (n : Int)
  · have hpn2 : ((rdM l).pg == (n : Int)) = true := by simpa using hpn
    clear hpn
    by_cases hok : (rdM l).ok
    · have HOK := hidden hok
      have HEN := hidden (rEncode_yes (rdM l) wc hok)
      clear hok
      go_wp2_with (go_at_call 13; rw [← mtV_eq]; refine HEN.out.mono ?_; rintro e w3 ⟨v3, rfl, ho3, hb3⟩; have HO3 := hidden ho3; have HB3 := hidden hb3; clear ho3 hb3; rw [mtV_eq]; refine Hid.out ?_)
      apply hidden
      have HPL := hidden (pageB_length (rdM l) HOK.out)
      have hpw := pw_le HOK.out.pg
      obtain ⟨ao3, cap3, hv3, hs3, _⟩ := HO3.out.sl (pageB_wf _) (by rw [HPL.out]; omega)
      subst hv3
      have HX3 := hidden (box_on HXz.out HB3.out)
      have HM3 := hidden (box_on HXm.out HB3.out)
      have HW3 := hidden (bl_go HWc.out (Nat.le_refl _) HB3.out)
      have hcv1 := conv_sl hs3
      have hcv2 := conv_sl (HS.out.on (Nat.le_refl _) HW3.out)
      have hsb := str_beq (pageB_wf (rdM l)) HWF.out
      clear c0 c1 c2 c3 c4 c5 c6 c7 HEN HB3 HO3 hs3 HPL hpw
      by_cases he : pageB (rdM l) = l
      · have hde : decide (pageB (rdM l) = l) = true := by simpa using he
        rw [hde] at hsb
        have HSY : Hid (Says l (rdM l)) := hidden ⟨HOK.out, he⟩
        obtain ⟨c0, c1, c2, c3, c4, c5, c6, c7⟩ := row8 HM3.out
        obtain ⟨HXS, HBR⟩ := NO.out w3 HX3.out HW3.out (rdM l)
        clear hde
        generalize (strOfNums (pageB (rdM l))) = s1 at *
        generalize (strOfNums l) = s2 at *
        generalize (pageB (rdM l)).length = n3 at *
        clear he
        go_wp2_with (refine wpList_store_row rfl _ _ _ rfl w.heap.size (mtC (rdM l)) (by rfl) (by rfl) 24 _ HX3.out (mtC_size _) (by rfl) (mtC_one _) ?_)
        refine bodyPost_ret (results_row2 rfl _ _ w.heap.size 24 (mtC (rdM l)) (0, 0) _ (.int .i64 0) (by rfl) (by rfl) HXS.out Tryd.underlying24 rfl (mtC_size _)) rfl ?_
        exact Dec5.yes HSY.out HBR.out
      · have hde : decide (pageB (rdM l) = l) = false := by simpa using he
        rw [hde] at hsb
        have HSN : Hid (¬ ∃ m', Says l m') := hidden fun h => he ((says_iff l).1 h).2
        obtain ⟨HXS, HBR⟩ := NO.out w3 HX3.out HW3.out Mt.z
        clear hde
        generalize (strOfNums (pageB (rdM l))) = s1 at *
        generalize (strOfNums l) = s2 at *
        generalize (pageB (rdM l)).length = n3 at *
        clear he
        go_wp2_with (refine wpList_store_row rfl _ _ _ rfl w.heap.size (mtC Mt.z) (by rfl) (by rfl) 24 _ HX3.out (mtC_size _) (by rfl) (mtC_one _) ?_)
        refine bodyPost_ret (results_row2 rfl _ _ w.heap.size 24 (mtC Mt.z) (0, 0) _ (.int .i64 50) (by rfl) (by rfl) HXS.out Tryd.underlying24 rfl (mtC_size _)) rfl ?_
        exact Dec5.no HSN.out HBR.out
    · have HSN : Hid (¬ ∃ m', Says l m') := hidden fun h => hok ((says_iff l).1 h).1
      have HEN := hidden (rEncode_no (rdM l) wc hok)
      clear hok
      go_wp2_with (go_at_call 13; rw [← mtV_eq]; refine HEN.out.mono ?_; rintro e w3 ⟨rfl, hb3⟩; have HB3 := hidden hb3; clear hb3; rw [mtV_eq]; refine Hid.out ?_)
      apply hidden
      have HX3 := hidden (box_on HXz.out HB3.out)
      have HW3 := hidden (bl_go HWc.out (Nat.le_refl _) HB3.out)
      obtain ⟨HXS, HBR⟩ := NO.out w3 HX3.out HW3.out Mt.z
      clear c0 c1 c2 c3 c4 c5 c6 c7 HEN HB3
      go_wp2_with (refine wpList_store_row rfl _ _ _ rfl w.heap.size (mtC Mt.z) (by rfl) (by rfl) 24 _ HX3.out (mtC_size _) (by rfl) (mtC_one _) ?_)
      refine bodyPost_ret (results_row2 rfl _ _ w.heap.size 24 (mtC Mt.z) (0, 0) _ (.int .i64 50) (by rfl) (by rfl) HXS.out Tryd.underlying24 rfl (mtC_size _)) rfl ?_
      exact Dec5.no HSN.out HBR.out
  · have hpn2 : ((rdM l).pg == (n : Int)) = false := by simpa using hpn
    have HSN : Hid (¬ ∃ m', Says l m') := hidden fun ⟨m', h⟩ => by
      have h1 := h.length.1
      have h2 := congrArg Mt.pg h.eq
      have h3 := HL.out
      omega
    obtain ⟨HXS, HBR⟩ := NO.out wc HXz.out HWc.out Mt.z
    go_wp2_with (refine wpList_store_row rfl _ _ _ rfl w.heap.size (mtC Mt.z) (by rfl) (by rfl) 24 _ HXz.out (mtC_size _) (by rfl) (mtC_one _) ?_)
    refine bodyPost_ret (results_row2 rfl _ _ w.heap.size 24 (mtC Mt.z) (0, 0) _ (.int .i64 50) (by rfl) (by rfl) HXS.out Tryd.underlying24 rfl (mtC_size _)) rfl ?_
    exact Dec5.no HSN.out HBR.out
end Go.Proofs.YtoifjcliepongaaDoor
