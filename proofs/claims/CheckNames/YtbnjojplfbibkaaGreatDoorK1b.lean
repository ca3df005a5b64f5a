/- Layer 21: what is no image, and an image of zeros: no meta. -/
import Derived.Test.YtbnjojplfbibkaaGreatDoorMn
import Derived.Test.YtbnjojplfbibkaaGreatDoorPm1
namespace Go.Proofs.YtbnjojplfbibkaaGreatDoor
open Go.RowKit

set_option maxRecDepth 100000 in
theorem isImage_no (ao : Option Addr) (n c : Nat) (x : Int) (w : World) (h : Calls Tryz.prog 25 #[.slice ao n c, .int .i64 x] w fun e w' => e = .returned (.tuple #[.pointer none, .int .i64 32]) ∧ w' = w) :
    Calls Tryz.prog 15 #[.slice ao n c, .int .i64 x] w fun e w' => e = .returned (.bool false) ∧ w' = w := by
  have HL := hidden h
  clear h
  go_enter Tryz.func15, Tryz.ntmps15
  go_wp2_with (go_at_call 25; refine same_call HL.out ?_)
  go_ret
  exact ⟨rfl, rfl⟩
set_option maxRecDepth 100000 in
theorem isImage_yes (w : World) (ao : Option Addr) (n c : Nat) (l : List Int) (x y : Nat) (hs : Sl w ao n c l) (hm : n = x * y) (hd : dev x y = true) :
    Calls Tryz.prog 15 #[.slice ao n c, .int .i64 (x : Int)] w fun e w' => e = .returned (.bool true) ∧ Below w.heap.size w w' := by
  have HL := hidden (Load_yes w ao n c l x y hs hm hd)
  clear hs hm hd
  go_enter Tryz.func15, Tryz.ntmps15
  go_wp2_with (go_at_call 25; refine HL.out.mono ?_; rintro e w1 ⟨a, rfl, _, hb⟩; have HB := hidden hb; clear hb)
  go_ret
  exact ⟨rfl, HB.out⟩
set_option maxRecDepth 100000 in
theorem bytesOf_0 (g : Nat) (w : World) : Calls Tryz.prog 19 #[.slice (some ⟨g, 0, none⟩) 4096 4096, .int .i64 512, .int .i64 0] w fun e w' => e = .returned (.slice (some ⟨g, 0, none⟩) 512 4096) ∧ w' = w := by
  go_enter Tryz.func19, Tryz.ntmps19
  go_wp2
  go_ret
  exact ⟨rfl, rfl⟩
set_option maxRecDepth 100000 in
theorem bytesOf_1 (g : Nat) (w : World) : Calls Tryz.prog 19 #[.slice (some ⟨g, 0, none⟩) 4096 4096, .int .i64 512, .int .i64 1] w fun e w' => e = .returned (.slice (some ⟨g, 512, none⟩) 512 3584) ∧ w' = w := by
  go_enter Tryz.func19, Tryz.ntmps19
  go_wp2
  go_ret
  exact ⟨rfl, rfl⟩

set_option maxRecDepth 100000 in
/-- A page of zeros says no meta. -/
theorem says_zs (k : Nat) : ¬ ∃ m, Says (zs k) m := by
  rintro ⟨m, h⟩
  have hl := h.length.2
  obtain ⟨_, h2⟩ := h
  have e1 : (pageB m)[0]? = some 1 := by simp [pageB, sealB, bodyB, hdB]
  rw [h2] at e1
  rw [zs_length] at hl
  rw [zs, List.getElem?_replicate, if_pos (by omega)] at e1
  cases e1
set_option maxRecDepth 100000 in
theorem zs_getD (k i : Nat) : (zs k).getD i 0 = 0 := by
  simp only [zs, List.getD_eq_getElem?_getD, List.getElem?_replicate]
  split <;> rfl
set_option maxRecDepth 100000 in
theorem dev8 : dev ((512 : Nat) : Int) ((8 : Nat) : Int) = true := by decide
/-- Zeros, as many as an image of eight pages has. -/
structure Zer (w : World) (g : Nat) : Prop where
  hs : Sl w (some ⟨g, 0, none⟩) 4096 4096 (zs 4096)
set_option maxRecDepth 100000 in
theorem Zer.cut {w : World} {g : Nat} (h : Zer w g) (k : Nat) (hk : k + 512 ≤ 4096) : Sl w (some ⟨g, k, none⟩) 512 (4096 - k) (zs 512) := by
  refine ⟨zs_length _, by omega, by omega, zs_wf _, (by intro h; cases h), ?_⟩
  rcases h.hs.hat with h0 | ⟨b', o', e, hlt, hc⟩
  · omega
  · cases e
    refine .inr ⟨g, k, rfl, hlt, fun i hi => ?_⟩
    have := hc (k + i) (by omega)
    rw [Nat.zero_add] at this
    rw [this, zs_getD, zs_getD]
set_option maxRecDepth 100000 in
theorem Zer.on {w u : World} {g : Nat} (h : Zer w g) (hb : Below w.heap.size w u) : Zer u g := ⟨h.hs.on (Nat.le_refl _) hb⟩

set_option maxRecDepth 100000 in
theorem results_tmp4 {fn : Func} {t u v x : Tmp} (h : fn.results = #[.tmp t, .tmp u, .tmp v, .tmp x]) (tmps : Array Value) (P : Program) (w : World) :
    (results fn tmps).run P w = .ok (.tuple #[tmps.getD t undef, tmps.getD u undef, tmps.getD v undef, tmps.getD x undef]) w := by
  simp [results, h]
def SvNo (w : World) (k : Int) (e : Ending) (w' : World) : Prop := e = .returned (.tuple #[.pointer none, .int .i64 k]) ∧ Below w.heap.size w w'
set_option maxRecDepth 100000 in
theorem surveyed_no (ao : Option Addr) (n c : Nat) (x : Int) (w : World) (h : Calls Tryz.prog 25 #[.slice ao n c, .int .i64 x] w fun e w' => e = .returned (.tuple #[.pointer none, .int .i64 32]) ∧ w' = w) :
    Calls Tryz.prog 10 #[.slice ao n c, .int .i64 x] w fun e w' => SvNo w 32 e w' := by
  have HL := hidden (isImage_no ao n c x w h)
  clear h
  go_enter Tryz.func10, Tryz.ntmps10
  go_wp2_with (go_at_call 15; refine same_call HL.out ?_)
  go_ret2
  exact ⟨rfl, Below.refl _ _⟩
set_option maxRecDepth 100000 in
set_option maxHeartbeats 1000000 in
theorem surveyed_zero (g : Nat) (w : World) (hz : Zer w g) (ht : Tab w) (h0 : 0 < w.heap.size) :
    Calls Tryz.prog 10 #[.slice (some ⟨g, 0, none⟩) 4096 4096, .int .i64 512] w fun e w' => SvNo w 51 e w' := by
  have HI : Hid (Calls Tryz.prog 15 #[.slice (some ⟨g, 0, none⟩) 4096 4096, .int .i64 512] w fun e w' => e = .returned (.bool true) ∧ Below w.heap.size w w') := hidden (isImage_yes w _ 4096 4096 _ 512 8 hz.hs (by decide) dev8)
  have HZ := hidden hz
  have HT := hidden ht
  have HA := fun v => hidden (bytesOf_0 g v)
  have HB := fun v => hidden (bytesOf_1 g v)
  clear hz ht
  go_enter Tryz.func10, Tryz.ntmps10
  go_wp2_with (first | (go_at_call 15; refine HI.out.mono ?_; rintro e w1 ⟨rfl, hb⟩; have HB1 := hidden hb; clear hb; refine Hid.out ?_))
  apply hidden
  have HC := hidden (choose_any (some ⟨g, 0, none⟩) (some ⟨g, 512, none⟩) 512 512 4096 3584 (zs 512) (zs 512) w1 ((HZ.out.on HB1.out).cut 0 (by omega)) ((HZ.out.on HB1.out).cut 512 (by omega)) (HT.out.on HB1.out h0) (Nat.lt_of_lt_of_le h0 HB1.out.size))
  clear HI HZ HT
  go_wp2_with (go_at_call 19; refine same_call (HA _).out ?_; refine Hid.out ?_)
  apply hidden
  go_wp2_with (go_at_call 19; refine same_call (HB _).out ?_; refine Hid.out ?_)
  apply hidden
  go_wp2_with ((go_at_call 18; refine HC.out.mono ?_; rintro e w2 ⟨m, s, k, rfl, hk, hb⟩; have HK := hidden hk; have HB2 := hidden hb; clear hk hb; refine Hid.out ?_))
  apply hidden
  obtain ⟨rfl, rfl, rfl⟩ := HK.out.neither (StIs.none 0 (says_zs 512)) (StIs.none 1 (says_zs 512))
  have HW := hidden (bl_go HB1.out (Nat.le_refl _) HB2.out)
  clear HA HB HC HK HB1 HB2
  rw [mtV_eq]
  go_wp2_with fail
  go_quiet (fail)
  go_wp2
  go_ret2
  exact ⟨rfl, below_drewN (bl_al HW.out (Nat.le_refl _) _) _⟩
set_option maxRecDepth 100000 in
theorem whole_no (ao : Option Addr) (n c : Nat) (x k : Int) (hk : ¬ k = 0) (w : World) (h : Calls Tryz.prog 10 #[.slice ao n c, .int .i64 x] w fun e w' => SvNo w k e w') :
    Calls Tryz.prog 11 #[.slice ao n c, .int .i64 x] w fun e w' => SvNo w k e w' := by
  have HS := hidden h
  clear h
  go_enter Tryz.func11, Tryz.ntmps11
  go_wp2_with (go_at_call 10; refine HS.out.mono ?_; rintro e w1 ⟨rfl, hb⟩; have HB := hidden hb; clear hb)
  go_ret2
  exact ⟨rfl, HB.out⟩
set_option maxRecDepth 100000 in
theorem Reach_no (ao : Option Addr) (n c : Nat) (x k : Int) (hk : ¬ k = 0) (w : World) (h : Calls Tryz.prog 11 #[.slice ao n c, .int .i64 x] w fun e w' => SvNo w k e w') :
    Calls Tryz.prog 6 #[.slice ao n c, .int .i64 x] w fun e w' => e = .returned (.tuple #[.slice none 0 0, .slice none 0 0, .slice none 0 0, .int .i64 k]) ∧ Below w.heap.size w w' := by
  have HS := hidden h
  clear h
  go_enter Tryz.func6, Tryz.ntmps6
  go_wp2_with (go_at_call 11; refine HS.out.mono ?_; rintro e w1 ⟨rfl, hb⟩; have HB := hidden hb; clear hb)
  (try simp only [Exit.inBlock, Exit.then])
  refine bodyPost_ret (results_tmp4 rfl _ _ _) rfl ?_
  exact ⟨rfl, HB.out⟩
set_option maxRecDepth 100000 in
theorem Trees_no (ao : Option Addr) (n c : Nat) (x k : Int) (hk : ¬ k = 0) (w : World) (h : Calls Tryz.prog 11 #[.slice ao n c, .int .i64 x] w fun e w' => SvNo w k e w') :
    Calls Tryz.prog 7 #[.slice ao n c, .int .i64 x] w fun e w' => e = .returned (.tuple #[.slice none 0 0, .slice none 0 0, .int .i64 k]) ∧ Below w.heap.size w w' := by
  have HS := hidden h
  clear h
  go_enter Tryz.func7, Tryz.ntmps7
  go_wp2_with (go_at_call 11; refine HS.out.mono ?_; rintro e w1 ⟨rfl, hb⟩; have HB := hidden hb; clear hb)
  go_ret3
  exact ⟨rfl, HB.out⟩
set_option maxRecDepth 100000 in
theorem Salvage_no (ao : Option Addr) (n c : Nat) (x : Int) (w : World) (h : Calls Tryz.prog 25 #[.slice ao n c, .int .i64 x] w fun e w' => e = .returned (.tuple #[.pointer none, .int .i64 32]) ∧ w' = w) :
    Calls Tryz.prog 8 #[.slice ao n c, .int .i64 x] w fun e w' => e = .returned (.tuple #[.slice none 0 0, .int .i64 32]) ∧ w' = w := by
  have HL := hidden (isImage_no ao n c x w h)
  clear h
  go_enter Tryz.func8, Tryz.ntmps8
  go_wp2_with (go_at_call 15; refine same_call HL.out ?_)
  go_ret2
  exact ⟨rfl, rfl⟩
set_option maxRecDepth 100000 in
theorem Look_no (ao : Option Addr) (n c : Nat) (x : Int) (w : World) (h : Calls Tryz.prog 10 #[.slice ao n c, .int .i64 x] w fun e w' => SvNo w 32 e w') :
    Calls Tryz.prog 5 #[.slice ao n c, .int .i64 x] w fun e w' => e = .returned (.tuple #[.slice none 0 0, .int .i64 32]) ∧ Below w.heap.size w w' := by
  have HS := hidden h
  clear h
  go_enter Tryz.func5, Tryz.ntmps5
  go_wp2_with (go_at_call 10; refine HS.out.mono ?_; rintro e w1 ⟨rfl, hb⟩; have HB := hidden hb; clear hb)
  go_ret2
  exact ⟨rfl, HB.out⟩

/-- One fault in a row of its own. -/
def Ft1 (w : World) (g : Nat) : Prop := w.heap[g]? = some (.cells #[.int .i64 1, .int .i64 0, .int .i64 0] 40 (0, 0))
set_option maxRecDepth 100000 in
theorem Ft1.on {w u : World} {g : Nat} (h : Ft1 w g) (hb : Below w.heap.size w u) : Ft1 u g := (hb.block g (lt_some h)).trans h
set_option maxRecDepth 100000 in
theorem Ft1.new (w : World) : Ft1 (w.alloc (.cells #[.int .i64 1, .int .i64 0, .int .i64 0] 40)) w.heap.size := heap_alloc_new w _
set_option maxRecDepth 100000 in
theorem Look_zero (ao : Option Addr) (n c : Nat) (x : Int) (w : World) (h : Calls Tryz.prog 10 #[.slice ao n c, .int .i64 x] w fun e w' => SvNo w 51 e w') :
    Calls Tryz.prog 5 #[.slice ao n c, .int .i64 x] w fun e w' => ∃ g, e = .returned (.tuple #[.slice (some ⟨g, 0, none⟩) 1 1, .int .i64 0]) ∧ Ft1 w' g ∧ Below w.heap.size w w' := by
  have HS := hidden h
  clear h
  go_enter Tryz.func5, Tryz.ntmps5
  go_wp2_with (go_at_call 10; refine HS.out.mono ?_; rintro e w1 ⟨rfl, hb⟩; have HB := hidden hb; clear hb)
  go_ret2
  exact ⟨w1.heap.size, rfl, Ft1.new w1, bl_al HB.out (Nat.le_refl _) _⟩
end Go.Proofs.YtbnjojplfbibkaaGreatDoor
