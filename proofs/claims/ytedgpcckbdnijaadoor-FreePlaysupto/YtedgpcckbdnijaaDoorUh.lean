/- rising, followed as its text goes; Free, Waiting, All. -/
import Derived.Test.YtedgpcckbdnijaaDoorUg
namespace Go.Proofs.YtedgpcckbdnijaaDoor
open Go.RowKit Go.Maps Go.Sort Go.Shelf

set_option maxRecDepth 100000 in
theorem ranges_noCells {w : World} {k : TypeId} {R : Value → Option (DataW Unit × List MemPlace)} {b r n cnt : Nat} {D : DataW Unit} {left : Lit → Bool} (h : w.ranges Tryd.prog k R b r n D left cnt) {c : Array Value} {t : TypeId} {fz : Nat × Nat} (hc : w.heap[r]? = some (.cells c t fz)) : False := by
  obtain ⟨es, clock, since, seen, c0, _, _, _, _, h1, _⟩ := h
  rw [h1] at hc
  cases hc
/-- What is asked of the function that tells the kind. -/
def Kind (g : Nat) (lb : Array Value) (f : Int → Bool) (w : World) : Prop := ∀ (s : Int) (u : World), Below w.heap.size w u → Calls Tryd.prog g (#[.int .i64 s] ++ lb) u fun e u' => e = .returned (.bool (f s)) ∧ u' = u
set_option maxRecDepth 100000 in
set_option maxHeartbeats 2000000 in
theorem rising_any {w : World} {m : Nat} {K : Int → Option Int} (h : MK w m K) (g : Nat) (lb : Array Value) (f : Int → Bool) (hf : Kind g lb f w) (eg : ∀ args w, (callFunc g args).run Tryd.prog w = .ok (.enter g args) w) :
    Calls Tryd.prog 41 #[.map (some m), .func (.func g) #[] lb] w fun e u => ∃ v, e = .returned v ∧ Hid (OwnJ u w.heap.size v (kL K f)) ∧ Hid (Below w.heap.size w u) := by
  obtain ⟨D, hown, hD, hsz⟩ := h.size
  have HD := hidden hD
  have hmlt := h.lt
  have HP := hidden h.2
  have HF := hidden hf
  clear hf h hD
  generalize hn : Maps.size D = n at *
  go_enter Tryd.func41, Tryd.ntmps41
  go_wp2_with (first
    | (at_range; refine wpList_range_own _ rfl _ 56 rfl 3 3 kI Tryd.underlying56 _ m n _ rfl hown ?_; intro w0 hrg0 hg0 hs0)
    | go_in)
  go_frame
  rw [hn] at hrg0
  go_loopw [5, 6, 7] (fun v _ _ wr => ∃ (left : Lit → Bool) (cnt : Nat) (cs : List Int), Hid (wr.ranges Tryd.prog 3 (plainElem Tryd.prog 3) m w.heap.size n D left cnt) ∧ Hid (OwnJ wr w.heap.size v cs) ∧ Hid (Col K f left cs) ∧ Hid (Below w.heap.size w wr) ∧ cs.length + cnt ≤ n)
    (fun _ _ _ wr => wr.rangeLeft m w.heap.size)
  case atStart => exact ⟨_, _, [], hidden hrg0, hidden (OwnJ.nil _ _), hidden (Col.start HD.out f), hidden ⟨hg0.os, hg0.tape, hg0.output, hg0.size, fun k hk => hg0.block k hk (by simp)⟩, by simp⟩
  case round =>
    obtain ⟨left, cnt, cs, HRG, HO, HC, HB, hle⟩ := hrel
    go_wp2_with (first
      | (at_next; refine wpList_next_ranges_ii _ rfl _ rfl 3 3 .i64 .i64 kI Tryd.underlying3 Tryd.underlying3 m w.heap.size n _ _ _ rfl HRG.out ?_ ?_)
      | go_in)
    · intro _ hl0
      have HS : Hid (kL K f = cs.mergeSort (fun x y => decide (x ≤ y))) := hidden (sorted_kL HP.out f HC.out.1 (fun x => by rw [HC.out.2 x, hl0]; simp)).symm
      have HSO := hidden (sort_own HO.out (by omega) HB.out.size)
      clear HRG hrg0 hown hg0 hs0 hl0
      go_wp2_with (go_at_call 63; refine HSO.out.mono ?_; rintro e w2 ⟨rfl, HO2, HB2⟩)
      go_ret
      exact ⟨_, rfl, hidden (by rw [HS.out]; exact HO2.out), hidden (HB.out.trans HB2.out)⟩
    · intro x c w1 cnt1 hwx hwc hlx hat hrg1 hlt hg1 hs1 hen
      have HK := hidden (HD.out.val hat)
      have HB1 : Hid (Below w.heap.size w w1) := hidden (HB.out.trans ⟨hg1.os, hg1.tape, hg1.output, hg1.size, fun k hk => hg1.block k (by have := HB.out.size; omega) (by intro e; injection e with e; omega)⟩)
      have HO1 : Hid (OwnJ w1 w.heap.size u5 cs) := hidden (World.ownsRow.kept HO.out hg1 (by
        right
        intro e
        have h1 := HO.out
        unfold OwnJ at h1
        rcases h1.2 with ⟨rfl, _⟩ | ⟨g', cap, cur, rfl, _, hh, _⟩
        · cases e
        · injection e with e
          have e' : g' = w.heap.size := e
          rw [e'] at hh
          exact ranges_noCells HRG.out hh))
      have HFC := hidden (HF.out c w1 HB1.out)
      have HRG1 := hidden hrg1
      have HLX := hidden hlx
      have HM : Hid (w1.rangeLeft m w.heap.size < wr.rangeLeft m w.heap.size) := hidden (by rw [hrg1.left_eq, HRG.out.left_eq]; exact hlt)
      clear hrg1 hg1 hs1 hat hlx hrg0 hown hg0 hs0
      cases hfc : f c with
      | false =>
        rw [hfc] at HFC
        go_wp2_with (go_at_fn g; refine same_call HFC.out ?_)
        go_roundw
        case rel => exact ⟨_, cnt1, cs, HRG1, HO1, hidden (HC.out.no HLX.out HK.out hfc), HB1, by omega⟩
        case measure => exact HM.out
      | true =>
        rw [hfc] at HFC
        obtain ⟨y, hy⟩ : ∃ y, w1.alloc (.cells #[.int .i64 x] 3) = y := ⟨_, rfl⟩
        have hby : Below w1.heap.size w1 y := by rw [← hy]; exact bl_al (Below.refl _ _) (Nat.le_refl _) _
        have hcy : y.cell? ⟨w1.heap.size, 0, none⟩ = some (.int .i64 x) := by rw [← hy]; simp
        have HOY := hidden (HO1.out.below hby)
        have HRY : Hid (y.ranges Tryd.prog 3 (plainElem Tryd.prog 3) m w.heap.size n D (fun z => left z && !z.sameKey (.int .i64 x)) cnt1) := hidden (by rw [← hy]; exact HRG1.out.alloc _)
        have HBY := hidden (HB1.out.trans (hby.mono HB1.out.size))
        clear hby
        go_wp2_with (first
          | (go_at_fn g; refine same_call HFC.out ?_)
          | (at_builtin; refine app_j _ rfl _ _ rfl w.heap.size cs x _ w1.heap.size rfl rfl HOY.out hcy (by omega) HBY.out.size ?_; refine Hid.out ?_))
        apply hidden
        intro v' w2 ho hg
        have hne : ∀ k, (∃ c t fz, y.heap[k]? = some (.cells c t fz)) ∨ u5.ownBlock ≠ some k := by
          intro k
          have h1 := HOY.out
          unfold OwnJ at h1
          rcases h1.2 with ⟨rfl, _⟩ | ⟨g', cap, cur, rfl, _, hh, _⟩
          · right; intro e; cases e
          · by_cases e : g' = k
            · left; rw [← e]; exact ⟨_, _, _, hh⟩
            · right; intro e2; injection e2 with e2; exact e e2
        have HR2 := hidden (HRY.out.kept hg.grow (by
          intro e
          rcases hne m with ⟨c', t', fz', h1⟩ | h1
          · obtain ⟨es, clock, _, _, _, h2, _⟩ := HRY.out
            rw [h1] at h2
            cases h2
          · exact h1 e.symm) (by
          intro e
          rcases hne w.heap.size with ⟨c', t', fz', h1⟩ | h1
          · exact ranges_noCells HRY.out h1
          · exact h1 e.symm))
        have HM2 : Hid (w2.rangeLeft m w.heap.size < wr.rangeLeft m w.heap.size) := hidden (by
          rw [HR2.out.left_eq]
          have := HM.out
          rwa [HRG1.out.left_eq] at this)
        have HO2 := hidden ho
        have HB2 : Hid (Below w.heap.size w w2) := hidden (HBY.out.trans (own_below HOY.out HBY.out.size hg.grow))
        clear ho hg hy hcy hne
        go_wp2_with fail
        go_roundw
        case rel => exact ⟨_, cnt1, cs ++ [x], HR2, HO2, hidden (HC.out.yes HLX.out HK.out hfc), HB2, by simp; omega⟩
        case measure => exact HM2.out
section
variable {w : World} {b m : Nat} {mv : Value} {last : Int} {K : Int → Option Int}
set_option maxRecDepth 100000 in
theorem free_any (h : Fs w b m mv last K) : Calls Tryd.prog 13 #[pB b] w fun e u => ∃ v, e = .returned v ∧ Hid (OwnJ u w.heap.size v (kL K (· == 0))) ∧ Hid (Below w.heap.size w u) := by
  have hr := rising_any h.kept 42 #[] (· == 0) (fun s u _ => isFree_any s u) (enters_of Tryd.func42 (by kernel_rfl) rfl)
  have c0 := h.c0
  clear h
  go_enter Tryd.func13, Tryd.ntmps13
  go_wp2_with (go_at_call 41; refine hr.mono ?_; rintro e u ⟨v, rfl, HO, HB⟩)
  go_ret
  exact ⟨v, rfl, HO, HB⟩
set_option maxRecDepth 100000 in
theorem waiting_any (h : Fs w b m mv last K) : Calls Tryd.prog 14 #[pB b] w fun e u => ∃ v, e = .returned v ∧ Hid (OwnJ u w.heap.size v (kL K (fun s => decide (0 < s)))) ∧ Hid (Below w.heap.size w u) := by
  have hr := rising_any h.kept 43 #[] (fun s => decide (0 < s)) (fun s u _ => waits_any s u) (enters_of Tryd.func43 (by kernel_rfl) rfl)
  have c0 := h.c0
  clear h
  go_enter Tryd.func14, Tryd.ntmps14
  go_wp2_with (go_at_call 41; refine hr.mono ?_; rintro e u ⟨v, rfl, HO, HB⟩)
  go_ret
  exact ⟨v, rfl, HO, HB⟩
set_option maxRecDepth 100000 in
theorem all_any (h : Fs w b m mv last K) : Calls Tryd.prog 19 #[pB b] w fun e u => ∃ v, e = .returned v ∧ Hid (OwnJ u w.heap.size v (kL K (fun _ => true))) ∧ Hid (Below w.heap.size w u) := by
  have hr := rising_any h.kept 47 #[] (fun _ => true) (fun s u _ => either_any s u) (enters_of Tryd.func47 (by kernel_rfl) rfl)
  have c0 := h.c0
  clear h
  go_enter Tryd.func19, Tryd.ntmps19
  go_wp2_with (go_at_call 41; refine hr.mono ?_; rintro e u ⟨v, rfl, HO, HB⟩)
  go_ret
  exact ⟨v, rfl, HO, HB⟩
end
end Go.Proofs.YtedgpcckbdnijaaDoor
