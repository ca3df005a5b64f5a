/- The document's device: Write, the walk. -/
import Derived.Test.YtikpfcapnpppdaaRm
namespace Go.Proofs.Ytikpfcapnpppdaa
open Go.RowKit

set_option maxRecDepth 100000 in
set_option maxHeartbeats 2000000 in
theorem rWrite_go (w : World) (F : Nat → Prop) (a : Nat) (r : R) (n gb ob cb : Nat) (l : List Int) (h : Rv w F a r) (hd : r.down = false) (hn : n < r.L.length) (hlen : l.length = r.page) (hwf : Wf l) (hcell : ∀ j v, (By l)[j]? = some v → w.cell? ((⟨gb, ob, none⟩ : Addr).add j) = some v) (hgb : ¬ F gb) (hgl : gb < w.heap.size) (h1 : 0 ≤ r.cw) (h2 : r.cw < 4611686018427387904) (hfew : r.wild.length < 4398046511103)
    (bf : Bool) (rf : R) (e1 : rf.page = r.page) (e2 : rf.L = r.L) (e3 : rf.wild = r.wild) (hfail : ∀ u, Rv u F a { r with cw := r.cw + 1 } → Calls Try.prog 52 #[.pointer (some ⟨a, 0, none⟩)] u fun e u' => e = .returned (.bool bf) ∧ Rv u' F a rf ∧ Ch F u u' ∧ u'.heap.size = u.heap.size)
    (Q : Ending → World → Prop) (hno : bf = false → ∀ u, Rv u (fun k => F k ∨ (w.heap.size ≤ k ∧ k < u.heap.size)) a { rf with wild := rf.wild ++ [(n, l)] } → Ch F w u → Q (.returned (.int .i64 0)) u)
    (hyes : bf = true → ∀ u, Rv u (fun k => F k ∨ (w.heap.size ≤ k ∧ k < u.heap.size)) a { rf with wild := rf.wild ++ [(n, l)] } → Ch F w u → ∀ ao kn kc, u.cell? ⟨a, 6, none⟩ = some (.slice ao kn kc) → Calls Try.prog 53 #[.pointer (some ⟨a, 0, none⟩), .agg #[.slice ao kn kc, .int .i64 rf.torn, .int .i64 rf.tat]] u fun e u' => e = .returned (.tuple #[]) ∧ Q (.returned (.int .i64 3)) u') :
    Calls Try.prog 29 #[.pointer (some ⟨a, 0, none⟩), .int .i64 (n : Int), .slice (some ⟨gb, ob, none⟩) r.page cb] w Q := by
  have H := hidden h
  obtain ⟨vL, vW, vK, qs, hc, hf, hr, ha⟩ := h.c
  obtain ⟨ao, c, hv, _⟩ := own_val hr.oL
  have c3 : w.cell? ⟨a, 3, none⟩ = some (.bool r.down) := hc 3
  rw [hd] at c3
  have c1 : w.cell? ⟨a, 1, none⟩ = some (.slice ao r.L.length c) := by rw [← hv]; exact hc 1
  have c0 : w.cell? ⟨a, 0, none⟩ = some (.int .i64 r.page) := hc 0
  have c10 : w.cell? ⟨a, 10, none⟩ = some (.int .i64 r.cw) := hc 10
  have f10 := hf 10
  have hni : ¬ ((n : Int) < 0) := by omega
  have hnl : ¬ ((r.L.length : Int) ≤ (n : Int)) := by omega
  have hp1 := hr.p1
  have hp2 := hr.p2
  have HN := hidden hn
  have HL := hidden (And.intro hlen hwf)
  have HCE := hidden hcell
  have HGB := hidden hgb
  have HE := hidden (And.intro e1 (And.intro e2 e3))
  have cF := hfail (w.setCell ⟨a, 10, none⟩ (.int .i64 (r.cw + 1))) (H.out.set10 _)
  have HNO := hidden hno
  have HYES := hidden hyes
  have HFEW := hidden hfew
  clear hc hf hr ha h hv hn hlen hwf hcell hgb e1 e2 e3 hfail hno hyes hfew vL vW vK qs
  go_enter Try.func29, Try.ntmps29
  go_wp2_with (go_at_call 52; refine cF.mono ?_; rintro e u2 ⟨rfl, hv2, hC2, hz2⟩; have HV2 := hidden hv2; have HC2 : Hid (Ch F w u2) := hidden ((Ch.setCell w H.out.fa _).trans hC2 fun _ _ h => h); have hsz2 : u2.heap.size = w.heap.size := (hz2.trans (by simp [World.setCell])); clear hv2 hC2 hz2; refine Hid.out ?_)
  apply hidden
  clear cF c0 c1 c3 c10 f10
  obtain ⟨vL, vW, vK, qs, hc, hf, hr, ha⟩ := HV2.out.c
  obtain ⟨xs, hx1, hx2⟩ := hr.hx
  obtain ⟨aW, cW, eW, _⟩ := own_val hx1
  obtain ⟨m, hm⟩ : ∃ m, rf.wild.length = m := ⟨_, rfl⟩
  have c2 : u2.cell? ⟨a, 2, none⟩ = some (.slice aW m cW) := by rw [← hm, ← eW]; exact hc 2
  have hal := lt_of_some ha
  rw [HE.out.1] at hr
  have hmb : m < 4398046511103 := by rw [← hm, HE.out.2.2]; exact HFEW.out
  have hbWa : vW.ownBlock ≠ some a := fun e => (hr.bW a e).2 rfl
  have HW := hidden (fun w5 w7 g5 c5 g' c' o => hr.wrote (w5 := w5) (w7 := w7) (g5 := g5) (c5 := c5) (g' := g') (c' := c') (o := o) (n := n) (l := l) hal hx1 (by rw [HE.out.1] at hx2; exact hx2) (by rw [HE.out.2.1]; exact HN.out) HL.out.1 HL.out.2 (by rw [hm]; exact hmb))
  have HSRC : Hid (∀ j v, (By l)[j]? = some v → u2.drew.cell? ((⟨gb, ob, none⟩ : Addr).add j) = some v) := hidden fun j v hv => by
    have := HCE.out j v hv
    rw [Addr.add_lit] at this ⊢
    exact (World.cell?_of_block (w := w) (a := ⟨gb, ob + j, none⟩) (HC2.out.block gb hgl HGB.out)).trans this
  rw [eW, hm] at HW
  rw [eW, hm] at hbWa
  have HX1 : Hid (u2.ownsRow 0 74 2 (.slice aW m cW) m xs) := hidden (by rw [← hm, ← eW]; exact hx1)
  have HA := hidden ha
  have HBW := hidden hbWa
  have HEW := hidden eW
  have hlW : ∀ g, (Value.slice aW m cW).ownBlock = some g → g < u2.heap.size := fun g e => (HX1.out.lt g e).2
  have HLW := hidden hlW
  have HFW : Hid (∀ g, (Value.slice aW m cW).ownBlock = some g → F g) := hidden fun g e => (hr.bW g (by rw [eW, hm]; exact e)).1
  clear hc hf hr ha hx1 hx2 hm eW hbWa hlW HCE
  go_wp2_with fail
  have HAF : Hid (∀ w5 o w7, u2.grownBy w5 none → (w5.alloc o).grownBy w7 (Value.slice aW m cW).ownBlock → w7.heap[a]? = some (.cells (rcells rf vL vW vK).toArray 59 (0, 0))) := hidden fun w5 o w7 k5 k7 => by
    have hz := k5.size
    rw [k7.block a (by simp; omega) (fun e => HBW.out e.symm), Below.heap_alloc _ _ _ (by omega), k5.block a hal (fun e => by cases e)]
    exact HA.out
  go_region_law (first | (refine step_app_new rfl (.tmp 50) rfl ⟨gb, ob, none⟩ r.page cb l rfl HL.out.1 (by omega) (by omega) HSRC.out ?_; intro g5 c5 w5 o5 k5; have y2 : w5.cell? ⟨a, 2, none⟩ = some (.slice aW m cW) := (World.cell?_of_block (w := u2) (a := ⟨a, 2, none⟩) (k5.block a hal (fun e => by cases e))).trans c2; replace o5 := hidden o5; replace k5 := hidden (undrew k5); have hz5 : ¬ a = w5.heap.size := (by have := k5.out.size; omega); have y2a : ∀ o, (w5.alloc o).cell? ⟨a, 2, none⟩ = some (.slice aW m cW) := fun o => (World.cell?_of_block (w := w5) (a := ⟨a, 2, none⟩) (Below.heap_alloc w5 o a (Nat.lt_of_lt_of_le hal k5.out.size))).trans y2; have HO5 := hidden (own_keep HX1.out fun g e => k5.out.block g (HLW.out g e) (fun e' => by cases e'))) | (refine step_app_loose rfl (.tmp 48) (.tmp 53) rfl (.slice aW m cW) m xs rfl (HO5.out.alloc _) w5.heap.size g5 r.page c5 (n : Int) rfl (by simp) (by simp) hmb ?_; intro g' c' w7 o7 k7 hv; have hA7 := HAF.out w5 _ w7 k5.out k7; obtain ⟨y7, hy7⟩ : ∃ y, w7.cell? ⟨a, 2, none⟩ = some y := ⟨_, cell_of_row (i := 2) hA7⟩; have f7 := free_of_row (i := 2) hA7; replace o7 := hidden o7; replace k7 := hidden k7; replace hv := hidden hv; replace hA7 := hidden hA7))
  all_goals
    have hRW := HW.out w5 w7 g5 c5 g' c' _ o5.out k5.out o7.out k7.out hv.out
    have HZ7 : Hid (w7.heap.size = (w7.setCell ⟨a, 2, none⟩ (.slice (some ⟨g', 0, none⟩) (m + 1) c')).heap.size) := hidden (by simp [World.setCell])
    have HV7 : Hid (Rv (w7.setCell ⟨a, 2, none⟩ (.slice (some ⟨g', 0, none⟩) (m + 1) c')) (fun k => F k ∨ (w.heap.size ≤ k ∧ k < (w7.setCell ⟨a, 2, none⟩ (.slice (some ⟨g', 0, none⟩) (m + 1) c')).heap.size)) a { rf with wild := rf.wild ++ [(n, l)] }) := hidden ⟨vL, _, vK, qs, heap_setCell_self hA7.out, by
      rw [hsz2, HZ7.out] at hRW
      show RRest _ _ a rf.page rf.L _ rf.keep vL _ vK qs
      rw [HE.out.1]
      exact hRW⟩
    have HC7 : Hid (Ch F w (w7.setCell ⟨a, 2, none⟩ (.slice (some ⟨g', 0, none⟩) (m + 1) c'))) := hidden ((((HC2.out.trans (Ch.grown (F := F) k5.out (fun k e => by cases e)) fun _ _ h => h).trans (Ch.alloc F w5 _) fun _ _ h => h).trans (Ch.grown (F := F) k7.out (fun k e => HFW.out k e)) fun _ _ h => h).trans (Ch.setCell (F := F) w7 HV2.out.fa _) fun _ _ h => h)
    clear hRW o5 k5 o7 k7 hv HW HSRC HO5 HAF y2 y2a hy7 f7 hA7 HZ7 HX1 HFW HLW HBW
    generalize w7.setCell ⟨a, 2, none⟩ (.slice (some ⟨g', 0, none⟩) (m + 1) c') = w8 at HV7 HC7 ⊢
    cases bf
    · go_wp2
      exact HNO.out (by first | rfl | trivial) w8 HV7.out HC7.out
    · obtain ⟨vL8, vW8, vK8, qs8, hc8, hf8, hr8, ha8⟩ := HV7.out.c
      obtain ⟨ak, nk, ck, ek, _⟩ := hr8.ke
      have z6 : w8.cell? ⟨a, 6, none⟩ = some (.slice ak nk ck) := by rw [← ek]; exact hc8 6
      have z7 : w8.cell? ⟨a, 7, none⟩ = some (.int .i64 rf.torn) := hc8 7
      have z8 : w8.cell? ⟨a, 8, none⟩ = some (.int .i64 rf.tat) := hc8 8
      have cY := HYES.out (by first | rfl | trivial) w8 HV7.out HC7.out ak nk ck z6
      clear hc8 hf8 hr8 ha8 ek HYES HNO
      go_wp2_with (go_at_call 53; refine cY.mono ?_; rintro e w9 ⟨rfl, hq⟩; have HQ := hidden hq; clear hq; refine Hid.out ?_)
      apply hidden
      clear cY
      go_wp2
      exact HQ.out
end Go.Proofs.Ytikpfcapnpppdaa
