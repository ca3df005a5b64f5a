/- The walk of CacheMakes. -/
import Derived.Test.YtmelhpghpcpoiaaCk
import Derived.Deep.RegionHeld3
namespace Go.Proofs.Ytmelhpghpcpoiaa
open Go.RowKit Go.Maps

set_option maxRecDepth 100000 in
theorem counts_is (w : World) (F : Nat → Prop) (a : Nat) (d : D) (h : Dv w F a d) : Calls Try.prog 35 #[.pointer (some ⟨a, 0, none⟩)] w fun e w' => e = .returned (.agg #[.int .i64 d.cr, .int .i64 d.cw, .int .i64 d.cs]) ∧ Below w.heap.size w w' := by
  obtain ⟨bs, bl, vL, vK, hc, hf, hr, ha⟩ := h.c
  have c5 : w.cell? ⟨a, 5, none⟩ = some (.int .i64 d.cr) := hc 5
  have c6 : w.cell? ⟨a, 6, none⟩ = some (.int .i64 d.cw) := hc 6
  have c7 : w.cell? ⟨a, 7, none⟩ = some (.int .i64 d.cs) := hc 7
  have hal := lt_of_some ha
  have hane : ¬ a = w.heap.size := by omega
  clear hc hf hr ha h
  go_enter Try.func35, Try.ntmps35
  go_wp2_with fail
  go_region_held3 (fun u => u.cell? ⟨a, 5, none⟩ = some (.int .i64 d.cr) ∧ u.cell? ⟨a, 6, none⟩ = some (.int .i64 d.cw) ∧ u.cell? ⟨a, 7, none⟩ = some (.int .i64 d.cs)) (go_keep) (fail)
  all_goals
    go_wp2
    exact bodyPost_ret (v := .agg #[.int .i64 d.cr, .int .i64 d.cw, .int .i64 d.cs]) (by simp [results, Try.results35, go_sem]) rfl ⟨rfl, ((Below.refl _ _).alloc (Nat.le_refl _) _).drew⟩

set_option maxRecDepth 100000 in
set_option maxHeartbeats 2000000 in
theorem walk_CacheMakes (x : Int) (w : World) (_ : -9223372036854775808 ≤ x ∧ x ≤ 9223372036854775807) : Calls Try.prog 8 #[.int .i64 x] w fun e w' => e = .returned (.bool true) ∧ Below w.heap.size w w' := by
  have hL := live_any w
  go_enter Try.func8, Try.ntmps8
  go_wp2_with (go_at_call 33; refine hL.mono ?_; rintro e w1 ⟨rfl, hb1⟩; have B1 := hidden hb1; clear hb1; refine Hid.out ?_)
  apply hidden
  clear hL
  have hN := St_New w1 512 4 (by decide)
  go_wp2_with (go_at_call 11; refine hN.mono ?_; rintro e w2 ⟨a, rfl, s2⟩; have S2 : Hid (St w1 w2 (fun _ => False) a dA) := hidden s2; clear s2; refine Hid.out ?_)
  apply hidden
  clear hN
  have B2 := hidden (B1.out.trans (S2.out.be.mono B1.out.size))
  by_cases hx : x < 1 ∨ 4096 < x
  · have hC := cNew_no w2 (some ⟨a, 0, none⟩) x (.inr hx)
    have hE := cNew_no w2 none x (.inl rfl)
    rcases hx with hx | hx
    · go_wp2_with (go_at_call 34; refine same_call hC ?_; refine Hid.out ?_)
      apply hidden
      go_wp2_with (go_at_call 34; refine same_call hE ?_)
      go_ret
      exact ⟨rfl, B2.out⟩
    · have hx1 : ¬ x < 1 := by omega
      go_wp2_with (go_at_call 34; refine same_call hC ?_; refine Hid.out ?_)
      apply hidden
      go_wp2_with (go_at_call 34; refine same_call hE ?_)
      go_ret
      exact ⟨rfl, B2.out⟩
  · have hx1 : ¬ x < 1 := by omega
    have hx2 : ¬ 4096 < x := by omega
    have hC := cNew_yes w2 a x hx1 hx2
    go_wp2_with (go_at_call 34; refine hC.mono ?_; rintro e w3 ⟨c, m, rfl, c1, m1, ncm, hc3, hm3, hb3⟩; refine Hid.out ?_)
    apply hidden
    have S3 := hidden (S2.out.page hb3)
    have B3 := hidden (B2.out.trans (hb3.mono B2.out.size))
    have HC3 := hidden hc3
    have HM3 := hidden hm3
    have hE := cNew_no w3 none x (.inl rfl)
    have hK : Calls Try.prog 35 #[.pointer (some ⟨a, 0, none⟩)] w3 fun e w' => e = .returned (.agg #[.int .i64 0, .int .i64 0, .int .i64 0]) ∧ Below w3.heap.size w3 w' := by
      obtain ⟨F, hD⟩ := S3.out.dv
      exact counts_is w3 F a dA hD
    clear hc3 hm3 hb3 c1 m1 hC
    go_wp2_with (first
      | (go_at_call 34; refine same_call hE ?_)
      | (go_at_call 35; refine hK.mono ?_; rintro e w4 ⟨rfl, hb4⟩; refine Hid.out ?_))
    apply hidden
    have B4 := hidden (B3.out.trans (hb4.mono B3.out.size))
    have HT : Hid (∀ o, Calls Try.prog 36 #[pt c] (w4.alloc o) fun e u => e = .returned (stV x 0 0 0 0 0 0) ∧ (Hid (Below w4.heap.size w4 u) ∧ ∀ i, u.cell? ⟨w4.heap.size, i, none⟩ = (w4.alloc o).cell? ⟨w4.heap.size, i, none⟩)) := by
      refine hidden fun o => ?_
      have hc4 : Hs (w4.alloc o) c (cC a x m (.pointer none) (.pointer none) 0 0 0) tC := (Below.heap_alloc _ _ _ (Nat.lt_of_lt_of_le HC3.out.lt hb4.size)).trans ((hb4.block _ HC3.out.lt).trans HC3.out)
      have hm4 : MapIs (w4.alloc o) m 0 (.map []) := World.ownsMap.alloc (HM3.out.on hb4) o
      refine (State_none _ c a x 0 0 0 m 0 hc4 hm4).mono ?_
      rintro e u ⟨rfl, hb5⟩
      have h0 : Below w4.heap.size w4 (w4.alloc o) := (Below.refl _ _).alloc (Nat.le_refl _) _
      exact ⟨rfl, hidden (h0.trans (hb5.mono h0.size)), fun i => World.cell?_of_block (w := w4.alloc o) (a := ⟨w4.heap.size, i, none⟩) (hb5.block _ (by simp))⟩
    clear hb4 hK hE HC3 HM3
    unfold stV at HT
    go_wp2_with (go_at_call 36; refine (HT.out _).mono ?_; rintro e w5 ⟨rfl, HB5, y5⟩; refine Hid.out ?_)
    apply hidden
    have z0 : w5.cell? ⟨w4.heap.size, 0, none⟩ = some (.int .i64 0) := (y5 0).trans (cell_of_row (cs := [.int .i64 0, .int .i64 0, .int .i64 0]) (al_row _ _))
    have z1 : w5.cell? ⟨w4.heap.size, 1, none⟩ = some (.int .i64 0) := (y5 1).trans (cell_of_row (cs := [.int .i64 0, .int .i64 0, .int .i64 0]) (al_row _ _))
    have z2 : w5.cell? ⟨w4.heap.size, 2, none⟩ = some (.int .i64 0) := (y5 2).trans (cell_of_row (cs := [.int .i64 0, .int .i64 0, .int .i64 0]) (al_row _ _))
    have B5 := hidden (B4.out.trans (HB5.out.mono B4.out.size))
    clear y5 HT HB5 S2 S3 B1 B2 B3 B4 hx
    go_wp2
    go_ret
    exact ⟨rfl, B5.out⟩
end Go.Proofs.Ytmelhpghpcpoiaa
