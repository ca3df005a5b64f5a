/- Safe; Image of a device without loose writes; Load. -/
import Derived.Test.YtmelhpghpcpoiabPl12
namespace Go.Proofs.Ytmelhpghpcpoiab
open Go.RowKit

set_option maxRecDepth 100000 in
theorem sl_src {w : World} {ao : Option Addr} {n c : Nat} {l : List Int} (h : Sl w ao n c l) (h0 : 0 < n) : ∃ b off, ao = some ⟨b, off, none⟩ ∧ b < w.heap.size ∧ ∀ j v, (By l)[j]? = some v → w.cell? ((⟨b, off, none⟩ : Addr).add j) = some v := by
  rcases h.hat with h1 | ⟨b, off, e, hb, hc⟩
  · omega
  · refine ⟨b, off, e, hb, fun j v hv => ?_⟩
    obtain ⟨h1, rfl⟩ := getElem?_By l j v hv
    rw [Addr.add_lit]
    exact hc j (by rw [← h.hlen]; exact h1)

set_option maxRecDepth 100000 in
theorem below_setRow {w w' : World} (h : Below w.heap.size w w') {g : Nat} (hg : w.heap.size ≤ g) (cs : Array Value) : Below w.heap.size w (w'.setRow g cs) :=
  h.trans ((Ch.setRow (F := fun k => k = g) w' rfl cs).below h.size fun k hk e => by omega)

set_option maxRecDepth 100000 in
theorem Safe_any (w : World) (F : Nat → Prop) (a : Nat) (d : D) (h : Dv w F a d) : Calls Try.prog 27 #[.pointer (some ⟨a, 0, none⟩)] w fun e w' => e = .returned (.slice (some ⟨w.heap.size, 0, none⟩) (d.page * d.pages) (d.page * d.pages)) ∧ w'.heap[w.heap.size]? = some (.cells (By d.safe).toArray 5 (0, 0)) ∧ Below w.heap.size w w' := by
  obtain ⟨i0, hi, hz0, hz1, hz2⟩ := info_parts info5
  have hsz : (Try.prog.info? 5).map (·.size) = some 1 := by rw [hi]; simp [hz1]
  obtain ⟨bs, bl, vL, vK, hc, hf, hr, ha⟩ := h.c
  obtain ⟨N, hN⟩ : ∃ N, d.page * d.pages = N := ⟨_, rfl⟩
  have c2 : w.cell? ⟨a, 2, none⟩ = some (.slice (some ⟨bs, 0, none⟩) N N) := by rw [← hN]; exact hc 2
  have hq := hr.q3
  rw [hN] at hq ⊢
  have hns : d.safe.length = N := by rw [← hN]; exact hr.ns
  have HNS := hidden hns
  have hal := lt_of_some ha
  have HS := hidden hr.hs
  have hbl := lt_of_some hr.hs
  clear hc hf hr ha h hns
  go_enter Try.func27, Try.ntmps27
  go_wp2_with (at_make; refine wpList_make_full _ rfl _ _ 34 rfl 0 5 i0 (.int .u8 0) 1 Try.underlying34 hi hz0 hz1 .i64 .i64 N N N rfl rfl rfl rfl (by rw [hz2]; omega) (by unfold maxLen; omega) (Nat.zero_le _) ?_)
  intro w1 hown1 hg1
  have hr1 := made_row hown1
  have hb1 : Below w.heap.size w w1 := (Below.refl _ _).grown hg1 (Nat.le_refl _) (fun k hk => by cases hk)
  have c2' : w1.cell? ⟨a, 2, none⟩ = some (.slice (some ⟨bs, 0, none⟩) N N) := (hb1.cell (p := ⟨a, 2, none⟩) hal).trans c2
  have HR1 := hidden hr1
  have HB1 := hidden hb1
  have HSRC := hidden (row_cells ((hb1.block bs hbl).trans HS.out))
  clear hown1 hg1 hr1 hb1 c2
  go_wp2_with (refine copy_row rfl _ _ 34 34 rfl 5 Try.underlying34 hsz w.heap.size 0 N N ⟨bs, 0, none⟩ N N rfl rfl (List.replicate N (.int .u8 0)) 5 HR1.out (By d.safe) (by rw [By_length, HNS.out]; exact (Nat.min_self _).symm) HSRC.out (by rw [By_length, HNS.out]; simp) (By_one _) ?_; intro u3 HU; refine Hid.out ?_)
  apply hidden
  go_wp2
  go_ret
  have hu := HU.out
  subst hu
  refine ⟨rfl, ?_, below_setRow HB1.out (Nat.le_refl _) _⟩
  rw [setRow_heap _ _ _ _ _ _ HR1.out, splice_all _ _ (by simp [By_length, HNS.out])]

set_option maxRecDepth 100000 in
theorem Image_calm (w : World) (F : Nat → Prop) (a : Nat) (d : D) (h : Dv w F a d) (h0 : ∀ n, d.last.getD n 0 = 0) : Calls Try.prog 13 #[.pointer (some ⟨a, 0, none⟩)] w fun e w' => e = .returned (.slice (some ⟨w.heap.size, 0, none⟩) (d.page * d.pages) (d.page * d.pages)) ∧ w'.heap[w.heap.size]? = some (.cells (By d.safe).toArray 5 (0, 0)) ∧ Below w.heap.size w w' := by
  obtain ⟨bs, bl, vL, vK, hc, hf, hr, ha⟩ := h.c
  have hal := lt_of_some ha
  have c4 : w.cell? ⟨a, 4, none⟩ = some (.slice (some ⟨bl, 0, none⟩) d.pages d.pages) := hc 4
  have hl0 : ∀ k, k < d.pages → w.cell? ⟨bl, k, none⟩ = some (.int .i64 0) := fun k hk => (cell_of_row hr.hl).trans ((getD_In _ _ (by rw [hr.nl]; exact hk)).trans (by rw [h0]))
  have hbl := lt_of_some hr.hl
  have hq2 := hr.q2
  have hS := Safe_any w F a d h
  have HL0 := hidden hl0
  generalize hN : d.page * d.pages = N at hS ⊢
  generalize hP : d.pages = P at *
  clear hc hf hr ha h h0 hN hP hl0
  go_enter Try.func13, Try.ntmps13
  go_wp2_with (go_at_call 27; refine hS.mono ?_; rintro e w1 ⟨rfl, hr1, hb1⟩; have HR1 := hidden hr1; have HB1 := hidden hb1; clear hr1 hb1; refine Hid.out ?_)
  apply hidden
  have c4' : w1.cell? ⟨a, 4, none⟩ = some (.slice (some ⟨bl, 0, none⟩) P P) := (HB1.out.cell (p := ⟨a, 4, none⟩) hal).trans c4
  clear hS c4
  go_wp2_with fail
  go_loop [12] (fun i => ∃ k : Nat, k ≤ P ∧ i = .int .i64 k) (fun i => P - (intOf i).toNat)
  case atStart => exact ⟨0, by omega, rfl⟩
  case round =>
    obtain ⟨k, hk, rfl⟩ := hrel
    by_cases hlt : k < P
    · have hlt' : (k : Int) < (P : Int) := by omega
      have ck : w1.cell? ⟨bl, k, none⟩ = some (.int .i64 0) := (HB1.out.cell (p := ⟨bl, k, none⟩) hbl).trans (HL0.out k hlt)
      go_wp2
      go_round
      case rel => exact ⟨k + 1, by omega, by go_num⟩
      case measure => simp [intOf]; omega
    · have hge : ¬ ((k : Int) < (P : Int)) := by omega
      go_wp2
      go_ret
      exact ⟨rfl, HR1.out, HB1.out⟩

set_option maxRecDepth 100000 in
theorem Rest.laid {w w' : World} {F : Nat → Prop} {a page pages : Nat} {safe safe' : List Int} {loose : List (Nat × List Int)} {last keep : List Int} {bs bl : Nat} {vL vK : Value} (h : Rest w F a page pages safe loose last keep bs bl vL vK) (hu : w' = w.setRow bs (By safe').toArray) (hl : safe'.length = page * pages) (hw : Wf safe') : Rest w' F a page pages safe' loose last keep bs bl vL vK := by
  subst hu
  exact h.resafe (Ch.setRow (F := fun j => j = bs) _ rfl _) (setRow_heap _ _ _ _ _ _ h.hs) hl hw

end Go.Proofs.Ytmelhpghpcpoiab
