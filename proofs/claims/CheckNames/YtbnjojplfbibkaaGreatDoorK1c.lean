/- Layer 21: the law's awake answers true. -/
import Derived.Test.YtbnjojplfbibkaaGreatDoorK1b
import Derived.Laws.StructEq
import Derived.BigQuiet
namespace Go.Proofs.YtbnjojplfbibkaaGreatDoor
open Go.RowKit

def ftV : Value := .agg #[.int .i64 1, .int .i64 0, .int .i64 0]
set_option maxRecDepth 100000 in
theorem ft_eq (w : World) : (Op.equalIn 10000 40 (.agg #[.int .i64 1, .int .i64 0, .int .i64 0]) (.agg #[.int .i64 1, .int .i64 0, .int .i64 0])).run Tryz.prog w = .ok true w := by
  have u3 := Tryz.underlying3
  have a3 := Tryz.isAgg3
  have z3 := Tryz.sizeOf3
  have hS : Tryz.prog.underlying 40 = some (.struct (Tryz.prog.fieldsOf 40)) := by kernel_rfl
  have hp : Tryz.prog.stoodInHeld 40 = false := by kernel_rfl
  rw [show (10000 : Nat) = 9999 + 1 from rfl, run_equalIn_agg w 9999 40 _ _ hS hp]
  simp only [Program.fieldsOf, Tryz.underlying40]
  go_simp
set_option maxRecDepth 100000 in
theorem Ft1.cells {w : World} {g : Nat} (h : Ft1 w g) : w.cell? ⟨g, 0, none⟩ = some (.int .i64 1) ∧ w.cell? ⟨g, 1, none⟩ = some (.int .i64 0) ∧ w.cell? ⟨g, 2, none⟩ = some (.int .i64 0) := by
  have h' : w.heap[g]? = some (.cells #[.int .i64 1, .int .i64 0, .int .i64 0] 40 (0, 0)) := h
  refine ⟨?_, ?_, ?_⟩ <;> simp [World.cell?, h']
set_option maxRecDepth 100000 in
theorem Ft1.drewN {w : World} {g : Nat} (h : Ft1 w g) (q : Nat) : Ft1 (w.drewN q) g := h
set_option maxRecDepth 100000 in
set_option maxHeartbeats 2000000 in
theorem sameFaults_one (a b : Nat) (w : World) (ha : Ft1 w a) (hb : Ft1 w b) :
    Calls Tryz.prog 9 #[.slice (some ⟨a, 0, none⟩) 1 1, .slice (some ⟨b, 0, none⟩) 1 1] w fun e w' => e = .returned (.bool true) ∧ Below w.heap.size w w' := by
  have HA := hidden ha
  have HB := hidden hb
  have HE := ft_eq
  clear ha hb
  go_enter Tryz.func9, Tryz.ntmps9
  go_wp2_with fail
  go_loopw [5] (fun i wr => ∃ j : Nat, j ≤ 1 ∧ i = .int .i64 (j : Int) ∧ Hid (∃ q, wr = w.drewN q)) (fun i _ => 1 - (intOf i).toNat)
  case atStart => exact ⟨0, by omega, rfl, hidden ⟨0, rfl⟩⟩
  case round =>
    obtain ⟨j, hj, rfl, HW⟩ := hrel
    by_cases hlt : j < 1
    · obtain rfl : j = 0 := by omega
      obtain ⟨a0, a1, a2⟩ : wr.cell? ⟨a, 0, none⟩ = some (.int .i64 1) ∧ wr.cell? ⟨a, 1, none⟩ = some (.int .i64 0) ∧ wr.cell? ⟨a, 2, none⟩ = some (.int .i64 0) := by obtain ⟨q, hq⟩ := HW.out; rw [hq]; exact (HA.out.drewN q).cells
      obtain ⟨b0, b1, b2⟩ : wr.cell? ⟨b, 0, none⟩ = some (.int .i64 1) ∧ wr.cell? ⟨b, 1, none⟩ = some (.int .i64 0) ∧ wr.cell? ⟨b, 2, none⟩ = some (.int .i64 0) := by obtain ⟨q, hq⟩ := HW.out; rw [hq]; exact (HB.out.drewN q).cells
      go_wp2_with fail
      go_quiet (fail)
      go_wp2
      go_roundw
      case rel => exact ⟨1, by omega, by go_num, hidden (by obtain ⟨q, hq⟩ := HW.out; exact ⟨_, by rw [hq, World.drewN_drewN]⟩)⟩
      case measure => simp [intOf]
    · obtain rfl : j = 1 := by omega
      go_wp2
      go_ret
      exact ⟨rfl, by obtain ⟨q, hq⟩ := HW.out; rw [hq]; exact below_drewN (Below.refl _ _) _⟩

set_option maxRecDepth 100000 in
theorem mk_zer (u : World) : ∃ u', (Instr.makeSlice 28 (.int .i64 4096) (.int .i64 4096)).run Tryz.prog u = .ok (.slice (some ⟨u.heap.size, 0, none⟩) 4096 4096) u' ∧ Zer u' u.heap.size ∧ Below u.heap.size u u' :=
  ⟨_, mkB 4096 (by omega) u, ⟨⟨zs_length _, by omega, by omega, zs_wf _, (by intro h; cases h), .inr ⟨_, 0, rfl, by simp, fun i hi => by
    rw [Nat.zero_add]
    refine (cell_of_row (heap_alloc_new u _)).trans ?_
    exact getD_By _ _ (by simp; omega)⟩⟩⟩, (Below.refl _ u).alloc (Nat.le_refl _) _⟩
set_option maxRecDepth 100000 in
theorem mk_511 (u : World) : ∃ u', (Instr.makeSlice 28 (.int .i64 511) (.int .i64 511)).run Tryz.prog u = .ok (.slice (some ⟨u.heap.size, 0, none⟩) 511 511) u' ∧ Below u.heap.size u u' :=
  ⟨_, mkB 511 (by omega) u, (Below.refl _ u).alloc (Nat.le_refl _) _⟩
set_option maxRecDepth 100000 in
set_option maxHeartbeats 2000000 in
theorem awake21_any (w : World) (ht : Tab w) (h0 : 0 < w.heap.size) : Calls Tryz.prog 4 #[] w fun e w' => e = .returned (.bool true) ∧ Below w.heap.size w w' := by
  have HSH : Hid (∀ v g, Zer v g → Below w.heap.size w v → Calls Tryz.prog 10 #[.slice (some ⟨g, 0, none⟩) 4096 4096, .int .i64 512] v fun e v' => SvNo v 51 e v') := hidden fun v g hz hb => surveyed_zero g v hz (ht.on hb h0) (Nat.lt_of_lt_of_le h0 hb.size)
  clear ht h0
  obtain ⟨u1, m1, z1, b1⟩ := mk_zer w
  have HW1 := hidden b1
  have C1 := hidden (Look_zero _ 4096 4096 512 u1 (HSH.out _ _ z1 b1))
  clear z1 b1
  go_enter Tryz.func4, Tryz.ntmps4
  go_wp2_with (go_at_call 5; refine C1.out.mono ?_; rintro e w1 ⟨g, rfl, hf, hb⟩; have HF1 := hidden hf; have HB1 := hidden hb; clear hf hb; refine Hid.out ?_)
  apply hidden
  clear C1 m1
  obtain ⟨u2, m2, b2⟩ := mk_511 w1
  have HF2 := hidden (HF1.out.on b2)
  have HW2 := hidden (bl_go (bl_go HW1.out (Nat.le_refl _) HB1.out) (Nat.le_refl _) b2)
  have C2 := hidden (Look_no (some ⟨w1.heap.size, 0, none⟩) 511 511 512 u2 (surveyed_no _ 511 511 512 u2 (Load_rest u2 _ 511 511 512 (by omega) (by decide) (by omega))))
  clear b2 HF1 HB1 HW1
  go_wp2_with (go_at_call 5; refine C2.out.mono ?_; rintro e w2 ⟨rfl, hb⟩; have HB2 := hidden hb; clear hb; refine Hid.out ?_)
  apply hidden
  clear C2 m2
  obtain ⟨u3, m3, z3, b3⟩ := mk_zer w2
  have HF3 := hidden ((HF2.out.on HB2.out).on b3)
  have HW3 := hidden (bl_go (bl_go HW2.out (Nat.le_refl _) HB2.out) (Nat.le_refl _) b3)
  have C3 := hidden (Reach_no _ 4096 4096 512 51 (by omega) u3 (whole_no _ 4096 4096 512 51 (by omega) u3 (HSH.out _ _ z3 HW3.out)))
  clear z3 b3 HF2 HB2 HW2
  go_wp2_with (go_at_call 6; refine C3.out.mono ?_; rintro e w3 ⟨rfl, hb⟩; have HB3 := hidden hb; clear hb; refine Hid.out ?_)
  apply hidden
  clear C3 m3
  obtain ⟨u4, m4, z4, b4⟩ := mk_zer w3
  have HF4 := hidden ((HF3.out.on HB3.out).on b4)
  have HW4 := hidden (bl_go (bl_go HW3.out (Nat.le_refl _) HB3.out) (Nat.le_refl _) b4)
  have C4 := hidden (Trees_no _ 4096 4096 512 51 (by omega) u4 (whole_no _ 4096 4096 512 51 (by omega) u4 (HSH.out _ _ z4 HW4.out)))
  clear z4 b4 HF3 HB3 HW3
  go_wp2_with (go_at_call 7; refine C4.out.mono ?_; rintro e w4 ⟨rfl, hb⟩; have HB4 := hidden hb; clear hb; refine Hid.out ?_)
  apply hidden
  clear C4 m4
  obtain ⟨u5, m5, z5, b5⟩ := mk_zer w4
  have HF5 := hidden ((HF4.out.on HB4.out).on b5)
  have HW5 := hidden (bl_go (bl_go HW4.out (Nat.le_refl _) HB4.out) (Nat.le_refl _) b5)
  have C5 := hidden (Salvage_no (some ⟨w4.heap.size, 0, none⟩) 4096 4096 500 u5 (Load_page u5 _ 4096 4096 500 (by decide)))
  clear z5 b5 HF4 HB4 HW4 HSH
  go_wp2_with (go_at_call 8; refine same_call C5.out ?_; refine Hid.out ?_)
  apply hidden
  have C6 := hidden (sameFaults_one g u5.heap.size _ (HF5.out.on ((Below.refl _ u5).alloc (Nat.le_refl _) (.cells #[.int .i64 1, .int .i64 0, .int .i64 0] 40))) (Ft1.new u5))
  have HW6 := hidden (bl_al HW5.out (Nat.le_refl _) (.cells #[.int .i64 1, .int .i64 0, .int .i64 0] 40))
  clear C5 m5
  go_wp2_with (go_at_call 9; refine C6.out.mono ?_; rintro e w6 ⟨rfl, hb⟩; have HB6 := hidden hb; clear hb)
  go_ret
  exact ⟨rfl, bl_go HW6.out (Nat.le_refl _) HB6.out⟩
end Go.Proofs.YtbnjojplfbibkaaGreatDoor
