/- The chapter's first examples: Parse of "[1 []]". -/
import Derived.Test.YtmfnccffpajfnaaGreatDoorPrs
namespace Go.Proofs.YtmfnccffpajfnaaGreatDoor
open Go.RowKit

/-- The text. -/
def tx6 : ByteArray := ⟨#[91, 49, 32, 91, 93, 93]⟩

set_option maxRecDepth 100000 in
theorem res4 {w2 : World} {H : Nat} {y0 y1 y2 y3 : Value} (x0 x1 x2 x3 : Value) (o : Obj) (m0 : w2.cell? ⟨H, 0, none⟩ = some y0) (m1 : w2.cell? ⟨H, 1, none⟩ = some y1) (m2 : w2.cell? ⟨H, 2, none⟩ = some y2) (m3 : w2.cell? ⟨H, 3, none⟩ = some y3) (h : H < w2.heap.size) :
    (((((w2.setCell ⟨H, 0, none⟩ x0).setCell ⟨H, 1, none⟩ x1).setCell ⟨H, 2, none⟩ x2).setCell ⟨H, 3, none⟩ x3).alloc o).cell? ⟨H, 0, none⟩ = some x0 ∧
    (((((w2.setCell ⟨H, 0, none⟩ x0).setCell ⟨H, 1, none⟩ x1).setCell ⟨H, 2, none⟩ x2).setCell ⟨H, 3, none⟩ x3).alloc o).cell? ⟨H, 1, none⟩ = some x1 ∧
    (((((w2.setCell ⟨H, 0, none⟩ x0).setCell ⟨H, 1, none⟩ x1).setCell ⟨H, 2, none⟩ x2).setCell ⟨H, 3, none⟩ x3).alloc o).cell? ⟨H, 2, none⟩ = some x2 ∧
    (((((w2.setCell ⟨H, 0, none⟩ x0).setCell ⟨H, 1, none⟩ x1).setCell ⟨H, 2, none⟩ x2).setCell ⟨H, 3, none⟩ x3).alloc o).cell? ⟨H, 3, none⟩ = some x3 := by
  refine ⟨(alloc_old _ _ _ (by simpa using h)).trans ?_, (alloc_old _ _ _ (by simpa using h)).trans ?_, (alloc_old _ _ _ (by simpa using h)).trans ?_, (alloc_old _ _ _ (by simpa using h)).trans ?_⟩
  all_goals simp [m0, m1, m2, m3, go_sem]
set_option maxRecDepth 100000 in
theorem parseOne_1 (w : World) : Calls Tryz.prog 51 #[.string ⟨#[49, 32, 91, 93, 93]⟩] w fun e w' => e = .returned (.tuple #[.agg #[.int .i64 3, .int .i64 1, .string ⟨#[]⟩, .slice none 0 0], .int .i64 1, .bool true]) ∧ Below w.heap.size w w' := by
  have hcp : ∀ w, Calls Tryz.prog 71 #[.string ⟨#[49, 32, 91, 93, 93]⟩, .string ⟨#[120, 39]⟩] w fun e w' => e = .returned (.tuple #[.string ⟨#[49, 32, 91, 93, 93]⟩, .bool false]) ∧ w' = w := fun w =>
    (Tryz.strings_CutPrefix ⟨#[49, 32, 91, 93, 93]⟩ ⟨#[120, 39]⟩ w).mono fun e w' ⟨he, hw⟩ => ⟨by rw [he]; kernel_rfl, hw⟩
  have hix : ∀ w, Calls Tryz.prog 73 #[.string ⟨#[49, 32, 91, 93, 93]⟩, .string ⟨#[32, 91, 93]⟩] w fun e w' => e = .returned (.int .i64 1) ∧ Below w.heap.size w w' := fun w =>
    (Tryz.strings_IndexAny_short ⟨#[49, 32, 91, 93, 93]⟩ ⟨#[32, 91, 93]⟩ w (by decide) (by decide) (fun j b h => (show ∀ b ∈ ([49, 32, 91, 93, 93] : List UInt8), b.toNat < 128 by decide) b (List.mem_of_getElem? h))).mono fun e w' ⟨he, pos, hw⟩ => ⟨by rw [he]; kernel_rfl, by rw [hw]; exact (Below.refl _ _).alloc (Nat.le_refl _) _⟩
  have hex : ByteArray.extract ⟨#[49, 32, 91, 93, 93]⟩ 0 1 = ⟨#[49]⟩ := by kernel_rfl
  have hq : (((⟨#[49, 32, 91, 93, 93]⟩ : ByteArray)[0].toNat : Int) == 34) = false := by decide
  have HCP := hidden hcp
  have HIX := hidden hix
  clear hcp hix
  go_enter Tryz.func51, Tryz.ntmps51
  go_wp2_with (first | (go_at_call 71; refine same_call (HCP.out _) ?_) | (go_at_call 73; refine (HIX.out _).mono ?_; rintro e w1 ⟨rfl, hb1⟩; obtain ⟨⟨k0, k1, k2, k3⟩, f0, f1, f2, f3⟩ := cells4r hb1; have HB : Hid (Below w.heap.size w w1) := (show Below w.heap.size w _ from by go_grown).trans (hb1.mono (by simp)); have hz1 : w.heap.size + 1 ≤ w1.heap.size := (by have := hb1.size; simpa using this); clear hb1) | (go_at_call 74; refine (parseWord_1 _).mono ?_; rintro e w2 ⟨rfl, hb2⟩; have m0 := (hb2.cell (p := ⟨w.heap.size, 0, none⟩) hz1).trans k0; have m1 := (hb2.cell (p := ⟨w.heap.size, 1, none⟩) hz1).trans k1; have m2 := (hb2.cell (p := ⟨w.heap.size, 2, none⟩) hz1).trans k2; have m3 := (hb2.cell (p := ⟨w.heap.size, 3, none⟩) hz1).trans k3; have n0 := (hb2.frozen (p := ⟨w.heap.size, 0, none⟩) hz1).trans f0; have n1 := (hb2.frozen (p := ⟨w.heap.size, 1, none⟩) hz1).trans f1; have n2 := (hb2.frozen (p := ⟨w.heap.size, 2, none⟩) hz1).trans f2; have n3 := (hb2.frozen (p := ⟨w.heap.size, 3, none⟩) hz1).trans f3; have hz2 : w.heap.size < w2.heap.size := Nat.lt_of_lt_of_le hz1 hb2.size; have HB2 := hidden (HB.out.trans (hb2.mono (by omega))); clear hb2))
  obtain ⟨a0, a1, a2, a3⟩ := res4 (.int .i64 3) (.int .i64 1) (.string ⟨#[]⟩) (.slice none 0 0) (.cells #[.int .i64 3, .int .i64 1, .string ⟨#[]⟩, .slice none 0 0] 34) m0 m1 m2 m3 hz2
  refine bodyPost_ret (v := .tuple #[.agg #[.int .i64 3, .int .i64 1, .string ⟨#[]⟩, .slice none 0 0], .int .i64 1, .bool true]) (by simp [results, Tryz.results51, go_sem, a0, a1, a2, a3]; try rfl) rfl ?_
  exact ⟨rfl, (by first | exact ((((HB2.out.alloc (Nat.le_of_lt hz2) _).setCell (by simp) _).setCell (by simp) _).setCell (by simp) _).setCell (by simp) _ | exact ((((HB2.out.setCell (by simp) _).setCell (by simp) _).setCell (by simp) _).setCell (by simp) _).alloc (by simp; omega) _)⟩

set_option maxHeartbeats 400000 in
set_option maxRecDepth 100000 in
theorem parseItem_11 (w : World) : Calls Tryz.prog 34 #[.string ⟨#[91, 49, 32, 91, 93, 93]⟩, .int .i64 1, .int .i64 1] w fun e w' => e = .returned (.tuple #[.agg #[.int .i64 3, .int .i64 1, .string ⟨#[]⟩, .slice none 0 0], .int .i64 2, .int .i64 0]) ∧ Below w.heap.size w w' := by
  have hex : ByteArray.extract ⟨#[91, 49, 32, 91, 93, 93]⟩ 1 6 = ⟨#[49, 32, 91, 93, 93]⟩ := by kernel_rfl
  have hq : (((⟨#[91, 49, 32, 91, 93, 93]⟩ : ByteArray)[1].toNat : Int) == 91) = false := by decide
  go_enter Tryz.func34, Tryz.ntmps34
  go_wp2_with (first | (go_at_call 51; refine (parseOne_1 _).mono ?_; rintro e w2 ⟨rfl, hb1⟩; obtain ⟨⟨m0, m1, m2, m3⟩, n0, n1, n2, n3⟩ := cells4r hb1; have HB2 : Hid (Below w.heap.size w w2) := (show Below w.heap.size w _ from by go_grown).trans (hb1.mono (by simp)); have hz2 : w.heap.size < w2.heap.size := Nat.lt_of_lt_of_le (by simp) hb1.size; clear hb1))
  obtain ⟨a0, a1, a2, a3⟩ := res4 (.int .i64 3) (.int .i64 1) (.string ⟨#[]⟩) (.slice none 0 0) (.cells #[.int .i64 3, .int .i64 1, .string ⟨#[]⟩, .slice none 0 0] 34) m0 m1 m2 m3 hz2
  refine bodyPost_ret (v := .tuple #[.agg #[.int .i64 3, .int .i64 1, .string ⟨#[]⟩, .slice none 0 0], .int .i64 2, .int .i64 0]) (by simp [results, Tryz.results34, go_sem, a0, a1, a2, a3]; try rfl) rfl ?_
  exact ⟨rfl, (by first | exact ((((HB2.out.alloc (Nat.le_of_lt hz2) _).setCell (by simp) _).setCell (by simp) _).setCell (by simp) _).setCell (by simp) _ | exact ((((HB2.out.setCell (by simp) _).setCell (by simp) _).setCell (by simp) _).setCell (by simp) _).alloc (by simp; omega) _)⟩

set_option maxRecDepth 100000 in
theorem parseItems_42 (w : World) : Calls Tryz.prog 22 #[.string ⟨#[91, 49, 32, 91, 93, 93]⟩, .int .i64 4, .int .i64 2] w fun e w' => e = .returned (.tuple #[.slice none 0 0, .int .i64 5, .int .i64 0]) ∧ Below w.heap.size w w' := by
  have hq : (((⟨#[91, 49, 32, 91, 93, 93]⟩ : ByteArray)[4].toNat : Int)) = 93 := by decide
  go_enter Tryz.func22, Tryz.ntmps22
  go_wp2
  refine wp_loop_rounds 1 ?_
  rw [rounds_succ]
  go_wp2
  go_returns
  exact ⟨rfl, Below.refl _ _⟩
end Go.Proofs.YtmfnccffpajfnaaGreatDoor
