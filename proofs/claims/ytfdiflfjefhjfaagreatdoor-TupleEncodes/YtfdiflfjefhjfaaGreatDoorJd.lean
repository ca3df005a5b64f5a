/- The chapter's first examples: Parse of "[1 []]": the word 1. -/
import Derived.Test.YtfdiflfjefhjfaaGreatDoorJc
import Derived.Test.YtfdiflfjefhjfaaGreatDoorAwk2
namespace Go.Proofs.YtfdiflfjefhjfaaGreatDoor
open Go.RowKit

/-- The word 1. -/
def w1 : ByteArray := ⟨#[49]⟩
set_option maxRecDepth 100000 in
theorem bytesWorld_or {w w' : World} (h : w' = w ∨ ∃ t, w' = Lib.bytesWorld w 5 t) : Below w.heap.size w w' := by
  rcases h with rfl | ⟨t, rfl⟩
  · exact Below.refl _ _
  · exact Lib.bytesWorld_below w 5 t
set_option maxRecDepth 100000 in
/-- A struct of four cells in a block of its own, behind a call: what it holds, and that it may be written. -/
theorem cells4r {w w1 : World} {a b c d : Value} {ty : Nat} (h : Below (w.alloc (.cells #[a, b, c, d] ty)).heap.size (w.alloc (.cells #[a, b, c, d] ty)) w1) :
    (w1.cell? ⟨w.heap.size, 0, none⟩ = some a ∧ w1.cell? ⟨w.heap.size, 1, none⟩ = some b ∧ w1.cell? ⟨w.heap.size, 2, none⟩ = some c ∧ w1.cell? ⟨w.heap.size, 3, none⟩ = some d) ∧ (w1.frozen? ⟨w.heap.size, 0, none⟩ = false ∧ w1.frozen? ⟨w.heap.size, 1, none⟩ = false ∧ w1.frozen? ⟨w.heap.size, 2, none⟩ = false ∧ w1.frozen? ⟨w.heap.size, 3, none⟩ = false) := by
  refine ⟨cells4 h, ?_, ?_, ?_, ?_⟩
  all_goals (refine (h.frozen (by simp)).trans (by simp))
set_option maxRecDepth 100000 in
theorem guessWord_1 (w : World) : Calls Tryz.prog 110 #[.string ⟨#[49]⟩] w fun e w' => e = .returned (.agg #[.int .i64 3, .int .i64 1, .string ⟨#[]⟩, .slice none 0 0]) ∧ Below w.heap.size w w' := by
  have hp : Lib.parseIntB 64 (⟨#[49]⟩ : ByteArray).data.toList = .ok 1 := by decide
  have HP := hidden hp
  clear hp
  go_enter Tryz.func110, Tryz.ntmps110
  go_wp2_with (first | (go_at_call 126; refine (Tryz.strconv_ParseInt_10_at64_ok ⟨#[49]⟩ (by decide) 1 HP.out _).mono ?_; rintro e w1 ⟨rfl, hw1⟩; have hb1 := bytesWorld_or hw1; obtain ⟨⟨k0, k1, k2, k3⟩, f0, f1, f2, f3⟩ := cells4r hb1; have HB : Hid (Below w.heap.size w w1) := (show Below w.heap.size w _ from by go_grown).trans (hb1.mono (by simp)); clear hw1 hb1))
  refine bodyPost_ret (v := .agg #[.int .i64 3, .int .i64 1, .string ⟨#[]⟩, .slice none 0 0]) (by simp [results, Tryz.results110, go_sem, k0, k1, k2, k3]; try rfl) rfl ?_
  exact ⟨rfl, (((HB.out.setCell (by simp) _).setCell (by simp) _).setCell (by simp) _).setCell (by simp) _⟩

set_option maxRecDepth 100000 in
theorem Sl.set {w : World} {b off n cap : Nat} {l : List Int} (h : Sl w (some ⟨b, off, none⟩) n cap l) (p : Addr) (v : Value) (hp : p.block ≠ b) : Sl (w.setCell p v) (some ⟨b, off, none⟩) n cap l := by
  refine ⟨h.hlen, h.hcap, h.hroom, h.wf, h.hnil, ?_⟩
  rcases h.hat with h0 | ⟨b', off', e, hlt, hc⟩
  · exact .inl h0
  · simp only [Option.some.injEq, Addr.mk.injEq, and_true] at e
    obtain ⟨rfl, rfl⟩ := e
    exact .inr ⟨b, off, rfl, by simpa using hlt, fun i hi => (World.cell?_setCell_far _ _ _ _ hp).trans (hc i hi)⟩

set_option maxRecDepth 100000 in
theorem print1 (W : World) : Calls Tryz.prog 44 #[.slice none 0 0, .agg #[.int .i64 3, .int .i64 1, .string ⟨#[]⟩, .slice none 0 0]] W fun e w' => ∃ b2 o2 c2, e = .returned (.slice (some ⟨b2, o2, none⟩) 1 c2) ∧ Sl w' (some ⟨b2, o2, none⟩) 1 c2 [49] ∧ W.heap.size ≤ b2 ∧ Below W.heap.size W w' := by
  refine (printItem_of 3 1 ⟨#[]⟩ none 0 0 .nil (.slice none 0 0) W.heap.size [] W (OwnB.nil _ _) (Nat.le_refl _) (SlI.none _ _) Wf.nil (by simp) (by simp [Its.sz]) (.inl ⟨rfl, rfl⟩) (printItems_all 1 .nil (by simp [Its.sz]) trivial none 0 0)).mono ?_
  rintro e w2 ⟨v2, rfl, ho2, hg2⟩
  have e1 : p1 3 .nil [] = [49] := by simp [p1]
  rw [e1] at ho2
  obtain ⟨a2, c2, rfl, s2, hge⟩ := ho2.sl (Wf.cons (by omega) Wf.nil) (by simp)
  rcases s2.hat with h | ⟨b2, o2, rfl, hb2, _⟩
  · simp at h
  · exact ⟨b2, o2, c2, rfl, s2, hge _ rfl, hg2.below (l := []) (OwnB.nil _ _) (Nat.le_refl _)⟩

set_option maxHeartbeats 400000 in
set_option maxRecDepth 100000 in
theorem parseWord_1 (w : World) : Calls Tryz.prog 93 #[.string ⟨#[49]⟩] w fun e w' => e = .returned (.tuple #[.agg #[.int .i64 3, .int .i64 1, .string ⟨#[]⟩, .slice none 0 0], .bool true]) ∧ Below w.heap.size w w' := by
  go_enter Tryz.func93, Tryz.ntmps93
  go_wp2_with (first | (go_at_call 110; refine (guessWord_1 _).mono ?_; rintro e w1 ⟨rfl, hb1⟩; obtain ⟨⟨k0, k1, k2, k3⟩, f0, f1, f2, f3⟩ := cells4r hb1; have HB : Hid (Below w.heap.size w w1) := (show Below w.heap.size w _ from by go_grown).trans (hb1.mono (by simp)); have hz1 : w.heap.size + 1 ≤ w1.heap.size := (by have := hb1.size; simpa using this); clear hb1))
  have hfb : ∀ W, Below w1.heap.size w1 W → (W.cell? ⟨w.heap.size, 0, none⟩ = some (.int .i64 0) ∧ W.cell? ⟨w.heap.size, 1, none⟩ = some (.int .i64 0) ∧ W.cell? ⟨w.heap.size, 2, none⟩ = some (.string ⟨#[]⟩) ∧ W.cell? ⟨w.heap.size, 3, none⟩ = some (.slice none 0 0)) ∧ (W.frozen? ⟨w.heap.size, 0, none⟩ = false ∧ W.frozen? ⟨w.heap.size, 1, none⟩ = false ∧ W.frozen? ⟨w.heap.size, 2, none⟩ = false ∧ W.frozen? ⟨w.heap.size, 3, none⟩ = false) :=
    fun W h => ⟨⟨(h.cell (by simp; omega)).trans k0, (h.cell (by simp; omega)).trans k1, (h.cell (by simp; omega)).trans k2, (h.cell (by simp; omega)).trans k3⟩, (h.frozen (by simp; omega)).trans f0, (h.frozen (by simp; omega)).trans f1, (h.frozen (by simp; omega)).trans f2, (h.frozen (by simp; omega)).trans f3⟩
  have hib : ∀ W, Below (w1.heap.size + 1) (w1.alloc (.cells #[.int .i64 3, .int .i64 1, .string ⟨#[]⟩, .slice none 0 0] 40)) W → W.cell? ⟨w1.heap.size, 0, none⟩ = some (.int .i64 3) ∧ W.cell? ⟨w1.heap.size, 1, none⟩ = some (.int .i64 1) ∧ W.cell? ⟨w1.heap.size, 2, none⟩ = some (.string ⟨#[]⟩) ∧ W.cell? ⟨w1.heap.size, 3, none⟩ = some (.slice none 0 0) :=
    fun W h => ⟨(h.cell (by simp)).trans (by simp), (h.cell (by simp)).trans (by simp), (h.cell (by simp)).trans (by simp), (h.cell (by simp)).trans (by simp)⟩
  have HIB := hidden hib
  clear hib
  have HFB := hidden hfb
  clear hfb
  have hst : strOfNums [49] = ⟨#[49]⟩ := by kernel_rfl
  go_region_with (go_at_call 44; refine (print1 _).mono ?_; rintro e w2 ⟨b2, o2, c2, rfl, s2, hge, hb2⟩; have hbw : Below w1.heap.size w1 w2 := (show Below w1.heap.size w1 _ from by go_grown).trans (hb2.mono (by simp)); obtain ⟨⟨g0, g1, g2, g3⟩, e0, e1, e2, e3⟩ := HFB.out w2 hbw; obtain ⟨i0, i1, i2, i3⟩ := HIB.out w2 ((show Below (w1.heap.size + 1) (w1.alloc (.cells #[.int .i64 3, .int .i64 1, .string ⟨#[]⟩, .slice none 0 0] 40)) _ from by go_grown).trans (hb2.mono (by simp))); have hne : w.heap.size ≠ b2 := (by simp at hge; omega); have hcv := conv_str s2; have hcvS := fun x0 x1 x2 x3 => conv_str ((((s2.set ⟨w.heap.size, 0, none⟩ x0 hne).set ⟨w.heap.size, 1, none⟩ x1 hne).set ⟨w.heap.size, 2, none⟩ x2 hne).set ⟨w.heap.size, 3, none⟩ x3 hne); have HBW := hidden hbw; clear s2 hb2 hge hbw)
  all_goals go_wp2
  all_goals (refine bodyPost_ret (v := .tuple #[.agg #[.int .i64 3, .int .i64 1, .string ⟨#[]⟩, .slice none 0 0], .bool true]) (by simp [results, Tryz.results93, go_sem, g0, g1, g2, g3]; try rfl) rfl ?_)
  all_goals (refine ⟨rfl, ((((HB.out.trans (HBW.out.mono (by omega))).setCell (by simp) _).setCell (by simp) _).setCell (by simp) _).setCell (by simp) _⟩)
end Go.Proofs.YtfdiflfjefhjfaaGreatDoor

/- The chapter's first examples: Parse of "[1 []]". -/

namespace Go.Proofs.YtfdiflfjefhjfaaGreatDoor
open Go.RowKit

/-- The text. -/
def tx6 : ByteArray := ⟨#[91, 49, 32, 91, 93, 93]⟩

set_option maxRecDepth 100000 in
theorem res4 {w2 : World} {H : Nat} {y0 y1 y2 y3 : Value} (x0 x1 x2 x3 : Value) (o : Obj) (m0 : w2.cell? ⟨H, 0, none⟩ = some y0) (m1 : w2.cell? ⟨H, 1, none⟩ = some y1) (m2 : w2.cell? ⟨H, 2, none⟩ = some y2) (m3 : w2.cell? ⟨H, 3, none⟩ = some y3) (h : H < w2.heap.size) :
    (((((w2.setCell ⟨H, 0, none⟩ x0).setCell ⟨H, 1, none⟩ x1).setCell ⟨H, 2, none⟩ x2).setCell ⟨H, 3, none⟩ x3).alloc o).cell? ⟨H, 0, none⟩ = some x0 ∧
    (((((w2.setCell ⟨H, 0, none⟩ x0).setCell ⟨H, 1, none⟩ x1).setCell ⟨H, 2, none⟩ x2).setCell ⟨H, 3, none⟩ x3).alloc o).cell? ⟨H, 1, none⟩ = some x1 ∧
    (((((w2.setCell ⟨H, 0, none⟩ x0).setCell ⟨H, 1, none⟩ x1).setCell ⟨H, 2, none⟩ x2).setCell ⟨H, 3, none⟩ x3).alloc o).cell? ⟨H, 2, none⟩ = some x2 ∧
    (((((w2.setCell ⟨H, 0, none⟩ x0).setCell ⟨H, 1, none⟩ x1).setCell ⟨H, 2, none⟩ x2).setCell ⟨H, 3, none⟩ x3).alloc o).cell? ⟨H, 3, none⟩ = some x3 := by
  refine ⟨(alloc_old _ _ _ (by simpa using h)).trans ?_, (alloc_old _ _ _ (by simpa using h)).trans ?_, (alloc_old _ _ _ (by simpa using h)).trans ?_, (alloc_old _ _ _ (by simpa using h)).trans ?_⟩
  all_goals simp [m0, m1, m2, m3, go_sem]
set_option maxRecDepth 100000 in
theorem parseOne_1 (w : World) : Calls Tryz.prog 66 #[.string ⟨#[49, 32, 91, 93, 93]⟩] w fun e w' => e = .returned (.tuple #[.agg #[.int .i64 3, .int .i64 1, .string ⟨#[]⟩, .slice none 0 0], .int .i64 1, .bool true]) ∧ Below w.heap.size w w' := by
  have hcp : ∀ w, Calls Tryz.prog 90 #[.string ⟨#[49, 32, 91, 93, 93]⟩, .string ⟨#[120, 39]⟩] w fun e w' => e = .returned (.tuple #[.string ⟨#[49, 32, 91, 93, 93]⟩, .bool false]) ∧ w' = w := fun w =>
    (Tryz.strings_CutPrefix ⟨#[49, 32, 91, 93, 93]⟩ ⟨#[120, 39]⟩ w).mono fun e w' ⟨he, hw⟩ => ⟨by rw [he]; kernel_rfl, hw⟩
  have hix : ∀ w, Calls Tryz.prog 92 #[.string ⟨#[49, 32, 91, 93, 93]⟩, .string ⟨#[32, 91, 93]⟩] w fun e w' => e = .returned (.int .i64 1) ∧ Below w.heap.size w w' := fun w =>
    (Tryz.strings_IndexAny_short ⟨#[49, 32, 91, 93, 93]⟩ ⟨#[32, 91, 93]⟩ w (by decide) (by decide) (fun j b h => (show ∀ b ∈ ([49, 32, 91, 93, 93] : List UInt8), b.toNat < 128 by decide) b (List.mem_of_getElem? h))).mono fun e w' ⟨he, pos, hw⟩ => ⟨by rw [he]; kernel_rfl, by rw [hw]; exact (Below.refl _ _).alloc (Nat.le_refl _) _⟩
  have hex : ByteArray.extract ⟨#[49, 32, 91, 93, 93]⟩ 0 1 = ⟨#[49]⟩ := by kernel_rfl
  have hq : (((⟨#[49, 32, 91, 93, 93]⟩ : ByteArray)[0].toNat : Int) == 34) = false := by decide
  have HCP := hidden hcp
  have HIX := hidden hix
  clear hcp hix
  go_enter Tryz.func66, Tryz.ntmps66
  go_wp2_with (first | (go_at_call 90; refine same_call (HCP.out _) ?_) | (go_at_call 92; refine (HIX.out _).mono ?_; rintro e w1 ⟨rfl, hb1⟩; obtain ⟨⟨k0, k1, k2, k3⟩, f0, f1, f2, f3⟩ := cells4r hb1; have HB : Hid (Below w.heap.size w w1) := (show Below w.heap.size w _ from by go_grown).trans (hb1.mono (by simp)); have hz1 : w.heap.size + 1 ≤ w1.heap.size := (by have := hb1.size; simpa using this); clear hb1) | (go_at_call 93; refine (parseWord_1 _).mono ?_; rintro e w2 ⟨rfl, hb2⟩; have m0 := (hb2.cell (p := ⟨w.heap.size, 0, none⟩) hz1).trans k0; have m1 := (hb2.cell (p := ⟨w.heap.size, 1, none⟩) hz1).trans k1; have m2 := (hb2.cell (p := ⟨w.heap.size, 2, none⟩) hz1).trans k2; have m3 := (hb2.cell (p := ⟨w.heap.size, 3, none⟩) hz1).trans k3; have n0 := (hb2.frozen (p := ⟨w.heap.size, 0, none⟩) hz1).trans f0; have n1 := (hb2.frozen (p := ⟨w.heap.size, 1, none⟩) hz1).trans f1; have n2 := (hb2.frozen (p := ⟨w.heap.size, 2, none⟩) hz1).trans f2; have n3 := (hb2.frozen (p := ⟨w.heap.size, 3, none⟩) hz1).trans f3; have hz2 : w.heap.size < w2.heap.size := Nat.lt_of_lt_of_le hz1 hb2.size; have HB2 := hidden (HB.out.trans (hb2.mono (by omega))); clear hb2))
  obtain ⟨a0, a1, a2, a3⟩ := res4 (.int .i64 3) (.int .i64 1) (.string ⟨#[]⟩) (.slice none 0 0) (.cells #[.int .i64 3, .int .i64 1, .string ⟨#[]⟩, .slice none 0 0] 40) m0 m1 m2 m3 hz2
  refine bodyPost_ret (v := .tuple #[.agg #[.int .i64 3, .int .i64 1, .string ⟨#[]⟩, .slice none 0 0], .int .i64 1, .bool true]) (by simp [results, Tryz.results66, go_sem, a0, a1, a2, a3]; try rfl) rfl ?_
  exact ⟨rfl, (by first | exact ((((HB2.out.alloc (Nat.le_of_lt hz2) _).setCell (by simp) _).setCell (by simp) _).setCell (by simp) _).setCell (by simp) _ | exact ((((HB2.out.setCell (by simp) _).setCell (by simp) _).setCell (by simp) _).setCell (by simp) _).alloc (by simp; omega) _)⟩

set_option maxHeartbeats 400000 in
set_option maxRecDepth 100000 in
theorem parseItem_11 (w : World) : Calls Tryz.prog 45 #[.string ⟨#[91, 49, 32, 91, 93, 93]⟩, .int .i64 1, .int .i64 1] w fun e w' => e = .returned (.tuple #[.agg #[.int .i64 3, .int .i64 1, .string ⟨#[]⟩, .slice none 0 0], .int .i64 2, .int .i64 0]) ∧ Below w.heap.size w w' := by
  have hex : ByteArray.extract ⟨#[91, 49, 32, 91, 93, 93]⟩ 1 6 = ⟨#[49, 32, 91, 93, 93]⟩ := by kernel_rfl
  have hq : (((⟨#[91, 49, 32, 91, 93, 93]⟩ : ByteArray)[1].toNat : Int) == 91) = false := by decide
  go_enter Tryz.func45, Tryz.ntmps45
  go_wp2_with (first | (go_at_call 66; refine (parseOne_1 _).mono ?_; rintro e w2 ⟨rfl, hb1⟩; obtain ⟨⟨m0, m1, m2, m3⟩, n0, n1, n2, n3⟩ := cells4r hb1; have HB2 : Hid (Below w.heap.size w w2) := (show Below w.heap.size w _ from by go_grown).trans (hb1.mono (by simp)); have hz2 : w.heap.size < w2.heap.size := Nat.lt_of_lt_of_le (by simp) hb1.size; clear hb1))
  obtain ⟨a0, a1, a2, a3⟩ := res4 (.int .i64 3) (.int .i64 1) (.string ⟨#[]⟩) (.slice none 0 0) (.cells #[.int .i64 3, .int .i64 1, .string ⟨#[]⟩, .slice none 0 0] 40) m0 m1 m2 m3 hz2
  refine bodyPost_ret (v := .tuple #[.agg #[.int .i64 3, .int .i64 1, .string ⟨#[]⟩, .slice none 0 0], .int .i64 2, .int .i64 0]) (by simp [results, Tryz.results45, go_sem, a0, a1, a2, a3]; try rfl) rfl ?_
  exact ⟨rfl, (by first | exact ((((HB2.out.alloc (Nat.le_of_lt hz2) _).setCell (by simp) _).setCell (by simp) _).setCell (by simp) _).setCell (by simp) _ | exact ((((HB2.out.setCell (by simp) _).setCell (by simp) _).setCell (by simp) _).setCell (by simp) _).alloc (by simp; omega) _)⟩

set_option maxRecDepth 100000 in
theorem parseItems_42 (w : World) : Calls Tryz.prog 31 #[.string ⟨#[91, 49, 32, 91, 93, 93]⟩, .int .i64 4, .int .i64 2] w fun e w' => e = .returned (.tuple #[.slice none 0 0, .int .i64 5, .int .i64 0]) ∧ Below w.heap.size w w' := by
  have hq : (((⟨#[91, 49, 32, 91, 93, 93]⟩ : ByteArray)[4].toNat : Int)) = 93 := by decide
  go_enter Tryz.func31, Tryz.ntmps31
  go_wp2
  refine wp_loop_rounds 1 ?_
  rw [rounds_succ]
  go_wp2
  go_returns
  exact ⟨rfl, Below.refl _ _⟩
end Go.Proofs.YtfdiflfjefhjfaaGreatDoor

/- The chapter's first examples: Parse of "[1 []]", the whole. -/

namespace Go.Proofs.YtfdiflfjefhjfaaGreatDoor
open Go.RowKit

set_option maxHeartbeats 400000 in
set_option maxRecDepth 100000 in
theorem parseItem_31 (w : World) : Calls Tryz.prog 45 #[.string ⟨#[91, 49, 32, 91, 93, 93]⟩, .int .i64 3, .int .i64 1] w fun e w' => e = .returned (.tuple #[.agg #[.int .i64 7, .int .i64 0, .string ⟨#[]⟩, .slice none 0 0], .int .i64 5, .int .i64 0]) ∧ Below w.heap.size w w' := by
  have hq : (((⟨#[91, 49, 32, 91, 93, 93]⟩ : ByteArray)[3].toNat : Int)) = 91 := by decide
  go_enter Tryz.func45, Tryz.ntmps45
  go_wp2_with (first | (go_at_call 31; refine (parseItems_42 _).mono ?_; rintro e w2 ⟨rfl, hb1⟩; obtain ⟨⟨m0, m1, m2, m3⟩, n0, n1, n2, n3⟩ := cells4r hb1; have HB2 : Hid (Below w.heap.size w w2) := (show Below w.heap.size w _ from by go_grown).trans (hb1.mono (by simp)); have hz2 : w.heap.size < w2.heap.size := Nat.lt_of_lt_of_le (by simp) hb1.size; clear hb1))
  refine bodyPost_ret (v := .tuple #[.agg #[.int .i64 7, .int .i64 0, .string ⟨#[]⟩, .slice none 0 0], .int .i64 5, .int .i64 0]) (by simp [results, Tryz.results45, go_sem, m0, m1, m2, m3]; try rfl) rfl ?_
  exact ⟨rfl, (((HB2.out.setCell (by simp) _).setCell (by simp) _).setCell (by simp) _).setCell (by simp) _⟩

set_option maxHeartbeats 1000000 in
set_option maxRecDepth 100000 in
theorem parseItems_11 (w : World) : Calls Tryz.prog 31 #[.string ⟨#[91, 49, 32, 91, 93, 93]⟩, .int .i64 1, .int .i64 1] w fun e w' => ∃ vo c, e = .returned (.tuple #[.slice vo 2 c, .int .i64 6, .int .i64 0]) ∧ SlI w' (w.heap.size ≤ ·) vo 2 c inn ∧ Below w.heap.size w w' := by
  have h1 : (((⟨#[91, 49, 32, 91, 93, 93]⟩ : ByteArray)[1].toNat : Int)) = 49 := by decide
  have h2 : (((⟨#[91, 49, 32, 91, 93, 93]⟩ : ByteArray)[2].toNat : Int)) = 32 := by decide
  have h3 : (((⟨#[91, 49, 32, 91, 93, 93]⟩ : ByteArray)[3].toNat : Int)) = 91 := by decide
  have h5 : (((⟨#[91, 49, 32, 91, 93, 93]⟩ : ByteArray)[5].toNat : Int)) = 93 := by decide
  go_enter Tryz.func31, Tryz.ntmps31
  go_wp2
  refine wp_loop_rounds 4 ?_
  rw [rounds_succ]
  go_wp2_with (first | (go_at_call 45; refine (parseItem_11 w).mono ?_; rintro e w1 ⟨rfl, hb1⟩) | (at_builtin; refine app_item _ rfl _ _ rfl w.heap.size 0 [] _ _ _ _ _ _ rfl rfl (World.ownsRow_nil _ _ _ _) (heap_new _ _ _ (by simp)) (one4 _ _ _ _ _ _) (by omega) (by have := hb1.size; simp; omega) ?_))
  intro v2 w2 ho2 hg2
  have R2 : Below w.heap.size w w2 := hb1.trans ((show Below w.heap.size w1 _ from ((Below.refl _ _).alloc hb1.size _).alloc (by have := hb1.size; simp; omega) _).trans (own_below (World.ownsRow_nil _ w.heap.size 40 4) (by have := hb1.size; simp; omega) hg2.grow))
  have hz2 := R2.size
  have Ho2 := hidden ho2
  obtain ⟨g2, cap2, rfl⟩ := own_form ho2
  have HR2 := hidden R2
  clear hb1 ho2 hg2 R2
  go_wp2
  rw [rounds_succ]
  go_wp2
  rw [rounds_succ]
  go_wp2_with (first | (go_at_call 45; refine (parseItem_31 w2).mono ?_; rintro e w3 ⟨rfl, hb3⟩; have hz3 := hb3.size; have Ho3 := hidden (Ho2.out.kept (row := none) (show w2.grownBy w3 none from ⟨hb3.os, hb3.tape, hb3.output, hb3.size, fun k hk _ => hb3.block k hk⟩) (.inr (by simp [Value.ownBlock])))) | (at_builtin; refine app_item _ rfl _ _ rfl w.heap.size 1 _ _ _ _ _ _ _ rfl rfl ((Ho3.out.alloc _).alloc _) (heap_new _ _ _ (by simp)) (one4 _ _ _ _ _ _) (by omega) (by simp; omega) ?_))
  intro v4 w4 ho4 hg4
  have R4 : Below w.heap.size w3 w4 := (((Below.refl _ _).alloc (by omega) _).alloc (by simp; omega) _).trans (own_below ((Ho3.out.alloc _).alloc _) (by simp; omega) hg4.grow)
  have R3 : Below w.heap.size w w3 := HR2.out.trans (hb3.mono hz2)
  obtain ⟨vo, c', rfl, hsl⟩ := own_two (w := w4) ho4 (by omega) (by omega) (by decide) (by omega) (by omega) (by decide)
  have HS := hidden hsl
  have HR := hidden (R3.trans R4)
  clear hsl ho4 hg4 R3 R4 hb3
  go_wp2
  rw [rounds_succ]
  go_wp2
  go_returns
  exact ⟨vo, c', rfl, HS.out, HR.out⟩

set_option maxHeartbeats 400000 in
set_option maxRecDepth 100000 in
theorem parseItem_00 (w : World) : Calls Tryz.prog 45 #[.string ⟨#[91, 49, 32, 91, 93, 93]⟩, .int .i64 0, .int .i64 0] w fun e w' => ∃ vo c, e = .returned (.tuple #[.agg #[.int .i64 7, .int .i64 0, .string ⟨#[]⟩, .slice vo 2 c], .int .i64 6, .int .i64 0]) ∧ SlI w' (w.heap.size ≤ ·) vo 2 c inn ∧ Below w.heap.size w w' := by
  have hq : (((⟨#[91, 49, 32, 91, 93, 93]⟩ : ByteArray)[0].toNat : Int)) = 91 := by decide
  go_enter Tryz.func45, Tryz.ntmps45
  go_wp2_with (first | (go_at_call 31; refine (parseItems_11 _).mono ?_; rintro e w2 ⟨vo, c, rfl, hsl, hb1⟩; obtain ⟨⟨m0, m1, m2, m3⟩, n0, n1, n2, n3⟩ := cells4r hb1; have HB2 : Hid (Below w.heap.size w w2) := (show Below w.heap.size w _ from by go_grown).trans (hb1.mono (by simp)); have HS : Hid (SlI w2 (w.heap.size + 1 ≤ ·) vo 2 c inn) := hsl.lift (by simp); clear hb1 hsl))
  refine bodyPost_ret (v := .tuple #[.agg #[.int .i64 7, .int .i64 0, .string ⟨#[]⟩, .slice vo 2 c], .int .i64 6, .int .i64 0]) (by simp [results, Tryz.results45, go_sem, m0, m1, m2, m3]; try rfl) rfl ?_
  refine ⟨vo, c, rfl, (HS.out.keep (by simp) (fun q hq => ?_)).lift (by omega), (((HB2.out.setCell (by simp) _).setCell (by simp) _).setCell (by simp) _).setCell (by simp) _⟩
  rw [World.cell?_setCell_far _ _ _ _ (by simp; omega), World.cell?_setCell_far _ _ _ _ (by simp; omega), World.cell?_setCell_far _ _ _ _ (by simp; omega), World.cell?_setCell_far _ _ _ _ (by simp; omega)]

set_option maxHeartbeats 400000 in
set_option maxRecDepth 100000 in
theorem parseItems_00 (w : World) : Calls Tryz.prog 31 #[.string ⟨#[91, 49, 32, 91, 93, 93]⟩, .int .i64 0, .int .i64 0] w fun e w' => ∃ vo c, e = .returned (.tuple #[.slice vo 1 c, .int .i64 6, .int .i64 0]) ∧ SlI w' (w.heap.size ≤ ·) vo 1 c out7 ∧ Below w.heap.size w w' := by
  have h0 : (((⟨#[91, 49, 32, 91, 93, 93]⟩ : ByteArray)[0].toNat : Int)) = 91 := by decide
  go_enter Tryz.func31, Tryz.ntmps31
  go_wp2
  refine wp_loop_rounds 3 ?_
  rw [rounds_succ]
  go_wp2_with (first | (go_at_call 45; refine (parseItem_00 w).mono ?_; rintro e w1 ⟨vo, c, rfl, hsl, hb1⟩; have HS := hidden hsl; have hz1 := hb1.size; clear hsl) | (at_builtin; refine app_item _ rfl _ _ rfl w.heap.size 0 [] _ _ _ _ _ _ rfl rfl (World.ownsRow_nil _ _ _ _) (heap_new _ _ _ (by simp)) (one4 _ _ _ _ _ _) (by omega) (by simp; omega) ?_))
  intro v2 w2 ho2 hg2
  have RA : Below w1.heap.size w1 w2 := (show Below w1.heap.size w1 _ from ((Below.refl _ _).alloc (Nat.le_refl _) _).alloc (by simp) _).trans (own_below (World.ownsRow_nil _ w1.heap.size 40 4) (by simp; omega) hg2.grow)
  have R2 : Below w.heap.size w w2 := hb1.trans (RA.mono hz1)
  obtain ⟨v', c', rfl, hsl'⟩ := own_one (w := w2) ho2 (HS.out.on (Nat.le_refl _) RA) (by omega) (by omega) (by decide)
  have HS' := hidden hsl'
  have HR := hidden R2
  clear hsl' R2 RA hb1 ho2 hg2
  go_wp2
  rw [rounds_succ]
  go_wp2
  go_returns
  exact ⟨v', c', rfl, HS'.out, HR.out⟩

set_option maxRecDepth 100000 in
theorem parse_6 (w : World) : Calls Tryz.prog 18 #[.string ⟨#[91, 49, 32, 91, 93, 93]⟩] w fun e w' => ∃ vo c, e = .returned (.tuple #[.slice vo 1 c, .int .i64 0, .int .i64 0]) ∧ SlI w' (w.heap.size ≤ ·) vo 1 c out7 ∧ Below w.heap.size w w' := by
  go_enter Tryz.func18, Tryz.ntmps18
  go_wp2_with (go_at_call 31; refine (parseItems_00 w).mono ?_; rintro e w1 ⟨vo, c, rfl, hsl, hb1⟩; have HS := hidden hsl; clear hsl)
  go_returns
  exact ⟨vo, c, rfl, HS.out, hb1⟩
end Go.Proofs.YtfdiflfjefhjfaaGreatDoor
