/- The chapter's first examples: Parse of "[1 []]": the word 1. -/
import Derived.Test.YtmfnccffpajfnaaGreatDoorPrt2
import Derived.Test.YtmfnccffpajfnaaGreatDoorAwk2
namespace Go.Proofs.YtmfnccffpajfnaaGreatDoor
open Go.RowKit

/-- The word 1. -/
def w1 : ByteArray := ⟨#[49]⟩
set_option maxRecDepth 100000 in
theorem bytesWorld_or {w w' : World} (h : w' = w ∨ ∃ t, w' = Lib.bytesWorld w 5 t) : Below w.heap.size w w' := by
  rcases h with rfl | ⟨t, rfl⟩
  · exact Below.refl _ _
  · exact Lib.bytesWorld_below w 5 t
set_option maxRecDepth 100000 in
/-- A struct of four cells in a block of its own, behind a call: what it holds, and that it may be written. -/
theorem cells4r {w w1 : World} {a b c d : Value} {ty : Nat} (h : Below (w.alloc (.cells #[a, b, c, d] ty)).heap.size (w.alloc (.cells #[a, b, c, d] ty)) w1) :
    (w1.cell? ⟨w.heap.size, 0, none⟩ = some a ∧ w1.cell? ⟨w.heap.size, 1, none⟩ = some b ∧ w1.cell? ⟨w.heap.size, 2, none⟩ = some c ∧ w1.cell? ⟨w.heap.size, 3, none⟩ = some d) ∧ (w1.frozen? ⟨w.heap.size, 0, none⟩ = false ∧ w1.frozen? ⟨w.heap.size, 1, none⟩ = false ∧ w1.frozen? ⟨w.heap.size, 2, none⟩ = false ∧ w1.frozen? ⟨w.heap.size, 3, none⟩ = false) := by
  refine ⟨cells4 h, ?_, ?_, ?_, ?_⟩
  all_goals (refine (h.frozen (by simp)).trans (by simp))
set_option maxRecDepth 100000 in
theorem guessWord_1 (w : World) : Calls Tryz.prog 92 #[.string ⟨#[49]⟩] w fun e w' => e = .returned (.agg #[.int .i64 3, .int .i64 1, .string ⟨#[]⟩, .slice none 0 0]) ∧ Below w.heap.size w w' := by
  have hp : Lib.parseIntB 64 (⟨#[49]⟩ : ByteArray).data.toList = .ok 1 := by decide
  have HP := hidden hp
  clear hp
  go_enter Tryz.func92, Tryz.ntmps92
  go_wp2_with (first | (go_at_call 108; refine (Tryz.strconv_ParseInt_10_at64_ok ⟨#[49]⟩ (by decide) 1 HP.out _).mono ?_; rintro e w1 ⟨rfl, hw1⟩; have hb1 := bytesWorld_or hw1; obtain ⟨⟨k0, k1, k2, k3⟩, f0, f1, f2, f3⟩ := cells4r hb1; have HB : Hid (Below w.heap.size w w1) := (show Below w.heap.size w _ from by go_grown).trans (hb1.mono (by simp)); clear hw1 hb1))
  refine bodyPost_ret (v := .agg #[.int .i64 3, .int .i64 1, .string ⟨#[]⟩, .slice none 0 0]) (by simp [results, Tryz.results92, go_sem, k0, k1, k2, k3]; try rfl) rfl ?_
  exact ⟨rfl, (((HB.out.setCell (by simp) _).setCell (by simp) _).setCell (by simp) _).setCell (by simp) _⟩

set_option maxRecDepth 100000 in
theorem Sl.set {w : World} {b off n cap : Nat} {l : List Int} (h : Sl w (some ⟨b, off, none⟩) n cap l) (p : Addr) (v : Value) (hp : p.block ≠ b) : Sl (w.setCell p v) (some ⟨b, off, none⟩) n cap l := by
  refine ⟨h.hlen, h.hcap, h.hroom, h.wf, h.hnil, ?_⟩
  rcases h.hat with h0 | ⟨b', off', e, hlt, hc⟩
  · exact .inl h0
  · simp only [Option.some.injEq, Addr.mk.injEq, and_true] at e
    obtain ⟨rfl, rfl⟩ := e
    exact .inr ⟨b, off, rfl, by simpa using hlt, fun i hi => (World.cell?_setCell_far _ _ _ _ hp).trans (hc i hi)⟩

set_option maxRecDepth 100000 in
theorem print1 (W : World) : Calls Tryz.prog 33 #[.slice none 0 0, .agg #[.int .i64 3, .int .i64 1, .string ⟨#[]⟩, .slice none 0 0]] W fun e w' => ∃ b2 o2 c2, e = .returned (.slice (some ⟨b2, o2, none⟩) 1 c2) ∧ Sl w' (some ⟨b2, o2, none⟩) 1 c2 [49] ∧ W.heap.size ≤ b2 ∧ Below W.heap.size W w' := by
  refine (printItem_of 3 1 ⟨#[]⟩ none 0 0 .nil (.slice none 0 0) W.heap.size [] W (OwnB.nil _ _) (Nat.le_refl _) (SlI.none _ _) Wf.nil (by simp) (by simp [Its.sz]) (.inl ⟨rfl, rfl⟩) (printItems_all 1 .nil (by simp [Its.sz]) trivial none 0 0)).mono ?_
  rintro e w2 ⟨v2, rfl, ho2, hg2⟩
  have e1 : p1 3 .nil [] = [49] := by simp [p1]
  rw [e1] at ho2
  obtain ⟨a2, c2, rfl, s2, hge⟩ := ho2.sl (Wf.cons (by omega) Wf.nil) (by simp)
  rcases s2.hat with h | ⟨b2, o2, rfl, hb2, _⟩
  · simp at h
  · exact ⟨b2, o2, c2, rfl, s2, hge _ rfl, hg2.below (l := []) (OwnB.nil _ _) (Nat.le_refl _)⟩

set_option maxHeartbeats 400000 in
set_option maxRecDepth 100000 in
theorem parseWord_1 (w : World) : Calls Tryz.prog 74 #[.string ⟨#[49]⟩] w fun e w' => e = .returned (.tuple #[.agg #[.int .i64 3, .int .i64 1, .string ⟨#[]⟩, .slice none 0 0], .bool true]) ∧ Below w.heap.size w w' := by
  go_enter Tryz.func74, Tryz.ntmps74
  go_wp2_with (first | (go_at_call 92; refine (guessWord_1 _).mono ?_; rintro e w1 ⟨rfl, hb1⟩; obtain ⟨⟨k0, k1, k2, k3⟩, f0, f1, f2, f3⟩ := cells4r hb1; have HB : Hid (Below w.heap.size w w1) := (show Below w.heap.size w _ from by go_grown).trans (hb1.mono (by simp)); have hz1 : w.heap.size + 1 ≤ w1.heap.size := (by have := hb1.size; simpa using this); clear hb1))
  have hfb : ∀ W, Below w1.heap.size w1 W → (W.cell? ⟨w.heap.size, 0, none⟩ = some (.int .i64 0) ∧ W.cell? ⟨w.heap.size, 1, none⟩ = some (.int .i64 0) ∧ W.cell? ⟨w.heap.size, 2, none⟩ = some (.string ⟨#[]⟩) ∧ W.cell? ⟨w.heap.size, 3, none⟩ = some (.slice none 0 0)) ∧ (W.frozen? ⟨w.heap.size, 0, none⟩ = false ∧ W.frozen? ⟨w.heap.size, 1, none⟩ = false ∧ W.frozen? ⟨w.heap.size, 2, none⟩ = false ∧ W.frozen? ⟨w.heap.size, 3, none⟩ = false) :=
    fun W h => ⟨⟨(h.cell (by simp; omega)).trans k0, (h.cell (by simp; omega)).trans k1, (h.cell (by simp; omega)).trans k2, (h.cell (by simp; omega)).trans k3⟩, (h.frozen (by simp; omega)).trans f0, (h.frozen (by simp; omega)).trans f1, (h.frozen (by simp; omega)).trans f2, (h.frozen (by simp; omega)).trans f3⟩
  have hib : ∀ W, Below (w1.heap.size + 1) (w1.alloc (.cells #[.int .i64 3, .int .i64 1, .string ⟨#[]⟩, .slice none 0 0] 34)) W → W.cell? ⟨w1.heap.size, 0, none⟩ = some (.int .i64 3) ∧ W.cell? ⟨w1.heap.size, 1, none⟩ = some (.int .i64 1) ∧ W.cell? ⟨w1.heap.size, 2, none⟩ = some (.string ⟨#[]⟩) ∧ W.cell? ⟨w1.heap.size, 3, none⟩ = some (.slice none 0 0) :=
    fun W h => ⟨(h.cell (by simp)).trans (by simp), (h.cell (by simp)).trans (by simp), (h.cell (by simp)).trans (by simp), (h.cell (by simp)).trans (by simp)⟩
  have HIB := hidden hib
  clear hib
  have HFB := hidden hfb
  clear hfb
  have hst : strOfNums [49] = ⟨#[49]⟩ := by kernel_rfl
  go_region_with (go_at_call 33; refine (print1 _).mono ?_; rintro e w2 ⟨b2, o2, c2, rfl, s2, hge, hb2⟩; have hbw : Below w1.heap.size w1 w2 := (show Below w1.heap.size w1 _ from by go_grown).trans (hb2.mono (by simp)); obtain ⟨⟨g0, g1, g2, g3⟩, e0, e1, e2, e3⟩ := HFB.out w2 hbw; obtain ⟨i0, i1, i2, i3⟩ := HIB.out w2 ((show Below (w1.heap.size + 1) (w1.alloc (.cells #[.int .i64 3, .int .i64 1, .string ⟨#[]⟩, .slice none 0 0] 34)) _ from by go_grown).trans (hb2.mono (by simp))); have hne : w.heap.size ≠ b2 := (by simp at hge; omega); have hcv := conv_str s2; have hcvS := fun x0 x1 x2 x3 => conv_str ((((s2.set ⟨w.heap.size, 0, none⟩ x0 hne).set ⟨w.heap.size, 1, none⟩ x1 hne).set ⟨w.heap.size, 2, none⟩ x2 hne).set ⟨w.heap.size, 3, none⟩ x3 hne); have HBW := hidden hbw; clear s2 hb2 hge hbw)
  all_goals go_wp2
  all_goals (refine bodyPost_ret (v := .tuple #[.agg #[.int .i64 3, .int .i64 1, .string ⟨#[]⟩, .slice none 0 0], .bool true]) (by simp [results, Tryz.results74, go_sem, g0, g1, g2, g3]; try rfl) rfl ?_)
  all_goals (refine ⟨rfl, ((((HB.out.trans (HBW.out.mono (by omega))).setCell (by simp) _).setCell (by simp) _).setCell (by simp) _).setCell (by simp) _⟩)
end Go.Proofs.YtmfnccffpajfnaaGreatDoor
