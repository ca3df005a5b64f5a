/- The chapter's first examples: Parse of "[1 []]", the whole. -/
import Derived.Test.YtmfnccffpajfnaaGreatDoorPrs2
namespace Go.Proofs.YtmfnccffpajfnaaGreatDoor
open Go.RowKit

set_option maxHeartbeats 400000 in
set_option maxRecDepth 100000 in
theorem parseItem_31 (w : World) : Calls Tryz.prog 34 #[.string ⟨#[91, 49, 32, 91, 93, 93]⟩, .int .i64 3, .int .i64 1] w fun e w' => e = .returned (.tuple #[.agg #[.int .i64 7, .int .i64 0, .string ⟨#[]⟩, .slice none 0 0], .int .i64 5, .int .i64 0]) ∧ Below w.heap.size w w' := by
  have hq : (((⟨#[91, 49, 32, 91, 93, 93]⟩ : ByteArray)[3].toNat : Int)) = 91 := by decide
  go_enter Tryz.func34, Tryz.ntmps34
  go_wp2_with (first | (go_at_call 22; refine (parseItems_42 _).mono ?_; rintro e w2 ⟨rfl, hb1⟩; obtain ⟨⟨m0, m1, m2, m3⟩, n0, n1, n2, n3⟩ := cells4r hb1; have HB2 : Hid (Below w.heap.size w w2) := (show Below w.heap.size w _ from by go_grown).trans (hb1.mono (by simp)); have hz2 : w.heap.size < w2.heap.size := Nat.lt_of_lt_of_le (by simp) hb1.size; clear hb1))
  refine bodyPost_ret (v := .tuple #[.agg #[.int .i64 7, .int .i64 0, .string ⟨#[]⟩, .slice none 0 0], .int .i64 5, .int .i64 0]) (by simp [results, Tryz.results34, go_sem, m0, m1, m2, m3]; try rfl) rfl ?_
  exact ⟨rfl, (((HB2.out.setCell (by simp) _).setCell (by simp) _).setCell (by simp) _).setCell (by simp) _⟩

set_option maxHeartbeats 1000000 in
set_option maxRecDepth 100000 in
theorem parseItems_11 (w : World) : Calls Tryz.prog 22 #[.string ⟨#[91, 49, 32, 91, 93, 93]⟩, .int .i64 1, .int .i64 1] w fun e w' => ∃ vo c, e = .returned (.tuple #[.slice vo 2 c, .int .i64 6, .int .i64 0]) ∧ SlI w' (w.heap.size ≤ ·) vo 2 c inn ∧ Below w.heap.size w w' := by
  have h1 : (((⟨#[91, 49, 32, 91, 93, 93]⟩ : ByteArray)[1].toNat : Int)) = 49 := by decide
  have h2 : (((⟨#[91, 49, 32, 91, 93, 93]⟩ : ByteArray)[2].toNat : Int)) = 32 := by decide
  have h3 : (((⟨#[91, 49, 32, 91, 93, 93]⟩ : ByteArray)[3].toNat : Int)) = 91 := by decide
  have h5 : (((⟨#[91, 49, 32, 91, 93, 93]⟩ : ByteArray)[5].toNat : Int)) = 93 := by decide
  go_enter Tryz.func22, Tryz.ntmps22
  go_wp2
  refine wp_loop_rounds 4 ?_
  rw [rounds_succ]
  go_wp2_with (first | (go_at_call 34; refine (parseItem_11 w).mono ?_; rintro e w1 ⟨rfl, hb1⟩) | (at_builtin; refine app_item _ rfl _ _ rfl w.heap.size 0 [] _ _ _ _ _ _ rfl rfl (World.ownsRow_nil _ _ _ _) (heap_new _ _ _ (by simp)) (one4 _ _ _ _ _ _) (by omega) (by have := hb1.size; simp; omega) ?_))
  intro v2 w2 ho2 hg2
  have R2 : Below w.heap.size w w2 := hb1.trans ((show Below w.heap.size w1 _ from ((Below.refl _ _).alloc hb1.size _).alloc (by have := hb1.size; simp; omega) _).trans (own_below (World.ownsRow_nil _ w.heap.size 34 4) (by have := hb1.size; simp; omega) hg2.grow))
  have hz2 := R2.size
  have Ho2 := hidden ho2
  obtain ⟨g2, cap2, rfl⟩ := own_form ho2
  have HR2 := hidden R2
  clear hb1 ho2 hg2 R2
  go_wp2
  rw [rounds_succ]
  go_wp2
  rw [rounds_succ]
  go_wp2_with (first | (go_at_call 34; refine (parseItem_31 w2).mono ?_; rintro e w3 ⟨rfl, hb3⟩; have hz3 := hb3.size; have Ho3 := hidden (Ho2.out.kept (row := none) (show w2.grownBy w3 none from ⟨hb3.os, hb3.tape, hb3.output, hb3.size, fun k hk _ => hb3.block k hk⟩) (.inr (by simp [Value.ownBlock])))) | (at_builtin; refine app_item _ rfl _ _ rfl w.heap.size 1 _ _ _ _ _ _ _ rfl rfl ((Ho3.out.alloc _).alloc _) (heap_new _ _ _ (by simp)) (one4 _ _ _ _ _ _) (by omega) (by simp; omega) ?_))
  intro v4 w4 ho4 hg4
  have R4 : Below w.heap.size w3 w4 := (((Below.refl _ _).alloc (by omega) _).alloc (by simp; omega) _).trans (own_below ((Ho3.out.alloc _).alloc _) (by simp; omega) hg4.grow)
  have R3 : Below w.heap.size w w3 := HR2.out.trans (hb3.mono hz2)
  obtain ⟨vo, c', rfl, hsl⟩ := own_two (w := w4) ho4 (by omega) (by omega) (by decide) (by omega) (by omega) (by decide)
  have HS := hidden hsl
  have HR := hidden (R3.trans R4)
  clear hsl ho4 hg4 R3 R4 hb3
  go_wp2
  rw [rounds_succ]
  go_wp2
  go_returns
  exact ⟨vo, c', rfl, HS.out, HR.out⟩

set_option maxHeartbeats 400000 in
set_option maxRecDepth 100000 in
theorem parseItem_00 (w : World) : Calls Tryz.prog 34 #[.string ⟨#[91, 49, 32, 91, 93, 93]⟩, .int .i64 0, .int .i64 0] w fun e w' => ∃ vo c, e = .returned (.tuple #[.agg #[.int .i64 7, .int .i64 0, .string ⟨#[]⟩, .slice vo 2 c], .int .i64 6, .int .i64 0]) ∧ SlI w' (w.heap.size ≤ ·) vo 2 c inn ∧ Below w.heap.size w w' := by
  have hq : (((⟨#[91, 49, 32, 91, 93, 93]⟩ : ByteArray)[0].toNat : Int)) = 91 := by decide
  go_enter Tryz.func34, Tryz.ntmps34
  go_wp2_with (first | (go_at_call 22; refine (parseItems_11 _).mono ?_; rintro e w2 ⟨vo, c, rfl, hsl, hb1⟩; obtain ⟨⟨m0, m1, m2, m3⟩, n0, n1, n2, n3⟩ := cells4r hb1; have HB2 : Hid (Below w.heap.size w w2) := (show Below w.heap.size w _ from by go_grown).trans (hb1.mono (by simp)); have HS : Hid (SlI w2 (w.heap.size + 1 ≤ ·) vo 2 c inn) := hsl.lift (by simp); clear hb1 hsl))
  refine bodyPost_ret (v := .tuple #[.agg #[.int .i64 7, .int .i64 0, .string ⟨#[]⟩, .slice vo 2 c], .int .i64 6, .int .i64 0]) (by simp [results, Tryz.results34, go_sem, m0, m1, m2, m3]; try rfl) rfl ?_
  refine ⟨vo, c, rfl, (HS.out.keep (by simp) (fun q hq => ?_)).lift (by omega), (((HB2.out.setCell (by simp) _).setCell (by simp) _).setCell (by simp) _).setCell (by simp) _⟩
  rw [World.cell?_setCell_far _ _ _ _ (by simp; omega), World.cell?_setCell_far _ _ _ _ (by simp; omega), World.cell?_setCell_far _ _ _ _ (by simp; omega), World.cell?_setCell_far _ _ _ _ (by simp; omega)]

set_option maxHeartbeats 400000 in
set_option maxRecDepth 100000 in
theorem parseItems_00 (w : World) : Calls Tryz.prog 22 #[.string ⟨#[91, 49, 32, 91, 93, 93]⟩, .int .i64 0, .int .i64 0] w fun e w' => ∃ vo c, e = .returned (.tuple #[.slice vo 1 c, .int .i64 6, .int .i64 0]) ∧ SlI w' (w.heap.size ≤ ·) vo 1 c out7 ∧ Below w.heap.size w w' := by
  have h0 : (((⟨#[91, 49, 32, 91, 93, 93]⟩ : ByteArray)[0].toNat : Int)) = 91 := by decide
  go_enter Tryz.func22, Tryz.ntmps22
  go_wp2
  refine wp_loop_rounds 3 ?_
  rw [rounds_succ]
  go_wp2_with (first | (go_at_call 34; refine (parseItem_00 w).mono ?_; rintro e w1 ⟨vo, c, rfl, hsl, hb1⟩; have HS := hidden hsl; have hz1 := hb1.size; clear hsl) | (at_builtin; refine app_item _ rfl _ _ rfl w.heap.size 0 [] _ _ _ _ _ _ rfl rfl (World.ownsRow_nil _ _ _ _) (heap_new _ _ _ (by simp)) (one4 _ _ _ _ _ _) (by omega) (by simp; omega) ?_))
  intro v2 w2 ho2 hg2
  have RA : Below w1.heap.size w1 w2 := (show Below w1.heap.size w1 _ from ((Below.refl _ _).alloc (Nat.le_refl _) _).alloc (by simp) _).trans (own_below (World.ownsRow_nil _ w1.heap.size 34 4) (by simp; omega) hg2.grow)
  have R2 : Below w.heap.size w w2 := hb1.trans (RA.mono hz1)
  obtain ⟨v', c', rfl, hsl'⟩ := own_one (w := w2) ho2 (HS.out.on (Nat.le_refl _) RA) (by omega) (by omega) (by decide)
  have HS' := hidden hsl'
  have HR := hidden R2
  clear hsl' R2 RA hb1 ho2 hg2
  go_wp2
  rw [rounds_succ]
  go_wp2
  go_returns
  exact ⟨v', c', rfl, HS'.out, HR.out⟩

set_option maxRecDepth 100000 in
theorem parse_6 (w : World) : Calls Tryz.prog 11 #[.string ⟨#[91, 49, 32, 91, 93, 93]⟩] w fun e w' => ∃ vo c, e = .returned (.tuple #[.slice vo 1 c, .int .i64 0, .int .i64 0]) ∧ SlI w' (w.heap.size ≤ ·) vo 1 c out7 ∧ Below w.heap.size w w' := by
  go_enter Tryz.func11, Tryz.ntmps11
  go_wp2_with (go_at_call 22; refine (parseItems_00 w).mono ?_; rintro e w1 ⟨vo, c, rfl, hsl, hb1⟩; have HS := hidden hsl; clear hsl)
  go_returns
  exact ⟨vo, c, rfl, HS.out, hb1⟩
end Go.Proofs.YtmfnccffpajfnaaGreatDoor
