/- The chapter's first examples: Decode of seven bytes, the rest. -/
import Derived.Test.YtpiijmionafmcaaGreatDoorAwk
namespace Go.Proofs.YtpiijmionafmcaaGreatDoor
open Go.RowKit

set_option maxRecDepth 100000 in
theorem SlI.keep {w w' : World} {B : Nat} {ao : Option Addr} {n cap : Nat} {l : Its} (h : SlI w (B ≤ ·) ao n cap l) (hs : w.heap.size ≤ w'.heap.size) (hc : ∀ q : Addr, B ≤ q.block → w'.cell? q = w.cell? q) : SlI w' (B ≤ ·) ao n cap l :=
  h.mono hs (fun q _ hq => hc q hq) (fun _ h _ => h)
set_option maxRecDepth 100000 in
theorem SlI.lift {w : World} {B B' : Nat} {ao : Option Addr} {n cap : Nat} {l : Its} (h : SlI w (B' ≤ ·) ao n cap l) (hB : B ≤ B') : SlI w (B ≤ ·) ao n cap l :=
  h.mono (Nat.le_refl _) (fun _ _ _ => rfl) (fun _ h _ => Nat.le_trans hB h)

set_option maxRecDepth 100000 in
theorem heap_new (u : World) (o : Obj) (H : Nat) (hH : u.heap.size = H) : (u.alloc o).heap[H]? = some o := by subst hH; exact heap_alloc_new _ _
set_option maxRecDepth 100000 in
theorem one4 (k n : Int) (t : ByteArray) (so : Option Addr) (m c : Nat) : ∀ u ∈ [Value.int .i64 k, Value.int .i64 n, Value.string t, Value.slice so m c], u.oneCell' = true := by
  intro u hu
  simp at hu
  rcases hu with rfl | rfl | rfl | rfl <;> rfl

set_option maxRecDepth 100000 in
theorem readItem_21 (ao : Option Addr) (cap : Nat) (w : World) (hs : Sl w ao 7 cap b7) : Calls Tryz.prog 27 #[.slice ao 7 cap, .int .i64 2, .int .i64 3, .int .i64 1] w fun e w' => e = .returned (.tuple #[.agg #[.int .i64 3, .int .i64 1, .string ⟨#[]⟩, .slice none 0 0], .int .i64 4, .int .i64 0]) ∧ Below w.heap.size w w' := by
  have Hs := hidden hs
  clear hs
  go_enter Tryz.func27, Tryz.ntmps27
  go_wp2_with (go_at_call 39; refine same_call (readInt_2 ao cap _ (Hs.out.on (Nat.le_refl _) (by go_grown))) ?_)
  go_returns
  exact ⟨rfl, by go_grown⟩

/-- What the inner List is. -/
def inn : Its := .cons 3 1 ⟨#[]⟩ .nil (.cons 7 0 ⟨#[]⟩ .nil .nil)
def out7 : Its := .cons 7 0 ⟨#[]⟩ inn .nil

set_option maxRecDepth 100000 in
/-- What owns items looks so. -/
theorem own_form {w : World} {B n : Nat} {v : Value} {xs : List Value} (h : w.ownsRow B 36 4 v (n + 1) xs) : ∃ g cap, v = .slice (some ⟨g, 0, none⟩) (n + 1) cap := by
  rcases h.2 with ⟨_, h0⟩ | ⟨g, cap, cur, rfl, _⟩
  · omega
  · exact ⟨g, cap, rfl⟩

set_option maxHeartbeats 1000000 in
set_option maxRecDepth 100000 in
theorem readItems_11 (ao : Option Addr) (cap : Nat) (w : World) (hs : Sl w ao 7 cap b7) : Calls Tryz.prog 17 #[.slice ao 7 cap, .int .i64 1, .int .i64 1] w fun e w' => ∃ vo c, e = .returned (.tuple #[.slice vo 2 c, .int .i64 7, .int .i64 0]) ∧ SlI w' (w.heap.size ≤ ·) vo 2 c inn ∧ Below w.heap.size w w' := by
  have Hs := hidden hs
  have hcap := hs.hcap
  obtain ⟨b, off, rfl, hb, c0, c1, c2, c3, c4, c5, c6⟩ := b7_cells hs
  clear hs
  go_enter Tryz.func17, Tryz.ntmps17
  go_wp2
  refine wp_loop_rounds 4 ?_
  rw [rounds_succ]
  go_wp2_with (first | (go_at_call 26; refine same_call (isKind_yes _ _ (by omega)) ?_) | (go_at_call 27; refine (readItem_21 _ cap w Hs.out).mono ?_; rintro e w1 ⟨rfl, hb1⟩) | (at_builtin; refine app_item _ rfl _ _ rfl w.heap.size 0 [] _ _ _ _ _ _ rfl rfl (World.ownsRow_nil _ _ _ _) (heap_new _ _ _ (by simp)) (one4 _ _ _ _ _ _) (by omega) (by have := hb1.size; simp; omega) ?_))
  intro v2 w2 ho2 hg2
  have R2 : Below w.heap.size w w2 := hb1.trans ((show Below w.heap.size w1 _ from ((Below.refl _ _).alloc hb1.size _).alloc (by have := hb1.size; simp; omega) _).trans (own_below (World.ownsRow_nil _ w.heap.size 36 4) (by have := hb1.size; simp; omega) hg2.grow))
  have hz2 := R2.size
  have Ho2 := hidden ho2
  obtain ⟨g2, cap2, rfl⟩ := own_form ho2
  have d4 := (R2.cell (p := ⟨b, off + 4, none⟩) hb).trans c4
  have d6 := (R2.cell (p := ⟨b, off + 6, none⟩) hb).trans c6
  have HR2 := hidden R2
  clear hb1 ho2 hg2 c0 c1 c2 c3 c4 c5 R2
  go_wp2
  rw [rounds_succ]
  go_wp2_with (first | (go_at_call 26; refine same_call (isKind_yes _ _ (by omega)) ?_) | (go_at_call 27; refine (readItem_51 _ cap w2 (Hs.out.on (Nat.le_refl _) HR2.out)).mono ?_; rintro e w3 ⟨rfl, hb3⟩; have hz3 := hb3.size; have Ho3 := hidden (Ho2.out.kept (row := none) (show w2.grownBy w3 none from ⟨hb3.os, hb3.tape, hb3.output, hb3.size, fun k hk _ => hb3.block k hk⟩) (.inr (by simp [Value.ownBlock])))) | (at_builtin; refine app_item _ rfl _ _ rfl w.heap.size 1 _ _ _ _ _ _ _ rfl rfl ((Ho3.out.alloc _).alloc _) (heap_new _ _ _ (by simp)) (one4 _ _ _ _ _ _) (by omega) (by simp; omega) ?_))
  intro v4 w4 ho4 hg4
  have R4 : Below w.heap.size w3 w4 := (((Below.refl _ _).alloc (by omega) _).alloc (by simp; omega) _).trans (own_below ((Ho3.out.alloc _).alloc _) (by simp; omega) hg4.grow)
  have R3 : Below w.heap.size w w3 := HR2.out.trans (hb3.mono hz2)
  have hz4 := R4.size
  have d6' := ((R3.trans R4).cell (p := ⟨b, off + 6, none⟩) hb).trans c6
  obtain ⟨vo, c', rfl, hsl⟩ := own_two (w := w4) ho4 (by omega) (by omega) (by decide) (by omega) (by omega) (by decide)
  have HS := hidden hsl
  have HR := hidden (R3.trans R4)
  clear hsl ho4 hg4 R3 R4 hb3
  go_wp2
  rw [rounds_succ]
  go_wp2
  go_returns
  exact ⟨vo, c', rfl, HS.out, HR.out⟩

set_option maxHeartbeats 400000 in
set_option maxRecDepth 100000 in
theorem readItem_10 (ao : Option Addr) (cap : Nat) (w : World) (hs : Sl w ao 7 cap b7) : Calls Tryz.prog 27 #[.slice ao 7 cap, .int .i64 1, .int .i64 7, .int .i64 0] w fun e w' => ∃ vo c, e = .returned (.tuple #[.agg #[.int .i64 7, .int .i64 0, .string ⟨#[]⟩, .slice vo 2 c], .int .i64 7, .int .i64 0]) ∧ SlI w' (w.heap.size ≤ ·) vo 2 c inn ∧ Below w.heap.size w w' := by
  have Hs := hidden hs
  clear hs
  go_enter Tryz.func27, Tryz.ntmps27
  go_wp2_with (go_at_call 17; refine (readItems_11 ao cap _ (Hs.out.on (Nat.le_refl _) (by go_grown))).mono ?_; rintro e w1 ⟨vo, c, rfl, hsl, hb1⟩; obtain ⟨⟨k0, k1, k2, k3⟩, ⟨f0, f1, f2, f3⟩, ⟨k0', k1', k2', k3'⟩, f0', f1', f2', f3'⟩ := cells44 hb1; have HB : Hid (Below w.heap.size w w1) := (show Below w.heap.size w _ from by go_grown).trans (hb1.mono (by simp; omega)); have HS : Hid (SlI w1 (w.heap.size + 2 ≤ ·) vo 2 c inn) := hsl.lift (by simp); clear hb1 hsl)
  refine bodyPost_ret (v := .tuple #[.agg #[.int .i64 7, .int .i64 0, .string ⟨#[]⟩, .slice vo 2 c], .int .i64 7, .int .i64 0]) (by simp [results, Tryz.results27, go_sem, k0, k1, k2, k3]; try rfl) rfl ?_
  refine ⟨vo, c, rfl, (HS.out.keep (by simp) (fun q hq => ?_)).lift (by omega), ((((HB.out.setCell (by simp) _).setCell (by simp) _).setCell (by simp) _).setCell (by simp) _).setCell (by simp) _⟩
  rw [World.cell?_setCell_far _ _ _ _ (by simp; omega), World.cell?_setCell_far _ _ _ _ (by simp; omega), World.cell?_setCell_far _ _ _ _ (by simp; omega), World.cell?_setCell_far _ _ _ _ (by simp; omega), World.cell?_setCell_far _ _ _ _ (by simp; omega)]

set_option maxHeartbeats 400000 in
set_option maxRecDepth 100000 in
theorem readItems_00 (ao : Option Addr) (cap : Nat) (w : World) (hs : Sl w ao 7 cap b7) : Calls Tryz.prog 17 #[.slice ao 7 cap, .int .i64 0, .int .i64 0] w fun e w' => ∃ vo c, e = .returned (.tuple #[.slice vo 1 c, .int .i64 7, .int .i64 0]) ∧ SlI w' (w.heap.size ≤ ·) vo 1 c out7 ∧ Below w.heap.size w w' := by
  have Hs := hidden hs
  have hcap := hs.hcap
  obtain ⟨b, off, rfl, hb, c0, c1, c2, c3, c4, c5, c6⟩ := b7_cells hs
  clear hs c1 c2 c3 c4 c5 c6
  go_enter Tryz.func17, Tryz.ntmps17
  go_wp2
  refine wp_loop_rounds 3 ?_
  rw [rounds_succ]
  go_wp2_with (first | (go_at_call 26; refine same_call (isKind_yes _ _ (by omega)) ?_) | (go_at_call 27; refine (readItem_10 _ cap w Hs.out).mono ?_; rintro e w1 ⟨vo, c, rfl, hsl, hb1⟩; have HS := hidden hsl; have hz1 := hb1.size; clear hsl) | (at_builtin; refine app_item _ rfl _ _ rfl w.heap.size 0 [] _ _ _ _ _ _ rfl rfl (World.ownsRow_nil _ _ _ _) (heap_new _ _ _ (by simp)) (one4 _ _ _ _ _ _) (by omega) (by simp; omega) ?_))
  intro v2 w2 ho2 hg2
  have RA : Below w1.heap.size w1 w2 := (show Below w1.heap.size w1 _ from ((Below.refl _ _).alloc (Nat.le_refl _) _).alloc (by simp) _).trans (own_below (World.ownsRow_nil _ w1.heap.size 36 4) (by simp; omega) hg2.grow)
  have R2 : Below w.heap.size w w2 := hb1.trans (RA.mono hz1)
  obtain ⟨v', c', rfl, hsl'⟩ := own_one (w := w2) ho2 (HS.out.on (Nat.le_refl _) RA) (by omega) (by omega) (by decide)
  have HS' := hidden hsl'
  have HR := hidden R2
  clear hsl' R2 RA hb1 ho2 hg2
  go_wp2
  rw [rounds_succ]
  go_wp2
  go_returns
  exact ⟨v', c', rfl, HS'.out, HR.out⟩

set_option maxRecDepth 100000 in
theorem decode_7 (ao : Option Addr) (cap : Nat) (w : World) (hs : Sl w ao 7 cap b7) : Calls Tryz.prog 5 #[.slice ao 7 cap] w fun e w' => ∃ vo c, e = .returned (.tuple #[.slice vo 1 c, .int .i64 0]) ∧ SlI w' (w.heap.size ≤ ·) vo 1 c out7 ∧ Below w.heap.size w w' := by
  have Hs := hidden hs
  clear hs
  go_enter Tryz.func5, Tryz.ntmps5
  go_wp2_with (go_at_call 17; refine (readItems_00 ao cap w Hs.out).mono ?_; rintro e w1 ⟨vo, c, rfl, hsl, hb1⟩; have HS := hidden hsl; clear hsl)
  go_returns
  exact ⟨vo, c, rfl, HS.out, hb1⟩
end Go.Proofs.YtpiijmionafmcaaGreatDoor
