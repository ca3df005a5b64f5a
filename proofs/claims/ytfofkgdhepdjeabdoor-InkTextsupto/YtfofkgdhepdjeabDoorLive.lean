/- The law's own few calls answer what the document fixes. -/
import Derived.Test.YtfofkgdhepdjeabDoorCommon
import Derived.Test.YtfofkgdhepdjeabDoorUint
import Derived.Test.YtfofkgdhepdjeabDoorFixed
import Derived.Test.YtfofkgdhepdjeabDoorReadUint
import Derived.Test.YtfofkgdhepdjeabDoorOrdered
import Derived.Test.YtfofkgdhepdjeabDoorReadOrdered
import Derived.Test.YtfofkgdhepdjeabDoorSame
import Derived.Lib.SlBytesConst
namespace Go.Proofs.YtfofkgdhepdjeabDoor
open Go.RowKit

theorem Sl.alloc {w : World} {ao : Option Addr} {n cap : Nat} {l : List Int} (h : Sl w ao n cap l) (o : Obj) : Sl (w.alloc o) ao n cap l := h.on (Nat.le_refl _) ((Below.refl _ _).alloc (Nat.le_refl _) o)
theorem Sl.go {w w' : World} {ao : Option Addr} {n cap : Nat} {l : List Int} (h : Sl w ao n cap l) (hb : Below w.heap.size w w') : Sl w' ao n cap l := h.on (Nat.le_refl _) hb
theorem lit_cell (w : World) (cs : Array Value) (t : TypeId) (f : Nat × Nat) (i B : Nat) (hB : w.heap.size = B) : (w.alloc (.cells cs t f)).cell? ⟨B, i, none⟩ = cs[i]? := by
  subst hB
  unfold World.cell?
  rw [show (w.alloc (.cells cs t f)).heap[w.heap.size]? = some (.cells cs t f) from heap_alloc_new w _]
  rfl
theorem lit_sl (w : World) (l : List Int) (n : Nat) (hw : Wf l) (hn : l.length = n) (hl : n ≤ 140737488355328) (cs : Array Value) (h : cs = (By l).toArray) (f : Nat × Nat) (B : Nat) (hB : w.heap.size = B) : Sl (w.alloc (.cells cs 5 f)) (some ⟨B, 0, none⟩) n n l := by
  subst h hn
  refine ⟨rfl, Nat.le_refl _, hl, hw, (by intro h; cases h), .inr ⟨B, 0, rfl, by simp; omega, fun i hi => ?_⟩⟩
  rw [Nat.zero_add, lit_cell _ _ _ _ _ _ hB]
  simp [By, List.getD, List.getElem?_eq_getElem hi]
theorem sls_two (w : World) (a b : Option Addr) (n m c d : Nat) (la lb : List Int) (ha : Sl w a n c la) (hb : Sl w b m d lb) (B : Nat) (hB : w.heap.size = B) : SlS (w.alloc (.cells #[.slice a n c, .slice b m d] 23)) (some ⟨B, 0, none⟩) 2 2 [la, lb] := by
  refine ⟨rfl, Nat.le_refl _, by omega, (by intro h; cases h), .inr ⟨B, 0, rfl, by simp; omega, fun i hi => ?_⟩⟩
  have h01 : i = 0 ∨ i = 1 := by omega
  rcases h01 with rfl | rfl
  · exact ⟨a, n, c, lit_cell _ _ _ _ _ _ hB, ha.alloc _⟩
  · exact ⟨b, m, d, lit_cell _ _ _ _ _ _ hB, hb.alloc _⟩
theorem sls_one (w : World) (a : Option Addr) (n c : Nat) (la : List Int) (ha : Sl w a n c la) (B : Nat) (hB : w.heap.size = B) : SlS (w.alloc (.cells #[.slice a n c] 23)) (some ⟨B, 0, none⟩) 1 1 [la] := by
  refine ⟨rfl, Nat.le_refl _, by omega, (by intro h; cases h), .inr ⟨B, 0, rfl, by simp; omega, fun i hi => ?_⟩⟩
  obtain rfl : i = 0 := by omega
  exact ⟨a, n, c, lit_cell _ _ _ _ _ _ hB, ha.alloc _⟩

theorem conv_lit (w : World) (C : Array Value) (n c : Nat) : (convert 23 23 (.slice (some ⟨w.heap.size, 0, none⟩) n c)).run Tryd.prog (w.alloc (.cells C 5)) = .ok (.slice (some ⟨w.heap.size, 0, none⟩) n c) (w.alloc (.cells C 5 (C.size, C.size + 1))) :=
  Lib.run_convert_bytes_const (P := Tryd.prog) w 23 5 C n c Tryd.underlying23 Tryd.underlying5
theorem conv_lit2 (w : World) (X : Obj) (C : Array Value) (n c : Nat) : (convert 23 23 (.slice (some ⟨w.heap.size + 1, 0, none⟩) n c)).run Tryd.prog ((w.alloc X).alloc (.cells C 5)) = .ok (.slice (some ⟨w.heap.size + 1, 0, none⟩) n c) ((w.alloc X).alloc (.cells C 5 (C.size, C.size + 1))) := by
  have h := conv_lit (w.alloc X) C n c
  rw [show (w.alloc X).heap.size = w.heap.size + 1 by simp] at h
  exact h

set_option maxHeartbeats 2000000 in
theorem live_any (w : World) (ht : Tab w) (hw0 : 0 < w.heap.size) :
    Calls Tryd.prog 8 #[] w fun e w' => e = .returned (.bool true) ∧ Below w.heap.size w w' := by
  have HT := hidden ht
  clear ht
  go_enter Tryd.func8, Tryd.ntmps8
  go_wp2_with fail
  refine (fixed_yes 258 2 _ (by omega) (by omega) (by omega)).mono ?_
  rintro e w1 ⟨v1, rfl, ho1, hb1⟩
  rw [show fB (2 : Int).toNat 258 = [1, 2] from by decide] at ho1
  obtain ⟨a1, c1, rfl, hs1, -⟩ := ho1.sl (by unfold Wf; decide) (by decide)
  have HB1 := hidden hb1
  have HS1 := hidden hs1
  clear ho1 hb1 hs1
  go_wp2_with fail
  refine same_call (readFixed_ok _ _ _ _ 0 2 _ HS1.out (by omega) (by omega) (by omega) (by decide)) ?_
  rw [show rdB (List.take (2 : Int).toNat (List.drop (0 : Int).toNat [1, 2])) = 258 from by decide]
  go_wp2_with fail
  refine (uint_any 300 _ (by omega) (by omega)).mono ?_
  rintro e w2 ⟨v2, rfl, ho2, hb2⟩
  rw [show uB 300 = [172, 2] from by decide] at ho2
  obtain ⟨a2, c2, rfl, hs2, -⟩ := ho2.sl (by unfold Wf; decide) (by decide)
  have HB2 := hidden (HB1.out.trans (hb2.mono HB1.out.size))
  have HS2 := hidden hs2
  clear ho2 hb2 hs2 HB1 HS1
  go_wp2_with fail
  refine same_call (readUint_any _ _ _ _ 0 _ HS2.out (by omega) (by decide)) ?_
  rw [show rU 0 (List.drop (0 : Int).toNat [172, 2]) 0 0 = (300, 2, 0) from by decide]
  clear HS2
  go_wp2_with fail
  refine (ordered_any _ _ _ _ _ (lit_sl w2 [97, 0] 2 (by unfold Wf; decide) rfl (by decide) _ rfl (0, 0) _ rfl) (by decide)).mono ?_
  rintro e w3 ⟨v3, rfl, ho3, hb3⟩
  rw [show oB [97, 0] = [97, 0, 255, 0, 1] from by decide] at ho3
  obtain ⟨a3, c3, rfl, hs3, -⟩ := ho3.sl (by unfold Wf; decide) (by decide)
  have HB3 := hidden ((HB2.out.alloc HB2.out.size _).trans (hb3.mono (Nat.le_trans HB2.out.size (by simp))))
  have HS3 := hidden hs3
  clear ho3 hb3 hs3 HB2
  go_wp2_with fail
  refine (readOrdered_in _ _ _ _ 0 _ HS3.out (by omega) (by decide)).mono ?_
  rintro e w4 ⟨v4, rfl, ho4, hb4⟩
  rw [show rO (List.drop (0 : Int).toNat [97, 0, 255, 0, 1]) 0 [] = ([97, 0], 5, 0) from by decide] at ho4 ⊢
  obtain ⟨a4, c4, rfl, hs4, -⟩ := ho4.sl (by unfold Wf; decide) (by decide)
  have HB4 := hidden (HB3.out.trans (hb4.mono HB3.out.size))
  have HS4 := hidden hs4
  clear ho4 hb4 hs4 HB3 HS3
  have hid := conv_lit
  have hid2 := conv_lit2
  have w97 : Wf [97, 98] := by unfold Wf; decide
  have w99 : Wf [97, 99] := by unfold Wf; decide
  go_wp2_with fail
  refine quiet_call' (common_any _ 2 2 [97, 98] [[97, 99]] _ (sls_two _ _ _ _ _ _ _ _ _ ((lit_sl w4 [97, 98] 2 w97 rfl (by decide) _ rfl (2, 3) _ rfl).alloc _) (lit_sl _ [97, 99] 2 w99 rfl (by decide) _ rfl (2, 3) _ (by simp)) _ (by simp))) ?_
  rw [show cmN [[97, 98], [97, 99]] = 1 from by decide]
  intro q5
  have HB5 := hidden (below_drewN (((HB4.out.alloc HB4.out.size (.cells #[.int .u8 97, .int .u8 98] 5 (2, 3))).alloc (by have := HB4.out.size; simp; omega) (.cells #[.int .u8 97, .int .u8 99] 5 (2, 3))).alloc (by have := HB4.out.size; simp; omega)
    (.cells #[.slice (some ⟨w4.heap.size, 0, none⟩) 2 2, .slice (some ⟨w4.heap.size + 1, 0, none⟩) 2 2] 23)) q5)
  have HS5 := hidden ((((HS4.out.alloc (.cells #[.int .u8 97, .int .u8 98] 5 (2, 3))).alloc (.cells #[.int .u8 97, .int .u8 99] 5 (2, 3))).alloc (.cells #[.slice (some ⟨w4.heap.size, 0, none⟩) 2 2, .slice (some ⟨w4.heap.size + 1, 0, none⟩) 2 2] 23)).drewN q5)
  clear HB4 HS4 w97 w99
  generalize ((((w4.alloc (.cells #[.int .u8 97, .int .u8 98] 5 (2, 3))).alloc (.cells #[.int .u8 97, .int .u8 99] 5 (2, 3))).alloc (.cells #[.slice (some ⟨w4.heap.size, 0, none⟩) 2 2, .slice (some ⟨w4.heap.size + 1, 0, none⟩) 2 2] 23)).drewN q5) = w5 at *
  have wc : Wf [97, 98, 99] := by unfold Wf; decide
  have wx : Wf [97, 98, 120] := by unfold Wf; decide
  go_wp2_with fail
  refine (between_ok _ _ _ _ _ _ _ _ _ ((lit_sl w5 [97, 98, 99] 3 wc rfl (by decide) _ rfl (3, 4) _ rfl).alloc _) (lit_sl _ [97, 98, 120] 3 wx rfl (by decide) _ rfl (3, 4) _ (by simp)) (by decide) (by decide)).mono ?_
  rintro e w6 ⟨v6, rfl, ho6, hb6⟩
  rw [show List.take (lcp [97, 98, 99] [97, 98, 120] + 1) ([97, 98, 120] : List Int) = [97, 98, 120] from by decide] at ho6
  obtain ⟨a6, c6, rfl, hs6, -⟩ := ho6.sl (by unfold Wf; decide) (by decide)
  have HB6 := hidden (((HB5.out.alloc HB5.out.size (.cells #[.int .u8 97, .int .u8 98, .int .u8 99] 5 (3, 4))).alloc (by have := HB5.out.size; simp; omega) (.cells #[.int .u8 97, .int .u8 98, .int .u8 120] 5 (3, 4))).trans (hb6.mono (by have := HB5.out.size; simp; omega)))
  have HX6 := hidden (((HS5.out.alloc (.cells #[.int .u8 97, .int .u8 98, .int .u8 99] 5 (3, 4))).alloc (.cells #[.int .u8 97, .int .u8 98, .int .u8 120] 5 (3, 4))).go hb6)
  have HS6 := hidden hs6
  clear ho6 hb6 hs6 HB5 HS5 wc wx
  have wb : Wf [97, 98] := by unfold Wf; decide
  go_wp2_with fail
  refine (behind_some _ _ _ 2 _ _ (lit_sl w6 [97, 98] 2 wb rfl (by decide) _ rfl (2, 3) _ rfl) (by decide) (by decide) (by decide) (fun i h1 h2 => by omega)).mono ?_
  rintro e w7 ⟨v7, rfl, ho7, hb7⟩
  rw [show (List.take 2 ([97, 98] : List Int)).set (2 - 1) (List.getD [97, 98] (2 - 1) 0 + 1) = [97, 99] from by decide] at ho7
  obtain ⟨a7, c7, rfl, hs7, -⟩ := ho7.sl (by unfold Wf; decide) (by decide)
  have HB7 := hidden ((HB6.out.alloc HB6.out.size (.cells #[.int .u8 97, .int .u8 98] 5 (2, 3))).trans (hb7.mono (by have := HB6.out.size; simp; omega)))
  have HX7 := hidden ((HX6.out.alloc (.cells #[.int .u8 97, .int .u8 98] 5 (2, 3))).go hb7)
  have HT7 := hidden ((HS6.out.alloc (.cells #[.int .u8 97, .int .u8 98] 5 (2, 3))).go hb7)
  have HS7 := hidden hs7
  clear ho7 hb7 hs7 HB6 HS6 HX6 wb
  have wa : Wf [97] := by unfold Wf; decide
  go_wp2_with fail
  have HB8 := hidden ((HB7.out.alloc HB7.out.size (.cells #[.int .u8 97] 5)).alloc (by have := HB7.out.size; simp; omega) (.cells #[.slice (some ⟨w7.heap.size, 0, none⟩) 1 1] 23))
  refine quiet_call' (sum_any _ 1 1 [[97]] _ (sls_one _ _ _ _ _ (lit_sl w7 [97] 1 wa rfl (by decide) _ rfl (0, 0) _ rfl) _ (by simp)) (HT.out.on HB8.out hw0)) ?_
  rw [show sumN [[97]] = 3251651376 from by decide +kernel]
  intro q8
  have HB9 := hidden (below_drewN HB8.out q8)
  have HX9 := hidden (((HX7.out.alloc (.cells #[.int .u8 97] 5)).alloc (.cells #[.slice (some ⟨w7.heap.size, 0, none⟩) 1 1] 23)).drewN q8)
  have HT9 := hidden (((HT7.out.alloc (.cells #[.int .u8 97] 5)).alloc (.cells #[.slice (some ⟨w7.heap.size, 0, none⟩) 1 1] 23)).drewN q8)
  have HS9 := hidden (((HS7.out.alloc (.cells #[.int .u8 97] 5)).alloc (.cells #[.slice (some ⟨w7.heap.size, 0, none⟩) 1 1] 23)).drewN q8)
  clear HB8 HB7 HX7 HT7 HS7 wa HT hid hid2
  generalize (((w7.alloc (.cells #[.int .u8 97] 5)).alloc (.cells #[.slice (some ⟨w7.heap.size, 0, none⟩) 1 1] 23)).drewN q8) = w9 at *
  have k1 : (convert 23 9 (.slice a4 2 c4)).run Tryd.prog w9 = .ok (.string ⟨#[97, 0]⟩) w9 := conv_sl HX9.out
  have k2 : (convert 23 9 (.slice a6 3 c6)).run Tryd.prog w9 = .ok (.string ⟨#[97, 98, 120]⟩) w9 := conv_sl HT9.out
  have k3 : (convert 23 9 (.slice a7 2 c7)).run Tryd.prog w9 = .ok (.string ⟨#[97, 99]⟩) w9 := conv_sl HS9.out
  clear HX9 HT9 HS9
  go_wp2
  go_ret
  exact ⟨rfl, HB9.out⟩
end Go.Proofs.YtfofkgdhepdjeabDoor
