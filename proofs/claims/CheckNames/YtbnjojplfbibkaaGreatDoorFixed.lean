/- ink.Fixed writes a number's lowest bytes into memory of its own; ReadFixed reads them. -/
import Derived.Test.YtbnjojplfbibkaaGreatDoorMath
import Derived.Test.YtbnjojplfbibkaaGreatDoorSmall
namespace Go.Proofs.YtbnjojplfbibkaaGreatDoor
open Go.RowKit

set_option maxRecDepth 100000 in
theorem fixed_no (n x : Int) (w : World) (h : x < 1 ∨ 8 < x) :
    Calls Tryz.prog 105 #[.int .u64 n, .int .i64 x] w fun e w' => e = .returned (.slice none 0 0) ∧ w' = w := by
  go_enter Tryz.func105, Tryz.ntmps105
  go_wp2_with (go_at_call 140; refine same_call (isWidth_no _ _ h) ?_)
  go_ret
  exact ⟨rfl, rfl⟩

set_option maxHeartbeats 400000 in
set_option maxRecDepth 100000 in
theorem fixed_yes (n x : Int) (w : World) (h0 : 0 ≤ n) (h1 : 1 ≤ x) (h2 : x ≤ 8) :
    Calls Tryz.prog 105 #[.int .u64 n, .int .i64 x] w fun e w' => ∃ v, e = .returned v ∧ OwnB w' w.heap.size v (fB x.toNat n) ∧ Below w.heap.size w w' := by
  obtain ⟨width, rfl⟩ := Int.eq_ofNat_of_zero_le (show 0 ≤ x by omega)
  rw [Int.toNat_natCast]
  obtain ⟨i0, hi, hz0, hz1, hz2⟩ := info_parts info5
  go_enter Tryz.func105, Tryz.ntmps105
  go_wp2_with (first
    | (go_at_call 140; refine same_call (isWidth_yes _ _ h1 h2) ?_)
    | (at_make; refine wpList_make_full _ rfl _ _ 28 rfl w.heap.size 5 i0 (.int .u8 0) 1 Tryz.underlying28 hi hz0 hz1 .i64 .i64 width width width rfl rfl rfl rfl (by rw [hz2]; omega) (by unfold maxLen; omega) (Nat.le_refl _) ?_))
  intro w1 hown1 hg1
  have ho1 : OwnB w1 w.heap.size (.slice (some ⟨w.heap.size, 0, none⟩) width width) (List.replicate width 0) := by
    unfold OwnB
    rw [toList_madeCells_one] at hown1
    simpa [By] using hown1
  have hb1 : Below w.heap.size w w1 := (Below.refl _ _).grown hg1 (Nat.le_refl _) (fun k hk => by cases hk)
  clear hown1 hg1
  go_wp2_with fail
  go_loopw [0, 6] (fun y i wr => ∃ j : Nat, j ≤ width ∧ y = .int .u64 (n / 256 ^ j) ∧ i = .int .i64 ((width : Int) - 1 - j) ∧ OwnB wr w.heap.size (.slice (some ⟨w.heap.size, 0, none⟩) width width) (List.replicate (width - j) 0 ++ fB j n) ∧ Below w.heap.size w wr) (fun _ i _ => (intOf i + 1).toNat)
  case atStart => exact ⟨0, by omega, by simp, by simp, by simpa [fB] using ho1, hb1⟩
  case round =>
    obtain ⟨j, hj, rfl, rfl, hown, hb⟩ := hrel
    by_cases hlt : j < width
    · have hpos : 0 ≤ n / 256 ^ j := Int.ediv_nonneg h0 (Int.le_of_lt (Int.pow_pos (by omega)))
      have hle : n / 256 ^ j ≤ n := Int.ediv_le_self _ h0
      have hl : (List.replicate (width - j) (0 : Int) ++ fB j n).length = width := by simp [fB_length]; omega
      have hfr : wr.frozen? ⟨w.heap.size, width - 1 - j, none⟩ = false := by
        unfold OwnB at hown; rw [hl] at hown; exact World.ownsRow.frozenAt hown _
      have hce : ∃ u, wr.cell? ⟨w.heap.size, width - 1 - j, none⟩ = some u := by
        unfold OwnB at hown; rw [hl] at hown
        exact ⟨_, (World.ownsRow.cellAt hown (width - 1 - j) (by omega)).trans (List.getElem?_eq_getElem (by rw [By_length, hl]; omega))⟩
      obtain ⟨u, hce⟩ := hce
      have hp := pow256 n j
      generalize hy : n / 256 ^ j = y at *
      have HY := hidden hy
      clear hy
      have hs := own_set (x := y % 256) hown hl (show width - 1 - j < width by omega)
      go_wp2
      go_roundw
      case rel =>
        refine ⟨j + 1, by omega, rfl, by go_num, ?_, hb.setCell (Nat.le_refl _) _⟩
        rw [← fB_set width j n hlt, HY.out, show width - j - 1 = width - 1 - j by omega]
        exact hs
      case measure => simp [intOf]; omega
    · obtain rfl : j = width := by omega
      go_wp2
      go_ret
      exact ⟨_, rfl, by simpa using hown, hb⟩
set_option maxRecDepth 100000 in
theorem readFixed_arg (ao : Option Addr) (n cap : Nat) (p x : Int) (w : World) (h : (x < 1 ∨ 8 < x) ∨ (p < 0 ∨ n < p)) :
    Calls Tryz.prog 103 #[.slice ao n cap, .int .i64 p, .int .i64 x] w fun e w' => e = .returned (.tuple #[.int .u64 0, .int .i64 1]) ∧ w' = w := by
  by_cases hx : x < 1 ∨ 8 < x
  · go_enter Tryz.func103, Tryz.ntmps103
    go_wp2_with (go_at_call 140; refine same_call (isWidth_no _ _ hx) ?_)
    go_ret2
    exact ⟨rfl, rfl⟩
  · have hp : p < 0 ∨ n < p := by omega
    go_enter Tryz.func103, Tryz.ntmps103
    go_wp2_with (first | (go_at_call 140; refine same_call (isWidth_yes _ _ (by omega) (by omega)) ?_) | (go_at_call 141; refine same_call (isPlace_no _ _ _ _ _ hp) ?_))
    go_ret2
    exact ⟨rfl, rfl⟩
set_option maxRecDepth 100000 in
theorem readFixed_short (ao : Option Addr) (n cap : Nat) (p x : Int) (w : World) (h1 : 1 ≤ x) (h2 : x ≤ 8) (h3 : 0 ≤ p) (h4 : p ≤ n) (h5 : (n : Int) - p < x) :
    Calls Tryz.prog 103 #[.slice ao n cap, .int .i64 p, .int .i64 x] w fun e w' => e = .returned (.tuple #[.int .u64 0, .int .i64 10]) ∧ w' = w := by
  go_enter Tryz.func103, Tryz.ntmps103
  go_wp2_with (first | (go_at_call 140; refine same_call (isWidth_yes _ _ h1 h2) ?_) | (go_at_call 141; refine same_call (isPlace_yes _ _ _ _ _ h3 h4) ?_))
  go_ret2
  exact ⟨rfl, rfl⟩
set_option maxRecDepth 100000 in
set_option maxHeartbeats 400000 in
theorem readFixed_ok (ao : Option Addr) (n cap : Nat) (l : List Int) (p' x : Int) (w : World) (hs : Sl w ao n cap l) (h1 : 1 ≤ x) (h2 : x ≤ 8) (h3 : 0 ≤ p') (h5 : x ≤ (n : Int) - p') :
    Calls Tryz.prog 103 #[.slice ao n cap, .int .i64 p', .int .i64 x] w fun e w' => e = .returned (.tuple #[.int .u64 (rdB ((l.drop p'.toNat).take x.toNat)), .int .i64 0]) ∧ w' = w := by
  obtain ⟨width, rfl⟩ := Int.eq_ofNat_of_zero_le (show 0 ≤ x by omega)
  obtain ⟨p, rfl⟩ := Int.eq_ofNat_of_zero_le h3
  rw [Int.toNat_natCast, Int.toNat_natCast]
  obtain ⟨hlen, hcap, hroom, hwf, hnil, hat⟩ := hs
  rcases hat with h | ⟨b, off, rfl, hb, hc⟩
  · omega
  have hd : ((l.drop p).take width).length = width := by simp; omega
  have hwd : Wf ((l.drop p).take width) := (hwf.drop p).take width
  go_enter Tryz.func103, Tryz.ntmps103
  go_wp2_with (first | (go_at_call 140; refine same_call (isWidth_yes _ _ h1 h2) ?_) | (go_at_call 141; refine same_call (isPlace_yes _ _ _ _ _ h3 (by omega)) ?_))
  go_loop [8, 33] (fun v i => ∃ k : Nat, k ≤ width ∧ i = .int .i64 k ∧ v = .int .u64 (rdB (((l.drop p).take width).take k))) (fun _ i => width - (intOf i).toNat)
  case atStart => exact ⟨0, by omega, rfl, by simp [rdB]⟩
  case round =>
    obtain ⟨k, hk, rfl, rfl⟩ := hrel
    by_cases hlt : k < width
    · have hck : w.cell? ⟨b, off + p + k, none⟩ = some (.int .u8 (((l.drop p).take width).getD k 0)) := by
        rw [Nat.add_assoc, hc (p + k) (by omega)]
        simp [List.getD, hlt]
      have hby := hwd.getD k
      have hsm := rdB_small _ (hwd.take k) k (by omega) (by simp; omega)
      have hsn : rdB (((l.drop p).take width).take (k + 1)) = rdB (((l.drop p).take width).take k) * 256 + ((l.drop p).take width).getD k 0 := by
        rw [take_snoc _ k (by omega), rdB_snoc]
      generalize ((l.drop p).take width).getD k 0 = c at *
      generalize rdB (((l.drop p).take width).take k) = m at *
      have hor := or_byte m c (by omega) (by omega) hby
      have HS := hidden hsn
      clear hsn
      go_wp2
      go_round
      case rel => exact ⟨k + 1, by omega, by go_num, by rw [HS.out]⟩
      case measure => simp [intOf]; omega
    · obtain rfl : k = width := by omega
      have ht : ((l.drop p).take k).take k = (l.drop p).take k := List.take_of_length_le (by omega)
      go_wp2
      go_ret2
      exact ⟨rfl, rfl⟩

end Go.Proofs.YtbnjojplfbibkaaGreatDoor
