/- ink.Ordered writes bytes in order, into memory of its own. -/
import Derived.Test.YtpiijmionafmcaaGreatDoorMath
namespace Go.Proofs.YtpiijmionafmcaaGreatDoor
open Go.RowKit

set_option maxRecDepth 100000 in
theorem two_cells (w : World) (x y : Int) : ∀ j, j < 2 → (w.alloc (.cells #[.int .u8 x, .int .u8 y] 5)).cell? ((⟨w.heap.size, 0, none⟩ : Addr).add j) = some (.int .u8 ([x, y].getD j 0)) := by
  intro j hj
  have : j = 0 ∨ j = 1 := by omega
  rcases this with rfl | rfl <;> simp [Addr.add]

set_option maxRecDepth 100000 in
set_option maxHeartbeats 400000 in
theorem ordered_any (ao : Option Addr) (n cap : Nat) (l : List Int) (w : World) (hs : Sl w ao n cap l) (hbig : 2 * n + 2 ≤ 140737488355328) :
    Calls Tryz.prog 48 #[.slice ao n cap] w fun e w' => ∃ v, e = .returned v ∧ OwnB w' w.heap.size v (oB l) ∧ Below w.heap.size w w' := by
  obtain ⟨i0, hi, hz0, hz1, hz2⟩ := info_parts info5
  obtain ⟨hlen, hcap, hroom, hwf, hnil, hat⟩ := hs
  go_enter Tryz.func48, Tryz.ntmps48
  go_wp2_with (at_make; refine wpList_make_own _ rfl _ _ 22 rfl w.heap.size 5 i0 (.int .u8 0) 1 Tryz.underlying22 hi hz0 hz1 .i64 .i64 (n + 2) (n + 2) rfl rfl rfl (by rw [hz2]; omega) (by unfold maxLen; omega) (Nat.le_refl _) ?_)
  intro w1 hown1 hg1
  have ho1 : OwnB w1 w.heap.size (.slice (some ⟨w.heap.size, 0, none⟩) 0 (n + 2)) [] := hown1
  have hb1 : Below w.heap.size w w1 := (Below.refl _ _).grown hg1 (Nat.le_refl _) (fun k hk => by cases hk)
  clear hown1 hg1
  go_wp2_with fail
  go_loopw [3, 12] (fun v i wr => ∃ k : Nat, k ≤ n ∧ i = .int .i64 k ∧ OwnB wr w.heap.size v (oM (l.take k)) ∧ Below w.heap.size w wr) (fun _ i _ => n - (intOf i).toNat)
  case atStart => exact ⟨0, by omega, rfl, by simpa [oM] using ho1, hb1⟩
  case round =>
    obtain ⟨k, hk, rfl, hown, hb⟩ := hrel
    have hsz := hb.size
    have hol := (oM_length (l.take k)).2
    have htl : (l.take k).length = k := by simp; omega
    have htl2 : (l.take k).length ≤ k := by omega
    clear htl
    by_cases hlt : k < n
    · rcases hat with h | ⟨b, off, rfl, hbb, hc⟩
      · omega
      have hck : wr.cell? ⟨b, off + k, none⟩ = some (.int .u8 (l.getD k 0)) := (hb.cell (p := ⟨b, off + k, none⟩) hbb).trans (hc k hlt)
      have HT := hidden (take_snoc l k (by omega))
      generalize l.getD k 0 = c at *
      by_cases hc0 : c = 0
      · subst hc0
        go_wp2_with (at_builtin; refine app_bytes _ rfl _ _ rfl w.heap.size (oM (l.take k)) _ rfl (hown.alloc _) _ 1 1 [0] rfl rfl (one_cell _ _) (by omega) (by simp; omega) ?_)
        intro v2 w2 hown2 hb2
        have R2 : Below w.heap.size w w2 := (hb.alloc hsz _).trans hb2
        have hsz2 := R2.size
        clear hb2 hown hck
        go_wp2_with (at_builtin; refine app_bytes _ rfl _ _ rfl w.heap.size (oM (l.take k) ++ [0]) _ rfl (hown2.alloc _) _ 1 1 [255] rfl rfl (one_cell _ _) (by simp; omega) (by simp; omega) ?_)
        intro v3 w3 hown3 hb3
        have R3 : Below w.heap.size w w3 := (R2.alloc hsz2 _).trans hb3
        clear hb3 hown2 R2 hb
        go_wp2
        go_roundw
        case rel => exact ⟨k + 1, by omega, by go_num, by rw [HT.out, oM_snoc]; simpa [oC] using hown3, R3⟩
        case measure => simp [intOf]; omega
      · have hc0' : (c == 0) = false := by simp; omega
        go_wp2_with (at_builtin; refine app_bytes _ rfl _ _ rfl w.heap.size (oM (l.take k)) _ rfl (hown.alloc _) _ 1 1 [c] rfl rfl (one_cell _ _) (by omega) (by simp; omega) ?_)
        intro v2 w2 hown2 hb2
        have R2 : Below w.heap.size w w2 := (hb.alloc hsz _).trans hb2
        clear hb2 hown hck
        go_wp2
        go_roundw
        case rel => exact ⟨k + 1, by omega, by go_num, by rw [HT.out, oM_snoc, oC, if_neg hc0]; exact hown2, R2⟩
        case measure => simp [intOf]; omega
    · obtain rfl : k = n := by omega
      have e : l.take k = l := List.take_of_length_le (by omega)
      rw [e] at hown hol htl2
      clear e
      go_wp2_with (at_builtin; refine app_bytes _ rfl _ _ rfl w.heap.size (oM l) _ rfl (hown.alloc _) _ 2 2 [0, 1] rfl rfl (two_cells _ _ _) (by omega) (by simp; omega) ?_)
      intro v2 w2 hown2 hb2
      have R2 : Below w.heap.size w w2 := (hb.alloc hsz _).trans hb2
      clear hb2 hown
      go_wp2
      go_ret
      exact ⟨_, rfl, hown2, R2⟩
end Go.Proofs.YtpiijmionafmcaaGreatDoor
