/- ink.ReadOrdered reads bytes that were written in order, into memory of its own. -/
import Derived.Test.YtpiijmionafmcaaGreatDoorMath
import Derived.Test.YtpiijmionafmcaaGreatDoorSmall
namespace Go.Proofs.YtpiijmionafmcaaGreatDoor
open Go.RowKit

set_option maxRecDepth 100000 in
theorem readOrdered_arg (ao : Option Addr) (n cap : Nat) (p : Int) (w : World) (h : p < 0 ∨ n < p) :
    Calls Tryz.prog 65 #[.slice ao n cap, .int .i64 p] w fun e w' => e = .returned (.tuple #[.slice none 0 0, .int .i64 0, .int .i64 1]) ∧ w' = w := by
  go_enter Tryz.func65, Tryz.ntmps65
  go_wp2_with (go_at_call 85; refine same_call (isPlace_no _ _ _ _ _ h) ?_)
  go_ret3
  exact ⟨rfl, rfl⟩

set_option maxRecDepth 100000 in
set_option maxHeartbeats 1000000 in
theorem readOrdered_in (ao : Option Addr) (n cap : Nat) (l : List Int) (p' : Int) (w : World) (hs : Sl w ao n cap l) (h0 : 0 ≤ p') (hp : p' ≤ n) :
    Calls Tryz.prog 65 #[.slice ao n cap, .int .i64 p'] w fun e w' => ∃ v, e = .returned (.tuple #[v, .int .i64 (rO (l.drop p'.toNat) p' []).2.1, .int .i64 (rO (l.drop p'.toNat) p' []).2.2]) ∧
      OwnB w' w.heap.size v (rO (l.drop p'.toNat) p' []).1 ∧ Below w.heap.size w w' := by
  obtain ⟨p, rfl⟩ := Int.eq_ofNat_of_zero_le h0
  rw [Int.toNat_natCast]
  obtain ⟨hlen, hcap, hroom, hwf, hnil, hat⟩ := hs
  generalize hF : rO (l.drop p) p [] = F
  have HF := hidden hF
  clear hF
  go_enter Tryz.func65, Tryz.ntmps65
  go_wp2_with (go_at_call 85; refine same_call (isPlace_yes _ _ _ _ _ h0 hp) ?_)
  go_loopw [7, 8] (fun v i wr => ∃ (k : Nat) (acc : List Int), k ≤ n ∧ i = .int .i64 k ∧ acc.length ≤ k ∧ rO (l.drop k) k acc = F ∧ OwnB wr w.heap.size v acc ∧ Below w.heap.size w wr) (fun _ i _ => n - (intOf i).toNat)
  case atStart => exact ⟨p, [], by omega, rfl, by simp, HF.out, OwnB.nil _ _, Below.refl _ _⟩
  case round =>
    obtain ⟨k, acc, hk, rfl, hal, hR, hown, hb⟩ := hrel
    have HR := hidden hR
    clear hR HF
    have hsz := hb.size
    by_cases hlt : k < n
    · rcases hat with h | ⟨b, off, rfl, hbb, hc⟩
      · omega
      have hck : wr.cell? ⟨b, off + k, none⟩ = some (.int .u8 (l.getD k 0)) := (hb.cell (p := ⟨b, off + k, none⟩) hbb).trans (hc k hlt)
      have hck2 : k + 1 < n → wr.cell? ⟨b, off + (k + 1), none⟩ = some (.int .u8 (l.getD (k + 1) 0)) := fun h => (hb.cell (p := ⟨b, off + (k + 1), none⟩) hbb).trans (hc (k + 1) h)
      have HD := hidden (drop_cons l k (by omega))
      generalize l.getD k 0 = c at *
      by_cases hc0 : c = 0
      · subst hc0
        by_cases hl2 : k + 1 < n
        · have hck3 := hck2 hl2
          have HD2 := hidden (drop_cons l (k + 1) (by omega))
          clear hck2
          generalize l.getD (k + 1) 0 = d at *
          have hF : F = if d = 255 then rO (l.drop (k + 1 + 1)) (k + 2) (acc ++ [0]) else if d = 1 then (acc, (k : Int) + 2, 0) else ([], 0, 11) := by
            rw [← HR.out, HD.out, HD2.out, rO_two]
          clear HR HD HD2
          by_cases h255 : d = 255
          · subst h255
            rw [if_pos rfl] at hF
            have HF := hidden hF
            clear hF
            go_wp2_with (at_builtin; refine app_bytes _ rfl _ _ rfl w.heap.size acc _ rfl (hown.alloc _) _ 1 1 [0] rfl rfl (one_cell _ _) (by omega) (by simp; omega) ?_)
            intro v2 w2 hown2 hb2
            have R2 : Below w.heap.size w w2 := (hb.alloc hsz _).trans hb2
            clear hb2 hown hck hck3
            go_wp2
            go_roundw
            case rel => exact ⟨k + 1 + 1, acc ++ [0], by omega, by go_num, by simp; omega, by rw [HF.out]; congr 1, hown2, R2⟩
            case measure => simp [intOf]; omega
          · rw [if_neg h255] at hF
            have hb255 : (d == 255) = false := by simp; omega
            by_cases h1 : d = 1
            · subst h1
              rw [if_pos rfl] at hF
              have HF := hidden hF
              clear hF
              go_wp2
              go_ret3
              exact ⟨_, by rw [HF.out]; congr 4, by rw [HF.out]; exact hown, hb⟩
            · rw [if_neg h1] at hF
              have hb1 : (d == 1) = false := by simp; omega
              have HF := hidden hF
              clear hF
              go_wp2
              go_ret3
              exact ⟨_, by rw [HF.out]; rfl, by rw [HF.out]; exact OwnB.nil _ _, hb⟩
        · have hF : F = ([], 0, 10) := by rw [← HR.out, HD.out, List.drop_eq_nil_of_le (by omega), rO_cut]
          have HF := hidden hF
          have hkn : k + 1 = n := by omega
          have hkb : ((k : Int) + 1 == (n : Int)) = true := by simp; omega
          clear hF hck2 HR HD hkn
          go_wp2
          go_ret3
          exact ⟨_, by rw [HF.out]; rfl, by rw [HF.out]; exact OwnB.nil _ _, hb⟩
      · have hb0 : (c != 0) = true := by simp [hc0]
        have hF : rO (l.drop (k + 1)) (k + 1) (acc ++ [c]) = F := by rw [← HR.out, HD.out, rO_plain _ _ _ _ hc0]
        have HF := hidden hF
        clear hF hck2 HR HD hc0
        go_wp2_with (at_builtin; refine app_bytes _ rfl _ _ rfl w.heap.size acc _ rfl (hown.alloc _) _ 1 1 [c] rfl rfl (one_cell _ _) (by omega) (by simp; omega) ?_)
        intro v2 w2 hown2 hb2
        have R2 : Below w.heap.size w w2 := (hb.alloc hsz _).trans hb2
        clear hb2 hown hck
        go_wp2
        go_roundw
        case rel => exact ⟨k + 1, acc ++ [c], by omega, by go_num, by simp; omega, HF.out, hown2, R2⟩
        case measure => simp [intOf]; omega
    · have hF : F = ([], 0, 10) := by rw [← HR.out, List.drop_eq_nil_of_le (by omega), rO]
      have HF := hidden hF
      clear hF HR
      go_wp2
      go_ret3
      exact ⟨_, by rw [HF.out]; rfl, by rw [HF.out]; exact OwnB.nil _ _, hb⟩
end Go.Proofs.YtpiijmionafmcaaGreatDoor
