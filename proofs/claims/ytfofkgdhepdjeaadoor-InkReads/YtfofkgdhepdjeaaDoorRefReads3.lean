/- The document's ReadOrdered comes to the same. -/
import Derived.Test.YtfofkgdhepdjeaaDoorRefReads2
namespace Go.Proofs.YtfofkgdhepdjeaaDoor
open Go.RowKit

set_option maxHeartbeats 1000000 in
theorem refReadOrdered_all (ao : Option Addr) (n cap : Nat) (l : List Int) (p' : Int) (w : World) (hs : Sl w ao n cap l) :
    Calls Tryd.prog 22 #[.slice ao n cap, .int .i64 p'] w fun e w' => ∃ v, e = .returned (.tuple #[v, .int .i64 (rOx l p').2.1, .int .i64 (rOx l p').2.2]) ∧ OwnB w' w.heap.size v (rOx l p').1 ∧ Below w.heap.size w w' := by
  obtain ⟨hlen, hcap, hroom, hwf, hnil, hat⟩ := hs
  unfold rOx
  by_cases h : p' < 0 ∨ l.length < p'
  · rw [if_pos h]
    rw [hlen] at h
    rcases h with h | h
    · go_enter Tryd.func22, Tryd.ntmps22
      go_wp2
      go_ret3
      exact ⟨_, rfl, OwnB.nil _ _, Below.refl _ _⟩
    · have h' : ¬ p' < 0 := by omega
      go_enter Tryd.func22, Tryd.ntmps22
      go_wp2
      go_ret3
      exact ⟨_, rfl, OwnB.nil _ _, Below.refl _ _⟩
  · rw [if_neg h]
    rw [hlen] at h
    obtain ⟨p, rfl⟩ := Int.eq_ofNat_of_zero_le (show 0 ≤ p' by omega)
    have hpn : p ≤ n := by omega
    clear h
    rw [Int.toNat_natCast]
    generalize hF : rO (l.drop p) p [] = F
    have HF := hidden hF
    clear hF
    have hd0 : decide ((p : Int) < 0) = false := by simp
    have hd1 : decide (n < p) = false := by simp; omega
    go_enter Tryd.func22, Tryd.ntmps22
    go_wp2_with fail
    go_loopw [7, 8] (fun v i wr => ∃ (k : Nat) (acc : List Int), k ≤ n ∧ i = .int .i64 k ∧ acc.length ≤ k ∧ Hid (rO (l.drop k) k acc = F) ∧ OwnB wr w.heap.size v acc ∧ Below w.heap.size w wr) (fun _ i _ => n - (intOf i).toNat)
    case atStart => exact ⟨p, [], by omega, rfl, by simp, HF, OwnB.nil _ _, Below.refl _ _⟩
    case round =>
      obtain ⟨k, acc, hk, rfl, hal, HR, hown, hb⟩ := hrel
      clear HF
      have hsz := hb.size
      by_cases hlt : k < n
      · rcases hat with h | ⟨b, off, rfl, hbb, hc⟩
        · omega
        have hck : wr.cell? ⟨b, off + k, none⟩ = some (.int .u8 (l.getD k 0)) := (hb.cell (p := ⟨b, off + k, none⟩) hbb).trans (hc k hlt)
        have hck2 : k + 1 < n → wr.cell? ⟨b, off + (k + 1), none⟩ = some (.int .u8 (l.getD (k + 1) 0)) := fun h => (hb.cell (p := ⟨b, off + (k + 1), none⟩) hbb).trans (hc (k + 1) h)
        have e := HR.out
        rw [drop_cons l k (by omega)] at e
        clear hc HR
        generalize l.getD k 0 = c at *
        by_cases hc0 : c = 0
        · subst hc0
          by_cases hl2 : k + 1 < n
          · have hck3 := hck2 hl2
            rw [drop_cons l (k + 1) (by omega), rO_two] at e
            clear hck2
            generalize l.getD (k + 1) 0 = d at *
            by_cases h255 : d = 255
            · subst h255
              rw [if_pos rfl] at e
              have HE := hidden e
              clear e
              go_wp2_with (at_builtin; refine app_bytes _ rfl _ _ rfl w.heap.size acc _ rfl (hown.alloc _) _ 1 1 [0] rfl rfl (one_cell _ _) (by omega) (by simp; omega) ?_)
              intro v2 w2 hown2 hb2
              have R2 : Below w.heap.size w w2 := (hb.alloc hsz _).trans hb2
              clear hb2 hown hck hck3
              go_wp2
              go_roundw
              case rel => exact ⟨k + 2, acc ++ [0], by omega, by go_num, by simp; omega, HE, hown2, R2⟩
              case measure => simp [intOf]; omega
            · rw [if_neg h255] at e
              have hb255 : (d != 255) = true := by simp [h255]
              by_cases h1 : d = 1
              · subst h1
                rw [if_pos rfl] at e
                have HE := hidden e
                clear e
                go_wp2
                go_ret3
                exact ⟨_, by rw [← HE.out]; rfl, by rw [← HE.out]; exact hown, hb⟩
              · rw [if_neg h1] at e
                have hb1 : (d == 1) = false := by simp; omega
                have HE := hidden e
                clear e
                go_wp2
                go_ret3
                exact ⟨_, by rw [← HE.out]; rfl, by rw [← HE.out]; exact OwnB.nil _ _, hb⟩
          · rw [List.drop_eq_nil_of_le (show l.length ≤ k + 1 by omega), rO_cut] at e
            have HE := hidden e
            clear e hck2
            go_wp2
            go_ret3
            exact ⟨_, by rw [← HE.out]; rfl, by rw [← HE.out]; exact OwnB.nil _ _, hb⟩
        · have hb0 : (c != 0) = true := by simp [hc0]
          rw [rO_plain _ _ _ _ hc0] at e
          have HE := hidden e
          clear e hck2 hc0
          go_wp2_with (at_builtin; refine app_bytes _ rfl _ _ rfl w.heap.size acc _ rfl (hown.alloc _) _ 1 1 [c] rfl rfl (one_cell _ _) (by omega) (by simp; omega) ?_)
          intro v2 w2 hown2 hb2
          have R2 : Below w.heap.size w w2 := (hb.alloc hsz _).trans hb2
          clear hb2 hown hck
          go_wp2
          go_roundw
          case rel => exact ⟨k + 1, acc ++ [c], by omega, by go_num, by simp; omega, HE, hown2, R2⟩
          case measure => simp [intOf]; omega
      · have e := HR.out
        rw [List.drop_eq_nil_of_le (by omega), rO] at e
        have HE := hidden e
        clear e HR
        go_wp2
        go_ret3
        exact ⟨_, by rw [← HE.out]; rfl, by rw [← HE.out]; exact OwnB.nil _ _, hb⟩
end Go.Proofs.YtfofkgdhepdjeaaDoor
