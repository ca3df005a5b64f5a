/- The document's readings come to the same. -/
import Derived.Test.YtfofkgdhepdjeaaDoorFixed
import Derived.Test.YtfofkgdhepdjeaaDoorReadUint
import Derived.Test.YtfofkgdhepdjeaaDoorReadOrdered
namespace Go.Proofs.YtfofkgdhepdjeaaDoor
open Go.RowKit

/-- What ReadFixed comes to. -/
def rF (l : List Int) (p x : Int) : Int × Int := if (x < 1 ∨ 8 < x) ∨ (p < 0 ∨ l.length < p) then (0, 1) else if (l.length : Int) - p < x then (0, 10) else (rdB ((l.drop p.toNat).take x.toNat), 0)
theorem readFixed_all (ao : Option Addr) (n cap : Nat) (l : List Int) (p x : Int) (w : World) (hs : Sl w ao n cap l) :
    Calls Tryd.prog 17 #[.slice ao n cap, .int .i64 p, .int .i64 x] w fun e w' => e = .returned (.tuple #[.int .u64 (rF l p x).1, .int .i64 (rF l p x).2]) ∧ w' = w := by
  have hl := hs.hlen
  unfold rF
  by_cases h : (x < 1 ∨ 8 < x) ∨ (p < 0 ∨ l.length < p)
  · rw [if_pos h]; exact readFixed_arg ao n cap p x w (by omega)
  · rw [if_neg h]
    by_cases h2 : (l.length : Int) - p < x
    · rw [if_pos h2]; exact readFixed_short ao n cap p x w (by omega) (by omega) (by omega) (by omega) (by omega)
    · rw [if_neg h2]; exact readFixed_ok ao n cap l p x w hs (by omega) (by omega) (by omega) (by omega)

set_option maxHeartbeats 1000000 in
theorem refReadFixed_all (ao : Option Addr) (n cap : Nat) (l : List Int) (p' x : Int) (w : World) (hs : Sl w ao n cap l) :
    Calls Tryd.prog 18 #[.slice ao n cap, .int .i64 p', .int .i64 x] w fun e w' => e = .returned (.tuple #[.int .u64 (rF l p' x).1, .int .i64 (rF l p' x).2]) ∧ w' = w := by
  obtain ⟨hlen, hcap, hroom, hwf, hnil, hat⟩ := hs
  unfold rF
  by_cases h : (x < 1 ∨ 8 < x) ∨ (p' < 0 ∨ l.length < p')
  · rw [if_pos h]
    rw [hlen] at h
    rcases h with (h | h) | (h | h)
    · go_enter Tryd.func18, Tryd.ntmps18
      go_wp2
      go_ret2
      exact ⟨rfl, rfl⟩
    · have h' : ¬ x < 1 := by omega
      go_enter Tryd.func18, Tryd.ntmps18
      go_wp2
      go_ret2
      exact ⟨rfl, rfl⟩
    · by_cases h1 : x < 1
      · go_enter Tryd.func18, Tryd.ntmps18
        go_wp2
        go_ret2
        exact ⟨rfl, rfl⟩
      · by_cases h8 : 8 < x
        all_goals
          go_enter Tryd.func18, Tryd.ntmps18
          go_wp2
          go_ret2
          exact ⟨rfl, rfl⟩
    · by_cases h1 : x < 1
      · go_enter Tryd.func18, Tryd.ntmps18
        go_wp2
        go_ret2
        exact ⟨rfl, rfl⟩
      · have hp0 : ¬ p' < 0 := by omega
        by_cases h8 : 8 < x
        all_goals
          go_enter Tryd.func18, Tryd.ntmps18
          go_wp2
          go_ret2
          exact ⟨rfl, rfl⟩
  · rw [if_neg h]
    rw [hlen] at h ⊢
    have h1 : 1 ≤ x := by omega
    have h2 : x ≤ 8 := by omega
    have h3 : 0 ≤ p' := by omega
    have h4 : p' ≤ n := by omega
    clear h
    by_cases h5 : (n : Int) - p' < x
    · rw [if_pos h5]
      go_enter Tryd.func18, Tryd.ntmps18
      go_wp2
      go_ret2
      exact ⟨rfl, rfl⟩
    · rw [if_neg h5]
      obtain ⟨width, rfl⟩ := Int.eq_ofNat_of_zero_le (show 0 ≤ x by omega)
      obtain ⟨p, rfl⟩ := Int.eq_ofNat_of_zero_le h3
      rw [Int.toNat_natCast, Int.toNat_natCast]
      rcases hat with h | ⟨b, off, rfl, hb, hc⟩
      · omega
      have hd : ((l.drop p).take width).length = width := by simp; omega
      have hwd : Wf ((l.drop p).take width) := (hwf.drop p).take width
      go_enter Tryd.func18, Tryd.ntmps18
      go_wp2_with fail
      go_loop [8, 9] (fun v i => ∃ k : Nat, k ≤ width ∧ i = .int .i64 ((p : Int) + k) ∧ v = .int .u64 (rdB (((l.drop p).take width).take k))) (fun _ i => ((p : Int) + width - intOf i).toNat)
      case atStart => exact ⟨0, by omega, by simp, by simp [rdB]⟩
      case round =>
        obtain ⟨k, hk, rfl, rfl⟩ := hrel
        by_cases hlt : k < width
        · have hck : w.cell? ⟨b, off + (p + k), none⟩ = some (.int .u8 (((l.drop p).take width).getD k 0)) := by
            rw [hc (p + k) (by omega)]
            simp [List.getD, hlt]
          have hby := hwd.getD k
          have hsm := rdB_small _ (hwd.take k) k (by omega) (by simp; omega)
          have hsn : rdB (((l.drop p).take width).take (k + 1)) = rdB (((l.drop p).take width).take k) * 256 + ((l.drop p).take width).getD k 0 := by
            rw [take_snoc _ k (by omega), rdB_snoc]
          generalize ((l.drop p).take width).getD k 0 = c at *
          generalize rdB (((l.drop p).take width).take k) = m at *
          have HS := hidden hsn
          clear hsn hc
          go_wp2
          go_round
          case rel => exact ⟨k + 1, by omega, by go_num, by rw [HS.out, Int.mul_comm m 256]⟩
          case measure => simp [intOf]; omega
        · obtain rfl : k = width := by omega
          have ht : ((l.drop p).take k).take k = (l.drop p).take k := List.take_of_length_le (by omega)
          go_wp2
          go_ret2
          exact ⟨rfl, rfl⟩

/-- What ReadUint comes to, at any place. -/
def rUx (l : List Int) (p : Int) : Int × Int × Int := if p < 0 ∨ l.length < p then (0, 0, 1) else rU p (l.drop p.toNat) 0 0
theorem readUint_all (ao : Option Addr) (n cap : Nat) (l : List Int) (p : Int) (w : World) (hs : Sl w ao n cap l) :
    Calls Tryd.prog 19 #[.slice ao n cap, .int .i64 p] w fun e w' => e = .returned (.tuple #[.int .u64 (rUx l p).1, .int .i64 (rUx l p).2.1, .int .i64 (rUx l p).2.2]) ∧ w' = w := by
  have hl := hs.hlen
  unfold rUx
  by_cases h : p < 0 ∨ l.length < p
  · rw [if_pos h]; exact readUint_arg ao n cap p w (by omega)
  · rw [if_neg h]; exact readUint_any ao n cap l p w hs (by omega) (by omega)
/-- What ReadOrdered comes to, at any place. -/
def rOx (l : List Int) (p : Int) : List Int × Int × Int := if p < 0 ∨ l.length < p then ([], 0, 1) else rO (l.drop p.toNat) p []
theorem readOrdered_all (ao : Option Addr) (n cap : Nat) (l : List Int) (p : Int) (w : World) (hs : Sl w ao n cap l) :
    Calls Tryd.prog 21 #[.slice ao n cap, .int .i64 p] w fun e w' => ∃ v, e = .returned (.tuple #[v, .int .i64 (rOx l p).2.1, .int .i64 (rOx l p).2.2]) ∧ OwnB w' w.heap.size v (rOx l p).1 ∧ Below w.heap.size w w' := by
  have hl := hs.hlen
  unfold rOx
  by_cases h : p < 0 ∨ l.length < p
  · rw [if_pos h]
    exact (readOrdered_arg ao n cap p w (by omega)).mono fun e w' ⟨he, hw⟩ => ⟨_, he, OwnB.nil _ _, by rw [hw]; exact Below.refl _ _⟩
  · rw [if_neg h]; exact readOrdered_in ao n cap l p w hs (by omega) (by omega)
end Go.Proofs.YtfofkgdhepdjeaaDoor
