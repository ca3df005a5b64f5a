import Derived.Test.YtofafbmpbkjhnaaGreatDoorJ06
namespace Go.Proofs.YtofafbmpbkjhnaaGreatDoor
set_option maxRecDepth 100000
set_option maxHeartbeats 400000
open Go.RowKit
theorem readUint_arg (ao : Option Addr) (n cap : Nat) (p : Int) (w : World) (h : p < 0 ∨ n < p) :
  Calls Tryz.prog 236 #[.slice ao n cap, .int .i64 p] w fun e w' => e = .returned (.tuple #[.int .u64 0, .int .i64 0, .int .i64 1]) ∧ w' = w := by
 go_enter Tryz.func236, Tryz.ntmps236
 go_wp2_with (go_at_call 239; refine zae (isPlace_no _ _ _ _ _ h) ?_)
 go_ret3
 exact ⟨rfl, rfl⟩
theorem readUint_end (ao : Option Addr) (n cap : Nat) (w : World) (hn : n ≤ 140737488355328) :
  Calls Tryz.prog 236 #[.slice ao n cap, .int .i64 n] w fun e w' => e = .returned (.tuple #[.int .u64 0, .int .i64 0, .int .i64 10]) ∧ w' = w := by
 go_enter Tryz.func236, Tryz.ntmps236
 go_wp2_with (go_at_call 239; refine zae (zdo _ _ _ _ _ (by omega) (by omega)) ?_)
 all_goals
  refine wp_loop_rounds 1 ?_
  rw [rounds_succ]
  go_wp2
  go_ret3
  exact ⟨rfl, rfl⟩
theorem readUint_in (b off n cap : Nat) (l : List Int) (p : Nat) (w : World) (hs : Sl w (some ⟨b, off, none⟩) n cap l) (hp : p < n) :
  Calls Tryz.prog 236 #[.slice (some ⟨b, off, none⟩) n cap, .int .i64 p] w fun e w' => e = .returned (.tuple #[.int .u64 (rU p (l.drop p) 0 0).1, .int .i64 (rU p (l.drop p) 0 0).2.1, .int .i64 (rU p (l.drop p) 0 0).2.2]) ∧ w' = w := by
 obtain ⟨hlen, hcap, hroom, hwf, hnil, hat⟩ := hs
 rcases hat with h | ⟨b', off', he, hb, hc⟩
 ·omega
 cases he
 go_enter Tryz.func236, Tryz.ntmps236
 go_wp2_with (go_at_call 239; refine zae (zdo _ _ _ _ _ (by omega) (by omega)) ?_)
 go_loop [7, 18] (fun v i => ∃ (k : Nat) (m : Int), k ≤ n - p ∧ k ≤ 9 ∧ i = .int .i64 k ∧ v = .int .u64 m ∧ 0 ≤ m ∧ m < 128 ^ k ∧ rU p (l.drop (p + k)) k m = rU p (l.drop p) 0 0) (fun _ i => (n - p) - (intOf i).toNat)
 case atStart => exact ⟨0, 0, by omega, by omega, rfl, rfl, by omega, by simp, rfl⟩
 case round =>
  obtain ⟨k, m, hk, hk9, rfl, rfl, hm0, hm, hR⟩ := hrel
  have HR := zaa hR
  clear hR
  by_cases hlt : k < n - p
  ·have hck : w.cell? ⟨b, off + p + k, none⟩ = some (.int .u8 (l.getD (p + k) 0)) := by
    rw [Nat.add_assoc, hc (p + k) (by omega)]
   have hby := hwf.getD (p + k)
   have HD := zaa (drop_cons l (p + k) (by omega))
   generalize l.getD (p + k) 0 = c at *
   by_cases h9 : k = 9 ∧ 1 < c
   ·obtain ⟨rfl, hc1⟩ := h9
    have e : rU p (l.drop p) 0 0 = (0, 0, 12) := by rw [← HR.out, HD.out, rU, if_pos ⟨rfl, hc1⟩]
    have HE := zaa e
    clear e
    go_wp2
    go_ret3
    exact ⟨by rw [HE.out]; rfl, rfl⟩
   ·by_cases hcc : 128 ≤ c
    ·have hand := andNot_hi c hcc hby.2
     have h9' : k < 9 := by omega
     clear h9
     have hup := or_up m (c - 128) k hm0 hm (by omega) (by omega) (.inl h9')
     have HU := zaa hup.1
     have HL := zaa hup.2.1
     have hd0 : 0 ≤ (c - 128) * 128 ^ k := Int.mul_nonneg (by omega) (Int.le_of_lt (Int.pow_pos (by omega)))
     clear hup
     go_wp2
     go_round
     case rel =>
      refine ⟨k + 1, m + (c - 128) * 128 ^ k, by omega, by omega, by go_num, by rw [HU.out], by omega, HL.out, ?_⟩
      rw [← HR.out, HD.out, rU, if_neg (by omega), if_pos hcc, Nat.add_assoc]
     case measure => simp [intOf]; omega
    ·have hand := andNot_lo c hby.1 (by omega)
     have hup := or_up m c k hm0 hm (by omega) (by omega) (by omega)
     have HU := zaa hup.1
     clear hup
     by_cases h0 : c = 0 ∧ 0 < k
     ·obtain ⟨rfl, hk0⟩ := h0
      have e : rU p (l.drop p) 0 0 = (0, 0, 11) := by rw [← HR.out, HD.out, rU, if_neg (by omega), if_neg (by omega), if_pos ⟨rfl, hk0⟩]
      have HE := zaa e
      clear e HU
      by_cases h9k : k = 9
      ·subst h9k
       go_wp2
       go_ret3
       exact ⟨by rw [HE.out]; rfl, rfl⟩
      ·have hb9 : ((k : Int) == 9) = false := by simp; omega
       go_wp2
       go_ret3
       exact ⟨by rw [HE.out]; rfl, rfl⟩
     ·have e : rU p (l.drop p) 0 0 = (m + c * 128 ^ k, (p : Int) + k + 1, 0) := by rw [← HR.out, HD.out, rU, if_neg (by omega), if_neg (by omega), if_neg h0]
      have HE := zaa e
      clear e
      by_cases h9k : k = 9
      ·subst h9k
       obtain rfl : c = 1 := by omega
       have hor := HU.out
       rw [show IntKind.u64.wrap (1 * 2 ^ (7 * 9)) = 9223372036854775808 by rw [IntKind.wrap_u64]; decide] at hor
       have HO := zaa hor
       clear hor HU
       go_wp2
       go_ret3
       exact ⟨by rw [HE.out, ← HO.out]; rfl, rfl⟩
      ·have hb9 : ((k : Int) == 9) = false := by simp; omega
       by_cases hc0 : c = 0
       ·subst hc0
        have hk0 : k ≤ 0 := by omega
        have ho : bits .or .u64 m 0 = m := by
         have := HU.out
         simp only [Int.zero_mul, Int.add_zero] at this
         rw [show IntKind.u64.wrap 0 = 0 by decide] at this
         exact this
        have hE := HE.out
        simp only [Int.zero_mul, Int.add_zero] at hE
        have HE' := zaa hE
        clear hE HE HU
        go_wp2
        go_ret3
        exact ⟨by rw [HE'.out]; rfl, rfl⟩
       ·have hb0 : (c == 0) = false := by simp; omega
        go_wp2
        go_ret3
        exact ⟨by rw [HE.out, ← HU.out]; rfl, rfl⟩
  ·have e : rU p (l.drop p) 0 0 = (0, 0, 10) := by rw [← HR.out, List.drop_eq_nil_of_le (by omega), rU]
   have HE := zaa e
   clear e
   go_wp2
   go_ret3
   exact ⟨by rw [HE.out]; rfl, rfl⟩
theorem readUint_any (ao : Option Addr) (n cap : Nat) (l : List Int) (p' : Int) (w : World) (hs : Sl w ao n cap l) (h0 : 0 ≤ p') (hp : p' ≤ n) :
  Calls Tryz.prog 236 #[.slice ao n cap, .int .i64 p'] w fun e w' => e = .returned (.tuple #[.int .u64 (rU p' (l.drop p'.toNat) 0 0).1, .int .i64 (rU p' (l.drop p'.toNat) 0 0).2.1, .int .i64 (rU p' (l.drop p'.toNat) 0 0).2.2]) ∧ w' = w := by
 obtain ⟨p, rfl⟩ := Int.eq_ofNat_of_zero_le h0
 rw [Int.toNat_natCast]
 by_cases h : p = n
 ·subst h
  rw [List.drop_eq_nil_of_le (by rw [hs.hlen]; exact Lr)]
  exact readUint_end ao p cap w hs.hroom
 ·rcases hs.hat with h' | ⟨b, off, rfl, hb, hc⟩
  ·omega
  ·exact readUint_in b off n cap l p w hs (by omega)
end Go.Proofs.YtofafbmpbkjhnaaGreatDoor
