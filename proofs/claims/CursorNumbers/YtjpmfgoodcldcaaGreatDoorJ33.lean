import Derived.Test.YtjpmfgoodcldcaaGreatDoorJ00
namespace Go.Proofs.YtjpmfgoodcldcaaGreatDoor
set_option maxRecDepth 100000
open Go.RowKit
set_option maxHeartbeats 1000000 in
theorem refFixed_yes (n x : Int) (w : World) (h0 : 0 ≤ n) (hn : n < 18446744073709551616) (h1 : 1 ≤ x) (h2 : x ≤ 8) :
  Calls Tryz.prog 26 #[.int .u64 n, .int .i64 x] w fun e w' => ∃ v, e = .returned v ∧ OwnB w' w.heap.size v (fB x.toNat n) ∧ Below w.heap.size w w' := by
 obtain ⟨width, rfl⟩ := Int.eq_ofNat_of_zero_le (show 0 ≤ x by omega)
 rw [Int.toNat_natCast]
 go_enter Tryz.func26, Tryz.ntmps26
 go_wp2_with fail
 go_loopw [5, 6] (fun v i wr => ∃ (k : Nat) (acc : List Int), k ≤ width ∧ i = .int .i64 ((k : Int) - 1) ∧ acc ++ fB k n = fB width n ∧ OwnB wr w.heap.size v acc ∧ Below w.heap.size w wr) (fun _ i _ => (intOf i + 1).toNat)
 case atStart => exact ⟨width, [], Nat.le_refl _, rfl, rfl, OwnB.nil _ _, Below.refl _ _⟩
 case round =>
  obtain ⟨k, acc, hk, rfl, hac, hown, hb⟩ := hrel
  have HA := hidden hac
  clear hac
  have hsz := hb.size
  have hlen : acc.length ≤ 8 := by
   have h1 := congrArg List.length HA.out
   simp only [List.length_append, fB_length] at h1
   omega
  by_cases hk0 : k = 0
  ·subst hk0
   have e : acc = fB width n := by have := HA.out; simpa [fB] using this
   rw [e] at hown
   clear e HA
   go_wp2
   go_ret
   exact ⟨_, rfl, hown, hb⟩
  ·obtain ⟨j, rfl⟩ : ∃ j, k = j + 1 := ⟨k - 1, by omega⟩
   go_wp2_with fail
   go_loopw [7, 8] (fun x i w' => ∃ t : Nat, t ≤ j ∧ i = .int .i64 t ∧ x = .int .u64 (n / 256 ^ t) ∧ w' = wr) (fun _ i _ => j - (intOf i).toNat)
   case atStart => exact ⟨0, by omega, rfl, by simp, rfl⟩
   case round =>
    obtain ⟨t, ht, rfl, rfl, rfl⟩ := hrel
    have hpos : 0 ≤ n / 256 ^ t := Int.ediv_nonneg h0 (Int.le_of_lt (Int.pow_pos (by omega)))
    have hle : n / 256 ^ t ≤ n := Int.ediv_le_self _ h0
    have HP := hidden (pow256 n t)
    by_cases hlt : t < j
    ·generalize n / 256 ^ t = y at *
     go_wp2
     go_roundw
     case rel => exact ⟨t + 1, by omega, by go_num, by rw [← HP.out], trivial⟩
     case measure => simp [intOf]; omega
    ·obtain rfl : t = j := by omega
     generalize hy : n / 256 ^ t = y at *
     have HY := hidden hy
     clear hy
     go_wp2_with (at_builtin; refine app_bytes _ rfl _ _ rfl w.heap.size acc _ rfl (hown.alloc _) _ 1 1 [y % 256] rfl rfl (one_cell _ _) (by omega) (by simp; omega) ?_)
     intro v2 w2 hown2 hb2
     have R2 : Below w.heap.size w w2 := (hb.alloc hsz _).trans hb2
     clear hb2 hown
     go_wp2
     go_roundw
     case rel => exact ⟨t, acc ++ [y % 256], by omega, by go_num, by rw [← HA.out, fB, HY.out]; simp, hown2, R2⟩
     case measure => simp [intOf]
end Go.Proofs.YtjpmfgoodcldcaaGreatDoor
