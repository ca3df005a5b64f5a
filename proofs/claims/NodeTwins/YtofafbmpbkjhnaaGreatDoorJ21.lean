import Derived.Test.YtofafbmpbkjhnaaGreatDoorJ00
namespace Go.Proofs.YtofafbmpbkjhnaaGreatDoor
set_option maxRecDepth 100000
open Go.RowKit
set_option maxHeartbeats 400000 in
theorem zcl (n : Int) (w : World) (h0 : 0 ≤ n) (hn : n < 18446744073709551616) :
  Calls Tryz.prog 227 #[.int .u64 n] w fun e w' => ∃ v, e = .returned v ∧ OwnB w' w.heap.size v (uB n) ∧ Below w.heap.size w w' := by
 obtain ⟨i0, hi, hz0, hz1, hz2⟩ := info_parts zaw
 go_enter Tryz.func227, Tryz.ntmps227
 go_wp2_with (at_make; refine wpList_make_own _ rfl _ _ 41 rfl w.heap.size 5 i0 (.int .u8 0) 1 Tryz.underlying41 hi hz0 hz1 .i64 .i64 10 10 rfl rfl rfl (by rw [hz2]; omega) (by decide) Lr ?_)
 intro w1 hown1 hg1
 have hb1 : Below w.heap.size w w1 := Br.grown hg1 Lr (fun k hk => by cases hk)
 go_wp2_with fail
 go_loopw [0, 3] (fun x v wr => ∃ (m : Int) (acc : List Int), 0 ≤ m ∧ m < 18446744073709551616 ∧ x = .int .u64 m ∧ acc ++ uB m = uB n ∧ OwnB wr w.heap.size v acc ∧ Below w.heap.size w wr) (fun x _ _ => (intOf x).toNat)
 case atStart => exact ⟨n, [], h0, hn, rfl, rfl, hown1, hb1⟩
 case round =>
  obtain ⟨m, acc, hm0, hm, rfl, hac, hown, hb⟩ := hrel
  have Hac := hac
  have HA : Hid (acc ++ uB m = uB n) := hac
  clear hac Hac
  have hsz := hb.size
  have hlen : acc.length + 1 ≤ 10 := by
   have h1 := congrArg List.length HA.out
   have h2 := zas m
   have h3 := zas n
   simp only [zG] at h1
   omega
  have hor := or128 m
  by_cases hlt : m < 128
  ·go_wp2_with (at_builtin; refine app_bytes _ rfl _ _ rfl w.heap.size acc _ rfl (hown.alloc _) _ 1 1 [m] rfl rfl (one_cell _ _) (by omega) (by simp; omega) ?_)
   intro v' w2 hown2 hb2
   rw [← zcr hlt, HA.out] at hown2
   have R : Below w.heap.size w w2 := (hb.alloc hsz _).trans hb2
   clear hb2
   go_wp2
   go_ret
   exact ⟨_, rfl, hown2, R⟩
  ·go_wp2_with (at_builtin; refine app_bytes _ rfl _ _ rfl w.heap.size acc _ rfl (hown.alloc _) _ 1 1 [m % 128 + 128] rfl rfl (one_cell _ _) (by omega) (by simp; omega) ?_)
   intro v' w2 hown2 hb2
   have R : Below w.heap.size w w2 := (hb.alloc hsz _).trans hb2
   clear hb2
   go_wp2
   go_roundw
   case rel => exact ⟨m / 128, acc ++ [m % 128 + 128], by omega, by omega, rfl, by rw [← HA.out, uB_step (by omega) hm]; simp, hown2, R⟩
   case measure => simp [intOf]; omega
end Go.Proofs.YtofafbmpbkjhnaaGreatDoor
