/- The library's cmp.Compare at numbers and texts, and a float's rank. -/
import Derived.Test.YtpiijmionafmcaaGreatDoorIt
import Derived.Laws.BitsAllLaws
import Derived.Laws.Cover1
namespace Go.Proofs.YtpiijmionafmcaaGreatDoor
open Go.RowKit

def sgn3 (a b : Int) : Int := if a < b then -1 else if b < a then 1 else 0

set_option maxRecDepth 100000 in
theorem cmpInt_any (a b : Int) (w : World) : Calls Tryz.prog 32 #[.int .i64 a, .int .i64 b] w fun e w' => e = .returned (.int .i64 (sgn3 a b)) ∧ w' = w := by
  go_enter Tryz.func32, Tryz.ntmps32
  go_wp2
  all_goals go_ret
  all_goals (refine ⟨?_, rfl⟩)
  all_goals (simp_all [sgn3])
  all_goals (try omega)
set_option maxRecDepth 100000 in
theorem cmpInt64_any (a b : Int) (w : World) : Calls Tryz.prog 33 #[.int .i64 a, .int .i64 b] w fun e w' => e = .returned (.int .i64 (sgn3 a b)) ∧ w' = w := by
  go_enter Tryz.func33, Tryz.ntmps33
  go_wp2
  all_goals go_ret
  all_goals (refine ⟨?_, rfl⟩)
  all_goals (simp_all [sgn3])
  all_goals (try omega)
set_option maxRecDepth 100000 in
theorem cmpUint64_any (a b : Int) (w : World) : Calls Tryz.prog 34 #[.int .u64 a, .int .u64 b] w fun e w' => e = .returned (.int .i64 (sgn3 a b)) ∧ w' = w := by
  go_enter Tryz.func34, Tryz.ntmps34
  go_wp2
  all_goals go_ret
  all_goals (refine ⟨?_, rfl⟩)
  all_goals (simp_all [sgn3])
  all_goals (try omega)
/-- A number without a sign that grows as floats do. -/
def frk (n : Int) : Int := if n < 0 then -n - 1 else n + 9223372036854775808
set_option maxRecDepth 100000 in
theorem xorOnes (m : Nat) (h : m < 18446744073709551616) : 18446744073709551615 ^^^ m = 18446744073709551615 - m := by
  have e := congrArg BitVec.toNat (BitVec.allOnes_xor (x := BitVec.ofNat 64 m))
  rw [BitVec.toNat_xor, BitVec.toNat_not, BitVec.toNat_allOnes, BitVec.toNat_ofNat, Nat.mod_eq_of_lt (by omega)] at e
  exact e
set_option maxRecDepth 100000 in
theorem not64 (n : Int) (h0 : -9223372036854775808 ≤ n) (h1 : n < 0) : bits .xor .u64 IntKind.u64.max (IntKind.u64.wrap n) = -n - 1 := by
  rw [IntKind.wrap_u64, show IntKind.u64.max = 18446744073709551615 from rfl, u64_xor _ _ (by omega) (by omega) (by omega) (by omega)]
  rw [show (18446744073709551615 : Int).toNat = 18446744073709551615 from rfl, xorOnes _ (by omega)]
  omega
set_option maxRecDepth 100000 in
theorem or63 (n : Int) (h0 : 0 ≤ n) (h1 : n ≤ 9223372036854775807) : bits .or .u64 n 9223372036854775808 = n + 9223372036854775808 := by
  rw [u64_or _ _ (by omega) (by omega) (by omega) (by omega), Nat.or_comm, nat_join 63 _ _ (by decide) (by omega)]
  omega
set_option maxRecDepth 100000 in
theorem floatRank_any (n : Int) (w : World) (h0 : -9223372036854775808 ≤ n) (h1 : n ≤ 9223372036854775807) : Calls Tryz.prog 35 #[.int .i64 n] w fun e w' => e = .returned (.int .u64 (frk n)) ∧ w' = w := by
  by_cases hn : n < 0
  · have hx := not64 n h0 hn
    go_enter Tryz.func35, Tryz.ntmps35
    go_wp2
    go_ret
    refine ⟨?_, rfl⟩
    rw [frk, if_pos hn, ← hx]
    rfl
  · have hx := or63 n (by omega) h1
    go_enter Tryz.func35, Tryz.ntmps35
    go_wp2
    go_ret
    refine ⟨?_, rfl⟩
    rw [frk, if_neg (by omega), ← hx]
    rfl
/-- Texts by their bytes. -/
def sgS (a b : ByteArray) : Int := if Op.bytesLess a.toList b.toList = true then -1 else if a.toList = b.toList then 0 else 1
set_option maxRecDepth 100000 in
theorem cmpString_any (a b : ByteArray) (w : World) : Calls Tryz.prog 36 #[.string a, .string b] w fun e w' => e = .returned (.int .i64 (sgS a b)) ∧ w' = w := by
  go_enter Tryz.func36, Tryz.ntmps36
  go_wp2
  all_goals go_ret
  all_goals (refine ⟨?_, rfl⟩)
  all_goals (simp_all [sgS])
end Go.Proofs.YtpiijmionafmcaaGreatDoor
