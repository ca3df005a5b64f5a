/- The small functions of package meta: what they answer. -/
import Derived.Test.YtbnjojplfbibkaaGreatDoorMe
import Derived.Test.YtbnjojplfbibkaaGreatDoorFixed
import Derived.Test.YtbnjojplfbibkaaGreatDoorSame
import Derived.Deep.QuietTactic
import Derived.BigQuiet
import Derived.Handy
import Derived.Laws.BitsAllLaws
import Derived.Deep.WholeRow
namespace Go.Proofs.YtbnjojplfbibkaaGreatDoor
open Go.RowKit

/-- A meta as the program has it. -/
def mtV (m : Mt) : Value := .agg #[.int .i64 m.en, .int .i64 m.pg, .int .i64 m.tx, .int .i64 m.ro, .int .i64 m.co, .int .i64 m.fr, .int .i64 m.li, .int .i64 m.hi]
/-- It answers whether P. -/
def Ans (P : Prop) (w : World) (e : Ending) (w' : World) : Prop := ∃ b, e = .returned (.bool b) ∧ (b = true ↔ P) ∧ Below w.heap.size w w'
set_option maxRecDepth 100000 in
theorem Ans.mk {P : Prop} {w w' : World} {b : Bool} (h : b = true ↔ P) (hb : Below w.heap.size w w') : Ans P w (.returned (.bool b)) w' := ⟨b, rfl, h, hb⟩
/-- The table of places. -/
def plC : Array Value := #[.int .i64 1, .int .i64 1, .int .i64 1, .int .i64 2, .int .i64 8, .int .i64 4, .int .i64 512, .int .i64 65536, .int .i64 12, .int .i64 8, .int .i64 0, .int .i64 1099511627776, .int .i64 20, .int .i64 4, .int .i64 0, .int .i64 65535,
  .int .i64 24, .int .i64 4, .int .i64 0, .int .i64 256, .int .i64 28, .int .i64 4, .int .i64 0, .int .i64 65535, .int .i64 32, .int .i64 4, .int .i64 0, .int .i64 65534, .int .i64 36, .int .i64 4, .int .i64 2, .int .i64 65536]
def plV : Value := .agg plC
set_option maxRecDepth 100000 in
theorem plC_one : plC.all (·.oneCell') = true := by kernel_rfl
set_option maxRecDepth 100000 in
theorem plC_size : (Tryz.prog.info? 181).map (·.size) = some plC.size := by kernel_rfl

set_option maxRecDepth 100000 in
theorem i64_and_one (n : Int) : bits .and .i64 n 1 = n % 2 := by
  have h1 : (BitVec.ofInt 64 1).toNat = 2 ^ 1 - 1 := by decide
  have key : (BitVec.ofInt 64 n &&& BitVec.ofInt 64 1).toNat = (n % ((2 ^ 64 : Nat) : Int)).toNat % 2 ^ 1 := by
    rw [BitVec.toNat_and, BitVec.toNat_ofInt, h1, Nat.and_two_pow_sub_one_eq_mod]
  show IntKind.i64.wrap ((BitVec.ofInt 64 n &&& BitVec.ofInt 64 1).toNat : Nat) = n % 2
  rw [key, IntKind.wrap_i64]
  omega
set_option maxRecDepth 100000 in
theorem i64_and_nat (a b : Nat) (ha : a < 9223372036854775808) (hb : b < 9223372036854775808) : bits .and .i64 (a : Int) (b : Int) = ((a &&& b : Nat) : Int) := by
  show IntKind.i64.wrap ((BitVec.ofInt 64 a &&& BitVec.ofInt 64 b).toNat : Nat) = _
  have hle : a &&& b < 9223372036854775808 := Nat.and_lt_two_pow (n := 63) a (by omega)
  have h1 : (BitVec.ofInt 64 (a : Int)).toNat = a := by rw [BitVec.toNat_ofInt]; omega
  have h2 : (BitVec.ofInt 64 (b : Int)).toNat = b := by rw [BitVec.toNat_ofInt]; omega
  rw [BitVec.toNat_and, h1, h2, IntKind.wrap_i64]
  omega
set_option maxRecDepth 100000 in
theorem top_bit (n k : Nat) (h1 : 2 ^ k < n) (h2 : n < 2 * 2 ^ k) : n &&& (n - 1) ≠ 0 := by
  intro h
  have hb := congrArg (fun x => Nat.testBit x k) h
  simp only [Nat.testBit_and, Nat.zero_testBit] at hb
  have e1 : n.testBit k = true := by
    rw [Nat.testBit_eq_decide_div_mod_eq]
    have : n / 2 ^ k = 1 := Nat.div_eq_of_lt_le (by omega) (by omega)
    simp [this]
  have e2 : (n - 1).testBit k = true := by
    rw [Nat.testBit_eq_decide_div_mod_eq]
    have : (n - 1) / 2 ^ k = 1 := Nat.div_eq_of_lt_le (by omega) (by omega)
    simp [this]
  rw [e1, e2] at hb
  cases hb
set_option maxRecDepth 100000 in
theorem pow_iff (x : Int) (h0 : 512 ≤ x) (h1 : x ≤ 65536) : bits .and .i64 x (x - 1) = 0 ↔ pw x := by
  obtain ⟨n, rfl⟩ := Int.eq_ofNat_of_zero_le (show 0 ≤ x by omega)
  have e : ((n : Int) - 1) = ((n - 1 : Nat) : Int) := by omega
  rw [e, i64_and_nat n (n - 1) (by omega) (by omega)]
  constructor
  · intro h
    have h' : n &&& (n - 1) = 0 := by omega
    unfold pw
    have k9 : ¬ (512 < n ∧ n < 1024) := fun a => top_bit n 9 (by simpa using a.1) (by simpa using a.2) h'
    have k10 : ¬ (1024 < n ∧ n < 2048) := fun a => top_bit n 10 (by simpa using a.1) (by simpa using a.2) h'
    have k11 : ¬ (2048 < n ∧ n < 4096) := fun a => top_bit n 11 (by simpa using a.1) (by simpa using a.2) h'
    have k12 : ¬ (4096 < n ∧ n < 8192) := fun a => top_bit n 12 (by simpa using a.1) (by simpa using a.2) h'
    have k13 : ¬ (8192 < n ∧ n < 16384) := fun a => top_bit n 13 (by simpa using a.1) (by simpa using a.2) h'
    have k14 : ¬ (16384 < n ∧ n < 32768) := fun a => top_bit n 14 (by simpa using a.1) (by simpa using a.2) h'
    have k15 : ¬ (32768 < n ∧ n < 65536) := fun a => top_bit n 15 (by simpa using a.1) (by simpa using a.2) h'
    omega
  · intro h
    have h2 : n = 512 ∨ n = 1024 ∨ n = 2048 ∨ n = 4096 ∨ n = 8192 ∨ n = 16384 ∨ n = 32768 ∨ n = 65536 := by unfold pw at h; omega
    rcases h2 with rfl | rfl | rfl | rfl | rfl | rfl | rfl | rfl <;> decide

set_option maxRecDepth 100000 in
theorem numbers_any (m : Mt) (w : World) : Calls Tryz.prog 115 #[mtV m] w fun e w' => e = .returned (mtV m) ∧ Below w.heap.size w w' := by
  unfold mtV
  go_enter Tryz.func115, Tryz.ntmps115
  go_wp2
  go_returns
  exact ⟨rfl, ((Below.refl _ _).alloc (Nat.le_refl _) _).alloc (by simp) _⟩
set_option maxRecDepth 100000 in
set_option maxHeartbeats 2000000 in
theorem places_any (w : World) : Calls Tryz.prog 109 #[] w fun e w' => e = .returned plV ∧ Below w.heap.size w w' := by
  go_enter Tryz.func109, Tryz.ntmps109
  go_wp2_with (refine wpList_store_row rfl _ _ _ rfl w.heap.size plC (by rfl) (by rfl) 181 _ (heap_alloc_last w _) plC_size (by rfl) plC_one ?_; rw [World.setRow_alloc_new])
  refine bodyPost_ret (results_cell_row rfl _ _ w.heap.size 181 plC (0, 0) _ (by rfl) (heap_alloc_last w _) Tryz.underlying181 rfl plC_size) rfl ?_
  exact ⟨rfl, (Below.refl _ _).alloc (Nat.le_refl _) _⟩
set_option maxRecDepth 100000 in
theorem metaOf_any (m : Mt) (w : World) : Calls Tryz.prog 110 #[mtV m] w fun e w' => e = .returned (mtV m) ∧ Below w.heap.size w w' := by
  unfold mtV
  go_enter Tryz.func110, Tryz.ntmps110
  go_wp2
  go_returns
  exact ⟨rfl, ((Below.refl _ _).alloc (Nat.le_refl _) _).alloc (by simp) _⟩
set_option maxRecDepth 100000 in
theorem slot_any (x : Int) (w : World) : Calls Tryz.prog 61 #[.int .i64 x] w fun e w' => e = .returned (.int .i64 (x % 2)) ∧ w' = w := by
  have h := i64_and_one x
  go_enter Tryz.func61, Tryz.ntmps61
  go_wp2
  go_ret
  exact ⟨rfl, rfl⟩
set_option maxRecDepth 100000 in
theorem isPower_any (x : Int) (w : World) (h0 : 512 ≤ x) (h1 : x ≤ 65536) : Calls Tryz.prog 112 #[.int .i64 x] w fun e w' => ∃ b, e = .returned (.bool b) ∧ (b = true ↔ pw x) ∧ w' = w := by
  have h := pow_iff x h0 h1
  obtain ⟨z, hz⟩ : ∃ z, bits .and .i64 x (x - 1) = z := ⟨_, rfl⟩
  rw [hz] at h
  go_enter Tryz.func112, Tryz.ntmps112
  go_wp2
  go_ret
  exact ⟨_, rfl, by simpa using h, rfl⟩
set_option maxRecDepth 100000 in
theorem isTree_any (m : Mt) (w : World) : Calls Tryz.prog 113 #[mtV m] w fun e w' => Ans (m.ro = 0 ∧ m.co = 0 ∨ m.ro ≠ 0 ∧ 2 ≤ m.ro ∧ m.ro < m.hi ∧ 0 < m.co) w e w' := by
  unfold mtV
  generalize hP : (m.ro = 0 ∧ m.co = 0 ∨ m.ro ≠ 0 ∧ 2 ≤ m.ro ∧ m.ro < m.hi ∧ 0 < m.co) = P
  have HP := hidden hP
  clear hP
  go_enter Tryz.func113, Tryz.ntmps113
  go_wp2
  all_goals go_ret
  all_goals refine Ans.mk ?_ ?_
  all_goals first | exact (Below.refl _ _).alloc (Nat.le_refl _) _ | exact ((Below.refl _ _).alloc (Nat.le_refl _) _).alloc (by simp) _ | (rw [← HP.out]; simp at *; omega)
set_option maxRecDepth 100000 in
theorem isList_any (m : Mt) (w : World) (h1 : 2 ≤ m.hi) (h2 : m.hi ≤ 65536) : Calls Tryz.prog 114 #[mtV m] w fun e w' => Ans (m.fr = 0 ∧ m.li = 0 ∨ m.fr ≠ 0 ∧ 2 ≤ m.fr ∧ m.fr < m.hi ∧ m.li ≤ m.hi - 2) w e w' := by
  unfold mtV
  generalize hP : (m.fr = 0 ∧ m.li = 0 ∨ m.fr ≠ 0 ∧ 2 ≤ m.fr ∧ m.fr < m.hi ∧ m.li ≤ m.hi - 2) = P
  have HP := hidden hP
  clear hP
  go_enter Tryz.func114, Tryz.ntmps114
  go_wp2
  all_goals go_ret
  all_goals refine Ans.mk ?_ ?_
  all_goals first | exact (Below.refl _ _).alloc (Nat.le_refl _) _ | exact ((Below.refl _ _).alloc (Nat.le_refl _) _).alloc (by simp) _ | (rw [← HP.out]; simp at *; omega)
end Go.Proofs.YtbnjojplfbibkaaGreatDoor
