/- Package free, plain mathematics: a row of bits, its least one. -/
import Derived.Test.YtedgpcckbdnijaaDoorBase
import Derived.Laws.Bits64b
import Derived.Lib.TrailingZeros
namespace Go.Proofs.YtedgpcckbdnijaaDoor
open Go.RowKit

def wOr (x k : Nat) : Nat := x ||| 2 ^ k
def wNot (x k : Nat) : Nat := (BitVec.ofNat 64 x &&& ~~~ BitVec.ofNat 64 (2 ^ k)).toNat
set_option maxRecDepth 100000 in
theorem pow_lt64 {k : Nat} (h : k < 64) : 2 ^ k < 18446744073709551616 := by
  have : 2 ^ k < 2 ^ 64 := Nat.pow_lt_pow_right (by decide) h
  omega
set_option maxRecDepth 100000 in
theorem wOr_lt {x k : Nat} (hx : x < 18446744073709551616) (hk : k < 64) : wOr x k < 18446744073709551616 := by
  have : wOr x k < 2 ^ 64 := Nat.or_lt_two_pow (by omega) (Nat.pow_lt_pow_right (by decide) hk)
  omega
set_option maxRecDepth 100000 in
theorem wNot_lt {x k : Nat} : wNot x k < 18446744073709551616 := (BitVec.ofNat 64 x &&& ~~~ BitVec.ofNat 64 (2 ^ k)).isLt
set_option maxRecDepth 100000 in
theorem bits_wOr (x k : Nat) (hx : x < 18446744073709551616) (hk : k < 64) : bits .or .u64 (x : Int) ((2 ^ k : Nat) : Int) = (wOr x k : Int) := bits_or_u64_nat x _ hx (pow_lt64 hk)
set_option maxRecDepth 100000 in
theorem bits_wNot (x k : Nat) : bits .andNot .u64 (x : Int) ((2 ^ k : Nat) : Int) = (wNot x k : Int) := by
  show IntKind.u64.wrap ((BitVec.ofInt 64 (x : Int) &&& ~~~ BitVec.ofInt 64 ((2 ^ k : Nat) : Int)).toNat : Int) = _
  rw [BitVec.ofInt_natCast, BitVec.ofInt_natCast, IntKind.wrap_u64]
  have := @wNot_lt x k
  unfold wNot at this ⊢
  omega
set_option maxRecDepth 100000 in
theorem wOr_bit (x k i : Nat) : (wOr x k).testBit i = (x.testBit i || decide (k = i)) := by
  unfold wOr
  rw [Nat.testBit_or, Nat.testBit_two_pow]
set_option maxRecDepth 100000 in
theorem wNot_bit (x k i : Nat) (hi : i < 64) : (wNot x k).testBit i = (x.testBit i && !decide (k = i)) := by
  unfold wNot
  rw [BitVec.testBit_toNat, BitVec.getLsbD_and, BitVec.getLsbD_not, BitVec.getLsbD_ofNat, BitVec.getLsbD_ofNat, Nat.testBit_two_pow]
  simp [hi]
/-- The bit of a page. -/
def bitOf (W : Nat → Nat) (p : Nat) : Bool := (W (p / 64)).testBit (p % 64)
def wset (W : Nat → Nat) (p : Nat) (on : Bool) : Nat → Nat := fun i => if i = p / 64 then (if on then wOr (W i) (p % 64) else wNot (W i) (p % 64)) else W i
def Wd (W : Nat → Nat) : Prop := ∀ i, W i < 18446744073709551616
set_option maxRecDepth 100000 in
theorem Wd.set {W : Nat → Nat} (h : Wd W) (p : Nat) (on : Bool) : Wd (wset W p on) := by
  intro i
  unfold wset
  split
  · split
    · exact wOr_lt (h i) (Nat.mod_lt _ (by decide))
    · exact wNot_lt
  · exact h i
set_option maxRecDepth 100000 in
theorem bitOf_wset (W : Nat → Nat) (p q : Nat) (on : Bool) : bitOf (wset W p on) q = if q = p then on else bitOf W q := by
  unfold bitOf wset
  by_cases e : q / 64 = p / 64
  · rw [if_pos e]
    have h2 : q % 64 < 64 := Nat.mod_lt _ (by decide)
    cases on with
    | true =>
      rw [if_pos rfl, wOr_bit]
      by_cases e2 : q = p
      · subst e2; simp
      · have : ¬ p % 64 = q % 64 := by omega
        simp [e2, this]
    | false =>
      rw [if_neg (by decide), wNot_bit _ _ _ h2]
      by_cases e2 : q = p
      · subst e2; simp
      · have : ¬ p % 64 = q % 64 := by omega
        simp [e2, this]
  · rw [if_neg e, if_neg (fun h => e (by rw [h]))]
set_option maxRecDepth 100000 in
theorem ctz_bit (x : Nat) (h0 : x ≠ 0) (hx : x < 18446744073709551616) : Lib.ctz 64 x < 64 ∧ x.testBit (Lib.ctz 64 x) = true ∧ ∀ i, i < Lib.ctz 64 x → x.testBit i = false := by
  unfold Lib.ctz
  rw [if_neg h0]
  obtain ⟨m, hm, hk⟩ := Lib.ctzFrom_spec 64 x (by omega) hx
  refine ⟨hk, ?_, fun i hi => ?_⟩
  · generalize Lib.ctzFrom 64 x = c at *
    rw [hm, Nat.mul_comm, Nat.testBit_mul_two_pow]
    simp
  · generalize Lib.ctzFrom 64 x = c at *
    rw [hm, Nat.mul_comm, Nat.testBit_mul_two_pow]
    simp
    omega
set_option maxRecDepth 100000 in
theorem least_bit {W : Nat → Nat} (hW : Wd W) {i : Nat} (h0 : W i ≠ 0) (hb : ∀ j, j < i → W j = 0) : bitOf W (i * 64 + Lib.ctz 64 (W i)) = true ∧ ∀ q, q < i * 64 + Lib.ctz 64 (W i) → bitOf W q = false := by
  obtain ⟨h1, h2, h3⟩ := ctz_bit (W i) h0 (hW i)
  generalize Lib.ctz 64 (W i) = c at *
  constructor
  · unfold bitOf
    rw [show (i * 64 + c) / 64 = i by omega, show (i * 64 + c) % 64 = c by omega]
    exact h2
  · intro q hq
    unfold bitOf
    by_cases e : q / 64 = i
    · rw [e]
      exact h3 _ (by omega)
    · rw [hb _ (by omega), Nat.zero_testBit]
set_option maxRecDepth 100000 in
theorem no_bit {W : Nat → Nat} (hb : ∀ j, j < 1024 → W j = 0) {q : Nat} (hq : q < 65536) : bitOf W q = false := by
  unfold bitOf
  rw [hb _ (by omega), Nat.zero_testBit]
end Go.Proofs.YtedgpcckbdnijaaDoor
