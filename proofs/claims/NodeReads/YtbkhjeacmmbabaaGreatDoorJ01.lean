import Derived.Test.YtbkhjeacmmbabaaGreatDoorJ00
import Derived.Laws.CopyOwn
import Derived.Deep.QuietTactic
import Derived.BigQuiet
import Derived.WalkSmall
namespace Go.Proofs.YtbkhjeacmmbabaaGreatDoor
set_option maxRecDepth 100000
set_option maxHeartbeats 1000000
def S (r : Nat) : Nat := if r % 2 = 1 then r / 2 ^^^ 2197175160 else r / 2
def Sn : Nat → Nat → Nat
 | 0, r => r
 | k + 1, r => Sn k (S r)
theorem S_xor (a b : Nat) : S (a ^^^ b) = S a ^^^ S b := by
 have h2 : (a ^^^ b) / 2 = a / 2 ^^^ b / 2 := by
  have := Nat.xor_div_two_pow (a := a) (b := b) (n := 1)
  simpa using this
 have hm : (a ^^^ b) % 2 = (a % 2 + b % 2) % 2 := by
  have := Nat.xor_mod_two_pow (a := a) (b := b) (n := 1)
  simp only [Nat.pow_one] at this
  rw [this]
  have ha : a % 2 = 0 ∨ a % 2 = 1 := zq
  have hb : b % 2 = 0 ∨ b % 2 = 1 := zq
  rcases ha with ha | ha <;> rcases hb with hb | hb <;> rw [ha, hb] <;> rfl
 unfold S
 rw [h2, hm]
 have ha : a % 2 = 0 ∨ a % 2 = 1 := zq
 have hb : b % 2 = 0 ∨ b % 2 = 1 := zq
 rcases ha with ha | ha <;> rcases hb with hb | hb <;> simp only [ha, hb] <;> simp
 ·rw [Nat.xor_assoc]
 ·rw [Nat.xor_assoc, Nat.xor_comm (b / 2), Nat.xor_assoc]
 ·rw [Nat.xor_assoc, Nat.xor_comm 2197175160, Nat.xor_assoc, Nat.xor_self, Nat.xor_zero]
theorem zbm (k : Nat) : ∀ a b, Sn k (a ^^^ b) = Sn k a ^^^ Sn k b := by
 induction k with
 | zero => intro a b; rfl
 | succ k ih => intro a b; rw [Sn, S_xor, ih]; rfl
theorem Sn_add (j k r : Nat) : Sn (j + k) r = Sn k (Sn j r) := by
 induction j generalizing r with
 | zero => simp [Sn]
 | succ j ih => rw [Nat.succ_add, Sn, ih]; rfl
theorem zcv (k x : Nat) : Sn k (x * 2 ^ k) = x := by
 induction k with
 | zero => simp [Sn]
 | succ k ih =>
  have h : S (x * 2 ^ (k + 1)) = x * 2 ^ k := by
   rw [Nat.pow_succ, ← Nat.mul_assoc]
   generalize x * 2 ^ k = y
   unfold S
   rw [if_neg zq]
   omega
  rw [Sn, h, ih]
theorem S_lt {r : Nat} (h : r < 4294967296) : S r < 4294967296 := by
 unfold S
 split
 ·exact zam zq zq
 ·omega
theorem Sn_lt (k : Nat) : ∀ {r : Nat}, r < 4294967296 → Sn k r < 4294967296 := by
 induction k with
 | zero => intro r h; exact h
 | succ k ih => intro r h; exact ih (S_lt h)
theorem zbv (a b k : Nat) (h : b < 2 ^ k) : a * 2 ^ k + b = a * 2 ^ k ^^^ b := by
 rw [Nat.mul_comm, Nat.two_pow_add_eq_or_of_lt h]
 apply Nat.eq_of_testBit_eq
 intro i
 rw [Nat.testBit_or, Nat.testBit_xor]
 by_cases hi : i < k
 ·rw [show (2 ^ k * a).testBit i = false by rw [Nat.testBit_two_pow_mul]; simp; omega]
  simp
 ·rw [show b.testBit i = false from Nat.testBit_lt_two_pow (zO h (Nat.pow_le_pow_right zq zq))]
  simp
theorem tb_eq (R : Nat) : tb R = Sn 8 R := by
 have e : R = (R / 256) * 2 ^ 8 ^^^ ((R / 16 % 16) * 2 ^ 4 ^^^ R % 16) := by
  rw [← zbv (R / 16 % 16) (R % 16) 4 zq, ← zbv (R / 256) _ 8 zq]
  omega
 have h0 : ∀ a : Fin 16, tN a.val = Sn 8 (a.val * 2 ^ 4) := by decide +kernel
 have h1 : ∀ a : Fin 16, tN (16 + a.val) = Sn 8 a.val := by decide +kernel
 conv => rhs; rw [e, zbm, zbm, zcv]
 unfold tb
 rw [h0 ⟨R / 16 % 16, zq⟩, h1 ⟨R % 16, zq⟩, Nat.xor_assoc, Nat.xor_comm (Sn 8 (R % 16))]
theorem xor8 (x0 x1 x2 x3 x4 x5 x6 x7 : Nat) : x7 ^^^ x6 ^^^ x5 ^^^ x4 ^^^ x3 ^^^ x2 ^^^ x1 ^^^ x0 = x0 ^^^ (x1 ^^^ (x2 ^^^ (x3 ^^^ (x4 ^^^ (x5 ^^^ (x6 ^^^ x7)))))) := by
 rw [Nat.xor_comm x0, Nat.xor_comm x1, Nat.xor_comm x2, Nat.xor_comm x3, Nat.xor_comm x4, Nat.xor_comm x5, Nat.xor_comm x6]
theorem sh_eq (R : Nat) (h : R < 4294967296) : sh R = Sn 32 R := by
 have e : R = (R / 268435456) * 2 ^ 28 ^^^ ((R / 16777216 % 16) * 2 ^ 24 ^^^ ((R / 1048576 % 16) * 2 ^ 20 ^^^ ((R / 65536 % 16) * 2 ^ 16 ^^^ ((R / 4096 % 16) * 2 ^ 12 ^^^ ((R / 256 % 16) * 2 ^ 8 ^^^ ((R / 16 % 16) * 2 ^ 4 ^^^ R % 16)))))) := by
  rw [← zbv (R / 16 % 16) (R % 16) 4 zq, ← zbv (R / 256 % 16) _ 8 zq, ← zbv (R / 4096 % 16) _ 12 zq, ← zbv (R / 65536 % 16) _ 16 zq, ← zbv (R / 1048576 % 16) _ 20 zq,
   ← zbv (R / 16777216 % 16) _ 24 zq, ← zbv (R / 268435456) _ 28 zq]
  omega
 have t : ∀ (k : Fin 8) (a : Fin 16), tN (16 * k.val + a.val) = Sn 32 (a.val * 2 ^ (28 - 4 * k.val)) := by decide +kernel
 have t0 := t 0 ⟨R / 268435456, zq⟩
 have t1 := t 1 ⟨R / 16777216 % 16, zq⟩
 have t2 := t 2 ⟨R / 1048576 % 16, zq⟩
 have t3 := t 3 ⟨R / 65536 % 16, zq⟩
 have t4 := t 4 ⟨R / 4096 % 16, zq⟩
 have t5 := t 5 ⟨R / 256 % 16, zq⟩
 have t6 := t 6 ⟨R / 16 % 16, zq⟩
 have t7 := t 7 ⟨R % 16, zq⟩
 simp only [Fin.isValue, show (0 : Fin 8).val = 0 from rfl, show (1 : Fin 8).val = 1 from rfl, show (2 : Fin 8).val = 2 from rfl, show (3 : Fin 8).val = 3 from rfl, show (4 : Fin 8).val = 4 from rfl, show (5 : Fin 8).val = 5 from rfl, show (6 : Fin 8).val = 6 from rfl, show (7 : Fin 8).val = 7 from rfl, Nat.mul_zero, Nat.zero_add, Nat.reduceMul, Nat.reduceSub, Nat.pow_zero, Nat.mul_one] at t0 t1 t2 t3 t4 t5 t6 t7
 conv => rhs; rw [e, zbm, zbm, zbm, zbm, zbm, zbm, zbm]
 unfold sh
 rw [t0, t1, t2, t3, t4, t5, t6, t7]
 exact xor8 _ _ _ _ _ _ _ _
def cr (r : Nat) (l : List Nat) : Nat := l.foldl (fun r c => Sn 8 (r ^^^ c)) r
theorem tk1_eq (r : Nat) (l : List Nat) : tk1 r l = cr r l := by
 unfold tk1 cr
 congr 1
 funext r c
 exact tb_eq _
theorem four_eq (r a b c d : Nat) (hr : r < 4294967296) (ha : a < 256) (hb : b < 256) (hc : c < 256) (hd : d < 256) : sh (r ^^^ (a ||| b * 256 ||| c * 65536 ||| d * 16777216)) = cr r [a, b, c, d] := by
 have o : (a ||| b * 256 ||| c * 65536 ||| d * 16777216) = a ^^^ (b * 2 ^ 8 ^^^ (c * 2 ^ 16 ^^^ d * 2 ^ 24)) := by
  have h1 : a ||| b * 256 = b * 2 ^ 8 + a := by rw [Nat.or_comm, show b * 256 = 2 ^ 8 * b by omega, ← Nat.two_pow_add_eq_or_of_lt zq]
  have h2 : (b * 2 ^ 8 + a) ||| c * 65536 = c * 2 ^ 16 + (b * 2 ^ 8 + a) := by rw [Nat.or_comm, show c * 65536 = 2 ^ 16 * c by omega, ← Nat.two_pow_add_eq_or_of_lt zq]
  have h3 : (c * 2 ^ 16 + (b * 2 ^ 8 + a)) ||| d * 16777216 = d * 2 ^ 24 + (c * 2 ^ 16 + (b * 2 ^ 8 + a)) := by rw [Nat.or_comm, show d * 16777216 = 2 ^ 24 * d by omega, ← Nat.two_pow_add_eq_or_of_lt zq]
  rw [h1, h2, h3, zbv d _ 24 zq, zbv c _ 16 zq, zbv b _ 8 zq, Nat.xor_comm (d * 2 ^ 24), Nat.xor_comm (c * 2 ^ 16), Nat.xor_comm (b * 2 ^ 8), Nat.xor_assoc, Nat.xor_assoc]
 have A : (a ||| b * 256 ||| c * 65536 ||| d * 16777216) < 4294967296 := Nat.or_lt_two_pow (n := 32) (Nat.or_lt_two_pow (n := 32) (Nat.or_lt_two_pow (n := 32) zq zq) zq) zq
 rw [sh_eq _ (zam hr A), o]
 show _ = Sn 8 (Sn 8 (Sn 8 (Sn 8 (r ^^^ a) ^^^ b) ^^^ c) ^^^ d)
 rw [← Nat.xor_assoc r a, show (32 : Nat) = 8 + (8 + (8 + 8)) from rfl, Sn_add, Sn_add, Sn_add]
 rw [zbm 8 (r ^^^ a), zbm 8 (b * 2 ^ 8), zcv, zbm 8 (c * 2 ^ 16), show c * 2 ^ 16 = (c * 2 ^ 8) * 2 ^ 8 by omega, zcv, show d * 2 ^ 24 = (d * 2 ^ 16) * 2 ^ 8 by omega, zcv]
 rw [← Nat.xor_assoc, zbm 8 (Sn 8 (r ^^^ a) ^^^ b), zbm 8 (c * 2 ^ 8), zcv, show d * 2 ^ 16 = (d * 2 ^ 8) * 2 ^ 8 by omega, zcv]
 rw [← Nat.xor_assoc, zbm 8 (Sn 8 (Sn 8 (r ^^^ a) ^^^ b) ^^^ c), zcv]
theorem cr_lt : ∀ (l : List Nat) (r : Nat), r < 4294967296 → (∀ x ∈ l, x < 256) → cr r l < 4294967296
 | [], _, h, _ => h
 | c :: l, r, h, hl => cr_lt l _ (Sn_lt 8 (zam h (by have := hl c zv; omega))) (fun x hx => hl x (by simp [hx]))
theorem cr_append (r : Nat) (a b : List Nat) : cr r (a ++ b) = cr (cr r a) b := by simp [cr]
theorem tk_eq : ∀ (l : List Nat) (r : Nat), r < 4294967296 → (∀ x ∈ l, x < 256) → tk l r = cr r l
 | [], _, _, _ => rfl
 | [a], r, _, _ => tk1_eq r [a]
 | [a, b], r, _, _ => tk1_eq r [a, b]
 | [a, b, c], r, _, _ => tk1_eq r [a, b, c]
 | a :: b :: c :: d :: l, r, hr, hl => by
  show tk l (sh _) = _
  rw [four_eq r a b c d hr (hl a zv) (hl b zv) (hl c zv) (hl d zv), tk_eq l _ (cr_lt _ _ hr (fun x hx => hl x (by simp at hx ⊢; omega))) (fun x hx => hl x (by simp [hx])), ← cr_append]
  rfl
end Go.Proofs.YtbkhjeacmmbabaaGreatDoor
namespace Go.Proofs.YtbkhjeacmmbabaaGreatDoor
set_option maxRecDepth 100000
set_option maxHeartbeats 1000000
theorem rdB_acc (l : List Int) : ∀ acc : Int, l.foldl (fun n c => n * 256 + c) acc = acc * 256 ^ l.length + rdB l := by
 induction l with
 | nil => intro acc; simp [rdB]
 | cons c l ih =>
  intro acc
  have h : rdB (c :: l) = c * 256 ^ l.length + rdB l := by
   show l.foldl _ (0 * 256 + c) = _
   rw [ih]
   simp
  rw [List.foldl_cons, ih, h, List.length_cons, Int.pow_succ, Int.add_mul, Int.mul_assoc, Int.mul_comm 256 (256 ^ l.length)]
  omega
theorem rdB_cons (c : Int) (l : List Int) : rdB (c :: l) = c * 256 ^ l.length + rdB l := by
 show l.foldl _ (0 * 256 + c) = _
 rw [rdB_acc]
 simp
theorem rdB_fB (w : Nat) (n : Int) (h : 0 ≤ n) : rdB (fB w n) = n % 256 ^ w := by
 induction w with
 | zero => simp [fB, rdB, Int.emod_one]
 | succ w ih =>
  rw [fB, rdB_cons, ih, zah]
  obtain ⟨N, rfl⟩ := Int.eq_ofNat_of_zero_le h
  have e : N % (256 ^ w * 256) = N % 256 ^ w + 256 ^ w * (N / 256 ^ w % 256) := Nat.mod_mul
  generalize hP : (256 : Nat) ^ w = P at *
  have A : (256 : Int) ^ w = (P : Int) := by rw [← hP]; simp
  rw [Int.pow_succ, A]
  have e2 : (N : Int) % ((P : Int) * 256) = ((N % (P * 256) : Nat) : Int) := by simp
  rw [e2, e]
  rw [Int.natCast_add, Int.natCast_mul, Int.mul_comm]
  simp only [Int.natCast_emod, Int.natCast_ediv]
  rw [Int.add_comm]
  rfl
theorem rU_back (p : Int) (rest : List Int) : ∀ (k : Nat) (m : Int) (i : Nat) (acc : Int), m < 2 ^ k → 0 ≤ m → 0 ≤ acc → acc + m * 128 ^ i < 18446744073709551616 → (0 < i → 0 < m) → i ≤ 9 →
  rU p (uB m ++ rest) i acc = (acc + m * 128 ^ i, p + i + (uB m).length, 0) := by
 intro k
 induction k with
 | zero =>
  intro m i acc hk h0 ha hb hi C
  obtain rfl : m = 0 := by simp at hk; omega
  obtain rfl : i = 0 := by
   rcases Nat.eq_zero_or_pos i with h | h
   ·exact h
   ·have := hi h; omega
  rw [uB_small zq]
  simp [rU]
 | succ k ih =>
  intro m i acc hk h0 ha hb hi C
  have A : (0 : Int) < 128 ^ i := Int.pow_pos zq
  by_cases hm : m < 128
  ·rw [uB_small hm, List.singleton_append, rU]
   have h9 : ¬ (i = 9 ∧ 1 < m) := by
    rintro ⟨rfl, h1⟩
    simp at hb
    omega
   rw [if_neg h9, if_neg zq, if_neg (by intro h; have := hi h.2; omega)]
   simp
  ·have B : m < 18446744073709551616 := by
    have h1 : m ≤ m * 128 ^ i := by
     have := Int.mul_le_mul_of_nonneg_left (show (1 : Int) ≤ 128 ^ i by omega) h0
     omega
    omega
   have h9 : i < 9 := by
    rcases Nat.lt_or_ge i 9 with h | h
    ·exact h
    ·obtain rfl : i = 9 := zq
     simp at hb
     omega
   rw [uB_step hm B, List.cons_append, rU, if_neg zq, if_pos zq]
   have e : acc + (m % 128 + 128 - 128) * 128 ^ i + m / 128 * 128 ^ (i + 1) = acc + m * 128 ^ i := by
    rw [Int.pow_succ, Int.mul_comm (128 ^ i) 128, ← Int.mul_assoc]
    have : m * 128 ^ i = (m % 128 + m / 128 * 128) * 128 ^ i := by rw [show m % 128 + m / 128 * 128 = m by omega]
    rw [this, Int.add_mul]
    have e3 : m % 128 + 128 - 128 = m % 128 := zq
    rw [e3]
    omega
   have hd : 0 ≤ (m % 128 + 128 - 128) * 128 ^ i := Int.mul_nonneg zq (Int.le_of_lt A)
   rw [ih (m / 128) (i + 1) _ (by rw [Int.pow_succ] at hk; omega) zq zq (by rw [e]; exact hb) (fun _ => zq) zq, e]
   simp only [List.length_cons]
   push_cast
   rw [show p + (i + 1) + ((uB (m / 128)).length : Int) = p + i + ((uB (m / 128)).length + 1) by omega]
theorem rU_uB (p n : Int) (rest : List Int) (h0 : 0 ≤ n) (h : n < 18446744073709551616) : rU p (uB n ++ rest) 0 0 = (n, p + (uB n).length, 0) := by
 have := rU_back p rest 64 n 0 0 zso h0 zq zso (fun h => zq) zq
 simpa using this
end Go.Proofs.YtbkhjeacmmbabaaGreatDoor
namespace Go.Proofs.YtbkhjeacmmbabaaGreatDoor
set_option maxRecDepth 100000
set_option maxHeartbeats 1000000
open Go.RowKit
theorem alike_any (ao bo : Option Addr) (n m c d : Nat) (la lb : List Int) (w : World) (ha : Sl w ao n c la) (hb : Sl w bo m d lb) :
  Calls Tryz.prog 160 #[.slice ao n c, .slice bo m d] w fun e w' => e = .returned (.int .i64 (lcp la lb)) ∧ ∃ q, w' = w.drewN q := by
 obtain ⟨T, U, O, Y, V, F⟩ := ha
 obtain ⟨P, Q, N, W, R, D⟩ := hb
 by_cases Z : n ≤ m
 all_goals
  go_enter Tryz.func160, Tryz.ntmps160
  go_wp2_with fail
  go_loopw [13] (fun i wr => ∃ k q : Nat, k ≤ n ∧ k ≤ m ∧ i = .int .i64 k ∧ wr = w.drewN q ∧ ∀ j, j < k → la.getD j 0 = lb.getD j 0) (fun i _ => n - (intOf i).toNat)
  case atStart => exact ⟨0, 0, zq, zq, rfl, rfl, fun j hj => zq⟩
  case round =>
   obtain ⟨k, q, hk, hk', rfl, rfl, C⟩ := hrel
   have B := zaa C
   clear C
   by_cases G : k < n ∧ k < m
   ·obtain ⟨H, I⟩ := G
    rcases F with h | ⟨b, off, rfl, A0, hc⟩
    ·omega
    rcases D with h | ⟨b', off', rfl, X, hc'⟩
    ·omega
    have J := hc k H
    have E := hc' k I
    have hx : ∃ x, la.getD k 0 = x := ⟨_, rfl⟩
    have hy : ∃ y, lb.getD k 0 = y := ⟨_, rfl⟩
    obtain ⟨x, hx⟩ := hx
    obtain ⟨y, hy⟩ := hy
    rw [hx] at J
    rw [hy] at E
    have HX := zaa hx
    have HY := zaa hy
    clear hx hy hc hc' 
    by_cases A : x = y
    ·have K : (x != y) = false := by simp [A]
     have L := zaa A
     clear A
     go_wp2
     go_quiet (fail)
     go_wp2
     go_roundw
     case rel =>
      refine ⟨k + 1, _, zq, zq, by go_num, rfl, fun j hj => ?_⟩
      by_cases M : j < k
      ·exact B.out j M
      ·obtain rfl : j = k := zq
       rw [HX.out, HY.out, L.out]
     case measure => simp [intOf]; omega
    ·have K : (x != y) = true := by simp [A]
     have e := lcp_eq la lb k zq zq B.out (.inr (.inr (by rw [HX.out, HY.out]; exact A)))
     have HE := zaa e
     clear A e
     go_wp2
     go_quiet (fail)
     go_wp2
     go_ret
     exact ⟨zbf (by rw [HE.out]), _, World.drewN_drewN _ _ _⟩
   ·have e := lcp_eq la lb k zq zq B.out zq
    have HE := zaa e
    clear e
    go_wp2
    go_ret
    exact ⟨zbf (by rw [HE.out]; omega), q, rfl⟩
theorem zcn {w : World} {B g : Nat} {l : List Int} (h : w.heap[g]? = some (.cells (By l).toArray 5 (0, 0))) (hB : B ≤ g) (hl : l.length ≤ maxLen) : OwnB w B (.slice (some ⟨g, 0, none⟩) l.length l.length) l :=
 ⟨by simp [By], .inr ⟨g, l.length, (By l).toArray, rfl, hB, h, Lr, hl, by simp [By], List.take_of_length_le (by simp [By])⟩⟩
theorem Sl.take {w : World} {ao : Option Addr} {n cap : Nat} {l : List Int} (h : Sl w ao n cap l) (k : Nat) (hk : k ≤ n) : Sl w ao k cap (l.take k) := by
 obtain ⟨F, G, E, B, A, C⟩ := h
 refine ⟨by simp; omega, zq, zq, B.take k, A, ?_⟩
 rcases C with h0 | ⟨b, off, e, D, hc⟩
 ·exact .inl zq
 ·refine .inr ⟨b, off, e, D, fun i hi => ?_⟩
  rw [hc i zq]
  simp [List.getD, hi]
theorem Sl.drewN {w : World} {ao : Option Addr} {n cap : Nat} {l : List Int} (h : Sl w ao n cap l) (q : Nat) : Sl (w.drewN q) ao n cap l := by
 refine ⟨h.hlen, h.hcap, h.hroom, h.wf, h.hnil, ?_⟩
 rcases h.hat with h0 | ⟨b, off, e, A, hc⟩
 ·exact .inl h0
 ·exact .inr ⟨b, off, e, by simpa using A, fun i hi => by simpa using hc i hi⟩
structure SlS (w : World) (ao : Option Addr) (n cap : Nat) (ls : List (List Int)) : Prop where
 hlen : ls.length = n
 hcap : n ≤ cap
 hroom : n ≤ 140737488355328
 hnil : ao = none → cap = 0
 hat : n = 0 ∨ ∃ b off, ao = some ⟨b, off, none⟩ ∧ b < w.heap.size ∧ ∀ i, i < n → ∃ a m c, w.cell? ⟨b, off + i, none⟩ = some (.slice a m c) ∧ Sl w a m c (ls.getD i [])
def sumN (ls : List (List Int)) : Nat := 4294967295 ^^^ ls.foldl (fun r l => tk (l.map Int.toNat) r) 4294967295
theorem tk1_lt : ∀ (l : List Nat) (r : Nat), r < 4294967296 → (∀ x ∈ l, x < 256) → tk1 r l < 4294967296
 | [], _, h, _ => h
 | c :: l, r, h, hl => by
  show tk1 (tb (r ^^^ c)) l < _
  exact tk1_lt l _ (tb_lt (zam h (by have := hl c zv; omega))) (fun x hx => hl x (by simp [hx]))
theorem tk_lt : ∀ (l : List Nat) (r : Nat), r < 4294967296 → (∀ x ∈ l, x < 256) → tk l r < 4294967296
 | [], _, h, _ => h
 | [a], r, h, hl => tk1_lt [a] r h hl
 | [a, b], r, h, hl => tk1_lt [a, b] r h hl
 | [a, b, c], r, h, hl => tk1_lt [a, b, c] r h hl
 | a :: b :: c :: d :: l, r, _, hl => by
  show tk l (sh _) < _
  exact tk_lt l _ (sh_lt _) (fun x hx => hl x (by simp [hx]))
theorem nat_lt (l : List Int) (h : Wf l) : ∀ x ∈ l.map Int.toNat, x < 256 := by
 intro x hx
 obtain ⟨y, hy, rfl⟩ := List.mem_map.1 hx
 have := h y hy
 omega
theorem dropS (ls : List (List Int)) (k : Nat) (h : k < ls.length) : ls.drop k = ls.getD k [] :: ls.drop (k + 1) := by
 rw [List.drop_eq_getElem_cons h]
 simp [List.getD, zI h]
theorem sum_any (ao : Option Addr) (n cap : Nat) (ls : List (List Int)) (w : World) (hs : SlS w ao n cap ls) (ht : Tab w) :
  Calls Tryz.prog 118 #[.slice ao n cap] w fun e w' => e = .returned (.int .u32 (sumN ls)) ∧ ∃ q, w' = w.drewN q := by
 have HT := zaa ht
 clear ht
 obtain ⟨H, I, G, J, C⟩ := hs
 unfold sumN
 generalize hF : ls.foldl (fun r l => tk (l.map Int.toNat) r) 4294967295 = F
 have HF := zaa hF
 clear hF
 go_enter Tryz.func118, Tryz.ntmps118
 go_wp2_with fail
 go_loopw [3, 8] (fun v i wr => ∃ (k q y : Nat), k ≤ n ∧ i = .int .i64 k ∧ v = .int .u32 y ∧ y < 4294967296 ∧ Hid ((ls.drop k).foldl (fun r l => tk (l.map Int.toNat) r) y = F) ∧ wr = w.drewN q) (fun _ i _ => n - (intOf i).toNat)
 case atStart => exact ⟨0, 0, 4294967295, zq, rfl, rfl, zq, HF, rfl⟩
 case round =>
  obtain ⟨k, q, y, hk, rfl, rfl, hy, HK, rfl⟩ := hrel
  clear HF
  by_cases D : k < n
  ·rcases C with h | ⟨b, off, rfl, K, hc⟩
   ·omega
   obtain ⟨a, m, c, L, A⟩ := hc k D
   clear hc
   have hT := taken_any a m c (ls.getD k []) y (w.drewN q) (A.drewN q) (HT.out.drewN q) hy
   have B := tk_lt _ y hy (nat_lt _ A.wf)
   have e := HK.out
   rw [dropS ls k zq, List.foldl_cons] at e
   clear HK A
   generalize tk ((ls.getD k []).map Int.toNat) y = y2 at *
   have E := zaa hT
   have HE := zaa e
   clear hT e
   go_wp2_with fail
   refine zcm E.out ?_
   intro q2
   go_wp2
   go_roundw
   case rel => exact ⟨k + 1, _, y2, zq, by go_num, rfl, B, HE, rfl⟩
   case measure => simp [intOf]; omega
  ·have e : F = y := by
    rw [← HK.out, List.drop_eq_nil_of_le zq]
    rfl
   have HE := zaa e
   have hx := u32_xor_nat 4294967295 y zq hy
   have HX := zaa hx
   have M : IntKind.u32.signed = false := rfl
   clear e HK hx
   go_wp2
   go_ret
   exact ⟨zbf (by rw [HE.out]; exact HX.out), _, rfl⟩
end Go.Proofs.YtbkhjeacmmbabaaGreatDoor
namespace Go.Proofs.YtbkhjeacmmbabaaGreatDoor
set_option maxRecDepth 100000
set_option maxHeartbeats 1000000
def pw (n : Int) : Prop := n = 512 ∨ n = 1024 ∨ n = 2048 ∨ n = 4096 ∨ n = 8192 ∨ n = 16384 ∨ n = 32768 ∨ n = 65536
theorem pw_le {n : Int} (h : pw n) : 512 ≤ n ∧ n ≤ 65536 := by
 unfold pw at h
 omega
def zs (k : Nat) : List Int := List.replicate k 0
theorem zbc (k : Nat) : (zs k).length = k := by simp [zs]
theorem zs_wf (k : Nat) : Wf (zs k) := by
 intro x hx
 simp only [zs, List.mem_replicate] at hx
 omega
theorem zs_add (a b : Nat) : zs (a + b) = zs a ++ zs b := by
 unfold zs
 exact (List.replicate_append_replicate (n := a) (m := b)).symm
def sealB (l : List Int) : List Int := l ++ fB 4 (sumN [l])
theorem sealB_length (l : List Int) : (sealB l).length = l.length + 4 := by simp [sealB, zah]
theorem sealB_wf {l : List Int} (h : Wf l) : Wf (sealB l) := h.append (zbb _ _)
def rdN (l : List Int) (p w : Nat) : Int := rdB ((l.drop p).take w)
theorem zco (A F C : List Int) (p w : Nat) (hp : A.length = p) (hw : F.length = w) : rdN (A ++ (F ++ C)) p w = rdB F := by
 subst hp hw
 unfold rdN
 rw [List.drop_left, List.take_left]
theorem zbk (l : List Int) (h : Wf l) (p w : Nat) : 0 ≤ rdN l p w ∧ rdN l p w < 256 ^ w := by
 have h1 := zdc ((l.drop p).take w) ((h.drop p).take w)
 refine ⟨h1.1, Int.lt_of_lt_of_le h1.2 ?_⟩
 have h2 : ((l.drop p).take w).length ≤ w := by simp; omega
 have h3 : (256 : Nat) ^ ((l.drop p).take w).length ≤ 256 ^ w := Nat.pow_le_pow_right zq h2
 exact_mod_cast h3
theorem zci (w : Nat) (n : Int) (h0 : 0 ≤ n) (h : n < 256 ^ w) : rdB (fB w n) = n := by
 rw [rdB_fB w n h0]
 exact Int.emod_eq_of_lt h0 h
theorem sumN_lt (l : List Int) (h : Wf l) : sumN [l] < 4294967296 := by
 have := tk_lt (l.map Int.toNat) 4294967295 zq (nat_lt l h)
 exact zam zq this
end Go.Proofs.YtbkhjeacmmbabaaGreatDoor
namespace Go.Proofs.YtbkhjeacmmbabaaGreatDoor
set_option maxRecDepth 100000
set_option maxHeartbeats 1000000
structure Cl where
 key : List Int
 kd : Int
 val : List Int
 pg : Int
 ct : Int
deriving DecidableEq, Inhabited
def Cl.Wf (c : Cl) : Prop := Go.Proofs.YtbkhjeacmmbabaaGreatDoor.Wf c.key ∧ Go.Proofs.YtbkhjeacmmbabaaGreatDoor.Wf c.val
def zca (c : Cl) : Prop := c.pg = 0 ∧ c.ct = 0
def zbx (c : Cl) (lo hi : Int) : Prop := (2 ≤ c.pg ∧ c.pg ≤ 65535) ∧ (lo ≤ c.ct ∧ c.ct ≤ hi)
def mayP (kind page : Int) (c : Cl) : Prop :=
 (c.key.length : Int) ≤ page / 8 ∧
 ((kind = 3 ∧ c.kd = 3 ∧ c.val = [] ∧ zbx c 1 1073741824) ∨
  (kind ≠ 3 ∧ 0 < c.key.length ∧
   ((c.kd = 1 ∧ (c.val.length : Int) ≤ page / 16 * 3 ∧ zca c) ∨ (c.kd = 2 ∧ c.val = [] ∧ zbx c (page / 16 * 3 + 1) 65536) ∨ (c.kd = 4 ∧ c.val = [] ∧ (zca c ∨ zbx c 1 1073741824)))))
instance (c : Cl) : Decidable (zca c) := by unfold zca; infer_instance
instance (c : Cl) (a b : Int) : Decidable (zbx c a b) := by unfold zbx; infer_instance
instance (k p : Int) (c : Cl) : Decidable (mayP k p c) := by unfold mayP; infer_instance
def ctk (c : Cl) : Nat := if c.kd = 1 then 7 + c.key.length + c.val.length else 13 + c.key.length
def cB (c : Cl) : List Int := [c.kd % 256] ++ (fB 2 c.key.length ++ (c.key ++ (if c.kd = 1 then fB 2 c.val.length ++ c.val else fB 4 c.pg ++ fB 4 c.ct)))
theorem cB_length (c : Cl) : (cB c).length + 2 = ctk c := by
 unfold cB ctk
 split <;> simp [zah] <;> omega
theorem cB_wf {c : Cl} (h : c.Wf) : Wf (cB c) := by
 unfold cB
 refine Wf.append (Wf.cons zq Wf.nil) (Wf.append (zbb _ _) (Wf.append h.1 ?_))
 split
 ·exact Wf.append (zbb _ _) h.2
 ·exact Wf.append (zbb _ _) (zbb _ _)
def pNum (w : Nat) (l : List Int) : Option (Int × List Int) := if l.length < w then none else some (rdB (l.take w), l.drop w)
def zao (l : List Int) : Option (List Int × List Int) :=
 match pNum 2 l with
 | none => none
 | some (n, r) => if (r.length : Int) < n then none else some (r.take n.toNat, r.drop n.toNat)
def zaj (l : List Int) : Option (Cl × List Int) :=
 match pNum 1 l with
 | none => none
 | some (k, r) =>
  match zao r with
  | none => none
  | some (key, r) =>
   if k = 1 then
    match zao r with
    | none => none
    | some (val, r) => some (⟨key, k, val, 0, 0⟩, r)
   else
    match pNum 4 r with
    | none => none
    | some (p, r) =>
     match pNum 4 r with
     | none => none
     | some (c, r) => some (⟨key, k, [], p, c⟩, r)
structure Cl.fit (c : Cl) : Prop where
 kd : 0 ≤ c.kd ∧ c.kd < 256
 key : c.key.length < 65536
 val : c.val.length < 65536
 pg : 0 ≤ c.pg ∧ c.pg < 4294967296
 ct : 0 ≤ c.ct ∧ c.ct < 4294967296
 one : c.kd = 1 → c.pg = 0 ∧ c.ct = 0
 oth : c.kd ≠ 1 → c.val = []
theorem mayP.fit {k p : Int} {c : Cl} (h : mayP k p c) (hp : p ≤ 65536) : c.fit := by
 obtain ⟨h1, h2⟩ := h
 unfold zbx zca at h2
 rcases h2 with ⟨e, h3, h4, h5⟩ | ⟨e, h3, ⟨h4, h5, h6⟩ | ⟨h4, h5, h6⟩ | ⟨h4, h5, h6⟩⟩
 ·exact ⟨zq, zq, by rw [h4]; decide, zq, zq, zq, fun _ => h4⟩
 ·exact ⟨zq, zq, zq, zq, zq, fun _ => h6, fun h => absurd h4 h⟩
 ·exact ⟨zq, zq, by rw [h5]; decide, zq, zq, zq, fun _ => h5⟩
 ·exact ⟨zq, zq, by rw [h5]; decide, zq, zq, zq, fun _ => h5⟩
theorem pNum_mid (w : Nat) (n : Int) (r : List Int) (h0 : 0 ≤ n) (h : n < 256 ^ w) : pNum w (fB w n ++ r) = some (n, r) := by
 unfold pNum
 rw [if_neg (by simp [zah]), List.take_left' (zah w n), List.drop_left' (zah w n), zci w n h0 h]
theorem pText_mid (t r : List Int) (h : t.length < 65536) : zao (fB 2 t.length ++ (t ++ r)) = some (t, r) := by
 unfold zao
 rw [pNum_mid 2 _ _ zq zq]
 simp only
 rw [if_neg (by rw [zG]; omega), Int.toNat_natCast, List.take_left, List.drop_left]
theorem pCell_mid (c : Cl) (r : List Int) (h : c.fit) : zaj (cB c ++ r) = some (c, r) := by
 obtain ⟨key, kd, val, pg, ct⟩ := c
 obtain ⟨h1, h2, h3, h4, h5, h6, h7⟩ := h
 simp only at h1 h2 h3 h4 h5 h6 h7
 unfold cB zaj
 simp only
 rw [zM, show ([kd % 256] : List Int) = fB 1 kd from by simp [fB], pNum_mid 1 kd _ h1.1 zq]
 simp only
 rw [zM, zM, pText_mid _ _ h2]
 simp only
 by_cases e : kd = 1
 ·rw [if_pos e, if_pos e, zM, pText_mid _ _ h3]
  simp only
  obtain ⟨rfl, rfl⟩ := h6 e
  rfl
 ·rw [if_neg e, if_neg e, zM, pNum_mid 4 pg _ h4.1 zq]
  simp only
  rw [pNum_mid 4 ct _ h5.1 zq]
  simp only
  rw [h7 e]
theorem fB_rdB : ∀ (l : List Int), Wf l → fB l.length (rdB l) = l
 | [], _ => rfl
 | c :: l, h => by
  have hc := h c zv
  have hl : Wf l := fun x hx => h x (by simp [hx])
  have hb := zdc l hl
  have ih := fB_rdB l hl
  have e : ∀ (j : Nat) (m : Int), fB j (c * 256 ^ l.length + m) = fB j m ∨ l.length < j := by
   intro j m
   by_cases hj : l.length < j
   ·exact .inr hj
   ·left
    induction j with
    | zero => rfl
    | succ j ihj =>
     rw [fB, fB, ihj zq]
     congr 1
     obtain ⟨d, hd⟩ : ∃ d, l.length = j + 1 + d := ⟨l.length - (j + 1), zq⟩
     rw [hd, show (256 : Int) ^ (j + 1 + d) = 256 ^ j * (256 * 256 ^ d) from by rw [Int.pow_add, Int.pow_succ, Int.mul_assoc],
      show c * (256 ^ j * (256 * 256 ^ d)) + m = m + (256 ^ j) * (256 * (c * 256 ^ d)) from by
       rw [Int.add_comm, ← Int.mul_assoc, Int.mul_comm c (256 ^ j), Int.mul_assoc, ← Int.mul_assoc c, Int.mul_comm c 256, Int.mul_assoc]]
     rw [Int.add_mul_ediv_left _ _ (by have : (0 : Int) < 256 ^ j := Int.pow_pos zq
                                       omega)]
     omega
  rw [rdB_cons, List.length_cons, fB]
  rcases e l.length (rdB l) with e | e
  ·rw [e, ih]
   congr 1
   have hp : (0 : Int) < 256 ^ l.length := Int.pow_pos zq
   rw [Int.add_comm, Int.add_mul_ediv_right _ _ zq, Int.ediv_eq_zero_of_lt hb.1 hb.2]
   omega
  ·omega
theorem pNum_inv {w : Nat} {l r : List Int} {n : Int} (hw : Wf l) (h : pNum w l = some (n, r)) : l = fB w n ++ r ∧ 0 ≤ n ∧ n < 256 ^ w ∧ Wf r := by
 unfold pNum at h
 split at h
 ·cases h
 ·next hl =>
  simp only [Option.some.injEq, Prod.mk.injEq] at h
  obtain ⟨rfl, rfl⟩ := h
  have ht : (l.take w).length = w := by rw [zJ]; omega
  have := fB_rdB (l.take w) (hw.take w)
  rw [ht] at this
  have hb := zdc (l.take w) (hw.take w)
  rw [ht] at hb
  exact ⟨by rw [this, List.take_append_drop], hb.1, hb.2, hw.drop w⟩
theorem pText_inv {l r t : List Int} (hw : Wf l) (h : zao l = some (t, r)) : l = fB 2 t.length ++ (t ++ r) ∧ t.length < 65536 ∧ Wf t ∧ Wf r := by
 unfold zao at h
 split at h
 ·cases h
 ·next n r' e =>
  obtain ⟨h1, h2, h3, h4⟩ := pNum_inv hw e
  split at h
  ·cases h
  ·next hl =>
   simp only [Option.some.injEq, Prod.mk.injEq] at h
   obtain ⟨rfl, rfl⟩ := h
   have ht : (r'.take n.toNat).length = n.toNat := by rw [zJ]; omega
   refine ⟨?_, by rw [ht]; omega, h4.take _, h4.drop _⟩
   rw [ht, Int.toNat_of_nonneg h2, List.take_append_drop]
   exact h1
theorem pCell_inv {l r : List Int} {c : Cl} (hw : Wf l) (h : zaj l = some (c, r)) : l = cB c ++ r ∧ c.fit ∧ c.Wf ∧ Wf r := by
 unfold zaj at h
 split at h
 ·cases h
 ·next k r1 e1 =>
  obtain ⟨h1, h2, h3, h4⟩ := pNum_inv hw e1
  split at h
  ·cases h
  ·next key r2 e2 =>
   obtain ⟨g1, g2, g3, g4⟩ := pText_inv h4 e2
   split at h
   ·next hk =>
    split at h
    ·cases h
    ·next val r3 e3 =>
     obtain ⟨f1, f2, f3, f4⟩ := pText_inv g4 e3
     simp only [Option.some.injEq, Prod.mk.injEq] at h
     obtain ⟨rfl, rfl⟩ := h
     refine ⟨?_, ⟨by simp only; omega, g2, f2, zv, zv, fun _ => ⟨rfl, rfl⟩, fun h => absurd hk h⟩, ⟨g3, f3⟩, f4⟩
     rw [h1, g1, f1]
     simp [cB, hk, fB]
   ·next hk =>
    split at h
    ·cases h
    ·next p r3 e3 =>
     obtain ⟨f1, f2, f3, f4⟩ := pNum_inv g4 e3
     split at h
     ·cases h
     ·next ct r4 e4 =>
      obtain ⟨d1, d2, d3, d4⟩ := pNum_inv f4 e4
      simp only [Option.some.injEq, Prod.mk.injEq] at h
      obtain ⟨rfl, rfl⟩ := h
      refine ⟨?_, ⟨by simp only; omega, g2, zv, ⟨f2, by simp only; omega⟩, ⟨d2, by simp only; omega⟩, fun h => absurd h hk, fun _ => rfl⟩, ⟨g3, Wf.nil⟩, d4⟩
      rw [h1, g1, f1, d1]
      simp [cB, hk, fB]
end Go.Proofs.YtbkhjeacmmbabaaGreatDoor
namespace Go.Proofs.YtbkhjeacmmbabaaGreatDoor
set_option maxRecDepth 100000
set_option maxHeartbeats 1000000
open Go.RowKit
theorem zar {w : World} {ao : Option Addr} {n cap : Nat} {l : List Int} (hs : Sl w ao n cap l) :
  (convert 22 9 (.slice ao n cap)).run Tryz.prog w = .ok (.string (strOfNums l)) w := by
 obtain ⟨A, D, C, F, E, B⟩ := hs
 rcases B with rfl | ⟨b, off, rfl, hb, hc⟩
 ·obtain rfl : l = [] := List.eq_nil_of_length_eq_zero A
  rw [run_convert_bytes_string w 22 9 5 ao 0 cap Tryz.underlying22 Tryz.underlying5 Tryz.underlying9]
  cases ao with
  | none => simp [Conv.bytesToString, Sem.run_pure, strOfNums]; rfl
  | some a =>
   rw [run_bytesToString w a 0 cap [] (by simpa using run_loadCells_list (P := Tryz.prog) w a [] (fun j v h => by cases h))]
   rfl
 ·exact run_convert_bytes_arg w 22 5 Tryz.underlying22 Tryz.underlying5 b off n cap l A hc 9 Tryz.underlying9
theorem byte_inj {x y : Int} (hx : 0 ≤ x ∧ x ≤ 255) (hy : 0 ≤ y ∧ y ≤ 255) (h : UInt8.ofNat x.toNat = UInt8.ofNat y.toNat) : x = y := by
 have h1 := congrArg UInt8.toNat h
 simp only [UInt8.toNat_ofNat'] at h1
 omega
theorem bytes_inj : ∀ (a b : List Int), Wf a → Wf b → (a.map fun n => UInt8.ofNat n.toNat) = (b.map fun n => UInt8.ofNat n.toNat) → a = b
 | [], [], _, _, _ => rfl
 | [], _ :: _, _, _, h => by simp at h
 | _ :: _, [], _, _, h => by simp at h
 | x :: a, y :: b, ha, hb, h => by
  simp only [List.map_cons, List.cons.injEq] at h
  rw [byte_inj (ha x zv) (hb y zv) h.1, bytes_inj a b (fun z hz => ha z (by simp [hz])) (fun z hz => hb z (by simp [hz])) h.2]
theorem str_beq {a b : List Int} (ha : Wf a) (hb : Wf b) : ((strOfNums a).toList == (strOfNums b).toList) = decide (a = b) := by
 rw [Bool.eq_iff_iff, beq_iff_eq, zQ, ByteArray.toList_eq, ByteArray.toList_eq, strOfNums_data, strOfNums_data]
 constructor
 ·exact bytes_inj a b ha hb
 ·rintro rfl; rfl
def ordL : List Int → List Int → Int
 | [], [] => 0
 | [], _ :: _ => -1
 | _ :: _, [] => 1
 | x :: a, y :: b => if x < y then -1 else if y < x then 1 else ordL a b
theorem ordL_self : ∀ (a : List Int), ordL a a = 0
 | [] => rfl
 | x :: a => by simp [ordL, ordL_self a]
theorem ordL_eq : ∀ (a b : List Int), ordL a b = 0 → a = b
 | [], [], _ => rfl
 | [], _ :: _, h => by simp [ordL] at h
 | _ :: _, [], h => by simp [ordL] at h
 | x :: a, y :: b, h => by
  simp only [ordL] at h
  split at h
  ·simp at h
  ·split at h
   ·simp at h
   ·rw [ordL_eq a b h, show x = y by omega]
theorem ordL_three (a b : List Int) : ordL a b = 0 ∨ ordL a b = -1 ∨ ordL a b = 1 := by
 induction a generalizing b with
 | nil => cases b <;> simp [ordL]
 | cons x a ih =>
  cases b with
  | nil => simp [ordL]
  | cons y b =>
   simp only [ordL]
   split
   ·simp
   ·split
    ·simp
    ·exact ih b
theorem order_any (ao bo : Option Addr) (n m c d : Nat) (la lb : List Int) (w : World) (ha : Sl w ao n c la) (hb : Sl w bo m d lb) :
  Calls Tryz.prog 140 #[.slice ao n c, .slice bo m d] w fun e w' => e = .returned (.int .i64 (ordL la lb)) ∧ ∃ q, w' = w.drewN q := by
 obtain ⟨O, P, K, V, Q, G⟩ := ha
 obtain ⟨L, M, J, R, N, E⟩ := hb
 generalize hF : ordL la lb = F
 have HF := zaa hF
 clear hF
 go_enter Tryz.func140, Tryz.ntmps140
 go_wp2_with fail
 go_loopw [5] (fun i wr => ∃ k q : Nat, k ≤ n ∧ k ≤ m ∧ i = .int .i64 k ∧ wr = w.drewN q ∧ Hid (ordL (la.drop k) (lb.drop k) = F)) (fun i _ => n - (intOf i).toNat)
 case atStart => exact ⟨0, 0, zq, zq, rfl, rfl, HF⟩
 case round =>
  obtain ⟨k, q, hk, hk', rfl, rfl, HK⟩ := hrel
  clear HF
  by_cases H : k < n
  ·by_cases B : k < m
   ·rcases G with h | ⟨b, off, rfl, W, hc⟩
    ·omega
    rcases E with h | ⟨b', off', rfl, T, hc'⟩
    ·omega
    have X := hc k H
    have U := hc' k B
    have e := HK.out
    rw [zbu la k zq, zbu lb k zq, ordL] at e
    clear hc hc' HK
    generalize la.getD k 0 = x at *
    generalize lb.getD k 0 = y at *
    by_cases C : x < y
    ·rw [if_pos C] at e
     have HE := zaa e
     clear e
     go_wp2_with fail
     go_quiet (fail)
     go_wp2
     go_ret
     exact ⟨zbf HE.out, _, World.drewN_drewN _ _ _⟩
    ·rw [if_neg C] at e
     by_cases D : y < x
     ·rw [if_pos D] at e
      have HE := zaa e
      clear e
      go_wp2_with fail
      go_quiet (fail)
      go_wp2_with fail
      go_quiet (fail)
      go_wp2
      go_ret
      exact ⟨zbf HE.out, _, by simp only [World.drewN_drewN]; rfl⟩
     ·rw [if_neg D] at e
      have HE := zaa e
      clear e
      go_wp2_with fail
      go_quiet (fail)
      go_wp2_with fail
      go_quiet (fail)
      go_wp2
      go_roundw
      case rel => exact ⟨k + 1, _, zq, zq, by go_num, rfl, HE⟩
      case measure => simp [intOf]; omega
   ·have e := HK.out
    rw [List.drop_eq_nil_of_le (show lb.length ≤ k by omega), zbu la k zq, ordL] at e
    have HE := zaa e
    clear e HK
    have I : ¬ n < m := zq
    have A : m < n := zq
    go_wp2
    go_ret
    exact ⟨zbf HE.out, _, rfl⟩
  ·have e := HK.out
   rw [List.drop_eq_nil_of_le (show la.length ≤ k by omega)] at e
   by_cases B : k < m
   ·rw [zbu lb k zq, ordL] at e
    have HE := zaa e
    clear e HK
    have A : n < m := zq
    go_wp2
    go_ret
    exact ⟨zbf HE.out, _, rfl⟩
   ·rw [List.drop_eq_nil_of_le (show lb.length ≤ k by omega), ordL] at e
    have HE := zaa e
    clear e HK
    have A : ¬ n < m := zq
    have I : ¬ m < n := zq
    go_wp2
    go_ret
    exact ⟨zbf HE.out, _, rfl⟩
end Go.Proofs.YtbkhjeacmmbabaaGreatDoor
