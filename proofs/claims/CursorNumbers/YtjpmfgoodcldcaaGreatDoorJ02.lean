import Derived.Test.YtjpmfgoodcldcaaGreatDoorJ01
import Derived.Test.YtjpmfgoodcldcaaGreatDoorJ00
import Derived.Laws.CopyOwn
import Derived.Deep.QuietTactic
import Derived.BigQuiet
import Derived.WalkSmall
namespace Go.Proofs.YtjpmfgoodcldcaaGreatDoor
set_option maxRecDepth 100000
def S (r : Nat) : Nat := if r % 2 = 1 then r / 2 ^^^ 2197175160 else r / 2
def Sn : Nat → Nat → Nat
 | 0, r => r
 | k + 1, r => Sn k (S r)
theorem S_xor (a b : Nat) : S (a ^^^ b) = S a ^^^ S b := by
 have h2 : (a ^^^ b) / 2 = a / 2 ^^^ b / 2 := by
  have := Nat.xor_div_two_pow (a := a) (b := b) (n := 1)
  simpa using this
 have hm : (a ^^^ b) % 2 = (a % 2 + b % 2) % 2 := by
  have := Nat.xor_mod_two_pow (a := a) (b := b) (n := 1)
  simp only [Nat.pow_one] at this
  rw [this]
  have ha : a % 2 = 0 ∨ a % 2 = 1 := by omega
  have hb : b % 2 = 0 ∨ b % 2 = 1 := by omega
  rcases ha with ha | ha <;> rcases hb with hb | hb <;> rw [ha, hb] <;> rfl
 unfold S
 rw [h2, hm]
 have ha : a % 2 = 0 ∨ a % 2 = 1 := by omega
 have hb : b % 2 = 0 ∨ b % 2 = 1 := by omega
 rcases ha with ha | ha <;> rcases hb with hb | hb <;> simp only [ha, hb] <;> simp
 ·rw [Nat.xor_assoc]
 ·rw [Nat.xor_assoc, Nat.xor_comm (b / 2), Nat.xor_assoc]
 ·rw [Nat.xor_assoc, Nat.xor_comm 2197175160, Nat.xor_assoc, Nat.xor_self, Nat.xor_zero]
theorem Sn_xor (k : Nat) : ∀ a b, Sn k (a ^^^ b) = Sn k a ^^^ Sn k b := by
 induction k with
 | zero => intro a b; rfl
 | succ k ih => intro a b; rw [Sn, S_xor, ih]; rfl
theorem Sn_add (j k r : Nat) : Sn (j + k) r = Sn k (Sn j r) := by
 induction j generalizing r with
 | zero => simp [Sn]
 | succ j ih => rw [Nat.succ_add, Sn, ih]; rfl
theorem Sn_shift (k x : Nat) : Sn k (x * 2 ^ k) = x := by
 induction k with
 | zero => simp [Sn]
 | succ k ih =>
  have h : S (x * 2 ^ (k + 1)) = x * 2 ^ k := by
   rw [Nat.pow_succ, ← Nat.mul_assoc]
   generalize x * 2 ^ k = y
   unfold S
   rw [if_neg (by omega)]
   omega
  rw [Sn, h, ih]
theorem S_lt {r : Nat} (h : r < 4294967296) : S r < 4294967296 := by
 unfold S
 split
 ·exact xor32 (by omega) (by omega)
 ·omega
theorem Sn_lt (k : Nat) : ∀ {r : Nat}, r < 4294967296 → Sn k r < 4294967296 := by
 induction k with
 | zero => intro r h; exact h
 | succ k ih => intro r h; exact ih (S_lt h)
theorem split_add (a b k : Nat) (h : b < 2 ^ k) : a * 2 ^ k + b = a * 2 ^ k ^^^ b := by
 rw [Nat.mul_comm, Nat.two_pow_add_eq_or_of_lt h]
 apply Nat.eq_of_testBit_eq
 intro i
 rw [Nat.testBit_or, Nat.testBit_xor]
 by_cases hi : i < k
 ·rw [show (2 ^ k * a).testBit i = false by rw [Nat.testBit_two_pow_mul]; simp; omega]
  simp
 ·rw [show b.testBit i = false from Nat.testBit_lt_two_pow (Nat.lt_of_lt_of_le h (Nat.pow_le_pow_right (by omega) (by omega)))]
  simp
theorem tb_eq (R : Nat) : tb R = Sn 8 R := by
 have e : R = (R / 256) * 2 ^ 8 ^^^ ((R / 16 % 16) * 2 ^ 4 ^^^ R % 16) := by
  rw [← split_add (R / 16 % 16) (R % 16) 4 (by omega), ← split_add (R / 256) _ 8 (by omega)]
  omega
 have h0 : ∀ a : Fin 16, tN a.val = Sn 8 (a.val * 2 ^ 4) := by decide +kernel
 have h1 : ∀ a : Fin 16, tN (16 + a.val) = Sn 8 a.val := by decide +kernel
 conv => rhs; rw [e, Sn_xor, Sn_xor, Sn_shift]
 unfold tb
 rw [h0 ⟨R / 16 % 16, by omega⟩, h1 ⟨R % 16, by omega⟩, Nat.xor_assoc, Nat.xor_comm (Sn 8 (R % 16))]
theorem xor8 (x0 x1 x2 x3 x4 x5 x6 x7 : Nat) : x7 ^^^ x6 ^^^ x5 ^^^ x4 ^^^ x3 ^^^ x2 ^^^ x1 ^^^ x0 = x0 ^^^ (x1 ^^^ (x2 ^^^ (x3 ^^^ (x4 ^^^ (x5 ^^^ (x6 ^^^ x7)))))) := by
 rw [Nat.xor_comm x0, Nat.xor_comm x1, Nat.xor_comm x2, Nat.xor_comm x3, Nat.xor_comm x4, Nat.xor_comm x5, Nat.xor_comm x6]
theorem sh_eq (R : Nat) (h : R < 4294967296) : sh R = Sn 32 R := by
 have e : R = (R / 268435456) * 2 ^ 28 ^^^ ((R / 16777216 % 16) * 2 ^ 24 ^^^ ((R / 1048576 % 16) * 2 ^ 20 ^^^ ((R / 65536 % 16) * 2 ^ 16 ^^^ ((R / 4096 % 16) * 2 ^ 12 ^^^ ((R / 256 % 16) * 2 ^ 8 ^^^ ((R / 16 % 16) * 2 ^ 4 ^^^ R % 16)))))) := by
  rw [← split_add (R / 16 % 16) (R % 16) 4 (by omega), ← split_add (R / 256 % 16) _ 8 (by omega), ← split_add (R / 4096 % 16) _ 12 (by omega), ← split_add (R / 65536 % 16) _ 16 (by omega), ← split_add (R / 1048576 % 16) _ 20 (by omega),
   ← split_add (R / 16777216 % 16) _ 24 (by omega), ← split_add (R / 268435456) _ 28 (by omega)]
  omega
 have t : ∀ (k : Fin 8) (a : Fin 16), tN (16 * k.val + a.val) = Sn 32 (a.val * 2 ^ (28 - 4 * k.val)) := by decide +kernel
 have t0 := t 0 ⟨R / 268435456, by omega⟩
 have t1 := t 1 ⟨R / 16777216 % 16, by omega⟩
 have t2 := t 2 ⟨R / 1048576 % 16, by omega⟩
 have t3 := t 3 ⟨R / 65536 % 16, by omega⟩
 have t4 := t 4 ⟨R / 4096 % 16, by omega⟩
 have t5 := t 5 ⟨R / 256 % 16, by omega⟩
 have t6 := t 6 ⟨R / 16 % 16, by omega⟩
 have t7 := t 7 ⟨R % 16, by omega⟩
 simp only [Fin.isValue, show (0 : Fin 8).val = 0 from rfl, show (1 : Fin 8).val = 1 from rfl, show (2 : Fin 8).val = 2 from rfl, show (3 : Fin 8).val = 3 from rfl, show (4 : Fin 8).val = 4 from rfl, show (5 : Fin 8).val = 5 from rfl, show (6 : Fin 8).val = 6 from rfl, show (7 : Fin 8).val = 7 from rfl, Nat.mul_zero, Nat.zero_add, Nat.reduceMul, Nat.reduceSub, Nat.pow_zero, Nat.mul_one] at t0 t1 t2 t3 t4 t5 t6 t7
 conv => rhs; rw [e, Sn_xor, Sn_xor, Sn_xor, Sn_xor, Sn_xor, Sn_xor, Sn_xor]
 unfold sh
 rw [t0, t1, t2, t3, t4, t5, t6, t7]
 exact xor8 _ _ _ _ _ _ _ _
def cr (r : Nat) (l : List Nat) : Nat := l.foldl (fun r c => Sn 8 (r ^^^ c)) r
theorem tk1_eq (r : Nat) (l : List Nat) : tk1 r l = cr r l := by
 unfold tk1 cr
 congr 1
 funext r c
 exact tb_eq _
theorem four_eq (r a b c d : Nat) (hr : r < 4294967296) (ha : a < 256) (hb : b < 256) (hc : c < 256) (hd : d < 256) : sh (r ^^^ (a ||| b * 256 ||| c * 65536 ||| d * 16777216)) = cr r [a, b, c, d] := by
 have o : (a ||| b * 256 ||| c * 65536 ||| d * 16777216) = a ^^^ (b * 2 ^ 8 ^^^ (c * 2 ^ 16 ^^^ d * 2 ^ 24)) := by
  have h1 : a ||| b * 256 = b * 2 ^ 8 + a := by rw [Nat.or_comm, show b * 256 = 2 ^ 8 * b by omega, ← Nat.two_pow_add_eq_or_of_lt (by omega)]
  have h2 : (b * 2 ^ 8 + a) ||| c * 65536 = c * 2 ^ 16 + (b * 2 ^ 8 + a) := by rw [Nat.or_comm, show c * 65536 = 2 ^ 16 * c by omega, ← Nat.two_pow_add_eq_or_of_lt (by omega)]
  have h3 : (c * 2 ^ 16 + (b * 2 ^ 8 + a)) ||| d * 16777216 = d * 2 ^ 24 + (c * 2 ^ 16 + (b * 2 ^ 8 + a)) := by rw [Nat.or_comm, show d * 16777216 = 2 ^ 24 * d by omega, ← Nat.two_pow_add_eq_or_of_lt (by omega)]
  rw [h1, h2, h3, split_add d _ 24 (by omega), split_add c _ 16 (by omega), split_add b _ 8 (by omega), Nat.xor_comm (d * 2 ^ 24), Nat.xor_comm (c * 2 ^ 16), Nat.xor_comm (b * 2 ^ 8), Nat.xor_assoc, Nat.xor_assoc]
 have hor : (a ||| b * 256 ||| c * 65536 ||| d * 16777216) < 4294967296 := Nat.or_lt_two_pow (n := 32) (Nat.or_lt_two_pow (n := 32) (Nat.or_lt_two_pow (n := 32) (by omega) (by omega)) (by omega)) (by omega)
 rw [sh_eq _ (xor32 hr hor), o]
 show _ = Sn 8 (Sn 8 (Sn 8 (Sn 8 (r ^^^ a) ^^^ b) ^^^ c) ^^^ d)
 rw [← Nat.xor_assoc r a, show (32 : Nat) = 8 + (8 + (8 + 8)) from rfl, Sn_add, Sn_add, Sn_add]
 rw [Sn_xor 8 (r ^^^ a), Sn_xor 8 (b * 2 ^ 8), Sn_shift, Sn_xor 8 (c * 2 ^ 16), show c * 2 ^ 16 = (c * 2 ^ 8) * 2 ^ 8 by omega, Sn_shift, show d * 2 ^ 24 = (d * 2 ^ 16) * 2 ^ 8 by omega, Sn_shift]
 rw [← Nat.xor_assoc, Sn_xor 8 (Sn 8 (r ^^^ a) ^^^ b), Sn_xor 8 (c * 2 ^ 8), Sn_shift, show d * 2 ^ 16 = (d * 2 ^ 8) * 2 ^ 8 by omega, Sn_shift]
 rw [← Nat.xor_assoc, Sn_xor 8 (Sn 8 (Sn 8 (r ^^^ a) ^^^ b) ^^^ c), Sn_shift]
theorem cr_lt : ∀ (l : List Nat) (r : Nat), r < 4294967296 → (∀ x ∈ l, x < 256) → cr r l < 4294967296
 | [], _, h, _ => h
 | c :: l, r, h, hl => cr_lt l _ (Sn_lt 8 (xor32 h (by have := hl c (by simp); omega))) (fun x hx => hl x (by simp [hx]))
theorem cr_append (r : Nat) (a b : List Nat) : cr r (a ++ b) = cr (cr r a) b := by simp [cr]
theorem tk_eq : ∀ (l : List Nat) (r : Nat), r < 4294967296 → (∀ x ∈ l, x < 256) → tk l r = cr r l
 | [], _, _, _ => rfl
 | [a], r, _, _ => tk1_eq r [a]
 | [a, b], r, _, _ => tk1_eq r [a, b]
 | [a, b, c], r, _, _ => tk1_eq r [a, b, c]
 | a :: b :: c :: d :: l, r, hr, hl => by
  show tk l (sh _) = _
  rw [four_eq r a b c d hr (hl a (by simp)) (hl b (by simp)) (hl c (by simp)) (hl d (by simp)), tk_eq l _ (cr_lt _ _ hr (fun x hx => hl x (by simp at hx ⊢; omega))) (fun x hx => hl x (by simp [hx])), ← cr_append]
  rfl
end Go.Proofs.YtjpmfgoodcldcaaGreatDoor

namespace Go.Proofs.YtjpmfgoodcldcaaGreatDoor
set_option maxRecDepth 100000
theorem rdB_acc (l : List Int) : ∀ acc : Int, l.foldl (fun n c => n * 256 + c) acc = acc * 256 ^ l.length + rdB l := by
 induction l with
 | nil => intro acc; simp [rdB]
 | cons c l ih =>
  intro acc
  have h : rdB (c :: l) = c * 256 ^ l.length + rdB l := by
   show l.foldl _ (0 * 256 + c) = _
   rw [ih]
   simp
  rw [List.foldl_cons, ih, h, List.length_cons, Int.pow_succ, Int.add_mul, Int.mul_assoc, Int.mul_comm 256 (256 ^ l.length)]
  omega
theorem rdB_cons (c : Int) (l : List Int) : rdB (c :: l) = c * 256 ^ l.length + rdB l := by
 show l.foldl _ (0 * 256 + c) = _
 rw [rdB_acc]
 simp
theorem rdB_fB (w : Nat) (n : Int) (h : 0 ≤ n) : rdB (fB w n) = n % 256 ^ w := by
 induction w with
 | zero => simp [fB, rdB, Int.emod_one]
 | succ w ih =>
  rw [fB, rdB_cons, ih, fB_length]
  obtain ⟨N, rfl⟩ := Int.eq_ofNat_of_zero_le h
  have e : N % (256 ^ w * 256) = N % 256 ^ w + 256 ^ w * (N / 256 ^ w % 256) := Nat.mod_mul
  generalize hP : (256 : Nat) ^ w = P at *
  have hP2 : (256 : Int) ^ w = (P : Int) := by rw [← hP]; simp
  rw [Int.pow_succ, hP2]
  have e2 : (N : Int) % ((P : Int) * 256) = ((N % (P * 256) : Nat) : Int) := by simp
  rw [e2, e]
  rw [Int.natCast_add, Int.natCast_mul, Int.mul_comm]
  simp only [Int.natCast_emod, Int.natCast_ediv]
  rw [Int.add_comm]
  rfl
end Go.Proofs.YtjpmfgoodcldcaaGreatDoor

namespace Go.Proofs.YtjpmfgoodcldcaaGreatDoor
set_option maxRecDepth 100000
open Go.RowKit
theorem own_of_heap {w : World} {B g : Nat} {l : List Int} (h : w.heap[g]? = some (.cells (By l).toArray 5 (0, 0))) (hB : B ≤ g) (hl : l.length ≤ maxLen) : OwnB w B (.slice (some ⟨g, 0, none⟩) l.length l.length) l :=
 ⟨by simp [By], .inr ⟨g, l.length, (By l).toArray, rfl, hB, h, Nat.le_refl _, hl, by simp [By], List.take_of_length_le (by simp [By])⟩⟩
end Go.Proofs.YtjpmfgoodcldcaaGreatDoor

namespace Go.Proofs.YtjpmfgoodcldcaaGreatDoor
set_option maxRecDepth 100000
open Go.RowKit
theorem Sl.drewN {w : World} {ao : Option Addr} {n cap : Nat} {l : List Int} (h : Sl w ao n cap l) (q : Nat) : Sl (w.drewN q) ao n cap l := by
 refine ⟨h.hlen, h.hcap, h.hroom, h.wf, h.hnil, ?_⟩
 rcases h.hat with h0 | ⟨b, off, e, hlt, hc⟩
 ·exact .inl h0
 ·exact .inr ⟨b, off, e, by simpa using hlt, fun i hi => by simpa using hc i hi⟩
end Go.Proofs.YtjpmfgoodcldcaaGreatDoor

namespace Go.Proofs.YtjpmfgoodcldcaaGreatDoor
set_option maxRecDepth 100000
open Go.RowKit
structure SlS (w : World) (ao : Option Addr) (n cap : Nat) (ls : List (List Int)) : Prop where
 hlen : ls.length = n
 hcap : n ≤ cap
 hroom : n ≤ 140737488355328
 hnil : ao = none → cap = 0
 hat : n = 0 ∨ ∃ b off, ao = some ⟨b, off, none⟩ ∧ b < w.heap.size ∧ ∀ i, i < n → ∃ a m c, w.cell? ⟨b, off + i, none⟩ = some (.slice a m c) ∧ Sl w a m c (ls.getD i [])
def sumN (ls : List (List Int)) : Nat := 4294967295 ^^^ ls.foldl (fun r l => tk (l.map Int.toNat) r) 4294967295
theorem tk1_lt : ∀ (l : List Nat) (r : Nat), r < 4294967296 → (∀ x ∈ l, x < 256) → tk1 r l < 4294967296
 | [], _, h, _ => h
 | c :: l, r, h, hl => by
  show tk1 (tb (r ^^^ c)) l < _
  exact tk1_lt l _ (tb_lt (xor32 h (by have := hl c (by simp); omega))) (fun x hx => hl x (by simp [hx]))
theorem tk_lt : ∀ (l : List Nat) (r : Nat), r < 4294967296 → (∀ x ∈ l, x < 256) → tk l r < 4294967296
 | [], _, h, _ => h
 | [a], r, h, hl => tk1_lt [a] r h hl
 | [a, b], r, h, hl => tk1_lt [a, b] r h hl
 | [a, b, c], r, h, hl => tk1_lt [a, b, c] r h hl
 | a :: b :: c :: d :: l, r, _, hl => by
  show tk l (sh _) < _
  exact tk_lt l _ (sh_lt _) (fun x hx => hl x (by simp [hx]))
theorem nat_lt (l : List Int) (h : Wf l) : ∀ x ∈ l.map Int.toNat, x < 256 := by
 intro x hx
 obtain ⟨y, hy, rfl⟩ := List.mem_map.1 hx
 have := h y hy
 omega
theorem dropS (ls : List (List Int)) (k : Nat) (h : k < ls.length) : ls.drop k = ls.getD k [] :: ls.drop (k + 1) := by
 rw [List.drop_eq_getElem_cons h]
 simp [List.getD, List.getElem?_eq_getElem h]
set_option maxHeartbeats 1000000 in
theorem sum_any (ao : Option Addr) (n cap : Nat) (ls : List (List Int)) (w : World) (hs : SlS w ao n cap ls) (ht : Tab w) :
  Calls Tryz.prog 108 #[.slice ao n cap] w fun e w' => e = .returned (.int .u32 (sumN ls)) ∧ ∃ q, w' = w.drewN q := by
 have HT := hidden ht
 clear ht
 obtain ⟨hlen, hcap, hroom, hnil, hat⟩ := hs
 unfold sumN
 generalize hF : ls.foldl (fun r l => tk (l.map Int.toNat) r) 4294967295 = F
 have HF := hidden hF
 clear hF
 go_enter Tryz.func108, Tryz.ntmps108
 go_wp2_with fail
 go_loopw [3, 8] (fun v i wr => ∃ (k q y : Nat), k ≤ n ∧ i = .int .i64 k ∧ v = .int .u32 y ∧ y < 4294967296 ∧ Hid ((ls.drop k).foldl (fun r l => tk (l.map Int.toNat) r) y = F) ∧ wr = w.drewN q) (fun _ i _ => n - (intOf i).toNat)
 case atStart => exact ⟨0, 0, 4294967295, by omega, rfl, rfl, by omega, HF, rfl⟩
 case round =>
  obtain ⟨k, q, y, hk, rfl, rfl, hy, HK, rfl⟩ := hrel
  clear HF
  by_cases hlt : k < n
  ·rcases hat with h | ⟨b, off, rfl, hbb, hc⟩
   ·omega
   obtain ⟨a, m, c, hck, hsl⟩ := hc k hlt
   clear hc
   have hT := taken_any a m c (ls.getD k []) y (w.drewN q) (hsl.drewN q) (HT.out.drewN q) hy
   have hlt2 := tk_lt _ y hy (nat_lt _ hsl.wf)
   have e := HK.out
   rw [dropS ls k (by omega), List.foldl_cons] at e
   clear HK hsl
   generalize tk ((ls.getD k []).map Int.toNat) y = y2 at *
   have HT2 := hidden hT
   have HE := hidden e
   clear hT e
   go_wp2_with fail
   refine quiet_call' HT2.out ?_
   intro q2
   go_wp2
   go_roundw
   case rel => exact ⟨k + 1, _, y2, by omega, by go_num, rfl, hlt2, HE, rfl⟩
   case measure => simp [intOf]; omega
  ·have e : F = y := by
    rw [← HK.out, List.drop_eq_nil_of_le (by omega)]
    rfl
   have HE := hidden e
   have hx := u32_xor_nat 4294967295 y (by omega) hy
   have HX := hidden hx
   have hsg : IntKind.u32.signed = false := rfl
   clear e HK hx
   go_wp2
   go_ret
   exact ⟨ret_int (by rw [HE.out]; exact HX.out), _, rfl⟩
end Go.Proofs.YtjpmfgoodcldcaaGreatDoor
