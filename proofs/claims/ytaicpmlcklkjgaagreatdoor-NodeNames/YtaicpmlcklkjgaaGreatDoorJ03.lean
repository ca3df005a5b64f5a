/- What was written is read. -/
import Derived.Test.YtaicpmlcklkjgaaGreatDoorJ01
import Derived.Laws.CopyOwn
import Derived.Deep.QuietTactic
import Derived.BigQuiet
import Derived.WalkSmall
import Derived.Test.YtaicpmlcklkjgaaGreatDoorJ02
namespace Go.Proofs.YtaicpmlcklkjgaaGreatDoor

set_option maxRecDepth 100000 in
theorem rdB_acc (l : List Int) : ∀ acc : Int, l.foldl (fun n c => n * 256 + c) acc = acc * 256 ^ l.length + rdB l := by
  induction l with
  | nil => intro acc; simp [rdB]
  | cons c l ih =>
    intro acc
    have h : rdB (c :: l) = c * 256 ^ l.length + rdB l := by
      show l.foldl _ (0 * 256 + c) = _
      rw [ih]
      simp
    rw [List.foldl_cons, ih, h, List.length_cons, Int.pow_succ, Int.add_mul, Int.mul_assoc, Int.mul_comm 256 (256 ^ l.length)]
    omega
set_option maxRecDepth 100000 in
theorem rdB_cons (c : Int) (l : List Int) : rdB (c :: l) = c * 256 ^ l.length + rdB l := by
  show l.foldl _ (0 * 256 + c) = _
  rw [rdB_acc]
  simp
set_option maxRecDepth 100000 in
theorem rdB_fB (w : Nat) (n : Int) (h : 0 ≤ n) : rdB (fB w n) = n % 256 ^ w := by
  induction w with
  | zero => simp [fB, rdB, Int.emod_one]
  | succ w ih =>
    rw [fB, rdB_cons, ih, fB_length]
    obtain ⟨N, rfl⟩ := Int.eq_ofNat_of_zero_le h
    have e : N % (256 ^ w * 256) = N % 256 ^ w + 256 ^ w * (N / 256 ^ w % 256) := Nat.mod_mul
    generalize hP : (256 : Nat) ^ w = P at *
    have hP2 : (256 : Int) ^ w = (P : Int) := by rw [← hP]; simp
    rw [Int.pow_succ, hP2]
    have e2 : (N : Int) % ((P : Int) * 256) = ((N % (P * 256) : Nat) : Int) := by simp
    rw [e2, e]
    rw [Int.natCast_add, Int.natCast_mul, Int.mul_comm]
    simp only [Int.natCast_emod, Int.natCast_ediv]
    rw [Int.add_comm]
    rfl
set_option maxRecDepth 100000 in
theorem rU_back (p : Int) (rest : List Int) : ∀ (k : Nat) (m : Int) (i : Nat) (acc : Int), m < 2 ^ k → 0 ≤ m → 0 ≤ acc → acc + m * 128 ^ i < 18446744073709551616 → (0 < i → 0 < m) → i ≤ 9 →
    rU p (uB m ++ rest) i acc = (acc + m * 128 ^ i, p + i + (uB m).length, 0) := by
  intro k
  induction k with
  | zero =>
    intro m i acc hk h0 ha hb hi hi9
    obtain rfl : m = 0 := by simp at hk; omega
    obtain rfl : i = 0 := by
      rcases Nat.eq_zero_or_pos i with h | h
      · exact h
      · have := hi h; omega
    rw [uB_small (by omega)]
    simp [rU]
  | succ k ih =>
    intro m i acc hk h0 ha hb hi hi9
    have hpos : (0 : Int) < 128 ^ i := Int.pow_pos (by omega)
    by_cases hm : m < 128
    · rw [uB_small hm, List.singleton_append, rU]
      have h9 : ¬ (i = 9 ∧ 1 < m) := by
        rintro ⟨rfl, h1⟩
        simp at hb
        omega
      rw [if_neg h9, if_neg (by omega), if_neg (by intro h; have := hi h.2; omega)]
      simp
    · have hmlt : m < 18446744073709551616 := by
        have h1 : m ≤ m * 128 ^ i := by
          have := Int.mul_le_mul_of_nonneg_left (show (1 : Int) ≤ 128 ^ i by omega) h0
          omega
        omega
      have h9 : i < 9 := by
        rcases Nat.lt_or_ge i 9 with h | h
        · exact h
        · obtain rfl : i = 9 := by omega
          simp at hb
          omega
      rw [uB_step hm hmlt, List.cons_append, rU, if_neg (by omega), if_pos (by omega)]
      have e : acc + (m % 128 + 128 - 128) * 128 ^ i + m / 128 * 128 ^ (i + 1) = acc + m * 128 ^ i := by
        rw [Int.pow_succ, Int.mul_comm (128 ^ i) 128, ← Int.mul_assoc]
        have : m * 128 ^ i = (m % 128 + m / 128 * 128) * 128 ^ i := by rw [show m % 128 + m / 128 * 128 = m by omega]
        rw [this, Int.add_mul]
        have e3 : m % 128 + 128 - 128 = m % 128 := by omega
        rw [e3]
        omega
      have hd : 0 ≤ (m % 128 + 128 - 128) * 128 ^ i := Int.mul_nonneg (by omega) (Int.le_of_lt hpos)
      rw [ih (m / 128) (i + 1) _ (by rw [Int.pow_succ] at hk; omega) (by omega) (by omega) (by rw [e]; exact hb) (fun _ => by omega) (by omega), e]
      simp only [List.length_cons]
      push_cast
      rw [show p + (i + 1) + ((uB (m / 128)).length : Int) = p + i + ((uB (m / 128)).length + 1) by omega]
set_option maxRecDepth 100000 in
theorem rU_uB (p n : Int) (rest : List Int) (h0 : 0 ≤ n) (h : n < 18446744073709551616) : rU p (uB n ++ rest) 0 0 = (n, p + (uB n).length, 0) := by
  have := rU_back p rest 64 n 0 0 (by simp; omega) h0 (by omega) (by simp; omega) (fun h => by omega) (by omega)
  simpa using this
end Go.Proofs.YtaicpmlcklkjgaaGreatDoor

/- ink.alike counts the bytes that two texts begin with alike; cloned copies bytes into memory of its own. -/

namespace Go.Proofs.YtaicpmlcklkjgaaGreatDoor
open Go.RowKit

set_option maxRecDepth 100000 in
theorem own_of_heap {w : World} {B g : Nat} {l : List Int} (h : w.heap[g]? = some (.cells (By l).toArray 5 (0, 0))) (hB : B ≤ g) (hl : l.length ≤ maxLen) : OwnB w B (.slice (some ⟨g, 0, none⟩) l.length l.length) l :=
  ⟨by simp [By], .inr ⟨g, l.length, (By l).toArray, rfl, hB, h, Nat.le_refl _, hl, by simp [By], List.take_of_length_le (by simp [By])⟩⟩
end Go.Proofs.YtaicpmlcklkjgaaGreatDoor

/- ink.Between and ink.Behind. -/

namespace Go.Proofs.YtaicpmlcklkjgaaGreatDoor
open Go.RowKit

set_option maxRecDepth 100000 in
theorem Sl.take {w : World} {ao : Option Addr} {n cap : Nat} {l : List Int} (h : Sl w ao n cap l) (k : Nat) (hk : k ≤ n) : Sl w ao k cap (l.take k) := by
  obtain ⟨hlen, hcap, hroom, hwf, hnil, hat⟩ := h
  refine ⟨by simp; omega, by omega, by omega, hwf.take k, hnil, ?_⟩
  rcases hat with h0 | ⟨b, off, e, hlt, hc⟩
  · exact .inl (by omega)
  · refine .inr ⟨b, off, e, hlt, fun i hi => ?_⟩
    rw [hc i (by omega)]
    simp [List.getD, hi]
set_option maxRecDepth 100000 in
theorem Sl.drewN {w : World} {ao : Option Addr} {n cap : Nat} {l : List Int} (h : Sl w ao n cap l) (q : Nat) : Sl (w.drewN q) ao n cap l := by
  refine ⟨h.hlen, h.hcap, h.hroom, h.wf, h.hnil, ?_⟩
  rcases h.hat with h0 | ⟨b, off, e, hlt, hc⟩
  · exact .inl h0
  · exact .inr ⟨b, off, e, by simpa using hlt, fun i hi => by simpa using hc i hi⟩
end Go.Proofs.YtaicpmlcklkjgaaGreatDoor

/- ink.Sum, followed as its text goes. -/

namespace Go.Proofs.YtaicpmlcklkjgaaGreatDoor
open Go.RowKit

/-- A slice of slices of bytes. -/
structure SlS (w : World) (ao : Option Addr) (n cap : Nat) (ls : List (List Int)) : Prop where
  hlen : ls.length = n
  hcap : n ≤ cap
  hroom : n ≤ 140737488355328
  hnil : ao = none → cap = 0
  hat : n = 0 ∨ ∃ b off, ao = some ⟨b, off, none⟩ ∧ b < w.heap.size ∧ ∀ i, i < n → ∃ a m c, w.cell? ⟨b, off + i, none⟩ = some (.slice a m c) ∧ Sl w a m c (ls.getD i [])
/-- What Sum comes to. -/
def sumN (ls : List (List Int)) : Nat := 4294967295 ^^^ ls.foldl (fun r l => tk (l.map Int.toNat) r) 4294967295
set_option maxRecDepth 100000 in
theorem tk1_lt : ∀ (l : List Nat) (r : Nat), r < 4294967296 → (∀ x ∈ l, x < 256) → tk1 r l < 4294967296
  | [], _, h, _ => h
  | c :: l, r, h, hl => by
    show tk1 (tb (r ^^^ c)) l < _
    exact tk1_lt l _ (tb_lt (xor32 h (by have := hl c (by simp); omega))) (fun x hx => hl x (by simp [hx]))
set_option maxRecDepth 100000 in
theorem tk_lt : ∀ (l : List Nat) (r : Nat), r < 4294967296 → (∀ x ∈ l, x < 256) → tk l r < 4294967296
  | [], _, h, _ => h
  | [a], r, h, hl => tk1_lt [a] r h hl
  | [a, b], r, h, hl => tk1_lt [a, b] r h hl
  | [a, b, c], r, h, hl => tk1_lt [a, b, c] r h hl
  | a :: b :: c :: d :: l, r, _, hl => by
    show tk l (sh _) < _
    exact tk_lt l _ (sh_lt _) (fun x hx => hl x (by simp [hx]))
set_option maxRecDepth 100000 in
theorem nat_lt (l : List Int) (h : Wf l) : ∀ x ∈ l.map Int.toNat, x < 256 := by
  intro x hx
  obtain ⟨y, hy, rfl⟩ := List.mem_map.1 hx
  have := h y hy
  omega
set_option maxRecDepth 100000 in
theorem dropS (ls : List (List Int)) (k : Nat) (h : k < ls.length) : ls.drop k = ls.getD k [] :: ls.drop (k + 1) := by
  rw [List.drop_eq_getElem_cons h]
  simp [List.getD, List.getElem?_eq_getElem h]
set_option maxRecDepth 100000 in
set_option maxHeartbeats 1000000 in
theorem sum_any (ao : Option Addr) (n cap : Nat) (ls : List (List Int)) (w : World) (hs : SlS w ao n cap ls) (ht : Tab w) :
    Calls Tryz.prog 191 #[.slice ao n cap] w fun e w' => e = .returned (.int .u32 (sumN ls)) ∧ ∃ q, w' = w.drewN q := by
  have HT := hidden ht
  clear ht
  obtain ⟨hlen, hcap, hroom, hnil, hat⟩ := hs
  unfold sumN
  generalize hF : ls.foldl (fun r l => tk (l.map Int.toNat) r) 4294967295 = F
  have HF := hidden hF
  clear hF
  go_enter Tryz.func191, Tryz.ntmps191
  go_wp2_with fail
  go_loopw [3, 8] (fun v i wr => ∃ (k q y : Nat), k ≤ n ∧ i = .int .i64 k ∧ v = .int .u32 y ∧ y < 4294967296 ∧ Hid ((ls.drop k).foldl (fun r l => tk (l.map Int.toNat) r) y = F) ∧ wr = w.drewN q) (fun _ i _ => n - (intOf i).toNat)
  case atStart => exact ⟨0, 0, 4294967295, by omega, rfl, rfl, by omega, HF, rfl⟩
  case round =>
    obtain ⟨k, q, y, hk, rfl, rfl, hy, HK, rfl⟩ := hrel
    clear HF
    by_cases hlt : k < n
    · rcases hat with h | ⟨b, off, rfl, hbb, hc⟩
      · omega
      obtain ⟨a, m, c, hck, hsl⟩ := hc k hlt
      clear hc
      have hT := taken_any a m c (ls.getD k []) y (w.drewN q) (hsl.drewN q) (HT.out.drewN q) hy
      have hlt2 := tk_lt _ y hy (nat_lt _ hsl.wf)
      have e := HK.out
      rw [dropS ls k (by omega), List.foldl_cons] at e
      clear HK hsl
      generalize tk ((ls.getD k []).map Int.toNat) y = y2 at *
      have HT2 := hidden hT
      have HE := hidden e
      clear hT e
      go_wp2_with fail
      refine quiet_call' HT2.out ?_
      intro q2
      go_wp2
      go_roundw
      case rel => exact ⟨k + 1, _, y2, by omega, by go_num, rfl, hlt2, HE, rfl⟩
      case measure => simp [intOf]; omega
    · have e : F = y := by
        rw [← HK.out, List.drop_eq_nil_of_le (by omega)]
        rfl
      have HE := hidden e
      have hx := u32_xor_nat 4294967295 y (by omega) hy
      have HX := hidden hx
      have hsg : IntKind.u32.signed = false := rfl
      clear e HK hx
      go_wp2
      go_ret
      exact ⟨ret_int (by rw [HE.out]; exact HX.out), _, rfl⟩
end Go.Proofs.YtaicpmlcklkjgaaGreatDoor
