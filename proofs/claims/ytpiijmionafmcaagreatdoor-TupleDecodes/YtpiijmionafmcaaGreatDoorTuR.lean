/- tuple's readers of what stands behind an item's first byte: an Int, a Float. -/
import Derived.Test.YtpiijmionafmcaaGreatDoorEnc
import Derived.Laws.DeepNot64
namespace Go.Proofs.YtpiijmionafmcaaGreatDoor
open Go.RowKit

set_option maxRecDepth 100000 in
theorem xorOnesW (w m : Nat) (h : m < 2 ^ w) : m ^^^ (2 ^ w - 1) = 2 ^ w - 1 - m := by
  have e := congrArg BitVec.toNat (BitVec.xor_allOnes (x := BitVec.ofNat w m))
  rw [BitVec.toNat_xor, BitVec.toNat_not, BitVec.toNat_allOnes, BitVec.toNat_ofNat, Nat.mod_eq_of_lt h] at e
  exact e
set_option maxRecDepth 100000 in
theorem addSign (r : Nat) (h : r < 2 ^ 63) : (2 ^ 63 + r) ^^^ 2 ^ 63 = r := by
  apply Nat.eq_of_testBit_eq
  intro i
  rw [Nat.testBit_xor, Nat.testBit_two_pow]
  rcases Nat.lt_trichotomy i 63 with h1 | h1 | h1
  · rw [Nat.testBit_two_pow_add_gt h1]
    have : decide (63 = i) = false := by simp; omega
    simp [this]
  · subst h1
    rw [Nat.testBit_two_pow_add_eq, Nat.testBit_lt_two_pow h]
    simp
  · have h2 : r < 2 ^ i := Nat.lt_of_lt_of_le h (Nat.pow_le_pow_right (by omega) (by omega))
    have h3 : 2 ^ 63 + r < 2 ^ i := Nat.lt_of_lt_of_le (show 2 ^ 63 + r < 2 ^ 64 by omega) (Nat.pow_le_pow_right (by omega) (by omega))
    rw [Nat.testBit_lt_two_pow h2, Nat.testBit_lt_two_pow h3]
    simp; omega
set_option maxRecDepth 100000 in
theorem xorSign (m : Nat) (h0 : 9223372036854775808 ≤ m) (h : m < 18446744073709551616) : m ^^^ 9223372036854775808 = m - 9223372036854775808 := by
  have := addSign (m - 9223372036854775808) (by omega)
  rw [show (2:Nat) ^ 63 = 9223372036854775808 from rfl, show 9223372036854775808 + (m - 9223372036854775808) = m by omega] at this
  exact this

/-- The float that a rank tells of. -/
def fbt (r : Int) : Int := if r < 9223372036854775808 then -r - 1 else r - 9223372036854775808
set_option maxRecDepth 100000 in
theorem notRank (r : Int) (h0 : 0 ≤ r) (h1 : r < 9223372036854775808) : wrap64 (bits .xor .u64 IntKind.u64.max r) = -r - 1 := by
  rw [show IntKind.u64.max = 18446744073709551615 from rfl, u64_xor _ _ (by omega) (by omega) (by omega) (by omega)]
  rw [show (18446744073709551615 : Int).toNat = 18446744073709551615 from rfl, xorOnes _ (by omega)]
  unfold wrap64
  omega
set_option maxRecDepth 100000 in
theorem xorRank (r : Int) (h0 : 9223372036854775808 ≤ r) (h1 : r ≤ 18446744073709551615) : bits .xor .u64 r 9223372036854775808 = r - 9223372036854775808 := by
  rw [u64_xor _ _ (by omega) (by omega) (by omega) (by omega)]
  rw [show (9223372036854775808 : Int).toNat = 9223372036854775808 from rfl, xorSign _ (by omega) (by omega)]
  omega
set_option maxRecDepth 100000 in
theorem floatBits_any (r : Int) (w : World) (h0 : 0 ≤ r) (h1 : r ≤ 18446744073709551615) : Calls Tryz.prog 64 #[.int .u64 r] w fun e w' => e = .returned (.int .i64 (fbt r)) ∧ w' = w := by
  by_cases h : r < 9223372036854775808
  · have e := notRank r h0 h
    have e2 : fbt r = -r - 1 := by unfold fbt; rw [if_pos h]
    rw [e2]
    go_enter Tryz.func64, Tryz.ntmps64
    go_wp2
    go_ret
    exact ⟨rfl, rfl⟩
  · have e := xorRank r (by omega) h1
    have e2 : fbt r = r - 9223372036854775808 := by unfold fbt; rw [if_neg h]
    have e3 : IntKind.i64.wrap (r - 9223372036854775808) = r - 9223372036854775808 := by rw [IntKind.wrap_i64]; omega
    rw [e2]
    go_enter Tryz.func64, Tryz.ntmps64
    go_wp2
    go_ret
    exact ⟨rfl, rfl⟩
set_option maxRecDepth 100000 in
theorem numberOf_any (n : Int) (b : Bool) (w : World) (h0 : 0 ≤ n) (h1 : n ≤ 9223372036854775807) : Calls Tryz.prog 61 #[.int .u64 n, .bool b] w fun e w' => e = .returned (.int .i64 (if b then -n - 1 else n)) ∧ w' = w := by
  cases b
  · go_enter Tryz.func61, Tryz.ntmps61
    go_wp2
    go_ret
    exact ⟨rfl, rfl⟩
  · go_enter Tryz.func61, Tryz.ntmps61
    have e := i64_not n.toNat (by omega)
    rw [Int.toNat_of_nonneg h0] at e
    have e2 : -1 - n = -n - 1 := by omega
    go_wp2
    go_ret
    exact ⟨rfl, rfl⟩
/-- What the bytes from a place on say of a Float: its number, the place behind it, the error. -/
def rdF (r : List Int) (p : Int) : Int × Int × Int := if r.length < 8 then (0, 0, 21) else (fbt (rdB (r.take 8)), p + 8, 0)
set_option maxRecDepth 100000 in
theorem readFloat_any (ao : Option Addr) (n cap : Nat) (l : List Int) (p : Nat) (w : World) (hs : Sl w ao n cap l) (hp : p ≤ n) :
    Calls Tryz.prog 40 #[.slice ao n cap, .int .i64 (p : Int)] w fun e w' => e = .returned (.tuple #[.int .i64 (rdF (l.drop p) p).1, .int .i64 (rdF (l.drop p) p).2.1, .int .i64 (rdF (l.drop p) p).2.2]) ∧ w' = w := by
  have hlen := hs.hlen
  have hroom := hs.hroom
  have hcap := hs.hcap
  by_cases h : n - p < 8
  · have e : rdF (l.drop p) p = (0, 0, 21) := by unfold rdF; rw [if_pos (by simp; omega)]
    rw [e]
    have HF := hidden (readFixed_short ao n cap p 8 w (by omega) (by omega) (by omega) (by omega) (by omega))
    clear e hs
    go_enter Tryz.func40, Tryz.ntmps40
    go_wp2_with (first | (go_at_call 62; refine same_call HF.out ?_))
    go_ret3
    exact ⟨rfl, rfl⟩
  · have e : rdF (l.drop p) p = (fbt (rdB ((l.drop p).take 8)), (p : Int) + 8, 0) := by unfold rdF; rw [if_neg (by simp; omega)]
    rw [e]
    have HF := hidden (readFixed_ok ao n cap l p 8 w hs (by omega) (by omega) (by omega) (by omega))
    rw [Int.toNat_natCast, show (8 : Int).toNat = 8 from rfl] at HF
    have hb := rdB_bound ((l.drop p).take 8) (fun x hx => hs.wf x (List.mem_of_mem_drop (List.mem_of_mem_take hx)))
    rw [show ((l.drop p).take 8).length = 8 by simp; omega, show (256 : Int) ^ 8 = 18446744073709551616 by decide] at hb
    generalize rdB ((l.drop p).take 8) = r at *
    have HB := hidden (floatBits_any r w hb.1 (by omega))
    clear e hs hb
    generalize fbt r = f at *
    go_enter Tryz.func40, Tryz.ntmps40
    go_wp2_with (first | (go_at_call 62; refine same_call HF.out ?_) | (go_at_call 64; refine same_call HB.out ?_))
    go_ret3
    exact ⟨rfl, rfl⟩
/-- What the bytes from a place on say of an Int: its number, the place behind it, the error. -/
def rdI (r : List Int) (p : Int) : Int × Int × Int :=
  match r with
  | [] => (0, 0, 21)
  | c :: r =>
    let k : Nat := (if c < 128 then 127 - c else c - 128).toNat
    if k = 0 then (if c < 128 then -1 else 0, p + 1, 0)
    else if 8 < k ∨ r.length < k then (0, 0, 21)
    else
      let m := if c < 128 then 256 ^ k - 1 - rdB (r.take k) else rdB (r.take k)
      if 9223372036854775807 < m ∨ wd m ≠ k then (0, 0, 21)
      else (if c < 128 then -m - 1 else m, p + 1 + k, 0)
set_option maxRecDepth 100000 in
theorem rdI_b {c : Int} {k : Nat} (t : List Int) (p : Int) (hc : c < 128) (hk : 127 - c = (k : Int)) :
    rdI (c :: t) p = if k = 0 then (-1, p + 1, 0) else if 8 < k ∨ t.length < k then (0, 0, 21) else if 9223372036854775807 < 256 ^ k - 1 - rdB (t.take k) ∨ wd (256 ^ k - 1 - rdB (t.take k)) ≠ k then (0, 0, 21) else (-(256 ^ k - 1 - rdB (t.take k)) - 1, p + 1 + k, 0) := by
  unfold rdI
  simp only [if_pos hc, hk, Int.toNat_natCast]
set_option maxRecDepth 100000 in
theorem rdI_f {c : Int} {k : Nat} (t : List Int) (p : Int) (hc : ¬ c < 128) (hk : c - 128 = (k : Int)) :
    rdI (c :: t) p = if k = 0 then (0, p + 1, 0) else if 8 < k ∨ t.length < k then (0, 0, 21) else if 9223372036854775807 < rdB (t.take k) ∨ wd (rdB (t.take k)) ≠ k then (0, 0, 21) else (rdB (t.take k), p + 1 + k, 0) := by
  unfold rdI
  simp only [if_neg hc, hk, Int.toNat_natCast]
set_option maxRecDepth 100000 in
theorem getD_mem : ∀ (l : List Int) (p : Nat), p < l.length → l.getD p 0 ∈ l := by
  intro l p h
  rw [List.getD_eq_getElem?_getD, List.getElem?_eq_getElem h]
  exact List.getElem_mem h
set_option maxRecDepth 100000 in
theorem xorMask (k : Nat) (h1 : 1 ≤ k) (h8 : k ≤ 8) (r : Int) (h0 : 0 ≤ r) (hr : r < 256 ^ k) : bits .xor .u64 r (18446744073709551615 / 2 ^ (64 - 8 * k)) = 256 ^ k - 1 - r := by
  have e : (18446744073709551615 : Int) / 2 ^ (64 - 8 * k) = 256 ^ k - 1 := by
    have : k = 1 ∨ k = 2 ∨ k = 3 ∨ k = 4 ∨ k = 5 ∨ k = 6 ∨ k = 7 ∨ k = 8 := by omega
    rcases this with rfl | rfl | rfl | rfl | rfl | rfl | rfl | rfl <;> decide
  have p2 : (256 : Int) ^ k = ((2 ^ (8 * k) : Nat) : Int) := by rw [Nat.pow_mul]; simp
  have hle : (2 : Nat) ^ (8 * k) ≤ 2 ^ 64 := Nat.pow_le_pow_right (by omega) (by omega)
  have hpos : 1 ≤ (2 : Nat) ^ (8 * k) := Nat.one_le_two_pow
  rw [e, p2]
  rw [p2] at hr
  have hx := xorOnesW (8 * k) r.toNat (by omega)
  generalize (2 : Nat) ^ (8 * k) = P at *
  rw [u64_xor _ _ (by omega) (by omega) (by omega) (by omega)]
  rw [show ((P : Int) - 1).toNat = P - 1 by omega, hx]
  omega
set_option maxRecDepth 100000 in
theorem readFixed_bad (ao : Option Addr) (n cap p k : Nat) (w : World) (hk : k ≠ 0) (hp : p ≤ n) (h : 8 < k ∨ n - p < k) :
    ∃ e : Int, e ≠ 0 ∧ Calls Tryz.prog 62 #[.slice ao n cap, .int .i64 (p : Int), .int .i64 (k : Int)] w fun x w' => x = .returned (.tuple #[.int .u64 0, .int .i64 e]) ∧ w' = w := by
  have hk' := hk
  by_cases h8 : 8 < k
  · exact ⟨1, by omega, readFixed_arg ao n cap p k w (.inl (.inr (by omega)))⟩
  · exact ⟨10, by omega, readFixed_short ao n cap p k w (by omega) (by omega) (by omega) (by omega) (by omega)⟩
set_option maxRecDepth 100000 in
theorem readInt_any (ao : Option Addr) (n cap : Nat) (l : List Int) (p : Nat) (w : World) (hs : Sl w ao n cap l) (hp : p ≤ n) :
    Calls Tryz.prog 39 #[.slice ao n cap, .int .i64 (p : Int)] w fun e w' => e = .returned (.tuple #[.int .i64 (rdI (l.drop p) p).1, .int .i64 (rdI (l.drop p) p).2.1, .int .i64 (rdI (l.drop p) p).2.2]) ∧ w' = w := by
  have hlen := hs.hlen
  have hroom := hs.hroom
  have hcap := hs.hcap
  by_cases hpn : p < n
  · rcases hs.hat with h | ⟨b, off, rfl, hbb, hc⟩
    · omega
    have hck := hc p hpn
    have hc8 := hs.wf (l.getD p 0) (getD_mem l p (by omega))
    have HD := drop_cons l p (by omega)
    have hwr : Wf (l.drop (p + 1)) := fun x hx => hs.wf x (List.mem_of_mem_drop hx)
    have hrl : (l.drop (p + 1)).length = n - (p + 1) := by simp; omega
    rw [HD]
    generalize l.getD p 0 = c at *
    by_cases hcb : c < 128
    · obtain ⟨k, hk⟩ : ∃ k : Nat, 127 - c = (k : Int) := ⟨(127 - c).toNat, by omega⟩
      rw [rdI_b _ _ hcb hk]
      by_cases hk0 : k = 0
      · subst hk0
        have HN := hidden (numberOf_any 0 true w (by omega) (by omega))
        clear HD hwr hrl hc hs
        go_enter Tryz.func39, Tryz.ntmps39
        go_wp2_with (first | (go_at_call 61; refine same_call HN.out ?_))
        go_ret3
        exact ⟨rfl, rfl⟩
      · rw [if_neg hk0, hrl]
        by_cases hbad : 8 < k ∨ n - (p + 1) < k
        · rw [if_pos hbad]
          obtain ⟨e, he, HF'⟩ := readFixed_bad (some ⟨b, off, none⟩) n cap (p + 1) k w hk0 (by omega) hbad
          have HF := hidden HF'
          rw [show ((p + 1 : Nat) : Int) = (p : Int) + 1 by omega] at HF
          clear HF' HD hwr hrl hc hs
          go_enter Tryz.func39, Tryz.ntmps39
          go_wp2_with (first | (go_at_call 62; refine same_call HF.out ?_))
          go_ret3
          exact ⟨rfl, rfl⟩
        · rw [if_neg hbad]
          have HF := hidden (readFixed_ok (some ⟨b, off, none⟩) n cap l ((p : Int) + 1) k w hs (by omega) (by omega) (by omega) (by omega))
          rw [show ((p : Int) + 1).toNat = p + 1 by omega, Int.toNat_natCast] at HF
          have hrb := rdB_bound ((l.drop (p + 1)).take k) (fun x hx => hwr x (List.mem_of_mem_take hx))
          rw [show ((l.drop (p + 1)).take k).length = k by simp; omega] at hrb
          generalize rdB ((l.drop (p + 1)).take k) = r at *
          have hpw : (256 : Int) ^ k ≤ 18446744073709551616 := by
            have : k = 1 ∨ k = 2 ∨ k = 3 ∨ k = 4 ∨ k = 5 ∨ k = 6 ∨ k = 7 ∨ k = 8 := by omega
            rcases this with rfl | rfl | rfl | rfl | rfl | rfl | rfl | rfl <;> decide
          have ex := xorMask k (by omega) (by omega) r hrb.1 hrb.2
          obtain ⟨m, hm⟩ : ∃ m, (256 : Int) ^ k - 1 - r = m := ⟨_, rfl⟩
          have HM : Hid (0 ≤ m ∧ m ≤ 18446744073709551615) := hidden (by omega)
          rw [hm] at ex ⊢
          clear hm
          clear HD hwr hrl hc hs hrb hpw
          by_cases g1 : 9223372036854775807 < m
          · rw [if_pos (.inl g1)]
            have g1' : decide (9223372036854775807 < m) = true := by simp [g1]
            clear HM
            go_enter Tryz.func39, Tryz.ntmps39
            go_wp2_with (first | (go_at_call 62; refine same_call HF.out ?_))
            go_ret3
            exact ⟨rfl, rfl⟩
          · have g1' : decide (9223372036854775807 < m) = false := by simp; omega
            have HW := hidden (bytesOf_any m w HM.out.1 HM.out.2)
            have HN := hidden (numberOf_any m true w HM.out.1 (by omega))
            clear HM
            by_cases g2 : wd m = k
            · rw [if_neg (by rintro (h | h); exact g1 h; exact h g2)]
              rw [g2] at HW
              clear g2
              go_enter Tryz.func39, Tryz.ntmps39
              go_wp2_with (first | (go_at_call 62; refine same_call HF.out ?_) | (go_at_call 63; refine same_call HW.out ?_) | (go_at_call 61; refine same_call HN.out ?_))
              go_ret3
              exact ⟨rfl, rfl⟩
            · rw [if_pos (.inr g2)]
              generalize wd m = z at *
              have g3 : ((z : Int) == (k : Int)) = false := by simp; omega
              go_enter Tryz.func39, Tryz.ntmps39
              go_wp2_with (first | (go_at_call 62; refine same_call HF.out ?_) | (go_at_call 63; refine same_call HW.out ?_))
              go_ret3
              exact ⟨rfl, rfl⟩
    · obtain ⟨k, hk⟩ : ∃ k : Nat, c - 128 = (k : Int) := ⟨(c - 128).toNat, by omega⟩
      rw [rdI_f _ _ hcb hk]
      by_cases hk0 : k = 0
      · subst hk0
        have HN := hidden (numberOf_any 0 false w (by omega) (by omega))
        clear HD hwr hrl hc hs
        go_enter Tryz.func39, Tryz.ntmps39
        go_wp2_with (first | (go_at_call 61; refine same_call HN.out ?_))
        go_ret3
        exact ⟨rfl, rfl⟩
      · rw [if_neg hk0, hrl]
        by_cases hbad : 8 < k ∨ n - (p + 1) < k
        · rw [if_pos hbad]
          obtain ⟨e, he, HF'⟩ := readFixed_bad (some ⟨b, off, none⟩) n cap (p + 1) k w hk0 (by omega) hbad
          have HF := hidden HF'
          rw [show ((p + 1 : Nat) : Int) = (p : Int) + 1 by omega] at HF
          clear HF' HD hwr hrl hc hs
          go_enter Tryz.func39, Tryz.ntmps39
          go_wp2_with (first | (go_at_call 62; refine same_call HF.out ?_))
          go_ret3
          exact ⟨rfl, rfl⟩
        · rw [if_neg hbad]
          have HF := hidden (readFixed_ok (some ⟨b, off, none⟩) n cap l ((p : Int) + 1) k w hs (by omega) (by omega) (by omega) (by omega))
          rw [show ((p : Int) + 1).toNat = p + 1 by omega, Int.toNat_natCast] at HF
          have hrb := rdB_bound ((l.drop (p + 1)).take k) (fun x hx => hwr x (List.mem_of_mem_take hx))
          rw [show ((l.drop (p + 1)).take k).length = k by simp; omega] at hrb
          generalize rdB ((l.drop (p + 1)).take k) = r at *
          have hpw : (256 : Int) ^ k ≤ 18446744073709551616 := by
            have : k = 1 ∨ k = 2 ∨ k = 3 ∨ k = 4 ∨ k = 5 ∨ k = 6 ∨ k = 7 ∨ k = 8 := by omega
            rcases this with rfl | rfl | rfl | rfl | rfl | rfl | rfl | rfl <;> decide
          obtain ⟨m, rfl⟩ : ∃ m, m = r := ⟨_, rfl⟩
          have HM : Hid (0 ≤ m ∧ m ≤ 18446744073709551615) := hidden (by omega)
          clear HD hwr hrl hc hs hrb hpw
          by_cases g1 : 9223372036854775807 < m
          · rw [if_pos (.inl g1)]
            have g1' : decide (9223372036854775807 < m) = true := by simp [g1]
            clear HM
            go_enter Tryz.func39, Tryz.ntmps39
            go_wp2_with (first | (go_at_call 62; refine same_call HF.out ?_))
            go_ret3
            exact ⟨rfl, rfl⟩
          · have g1' : decide (9223372036854775807 < m) = false := by simp; omega
            have HW := hidden (bytesOf_any m w HM.out.1 HM.out.2)
            have HN := hidden (numberOf_any m false w HM.out.1 (by omega))
            clear HM
            by_cases g2 : wd m = k
            · rw [if_neg (by rintro (h | h); exact g1 h; exact h g2)]
              rw [g2] at HW
              clear g2
              go_enter Tryz.func39, Tryz.ntmps39
              go_wp2_with (first | (go_at_call 62; refine same_call HF.out ?_) | (go_at_call 63; refine same_call HW.out ?_) | (go_at_call 61; refine same_call HN.out ?_))
              go_ret3
              exact ⟨rfl, rfl⟩
            · rw [if_pos (.inr g2)]
              generalize wd m = z at *
              have g3 : ((z : Int) == (k : Int)) = false := by simp; omega
              go_enter Tryz.func39, Tryz.ntmps39
              go_wp2_with (first | (go_at_call 62; refine same_call HF.out ?_) | (go_at_call 63; refine same_call HW.out ?_))
              go_ret3
              exact ⟨rfl, rfl⟩
  · obtain rfl : p = n := by omega
    have e : l.drop p = [] := List.drop_eq_nil_of_le (by omega)
    rw [e]
    clear e hs
    go_enter Tryz.func39, Tryz.ntmps39
    go_wp2
    go_ret3
    exact ⟨rfl, rfl⟩
end Go.Proofs.YtpiijmionafmcaaGreatDoor
