/- Letters: the document's and the decoder's. -/
import Derived.Test.YtfdiflfjefhjfaaGreatDoorSmA
import Derived.Lib.ValidAsc
import Derived.Lib.DecodeN
namespace Go.Proofs.YtfdiflfjefhjfaaGreatDoor
open Go.RowKit Go.Lib

/-- How many bytes a letter takes at the begin of a text, 0: none. -/
def letN (n b0 b1 b2 b3 : Nat) : Nat := if (decodeN n b0 b1 b2 b3).1 = 65533 ∧ (decodeN n b0 b1 b2 b3).2 = 1 then 0 else (decodeN n b0 b1 b2 b3).2
def letT (t : ByteArray) : Nat := letN t.size (t.get! 0).toNat (t.get! 1).toNat (t.get! 2).toNat (t.get! 3).toNat
set_option maxRecDepth 100000 in
theorem letN_ascii (n b0 b1 b2 b3 : Nat) (h : b0 < 128) : letN n b0 b1 b2 b3 = 1 := by
  have : ¬ b0 = 65533 := by omega
  simp [letN, decodeN, h, this]
set_option maxRecDepth 100000 in
theorem letN_bad (n b0 b1 b2 b3 : Nat) (hb : b0 < 256) (h : 128 ≤ b0) (h2 : b0 < 194 ∨ 245 ≤ b0) (_ : b1 < 256) (_ : b2 < 256) (_ : b3 < 256) : letN n b0 b1 b2 b3 = 0 := by
  unfold letN decodeN
  repeat' split
  all_goals first | rfl | (exfalso; omega) | omega
set_option maxRecDepth 100000 in
theorem letN_two (n b0 b1 b2 b3 : Nat) (h : 194 ≤ b0) (h2 : b0 < 224) (h1 : b1 < 256) : letN n b0 b1 b2 b3 = if n < 2 then 0 else if b1 < 128 ∨ 191 < b1 then 0 else 2 := by
  unfold letN decodeN
  repeat' split
  all_goals first | rfl | (exfalso; omega) | omega
set_option maxRecDepth 100000 in
set_option maxHeartbeats 2000000 in
theorem letN_three (n b0 b1 b2 b3 : Nat) (h : 224 ≤ b0) (h2 : b0 < 240) (h1 : b1 < 256) (h3 : b2 < 256) : letN n b0 b1 b2 b3 = if n < 3 then 0 else if b1 < 128 ∨ 191 < b1 then 0 else if b2 < 128 ∨ 191 < b2 then 0 else
    if 64 * (64 * (b0 - 224) + b1 - 128) + b2 - 128 < 2048 ∨ 1114111 < 64 * (64 * (b0 - 224) + b1 - 128) + b2 - 128 ∨ (55296 ≤ 64 * (64 * (b0 - 224) + b1 - 128) + b2 - 128 ∧ 64 * (64 * (b0 - 224) + b1 - 128) + b2 - 128 ≤ 57343) then 0 else 3 := by
  unfold letN decodeN
  repeat' split
  all_goals first | rfl | (exfalso; omega) | omega
set_option maxRecDepth 100000 in
set_option maxHeartbeats 2000000 in
theorem letN_four (n b0 b1 b2 b3 : Nat) (h : 240 ≤ b0) (h2 : b0 < 245) (h1 : b1 < 256) (h3 : b2 < 256) (h4 : b3 < 256) : letN n b0 b1 b2 b3 = if n < 4 then 0 else if b1 < 128 ∨ 191 < b1 then 0 else if b2 < 128 ∨ 191 < b2 then 0 else if b3 < 128 ∨ 191 < b3 then 0 else
    if 64 * (64 * (64 * (b0 - 240) + b1 - 128) + b2 - 128) + b3 - 128 < 65536 ∨ 1114111 < 64 * (64 * (64 * (b0 - 240) + b1 - 128) + b2 - 128) + b3 - 128 ∨ (55296 ≤ 64 * (64 * (64 * (b0 - 240) + b1 - 128) + b2 - 128) + b3 - 128 ∧ 64 * (64 * (64 * (b0 - 240) + b1 - 128) + b2 - 128) + b3 - 128 ≤ 57343) then 0 else 4 := by
  unfold letN decodeN
  repeat' split
  all_goals first | rfl | (exfalso; omega) | omega
set_option maxRecDepth 100000 in
theorem decodeL_len (l : List UInt8) : 1 ≤ (decodeL l).2 := by
  unfold decodeL
  rw [decode_at]
  unfold decodeN
  repeat' split
  all_goals simp
set_option maxRecDepth 100000 in
theorem fuel : ∀ (n : Nat) (l : List UInt8), l.length ≤ n → validGoD n l = validD l
  | n, l, h => by
    unfold validD
    generalize hm : l.length = m at h ⊢
    induction m using Nat.strongRecOn generalizing n l with
    | _ m ih =>
      cases n with
      | zero => obtain rfl : m = 0 := by omega
                rfl
      | succ n =>
        cases m with
        | zero =>
          have : l = [] := List.eq_nil_of_length_eq_zero hm
          subst this
          simp [validGoD]
        | succ m =>
          have hd := decodeL_len l
          have hne : l ≠ [] := by rintro rfl; simp at hm
          unfold validGoD
          rw [if_neg hne, if_neg hne]
          by_cases e : (decodeL l).1 = 65533 ∧ (decodeL l).2 = 1
          · rw [if_pos e, if_pos e]
          · rw [if_neg e, if_neg e]
            have hl : (l.drop (decodeL l).2).length = m + 1 - (decodeL l).2 := by rw [List.length_drop, hm]
            rw [ih _ (by omega) n _ hl (by omega), ih _ (by omega) m _ hl (by omega)]
set_option maxRecDepth 100000 in
theorem valid_step (t : ByteArray) (i : Nat) (hi : i < t.size) : validD (t.data.toList.drop i) = if letT (t.extract i t.size) = 0 then false else validD (t.data.toList.drop (i + letT (t.extract i t.size))) := by
  have hlen : t.data.toList.length = t.size := Array.length_toList
  have hne : t.data.toList.drop i ≠ [] := by
    intro e
    have := congrArg List.length e
    rw [List.length_drop] at this
    simp at this
    omega
  have hdl : decodeL (t.data.toList.drop i) = decodeN (t.extract i t.size).size ((t.extract i t.size).get! 0).toNat ((t.extract i t.size).get! 1).toNat ((t.extract i t.size).get! 2).toNat ((t.extract i t.size).get! 3).toNat := by
    unfold decodeL
    rw [← ext_list]
    have e : (⟨(t.extract i t.size).data.toList.toArray⟩ : ByteArray) = t.extract i t.size := rfl
    rw [e, decode_at]
    rfl
  have hL : letT (t.extract i t.size) = if (decodeL (t.data.toList.drop i)).1 = 65533 ∧ (decodeL (t.data.toList.drop i)).2 = 1 then 0 else (decodeL (t.data.toList.drop i)).2 := by
    rw [hdl]
    rfl
  have h1 := decodeL_len (t.data.toList.drop i)
  obtain ⟨m, hm⟩ : ∃ m, (t.data.toList.drop i).length = m + 1 := ⟨(t.data.toList.drop i).length - 1, by rw [List.length_drop]; omega⟩
  conv => lhs; unfold validD; rw [hm]; unfold validGoD
  rw [if_neg hne]
  by_cases e : (decodeL (t.data.toList.drop i)).1 = 65533 ∧ (decodeL (t.data.toList.drop i)).2 = 1
  · rw [if_pos e] at hL ⊢
    rw [if_pos hL]
  · rw [if_neg e] at hL ⊢
    rw [if_neg (by omega), hL, List.drop_drop]
    refine fuel m _ ?_
    rw [List.length_drop] at hm ⊢
    omega
set_option maxRecDepth 100000 in
theorem letT_le (t : ByteArray) (h0 : 0 < t.size) : letT t ≤ t.size := by
  unfold letT letN decodeN
  repeat' split
  all_goals first | omega | (simp only; omega)
end Go.Proofs.YtfdiflfjefhjfaaGreatDoor
