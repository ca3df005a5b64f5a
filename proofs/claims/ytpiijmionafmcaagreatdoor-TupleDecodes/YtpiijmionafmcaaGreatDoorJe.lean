/- The document's ReadFixed (of RefReads, alone). -/
import Derived.Test.YtpiijmionafmcaaGreatDoorFixed
import Derived.Test.YtpiijmionafmcaaGreatDoorReadOrdered
import Derived.Test.YtpiijmionafmcaaGreatDoorSmA
import Derived.Lib.ValidAsc
import Derived.Lib.DecodeN
import Derived.Test.YtpiijmionafmcaaGreatDoorCheck
import Derived.Handy
namespace Go.Proofs.YtpiijmionafmcaaGreatDoor
open Go.RowKit

/-- What ReadFixed comes to. -/
def rF (l : List Int) (p x : Int) : Int × Int := if (x < 1 ∨ 8 < x) ∨ (p < 0 ∨ l.length < p) then (0, 1) else if (l.length : Int) - p < x then (0, 10) else (rdB ((l.drop p.toNat).take x.toNat), 0)
set_option maxRecDepth 100000 in
set_option maxHeartbeats 1000000 in
theorem refReadFixed_all (ao : Option Addr) (n cap : Nat) (l : List Int) (p' x : Int) (w : World) (hs : Sl w ao n cap l) :
    Calls Tryz.prog 43 #[.slice ao n cap, .int .i64 p', .int .i64 x] w fun e w' => e = .returned (.tuple #[.int .u64 (rF l p' x).1, .int .i64 (rF l p' x).2]) ∧ w' = w := by
  obtain ⟨hlen, hcap, hroom, hwf, hnil, hat⟩ := hs
  unfold rF
  by_cases h : (x < 1 ∨ 8 < x) ∨ (p' < 0 ∨ l.length < p')
  · rw [if_pos h]
    rw [hlen] at h
    rcases h with (h | h) | (h | h)
    · go_enter Tryz.func43, Tryz.ntmps43
      go_wp2
      go_ret2
      exact ⟨rfl, rfl⟩
    · have h' : ¬ x < 1 := by omega
      go_enter Tryz.func43, Tryz.ntmps43
      go_wp2
      go_ret2
      exact ⟨rfl, rfl⟩
    · by_cases h1 : x < 1
      · go_enter Tryz.func43, Tryz.ntmps43
        go_wp2
        go_ret2
        exact ⟨rfl, rfl⟩
      · by_cases h8 : 8 < x
        all_goals
          go_enter Tryz.func43, Tryz.ntmps43
          go_wp2
          go_ret2
          exact ⟨rfl, rfl⟩
    · by_cases h1 : x < 1
      · go_enter Tryz.func43, Tryz.ntmps43
        go_wp2
        go_ret2
        exact ⟨rfl, rfl⟩
      · have hp0 : ¬ p' < 0 := by omega
        by_cases h8 : 8 < x
        all_goals
          go_enter Tryz.func43, Tryz.ntmps43
          go_wp2
          go_ret2
          exact ⟨rfl, rfl⟩
  · rw [if_neg h]
    rw [hlen] at h ⊢
    have h1 : 1 ≤ x := by omega
    have h2 : x ≤ 8 := by omega
    have h3 : 0 ≤ p' := by omega
    have h4 : p' ≤ n := by omega
    clear h
    by_cases h5 : (n : Int) - p' < x
    · rw [if_pos h5]
      go_enter Tryz.func43, Tryz.ntmps43
      go_wp2
      go_ret2
      exact ⟨rfl, rfl⟩
    · rw [if_neg h5]
      obtain ⟨width, rfl⟩ := Int.eq_ofNat_of_zero_le (show 0 ≤ x by omega)
      obtain ⟨p, rfl⟩ := Int.eq_ofNat_of_zero_le h3
      rw [Int.toNat_natCast, Int.toNat_natCast]
      rcases hat with h | ⟨b, off, rfl, hb, hc⟩
      · omega
      have hd : ((l.drop p).take width).length = width := by simp; omega
      have hwd : Wf ((l.drop p).take width) := (hwf.drop p).take width
      go_enter Tryz.func43, Tryz.ntmps43
      go_wp2_with fail
      go_loop [8, 9] (fun v i => ∃ k : Nat, k ≤ width ∧ i = .int .i64 ((p : Int) + k) ∧ v = .int .u64 (rdB (((l.drop p).take width).take k))) (fun _ i => ((p : Int) + width - intOf i).toNat)
      case atStart => exact ⟨0, by omega, by simp, by simp [rdB]⟩
      case round =>
        obtain ⟨k, hk, rfl, rfl⟩ := hrel
        by_cases hlt : k < width
        · have hck : w.cell? ⟨b, off + (p + k), none⟩ = some (.int .u8 (((l.drop p).take width).getD k 0)) := by
            rw [hc (p + k) (by omega)]
            simp [List.getD, hlt]
          have hby := hwd.getD k
          have hsm := rdB_small _ (hwd.take k) k (by omega) (by simp; omega)
          have hsn : rdB (((l.drop p).take width).take (k + 1)) = rdB (((l.drop p).take width).take k) * 256 + ((l.drop p).take width).getD k 0 := by
            rw [take_snoc _ k (by omega), rdB_snoc]
          generalize ((l.drop p).take width).getD k 0 = c at *
          generalize rdB (((l.drop p).take width).take k) = m at *
          have HS := hidden hsn
          clear hsn hc
          go_wp2
          go_round
          case rel => exact ⟨k + 1, by omega, by go_num, by rw [HS.out, Int.mul_comm m 256]⟩
          case measure => simp [intOf]; omega
        · obtain rfl : k = width := by omega
          have ht : ((l.drop p).take k).take k = (l.drop p).take k := List.take_of_length_le (by omega)
          go_wp2
          go_ret2
          exact ⟨rfl, rfl⟩

end Go.Proofs.YtpiijmionafmcaaGreatDoor

/- The document's ReadOrdered (of RefReads3, alone). -/

namespace Go.Proofs.YtpiijmionafmcaaGreatDoor
open Go.RowKit

/-- What ReadOrdered comes to. -/
def rOx (l : List Int) (p : Int) : List Int × Int × Int := if p < 0 ∨ l.length < p then ([], 0, 1) else rO (l.drop p.toNat) p []

set_option maxRecDepth 100000 in
set_option maxHeartbeats 1000000 in
theorem refReadOrdered_all (ao : Option Addr) (n cap : Nat) (l : List Int) (p' : Int) (w : World) (hs : Sl w ao n cap l) :
    Calls Tryz.prog 44 #[.slice ao n cap, .int .i64 p'] w fun e w' => ∃ v, e = .returned (.tuple #[v, .int .i64 (rOx l p').2.1, .int .i64 (rOx l p').2.2]) ∧ OwnB w' w.heap.size v (rOx l p').1 ∧ Below w.heap.size w w' := by
  obtain ⟨hlen, hcap, hroom, hwf, hnil, hat⟩ := hs
  unfold rOx
  by_cases h : p' < 0 ∨ l.length < p'
  · rw [if_pos h]
    rw [hlen] at h
    rcases h with h | h
    · go_enter Tryz.func44, Tryz.ntmps44
      go_wp2
      go_ret3
      exact ⟨_, rfl, OwnB.nil _ _, Below.refl _ _⟩
    · have h' : ¬ p' < 0 := by omega
      go_enter Tryz.func44, Tryz.ntmps44
      go_wp2
      go_ret3
      exact ⟨_, rfl, OwnB.nil _ _, Below.refl _ _⟩
  · rw [if_neg h]
    rw [hlen] at h
    obtain ⟨p, rfl⟩ := Int.eq_ofNat_of_zero_le (show 0 ≤ p' by omega)
    have hpn : p ≤ n := by omega
    clear h
    rw [Int.toNat_natCast]
    generalize hF : rO (l.drop p) p [] = F
    have HF := hidden hF
    clear hF
    have hd0 : decide ((p : Int) < 0) = false := by simp
    have hd1 : decide (n < p) = false := by simp; omega
    go_enter Tryz.func44, Tryz.ntmps44
    go_wp2_with fail
    go_loopw [7, 8] (fun v i wr => ∃ (k : Nat) (acc : List Int), k ≤ n ∧ i = .int .i64 k ∧ acc.length ≤ k ∧ Hid (rO (l.drop k) k acc = F) ∧ OwnB wr w.heap.size v acc ∧ Below w.heap.size w wr) (fun _ i _ => n - (intOf i).toNat)
    case atStart => exact ⟨p, [], by omega, rfl, by simp, HF, OwnB.nil _ _, Below.refl _ _⟩
    case round =>
      obtain ⟨k, acc, hk, rfl, hal, HR, hown, hb⟩ := hrel
      clear HF
      have hsz := hb.size
      by_cases hlt : k < n
      · rcases hat with h | ⟨b, off, rfl, hbb, hc⟩
        · omega
        have hck : wr.cell? ⟨b, off + k, none⟩ = some (.int .u8 (l.getD k 0)) := (hb.cell (p := ⟨b, off + k, none⟩) hbb).trans (hc k hlt)
        have hck2 : k + 1 < n → wr.cell? ⟨b, off + (k + 1), none⟩ = some (.int .u8 (l.getD (k + 1) 0)) := fun h => (hb.cell (p := ⟨b, off + (k + 1), none⟩) hbb).trans (hc (k + 1) h)
        have e := HR.out
        rw [drop_cons l k (by omega)] at e
        clear hc HR
        generalize l.getD k 0 = c at *
        by_cases hc0 : c = 0
        · subst hc0
          by_cases hl2 : k + 1 < n
          · have hck3 := hck2 hl2
            rw [drop_cons l (k + 1) (by omega), rO_two] at e
            clear hck2
            generalize l.getD (k + 1) 0 = d at *
            by_cases h255 : d = 255
            · subst h255
              rw [if_pos rfl] at e
              have HE := hidden e
              clear e
              go_wp2_with (at_builtin; refine app_bytes _ rfl _ _ rfl w.heap.size acc _ rfl (hown.alloc _) _ 1 1 [0] rfl rfl (one_cell _ _) (by omega) (by simp; omega) ?_)
              intro v2 w2 hown2 hb2
              have R2 : Below w.heap.size w w2 := (hb.alloc hsz _).trans hb2
              clear hb2 hown hck hck3
              go_wp2
              go_roundw
              case rel => exact ⟨k + 2, acc ++ [0], by omega, by go_num, by simp; omega, HE, hown2, R2⟩
              case measure => simp [intOf]; omega
            · rw [if_neg h255] at e
              have hb255 : (d != 255) = true := by simp [h255]
              by_cases h1 : d = 1
              · subst h1
                rw [if_pos rfl] at e
                have HE := hidden e
                clear e
                go_wp2
                go_ret3
                exact ⟨_, by rw [← HE.out]; rfl, by rw [← HE.out]; exact hown, hb⟩
              · rw [if_neg h1] at e
                have hb1 : (d == 1) = false := by simp; omega
                have HE := hidden e
                clear e
                go_wp2
                go_ret3
                exact ⟨_, by rw [← HE.out]; rfl, by rw [← HE.out]; exact OwnB.nil _ _, hb⟩
          · rw [List.drop_eq_nil_of_le (show l.length ≤ k + 1 by omega), rO_cut] at e
            have HE := hidden e
            clear e hck2
            go_wp2
            go_ret3
            exact ⟨_, by rw [← HE.out]; rfl, by rw [← HE.out]; exact OwnB.nil _ _, hb⟩
        · have hb0 : (c != 0) = true := by simp [hc0]
          rw [rO_plain _ _ _ _ hc0] at e
          have HE := hidden e
          clear e hck2 hc0
          go_wp2_with (at_builtin; refine app_bytes _ rfl _ _ rfl w.heap.size acc _ rfl (hown.alloc _) _ 1 1 [c] rfl rfl (one_cell _ _) (by omega) (by simp; omega) ?_)
          intro v2 w2 hown2 hb2
          have R2 : Below w.heap.size w w2 := (hb.alloc hsz _).trans hb2
          clear hb2 hown hck
          go_wp2
          go_roundw
          case rel => exact ⟨k + 1, acc ++ [c], by omega, by go_num, by simp; omega, HE, hown2, R2⟩
          case measure => simp [intOf]; omega
      · have e := HR.out
        rw [List.drop_eq_nil_of_le (by omega), rO] at e
        have HE := hidden e
        clear e HR
        go_wp2
        go_ret3
        exact ⟨_, by rw [← HE.out]; rfl, by rw [← HE.out]; exact OwnB.nil _ _, hb⟩
end Go.Proofs.YtpiijmionafmcaaGreatDoor

/- Letters: the document's and the decoder's. -/

namespace Go.Proofs.YtpiijmionafmcaaGreatDoor
open Go.RowKit Go.Lib

/-- How many bytes a letter takes at the begin of a text, 0: none. -/
def letN (n b0 b1 b2 b3 : Nat) : Nat := if (decodeN n b0 b1 b2 b3).1 = 65533 ∧ (decodeN n b0 b1 b2 b3).2 = 1 then 0 else (decodeN n b0 b1 b2 b3).2
def letT (t : ByteArray) : Nat := letN t.size (t.get! 0).toNat (t.get! 1).toNat (t.get! 2).toNat (t.get! 3).toNat
set_option maxRecDepth 100000 in
theorem letN_ascii (n b0 b1 b2 b3 : Nat) (h : b0 < 128) : letN n b0 b1 b2 b3 = 1 := by
  have : ¬ b0 = 65533 := by omega
  simp [letN, decodeN, h, this]
set_option maxRecDepth 100000 in
theorem letN_bad (n b0 b1 b2 b3 : Nat) (hb : b0 < 256) (h : 128 ≤ b0) (h2 : b0 < 194 ∨ 245 ≤ b0) (_ : b1 < 256) (_ : b2 < 256) (_ : b3 < 256) : letN n b0 b1 b2 b3 = 0 := by
  unfold letN decodeN
  repeat' split
  all_goals first | rfl | (exfalso; omega) | omega
set_option maxRecDepth 100000 in
theorem letN_two (n b0 b1 b2 b3 : Nat) (h : 194 ≤ b0) (h2 : b0 < 224) (h1 : b1 < 256) : letN n b0 b1 b2 b3 = if n < 2 then 0 else if b1 < 128 ∨ 191 < b1 then 0 else 2 := by
  unfold letN decodeN
  repeat' split
  all_goals first | rfl | (exfalso; omega) | omega
set_option maxRecDepth 100000 in
set_option maxHeartbeats 2000000 in
theorem letN_three (n b0 b1 b2 b3 : Nat) (h : 224 ≤ b0) (h2 : b0 < 240) (h1 : b1 < 256) (h3 : b2 < 256) : letN n b0 b1 b2 b3 = if n < 3 then 0 else if b1 < 128 ∨ 191 < b1 then 0 else if b2 < 128 ∨ 191 < b2 then 0 else
    if 64 * (64 * (b0 - 224) + b1 - 128) + b2 - 128 < 2048 ∨ 1114111 < 64 * (64 * (b0 - 224) + b1 - 128) + b2 - 128 ∨ (55296 ≤ 64 * (64 * (b0 - 224) + b1 - 128) + b2 - 128 ∧ 64 * (64 * (b0 - 224) + b1 - 128) + b2 - 128 ≤ 57343) then 0 else 3 := by
  unfold letN decodeN
  repeat' split
  all_goals first | rfl | (exfalso; omega) | omega
set_option maxRecDepth 100000 in
set_option maxHeartbeats 2000000 in
theorem letN_four (n b0 b1 b2 b3 : Nat) (h : 240 ≤ b0) (h2 : b0 < 245) (h1 : b1 < 256) (h3 : b2 < 256) (h4 : b3 < 256) : letN n b0 b1 b2 b3 = if n < 4 then 0 else if b1 < 128 ∨ 191 < b1 then 0 else if b2 < 128 ∨ 191 < b2 then 0 else if b3 < 128 ∨ 191 < b3 then 0 else
    if 64 * (64 * (64 * (b0 - 240) + b1 - 128) + b2 - 128) + b3 - 128 < 65536 ∨ 1114111 < 64 * (64 * (64 * (b0 - 240) + b1 - 128) + b2 - 128) + b3 - 128 ∨ (55296 ≤ 64 * (64 * (64 * (b0 - 240) + b1 - 128) + b2 - 128) + b3 - 128 ∧ 64 * (64 * (64 * (b0 - 240) + b1 - 128) + b2 - 128) + b3 - 128 ≤ 57343) then 0 else 4 := by
  unfold letN decodeN
  repeat' split
  all_goals first | rfl | (exfalso; omega) | omega
set_option maxRecDepth 100000 in
theorem decodeL_len (l : List UInt8) : 1 ≤ (decodeL l).2 := by
  unfold decodeL
  rw [decode_at]
  unfold decodeN
  repeat' split
  all_goals simp
set_option maxRecDepth 100000 in
theorem fuel : ∀ (n : Nat) (l : List UInt8), l.length ≤ n → validGoD n l = validD l
  | n, l, h => by
    unfold validD
    generalize hm : l.length = m at h ⊢
    induction m using Nat.strongRecOn generalizing n l with
    | _ m ih =>
      cases n with
      | zero => obtain rfl : m = 0 := by omega
                rfl
      | succ n =>
        cases m with
        | zero =>
          have : l = [] := List.eq_nil_of_length_eq_zero hm
          subst this
          simp [validGoD]
        | succ m =>
          have hd := decodeL_len l
          have hne : l ≠ [] := by rintro rfl; simp at hm
          unfold validGoD
          rw [if_neg hne, if_neg hne]
          by_cases e : (decodeL l).1 = 65533 ∧ (decodeL l).2 = 1
          · rw [if_pos e, if_pos e]
          · rw [if_neg e, if_neg e]
            have hl : (l.drop (decodeL l).2).length = m + 1 - (decodeL l).2 := by rw [List.length_drop, hm]
            rw [ih _ (by omega) n _ hl (by omega), ih _ (by omega) m _ hl (by omega)]
set_option maxRecDepth 100000 in
theorem valid_step (t : ByteArray) (i : Nat) (hi : i < t.size) : validD (t.data.toList.drop i) = if letT (t.extract i t.size) = 0 then false else validD (t.data.toList.drop (i + letT (t.extract i t.size))) := by
  have hlen : t.data.toList.length = t.size := Array.length_toList
  have hne : t.data.toList.drop i ≠ [] := by
    intro e
    have := congrArg List.length e
    rw [List.length_drop] at this
    simp at this
    omega
  have hdl : decodeL (t.data.toList.drop i) = decodeN (t.extract i t.size).size ((t.extract i t.size).get! 0).toNat ((t.extract i t.size).get! 1).toNat ((t.extract i t.size).get! 2).toNat ((t.extract i t.size).get! 3).toNat := by
    unfold decodeL
    rw [← ext_list]
    have e : (⟨(t.extract i t.size).data.toList.toArray⟩ : ByteArray) = t.extract i t.size := rfl
    rw [e, decode_at]
    rfl
  have hL : letT (t.extract i t.size) = if (decodeL (t.data.toList.drop i)).1 = 65533 ∧ (decodeL (t.data.toList.drop i)).2 = 1 then 0 else (decodeL (t.data.toList.drop i)).2 := by
    rw [hdl]
    rfl
  have h1 := decodeL_len (t.data.toList.drop i)
  obtain ⟨m, hm⟩ : ∃ m, (t.data.toList.drop i).length = m + 1 := ⟨(t.data.toList.drop i).length - 1, by rw [List.length_drop]; omega⟩
  conv => lhs; unfold validD; rw [hm]; unfold validGoD
  rw [if_neg hne]
  by_cases e : (decodeL (t.data.toList.drop i)).1 = 65533 ∧ (decodeL (t.data.toList.drop i)).2 = 1
  · rw [if_pos e] at hL ⊢
    rw [if_pos hL]
  · rw [if_neg e] at hL ⊢
    rw [if_neg (by omega), hL, List.drop_drop]
    refine fuel m _ ?_
    rw [List.length_drop] at hm ⊢
    omega
set_option maxRecDepth 100000 in
theorem letT_le (t : ByteArray) (h0 : 0 < t.size) : letT t ≤ t.size := by
  unfold letT letN decodeN
  repeat' split
  all_goals first | omega | (simp only; omega)
end Go.Proofs.YtpiijmionafmcaaGreatDoor

/- espalierref02.letter and Utf8: the letters of the decoder. -/

namespace Go.Proofs.YtpiijmionafmcaaGreatDoor
open Go.RowKit

set_option maxRecDepth 100000 in
theorem get_at (u : ByteArray) (j : Nat) (h : j < u.size) : (u[j]'h).toNat = (u.get! j).toNat := by rw [Utf8W.get!_of_lt u j h]
set_option maxRecDepth 100000 in
theorem by_lt (x : UInt8) : x.toNat < 256 := x.toNat_lt

set_option maxHeartbeats 1000000 in
set_option maxRecDepth 100000 in
theorem letter_one (u : ByteArray) (w : World) (h0 : 0 < u.size) (hs : u.size ≤ 140737488355328) (hlo : 0 ≤ (u.get! 0).toNat) (hhi : (u.get! 0).toNat ≤ 127) : Calls Tryz.prog 68 #[.string u] w fun e w' => e = .returned (.int .i64 (letT u : Int)) ∧ w' = w := by
  have HL : Hid (letT u = _) := hidden (letN_ascii u.size (u.get! 0).toNat (u.get! 1).toNat (u.get! 2).toNat (u.get! 3).toNat (by omega))
  obtain ⟨b0, hb0⟩ : ∃ b, (u.get! 0).toNat = b := ⟨_, rfl⟩
  have hB0 : b0 < 256 := by rw [← hb0]; exact by_lt _
  obtain ⟨b1, hb1⟩ : ∃ b, (u.get! 1).toNat = b := ⟨_, rfl⟩
  have hB1 : b1 < 256 := by rw [← hb1]; exact by_lt _
  obtain ⟨b2, hb2⟩ : ∃ b, (u.get! 2).toNat = b := ⟨_, rfl⟩
  have hB2 : b2 < 256 := by rw [← hb2]; exact by_lt _
  obtain ⟨b3, hb3⟩ : ∃ b, (u.get! 3).toNat = b := ⟨_, rfl⟩
  have hB3 : b3 < 256 := by rw [← hb3]; exact by_lt _
  rw [hb0] at hlo hhi
  have g0 : (u[0]'h0).toNat = b0 := (get_at u 0 h0).trans hb0
  clear hb0 hb1 hb2 hb3
  obtain ⟨Z, hZ⟩ : ∃ Z, letT u = Z := ⟨_, rfl⟩
  rw [hZ] at HL ⊢
  clear hZ
  have d0 : decide ((b0 : Int) < 128) = true := by rw [decide_eq_true_iff]; omega
  have d1 : decide ((194 : Int) ≤ (b0 : Int)) = false := by rw [decide_eq_false_iff_not]; omega
  have d2 : decide ((b0 : Int) < 224) = true := by rw [decide_eq_true_iff]; omega
  have d3 : decide ((224 : Int) ≤ (b0 : Int)) = false := by rw [decide_eq_false_iff_not]; omega
  have d4 : decide ((b0 : Int) < 240) = true := by rw [decide_eq_true_iff]; omega
  have d5 : decide ((240 : Int) ≤ (b0 : Int)) = false := by rw [decide_eq_false_iff_not]; omega
  have d6 : decide ((b0 : Int) < 245) = true := by rw [decide_eq_true_iff]; omega
  have z0 : (0 : Int) < (u.size : Int) := by omega
  have zb : (b0 : Int) ≤ 255 := by omega
  go_enter Tryz.func68, Tryz.ntmps68
  go_wp2
  go_ret
  exact ⟨by rw [HL.out]; rfl, rfl⟩
set_option maxHeartbeats 1000000 in
set_option maxRecDepth 100000 in
theorem letter_bad1 (u : ByteArray) (w : World) (h0 : 0 < u.size) (hs : u.size ≤ 140737488355328) (hlo : 128 ≤ (u.get! 0).toNat) (hhi : (u.get! 0).toNat ≤ 193) : Calls Tryz.prog 68 #[.string u] w fun e w' => e = .returned (.int .i64 (letT u : Int)) ∧ w' = w := by
  have HL : Hid (letT u = _) := hidden (letN_bad u.size (u.get! 0).toNat (u.get! 1).toNat (u.get! 2).toNat (u.get! 3).toNat (by omega) (by omega) (.inl (by omega)) (by_lt _) (by_lt _) (by_lt _))
  obtain ⟨b0, hb0⟩ : ∃ b, (u.get! 0).toNat = b := ⟨_, rfl⟩
  have hB0 : b0 < 256 := by rw [← hb0]; exact by_lt _
  obtain ⟨b1, hb1⟩ : ∃ b, (u.get! 1).toNat = b := ⟨_, rfl⟩
  have hB1 : b1 < 256 := by rw [← hb1]; exact by_lt _
  obtain ⟨b2, hb2⟩ : ∃ b, (u.get! 2).toNat = b := ⟨_, rfl⟩
  have hB2 : b2 < 256 := by rw [← hb2]; exact by_lt _
  obtain ⟨b3, hb3⟩ : ∃ b, (u.get! 3).toNat = b := ⟨_, rfl⟩
  have hB3 : b3 < 256 := by rw [← hb3]; exact by_lt _
  rw [hb0] at hlo hhi
  have g0 : (u[0]'h0).toNat = b0 := (get_at u 0 h0).trans hb0
  clear hb0 hb1 hb2 hb3
  obtain ⟨Z, hZ⟩ : ∃ Z, letT u = Z := ⟨_, rfl⟩
  rw [hZ] at HL ⊢
  clear hZ
  have d0 : decide ((b0 : Int) < 128) = false := by rw [decide_eq_false_iff_not]; omega
  have d1 : decide ((194 : Int) ≤ (b0 : Int)) = false := by rw [decide_eq_false_iff_not]; omega
  have d2 : decide ((b0 : Int) < 224) = true := by rw [decide_eq_true_iff]; omega
  have d3 : decide ((224 : Int) ≤ (b0 : Int)) = false := by rw [decide_eq_false_iff_not]; omega
  have d4 : decide ((b0 : Int) < 240) = true := by rw [decide_eq_true_iff]; omega
  have d5 : decide ((240 : Int) ≤ (b0 : Int)) = false := by rw [decide_eq_false_iff_not]; omega
  have d6 : decide ((b0 : Int) < 245) = true := by rw [decide_eq_true_iff]; omega
  have z0 : (0 : Int) < (u.size : Int) := by omega
  have zb : (b0 : Int) ≤ 255 := by omega
  go_enter Tryz.func68, Tryz.ntmps68
  go_wp2
  go_ret
  exact ⟨by rw [HL.out]; rfl, rfl⟩
set_option maxHeartbeats 1000000 in
set_option maxRecDepth 100000 in
theorem letter_bad2 (u : ByteArray) (w : World) (h0 : 0 < u.size) (hs : u.size ≤ 140737488355328) (hlo : 245 ≤ (u.get! 0).toNat) (hhi : (u.get! 0).toNat ≤ 255) : Calls Tryz.prog 68 #[.string u] w fun e w' => e = .returned (.int .i64 (letT u : Int)) ∧ w' = w := by
  have HL : Hid (letT u = _) := hidden (letN_bad u.size (u.get! 0).toNat (u.get! 1).toNat (u.get! 2).toNat (u.get! 3).toNat (by omega) (by omega) (.inr (by omega)) (by_lt _) (by_lt _) (by_lt _))
  obtain ⟨b0, hb0⟩ : ∃ b, (u.get! 0).toNat = b := ⟨_, rfl⟩
  have hB0 : b0 < 256 := by rw [← hb0]; exact by_lt _
  obtain ⟨b1, hb1⟩ : ∃ b, (u.get! 1).toNat = b := ⟨_, rfl⟩
  have hB1 : b1 < 256 := by rw [← hb1]; exact by_lt _
  obtain ⟨b2, hb2⟩ : ∃ b, (u.get! 2).toNat = b := ⟨_, rfl⟩
  have hB2 : b2 < 256 := by rw [← hb2]; exact by_lt _
  obtain ⟨b3, hb3⟩ : ∃ b, (u.get! 3).toNat = b := ⟨_, rfl⟩
  have hB3 : b3 < 256 := by rw [← hb3]; exact by_lt _
  rw [hb0] at hlo hhi
  have g0 : (u[0]'h0).toNat = b0 := (get_at u 0 h0).trans hb0
  clear hb0 hb1 hb2 hb3
  obtain ⟨Z, hZ⟩ : ∃ Z, letT u = Z := ⟨_, rfl⟩
  rw [hZ] at HL ⊢
  clear hZ
  have d0 : decide ((b0 : Int) < 128) = false := by rw [decide_eq_false_iff_not]; omega
  have d1 : decide ((194 : Int) ≤ (b0 : Int)) = true := by rw [decide_eq_true_iff]; omega
  have d2 : decide ((b0 : Int) < 224) = false := by rw [decide_eq_false_iff_not]; omega
  have d3 : decide ((224 : Int) ≤ (b0 : Int)) = true := by rw [decide_eq_true_iff]; omega
  have d4 : decide ((b0 : Int) < 240) = false := by rw [decide_eq_false_iff_not]; omega
  have d5 : decide ((240 : Int) ≤ (b0 : Int)) = true := by rw [decide_eq_true_iff]; omega
  have d6 : decide ((b0 : Int) < 245) = false := by rw [decide_eq_false_iff_not]; omega
  have z0 : (0 : Int) < (u.size : Int) := by omega
  have zb : (b0 : Int) ≤ 255 := by omega
  go_enter Tryz.func68, Tryz.ntmps68
  go_wp2
  go_ret
  exact ⟨by rw [HL.out]; rfl, rfl⟩
set_option maxHeartbeats 1000000 in
set_option maxRecDepth 100000 in
theorem letter_two (u : ByteArray) (w : World) (h0 : 0 < u.size) (hs : u.size ≤ 140737488355328) (hlo : 194 ≤ (u.get! 0).toNat) (hhi : (u.get! 0).toNat ≤ 223) : Calls Tryz.prog 68 #[.string u] w fun e w' => e = .returned (.int .i64 (letT u : Int)) ∧ w' = w := by
  have HL : Hid (letT u = _) := hidden (letN_two u.size (u.get! 0).toNat (u.get! 1).toNat (u.get! 2).toNat (u.get! 3).toNat (by omega) (by omega) (by_lt _))
  obtain ⟨b0, hb0⟩ : ∃ b, (u.get! 0).toNat = b := ⟨_, rfl⟩
  have hB0 : b0 < 256 := by rw [← hb0]; exact by_lt _
  obtain ⟨b1, hb1⟩ : ∃ b, (u.get! 1).toNat = b := ⟨_, rfl⟩
  have hB1 : b1 < 256 := by rw [← hb1]; exact by_lt _
  obtain ⟨b2, hb2⟩ : ∃ b, (u.get! 2).toNat = b := ⟨_, rfl⟩
  have hB2 : b2 < 256 := by rw [← hb2]; exact by_lt _
  obtain ⟨b3, hb3⟩ : ∃ b, (u.get! 3).toNat = b := ⟨_, rfl⟩
  have hB3 : b3 < 256 := by rw [← hb3]; exact by_lt _
  simp only [hb1] at HL
  rw [hb0] at hlo hhi
  have g0 : (u[0]'h0).toNat = b0 := (get_at u 0 h0).trans hb0
  have G1 : Hid (∀ h : 1 < u.size, (u[1]'h).toNat = b1) := hidden (fun h => (get_at u 1 h).trans hb1)
  clear hb0 hb1 hb2 hb3
  obtain ⟨Z, hZ⟩ : ∃ Z, letT u = Z := ⟨_, rfl⟩
  rw [hZ] at HL ⊢
  clear hZ
  have d0 : decide ((b0 : Int) < 128) = false := by rw [decide_eq_false_iff_not]; omega
  have d1 : decide ((194 : Int) ≤ (b0 : Int)) = true := by rw [decide_eq_true_iff]; omega
  have d2 : decide ((b0 : Int) < 224) = true := by rw [decide_eq_true_iff]; omega
  have d3 : decide ((224 : Int) ≤ (b0 : Int)) = false := by rw [decide_eq_false_iff_not]; omega
  have d4 : decide ((b0 : Int) < 240) = true := by rw [decide_eq_true_iff]; omega
  have d5 : decide ((240 : Int) ≤ (b0 : Int)) = false := by rw [decide_eq_false_iff_not]; omega
  have d6 : decide ((b0 : Int) < 245) = true := by rw [decide_eq_true_iff]; omega
  have z0 : (0 : Int) < (u.size : Int) := by omega
  have zb : (b0 : Int) ≤ 255 := by omega
  have HLO := hidden (And.intro hlo hhi)
  by_cases hsn : u.size < 2
  · have zs : decide ((u.size : Int) < 2) = true := by rw [decide_eq_true_iff]; omega
    have HZ : Hid (Z = 0) := hidden (by rw [HL.out, if_pos hsn])
    clear HL
    go_enter Tryz.func68, Tryz.ntmps68
    go_wp2
    go_ret
    exact ⟨by rw [HZ.out]; rfl, rfl⟩
  have zs : decide ((u.size : Int) < 2) = false := by rw [decide_eq_false_iff_not]; omega
  have HSN : Hid (2 ≤ u.size) := hidden (by omega)
  clear hlo hhi hsn
  go_enter Tryz.func68, Tryz.ntmps68
  go_wp2_with fail
  go_loop [5, 7] (fun p x => (x = .int .i64 1 ∧ p = .int .i64 ((b0 : Int) - 192)) ∨ (x = .int .i64 2 ∧ p = .int .i64 (64 * ((b0 : Int) - 192) + (b1 : Int) - 128) ∧ Hid (128 ≤ b1 ∧ b1 ≤ 191))) (fun _ x => 2 - (RowKit.intOf x).toNat)
  case atStart => exact .inl ⟨rfl, rfl⟩
  case round =>
    rcases hrel with ⟨rfl, rfl⟩ | ⟨rfl, rfl, HV⟩
    · have hl := HLO.out
      have gi := G1.out (by have := HSN.out; omega)
      have zi : (1 : Int) < (u.size : Int) := by have := HSN.out; omega
      have bi : (b1 : Int) ≤ 255 := by omega
      by_cases e1 : b1 < 128
      · have HZ : Hid (Z = 0) := hidden (by rw [HL.out, if_neg (by have := HSN.out; omega), if_pos (by omega)])
        have y1 : decide ((b1 : Int) < 128) = true := by rw [decide_eq_true_iff]; omega
        clear HL
        go_wp2
        go_ret
        exact ⟨by rw [HZ.out]; rfl, rfl⟩
      · have y1 : decide ((b1 : Int) < 128) = false := by rw [decide_eq_false_iff_not]; omega
        by_cases e2 : 191 < b1
        · have HZ : Hid (Z = 0) := hidden (by rw [HL.out, if_neg (by have := HSN.out; omega), if_pos (by omega)])
          have y2 : decide ((191 : Int) < (b1 : Int)) = true := by rw [decide_eq_true_iff]; omega
          clear HL
          go_wp2
          go_ret
          exact ⟨by rw [HZ.out]; rfl, rfl⟩
        · have y2 : decide ((191 : Int) < (b1 : Int)) = false := by rw [decide_eq_false_iff_not]; omega
          have HN : Hid (128 ≤ b1 ∧ b1 ≤ 191) := hidden (by omega)
          go_wp2
          go_round
          case rel => exact .inr (⟨by first | rfl | go_num, by first | rfl | go_num | (congr 1; omega), HN⟩)
          case measure => simp [RowKit.intOf]
    · have hl := HLO.out
      have hv := HV.out
      obtain ⟨pt, hpt⟩ : ∃ pt : Nat, (64 * ((b0 : Int) - 192) + (b1 : Int) - 128) = (pt : Int) := ⟨((64 * ((b0 : Int) - 192) + (b1 : Int) - 128)).toNat, by omega⟩
      have HPT := hidden hpt
      rw [hpt]
      have zp : (pt : Int) ≤ 100000000 := by omega
      clear hpt
      have HZ : Hid (Z = 2) := hidden (by rw [HL.out, if_neg (by have := HSN.out; omega), if_neg (by have := HV.out; omega)])
      have y1 : decide ((pt : Int) < 128) = false := by rw [decide_eq_false_iff_not]; have := HPT.out; omega
      have y2 : decide ((1114111 : Int) < (pt : Int)) = false := by rw [decide_eq_false_iff_not]; have := HPT.out; omega
      have y3 : decide ((55296 : Int) ≤ (pt : Int)) = false := by rw [decide_eq_false_iff_not]; have := HPT.out; omega
      clear HL hl hv
      go_wp2
      go_ret
      exact ⟨by rw [HZ.out]; rfl, rfl⟩
set_option maxHeartbeats 1000000 in
set_option maxRecDepth 100000 in
theorem letter_three (u : ByteArray) (w : World) (h0 : 0 < u.size) (hs : u.size ≤ 140737488355328) (hlo : 224 ≤ (u.get! 0).toNat) (hhi : (u.get! 0).toNat ≤ 239) : Calls Tryz.prog 68 #[.string u] w fun e w' => e = .returned (.int .i64 (letT u : Int)) ∧ w' = w := by
  have HL : Hid (letT u = _) := hidden (letN_three u.size (u.get! 0).toNat (u.get! 1).toNat (u.get! 2).toNat (u.get! 3).toNat (by omega) (by omega) (by_lt _) (by_lt _))
  obtain ⟨b0, hb0⟩ : ∃ b, (u.get! 0).toNat = b := ⟨_, rfl⟩
  have hB0 : b0 < 256 := by rw [← hb0]; exact by_lt _
  obtain ⟨b1, hb1⟩ : ∃ b, (u.get! 1).toNat = b := ⟨_, rfl⟩
  have hB1 : b1 < 256 := by rw [← hb1]; exact by_lt _
  obtain ⟨b2, hb2⟩ : ∃ b, (u.get! 2).toNat = b := ⟨_, rfl⟩
  have hB2 : b2 < 256 := by rw [← hb2]; exact by_lt _
  obtain ⟨b3, hb3⟩ : ∃ b, (u.get! 3).toNat = b := ⟨_, rfl⟩
  have hB3 : b3 < 256 := by rw [← hb3]; exact by_lt _
  simp only [hb0, hb1, hb2] at HL
  rw [hb0] at hlo hhi
  have g0 : (u[0]'h0).toNat = b0 := (get_at u 0 h0).trans hb0
  have G1 : Hid (∀ h : 1 < u.size, (u[1]'h).toNat = b1) := hidden (fun h => (get_at u 1 h).trans hb1)
  have G2 : Hid (∀ h : 2 < u.size, (u[2]'h).toNat = b2) := hidden (fun h => (get_at u 2 h).trans hb2)
  clear hb0 hb1 hb2 hb3
  obtain ⟨Z, hZ⟩ : ∃ Z, letT u = Z := ⟨_, rfl⟩
  rw [hZ] at HL ⊢
  clear hZ
  have d0 : decide ((b0 : Int) < 128) = false := by rw [decide_eq_false_iff_not]; omega
  have d1 : decide ((194 : Int) ≤ (b0 : Int)) = true := by rw [decide_eq_true_iff]; omega
  have d2 : decide ((b0 : Int) < 224) = false := by rw [decide_eq_false_iff_not]; omega
  have d3 : decide ((224 : Int) ≤ (b0 : Int)) = true := by rw [decide_eq_true_iff]; omega
  have d4 : decide ((b0 : Int) < 240) = true := by rw [decide_eq_true_iff]; omega
  have d5 : decide ((240 : Int) ≤ (b0 : Int)) = false := by rw [decide_eq_false_iff_not]; omega
  have d6 : decide ((b0 : Int) < 245) = true := by rw [decide_eq_true_iff]; omega
  have z0 : (0 : Int) < (u.size : Int) := by omega
  have zb : (b0 : Int) ≤ 255 := by omega
  have HLO := hidden (And.intro hlo hhi)
  by_cases hsn : u.size < 3
  · have zs : decide ((u.size : Int) < 3) = true := by rw [decide_eq_true_iff]; omega
    have HZ : Hid (Z = 0) := hidden (by rw [HL.out, if_pos hsn])
    clear HL
    go_enter Tryz.func68, Tryz.ntmps68
    go_wp2
    go_ret
    exact ⟨by rw [HZ.out]; rfl, rfl⟩
  have zs : decide ((u.size : Int) < 3) = false := by rw [decide_eq_false_iff_not]; omega
  have HSN : Hid (3 ≤ u.size) := hidden (by omega)
  clear hlo hhi hsn
  go_enter Tryz.func68, Tryz.ntmps68
  go_wp2_with fail
  go_loop [5, 7] (fun p x => (x = .int .i64 1 ∧ p = .int .i64 ((b0 : Int) - 224)) ∨ (x = .int .i64 2 ∧ p = .int .i64 (64 * ((b0 : Int) - 224) + (b1 : Int) - 128) ∧ Hid (128 ≤ b1 ∧ b1 ≤ 191)) ∨ (x = .int .i64 3 ∧ p = .int .i64 (64 * (64 * ((b0 : Int) - 224) + (b1 : Int) - 128) + (b2 : Int) - 128) ∧ Hid (128 ≤ b1 ∧ b1 ≤ 191 ∧ 128 ≤ b2 ∧ b2 ≤ 191))) (fun _ x => 3 - (RowKit.intOf x).toNat)
  case atStart => exact .inl ⟨rfl, rfl⟩
  case round =>
    rcases hrel with ⟨rfl, rfl⟩ | ⟨rfl, rfl, HV⟩ | ⟨rfl, rfl, HV⟩
    · have hl := HLO.out
      have gi := G1.out (by have := HSN.out; omega)
      have zi : (1 : Int) < (u.size : Int) := by have := HSN.out; omega
      have bi : (b1 : Int) ≤ 255 := by omega
      by_cases e1 : b1 < 128
      · have HZ : Hid (Z = 0) := hidden (by rw [HL.out, if_neg (by have := HSN.out; omega), if_pos (by omega)])
        have y1 : decide ((b1 : Int) < 128) = true := by rw [decide_eq_true_iff]; omega
        clear HL
        go_wp2
        go_ret
        exact ⟨by rw [HZ.out]; rfl, rfl⟩
      · have y1 : decide ((b1 : Int) < 128) = false := by rw [decide_eq_false_iff_not]; omega
        by_cases e2 : 191 < b1
        · have HZ : Hid (Z = 0) := hidden (by rw [HL.out, if_neg (by have := HSN.out; omega), if_pos (by omega)])
          have y2 : decide ((191 : Int) < (b1 : Int)) = true := by rw [decide_eq_true_iff]; omega
          clear HL
          go_wp2
          go_ret
          exact ⟨by rw [HZ.out]; rfl, rfl⟩
        · have y2 : decide ((191 : Int) < (b1 : Int)) = false := by rw [decide_eq_false_iff_not]; omega
          have HN : Hid (128 ≤ b1 ∧ b1 ≤ 191) := hidden (by omega)
          go_wp2
          go_round
          case rel => exact .inr (.inl ⟨by first | rfl | go_num, by first | rfl | go_num | (congr 1; omega), HN⟩)
          case measure => simp [RowKit.intOf]
    · have hl := HLO.out
      have hv := HV.out
      have gi := G2.out (by have := HSN.out; omega)
      have zi : (2 : Int) < (u.size : Int) := by have := HSN.out; omega
      have bi : (b2 : Int) ≤ 255 := by omega
      by_cases e1 : b2 < 128
      · have HZ : Hid (Z = 0) := hidden (by rw [HL.out, if_neg (by have := HSN.out; omega), if_neg (by have := HV.out; omega), if_pos (by omega)])
        have y1 : decide ((b2 : Int) < 128) = true := by rw [decide_eq_true_iff]; omega
        clear HL
        go_wp2
        go_ret
        exact ⟨by rw [HZ.out]; rfl, rfl⟩
      · have y1 : decide ((b2 : Int) < 128) = false := by rw [decide_eq_false_iff_not]; omega
        by_cases e2 : 191 < b2
        · have HZ : Hid (Z = 0) := hidden (by rw [HL.out, if_neg (by have := HSN.out; omega), if_neg (by have := HV.out; omega), if_pos (by omega)])
          have y2 : decide ((191 : Int) < (b2 : Int)) = true := by rw [decide_eq_true_iff]; omega
          clear HL
          go_wp2
          go_ret
          exact ⟨by rw [HZ.out]; rfl, rfl⟩
        · have y2 : decide ((191 : Int) < (b2 : Int)) = false := by rw [decide_eq_false_iff_not]; omega
          have HN : Hid (128 ≤ b1 ∧ b1 ≤ 191 ∧ 128 ≤ b2 ∧ b2 ≤ 191) := hidden (by have := HV.out; omega)
          go_wp2
          go_round
          case rel => exact .inr (.inr (⟨by first | rfl | go_num, by first | rfl | go_num | (congr 1; omega), HN⟩))
          case measure => simp [RowKit.intOf]
    · have hl := HLO.out
      have hv := HV.out
      obtain ⟨pt, hpt⟩ : ∃ pt : Nat, (64 * (64 * ((b0 : Int) - 224) + (b1 : Int) - 128) + (b2 : Int) - 128) = (pt : Int) := ⟨((64 * (64 * ((b0 : Int) - 224) + (b1 : Int) - 128) + (b2 : Int) - 128)).toNat, by omega⟩
      have HPT := hidden hpt
      rw [hpt]
      have zp : (pt : Int) ≤ 100000000 := by omega
      clear hpt
      by_cases e1 : pt < 2048
      · have y1 : decide ((pt : Int) < 2048) = true := by rw [decide_eq_true_iff]; omega
        have HZ : Hid (Z = 0) := hidden (by rw [HL.out, if_neg (by have := HSN.out; omega), if_neg (by have := HV.out; omega), if_neg (by have := HV.out; omega), if_pos (by have := HPT.out; have := HLO.out; have := HV.out; omega)])
        clear HL hl hv
        go_wp2
        go_ret
        exact ⟨by rw [HZ.out]; rfl, rfl⟩
      have y1 : decide ((pt : Int) < 2048) = false := by rw [decide_eq_false_iff_not]; omega
      by_cases e2 : 1114111 < pt
      · have y2 : decide ((1114111 : Int) < (pt : Int)) = true := by rw [decide_eq_true_iff]; omega
        have HZ : Hid (Z = 0) := hidden (by rw [HL.out, if_neg (by have := HSN.out; omega), if_neg (by have := HV.out; omega), if_neg (by have := HV.out; omega), if_pos (by have := HPT.out; have := HLO.out; have := HV.out; omega)])
        clear HL hl hv
        go_wp2
        go_ret
        exact ⟨by rw [HZ.out]; rfl, rfl⟩
      have y2 : decide ((1114111 : Int) < (pt : Int)) = false := by rw [decide_eq_false_iff_not]; omega
      by_cases e3 : 55296 ≤ pt
      · have y3 : decide ((55296 : Int) ≤ (pt : Int)) = true := by rw [decide_eq_true_iff]; omega
        by_cases e4 : pt ≤ 57343
        · have y4 : decide ((pt : Int) ≤ 57343) = true := by rw [decide_eq_true_iff]; omega
          have HZ : Hid (Z = 0) := hidden (by rw [HL.out, if_neg (by have := HSN.out; omega), if_neg (by have := HV.out; omega), if_neg (by have := HV.out; omega), if_pos (by have := HPT.out; have := HLO.out; have := HV.out; omega)])
          clear HL hl hv
          go_wp2
          go_ret
          exact ⟨by rw [HZ.out]; rfl, rfl⟩
        have y4 : decide ((pt : Int) ≤ 57343) = false := by rw [decide_eq_false_iff_not]; omega
        have HZ : Hid (Z = 3) := hidden (by rw [HL.out, if_neg (by have := HSN.out; omega), if_neg (by have := HV.out; omega), if_neg (by have := HV.out; omega), if_neg (by have := HPT.out; have := HLO.out; have := HV.out; omega)])
        clear HL hl hv
        go_wp2
        go_ret
        exact ⟨by rw [HZ.out]; rfl, rfl⟩
      have y3 : decide ((55296 : Int) ≤ (pt : Int)) = false := by rw [decide_eq_false_iff_not]; omega
      have HZ : Hid (Z = 3) := hidden (by rw [HL.out, if_neg (by have := HSN.out; omega), if_neg (by have := HV.out; omega), if_neg (by have := HV.out; omega), if_neg (by have := HPT.out; have := HLO.out; have := HV.out; omega)])
      clear HL hl hv
      go_wp2
      go_ret
      exact ⟨by rw [HZ.out]; rfl, rfl⟩
set_option maxHeartbeats 1000000 in
set_option maxRecDepth 100000 in
theorem letter_four (u : ByteArray) (w : World) (h0 : 0 < u.size) (hs : u.size ≤ 140737488355328) (hlo : 240 ≤ (u.get! 0).toNat) (hhi : (u.get! 0).toNat ≤ 244) : Calls Tryz.prog 68 #[.string u] w fun e w' => e = .returned (.int .i64 (letT u : Int)) ∧ w' = w := by
  have HL : Hid (letT u = _) := hidden (letN_four u.size (u.get! 0).toNat (u.get! 1).toNat (u.get! 2).toNat (u.get! 3).toNat (by omega) (by omega) (by_lt _) (by_lt _) (by_lt _))
  obtain ⟨b0, hb0⟩ : ∃ b, (u.get! 0).toNat = b := ⟨_, rfl⟩
  have hB0 : b0 < 256 := by rw [← hb0]; exact by_lt _
  obtain ⟨b1, hb1⟩ : ∃ b, (u.get! 1).toNat = b := ⟨_, rfl⟩
  have hB1 : b1 < 256 := by rw [← hb1]; exact by_lt _
  obtain ⟨b2, hb2⟩ : ∃ b, (u.get! 2).toNat = b := ⟨_, rfl⟩
  have hB2 : b2 < 256 := by rw [← hb2]; exact by_lt _
  obtain ⟨b3, hb3⟩ : ∃ b, (u.get! 3).toNat = b := ⟨_, rfl⟩
  have hB3 : b3 < 256 := by rw [← hb3]; exact by_lt _
  simp only [hb0, hb1, hb2, hb3] at HL
  rw [hb0] at hlo hhi
  have g0 : (u[0]'h0).toNat = b0 := (get_at u 0 h0).trans hb0
  have G1 : Hid (∀ h : 1 < u.size, (u[1]'h).toNat = b1) := hidden (fun h => (get_at u 1 h).trans hb1)
  have G2 : Hid (∀ h : 2 < u.size, (u[2]'h).toNat = b2) := hidden (fun h => (get_at u 2 h).trans hb2)
  have G3 : Hid (∀ h : 3 < u.size, (u[3]'h).toNat = b3) := hidden (fun h => (get_at u 3 h).trans hb3)
  clear hb0 hb1 hb2 hb3
  obtain ⟨Z, hZ⟩ : ∃ Z, letT u = Z := ⟨_, rfl⟩
  rw [hZ] at HL ⊢
  clear hZ
  have d0 : decide ((b0 : Int) < 128) = false := by rw [decide_eq_false_iff_not]; omega
  have d1 : decide ((194 : Int) ≤ (b0 : Int)) = true := by rw [decide_eq_true_iff]; omega
  have d2 : decide ((b0 : Int) < 224) = false := by rw [decide_eq_false_iff_not]; omega
  have d3 : decide ((224 : Int) ≤ (b0 : Int)) = true := by rw [decide_eq_true_iff]; omega
  have d4 : decide ((b0 : Int) < 240) = false := by rw [decide_eq_false_iff_not]; omega
  have d5 : decide ((240 : Int) ≤ (b0 : Int)) = true := by rw [decide_eq_true_iff]; omega
  have d6 : decide ((b0 : Int) < 245) = true := by rw [decide_eq_true_iff]; omega
  have z0 : (0 : Int) < (u.size : Int) := by omega
  have zb : (b0 : Int) ≤ 255 := by omega
  have HLO := hidden (And.intro hlo hhi)
  by_cases hsn : u.size < 4
  · have zs : decide ((u.size : Int) < 4) = true := by rw [decide_eq_true_iff]; omega
    have HZ : Hid (Z = 0) := hidden (by rw [HL.out, if_pos hsn])
    clear HL
    go_enter Tryz.func68, Tryz.ntmps68
    go_wp2
    go_ret
    exact ⟨by rw [HZ.out]; rfl, rfl⟩
  have zs : decide ((u.size : Int) < 4) = false := by rw [decide_eq_false_iff_not]; omega
  have HSN : Hid (4 ≤ u.size) := hidden (by omega)
  clear hlo hhi hsn
  go_enter Tryz.func68, Tryz.ntmps68
  go_wp2_with fail
  go_loop [5, 7] (fun p x => (x = .int .i64 1 ∧ p = .int .i64 ((b0 : Int) - 240)) ∨ (x = .int .i64 2 ∧ p = .int .i64 (64 * ((b0 : Int) - 240) + (b1 : Int) - 128) ∧ Hid (128 ≤ b1 ∧ b1 ≤ 191)) ∨ (x = .int .i64 3 ∧ p = .int .i64 (64 * (64 * ((b0 : Int) - 240) + (b1 : Int) - 128) + (b2 : Int) - 128) ∧ Hid (128 ≤ b1 ∧ b1 ≤ 191 ∧ 128 ≤ b2 ∧ b2 ≤ 191)) ∨ (x = .int .i64 4 ∧ p = .int .i64 (64 * (64 * (64 * ((b0 : Int) - 240) + (b1 : Int) - 128) + (b2 : Int) - 128) + (b3 : Int) - 128) ∧ Hid (128 ≤ b1 ∧ b1 ≤ 191 ∧ 128 ≤ b2 ∧ b2 ≤ 191 ∧ 128 ≤ b3 ∧ b3 ≤ 191))) (fun _ x => 4 - (RowKit.intOf x).toNat)
  case atStart => exact .inl ⟨rfl, rfl⟩
  case round =>
    rcases hrel with ⟨rfl, rfl⟩ | ⟨rfl, rfl, HV⟩ | ⟨rfl, rfl, HV⟩ | ⟨rfl, rfl, HV⟩
    · have hl := HLO.out
      have gi := G1.out (by have := HSN.out; omega)
      have zi : (1 : Int) < (u.size : Int) := by have := HSN.out; omega
      have bi : (b1 : Int) ≤ 255 := by omega
      by_cases e1 : b1 < 128
      · have HZ : Hid (Z = 0) := hidden (by rw [HL.out, if_neg (by have := HSN.out; omega), if_pos (by omega)])
        have y1 : decide ((b1 : Int) < 128) = true := by rw [decide_eq_true_iff]; omega
        clear HL
        go_wp2
        go_ret
        exact ⟨by rw [HZ.out]; rfl, rfl⟩
      · have y1 : decide ((b1 : Int) < 128) = false := by rw [decide_eq_false_iff_not]; omega
        by_cases e2 : 191 < b1
        · have HZ : Hid (Z = 0) := hidden (by rw [HL.out, if_neg (by have := HSN.out; omega), if_pos (by omega)])
          have y2 : decide ((191 : Int) < (b1 : Int)) = true := by rw [decide_eq_true_iff]; omega
          clear HL
          go_wp2
          go_ret
          exact ⟨by rw [HZ.out]; rfl, rfl⟩
        · have y2 : decide ((191 : Int) < (b1 : Int)) = false := by rw [decide_eq_false_iff_not]; omega
          have HN : Hid (128 ≤ b1 ∧ b1 ≤ 191) := hidden (by omega)
          go_wp2
          go_round
          case rel => exact .inr (.inl ⟨by first | rfl | go_num, by first | rfl | go_num | (congr 1; omega), HN⟩)
          case measure => simp [RowKit.intOf]
    · have hl := HLO.out
      have hv := HV.out
      have gi := G2.out (by have := HSN.out; omega)
      have zi : (2 : Int) < (u.size : Int) := by have := HSN.out; omega
      have bi : (b2 : Int) ≤ 255 := by omega
      by_cases e1 : b2 < 128
      · have HZ : Hid (Z = 0) := hidden (by rw [HL.out, if_neg (by have := HSN.out; omega), if_neg (by have := HV.out; omega), if_pos (by omega)])
        have y1 : decide ((b2 : Int) < 128) = true := by rw [decide_eq_true_iff]; omega
        clear HL
        go_wp2
        go_ret
        exact ⟨by rw [HZ.out]; rfl, rfl⟩
      · have y1 : decide ((b2 : Int) < 128) = false := by rw [decide_eq_false_iff_not]; omega
        by_cases e2 : 191 < b2
        · have HZ : Hid (Z = 0) := hidden (by rw [HL.out, if_neg (by have := HSN.out; omega), if_neg (by have := HV.out; omega), if_pos (by omega)])
          have y2 : decide ((191 : Int) < (b2 : Int)) = true := by rw [decide_eq_true_iff]; omega
          clear HL
          go_wp2
          go_ret
          exact ⟨by rw [HZ.out]; rfl, rfl⟩
        · have y2 : decide ((191 : Int) < (b2 : Int)) = false := by rw [decide_eq_false_iff_not]; omega
          have HN : Hid (128 ≤ b1 ∧ b1 ≤ 191 ∧ 128 ≤ b2 ∧ b2 ≤ 191) := hidden (by have := HV.out; omega)
          go_wp2
          go_round
          case rel => exact .inr (.inr (.inl ⟨by first | rfl | go_num, by first | rfl | go_num | (congr 1; omega), HN⟩))
          case measure => simp [RowKit.intOf]
    · have hl := HLO.out
      have hv := HV.out
      have gi := G3.out (by have := HSN.out; omega)
      have zi : (3 : Int) < (u.size : Int) := by have := HSN.out; omega
      have bi : (b3 : Int) ≤ 255 := by omega
      by_cases e1 : b3 < 128
      · have HZ : Hid (Z = 0) := hidden (by rw [HL.out, if_neg (by have := HSN.out; omega), if_neg (by have := HV.out; omega), if_neg (by have := HV.out; omega), if_pos (by omega)])
        have y1 : decide ((b3 : Int) < 128) = true := by rw [decide_eq_true_iff]; omega
        clear HL
        go_wp2
        go_ret
        exact ⟨by rw [HZ.out]; rfl, rfl⟩
      · have y1 : decide ((b3 : Int) < 128) = false := by rw [decide_eq_false_iff_not]; omega
        by_cases e2 : 191 < b3
        · have HZ : Hid (Z = 0) := hidden (by rw [HL.out, if_neg (by have := HSN.out; omega), if_neg (by have := HV.out; omega), if_neg (by have := HV.out; omega), if_pos (by omega)])
          have y2 : decide ((191 : Int) < (b3 : Int)) = true := by rw [decide_eq_true_iff]; omega
          clear HL
          go_wp2
          go_ret
          exact ⟨by rw [HZ.out]; rfl, rfl⟩
        · have y2 : decide ((191 : Int) < (b3 : Int)) = false := by rw [decide_eq_false_iff_not]; omega
          have HN : Hid (128 ≤ b1 ∧ b1 ≤ 191 ∧ 128 ≤ b2 ∧ b2 ≤ 191 ∧ 128 ≤ b3 ∧ b3 ≤ 191) := hidden (by have := HV.out; omega)
          go_wp2
          go_round
          case rel => exact .inr (.inr (.inr (⟨by first | rfl | go_num, by first | rfl | go_num | (congr 1; omega), HN⟩)))
          case measure => simp [RowKit.intOf]
    · have hl := HLO.out
      have hv := HV.out
      obtain ⟨pt, hpt⟩ : ∃ pt : Nat, (64 * (64 * (64 * ((b0 : Int) - 240) + (b1 : Int) - 128) + (b2 : Int) - 128) + (b3 : Int) - 128) = (pt : Int) := ⟨((64 * (64 * (64 * ((b0 : Int) - 240) + (b1 : Int) - 128) + (b2 : Int) - 128) + (b3 : Int) - 128)).toNat, by omega⟩
      have HPT := hidden hpt
      rw [hpt]
      have zp : (pt : Int) ≤ 100000000 := by omega
      clear hpt
      by_cases e1 : pt < 65536
      · have y1 : decide ((pt : Int) < 65536) = true := by rw [decide_eq_true_iff]; omega
        have HZ : Hid (Z = 0) := hidden (by rw [HL.out, if_neg (by have := HSN.out; omega), if_neg (by have := HV.out; omega), if_neg (by have := HV.out; omega), if_neg (by have := HV.out; omega), if_pos (by have := HPT.out; have := HLO.out; have := HV.out; omega)])
        clear HL hl hv
        go_wp2
        go_ret
        exact ⟨by rw [HZ.out]; rfl, rfl⟩
      have y1 : decide ((pt : Int) < 65536) = false := by rw [decide_eq_false_iff_not]; omega
      by_cases e2 : 1114111 < pt
      · have y2 : decide ((1114111 : Int) < (pt : Int)) = true := by rw [decide_eq_true_iff]; omega
        have HZ : Hid (Z = 0) := hidden (by rw [HL.out, if_neg (by have := HSN.out; omega), if_neg (by have := HV.out; omega), if_neg (by have := HV.out; omega), if_neg (by have := HV.out; omega), if_pos (by have := HPT.out; have := HLO.out; have := HV.out; omega)])
        clear HL hl hv
        go_wp2
        go_ret
        exact ⟨by rw [HZ.out]; rfl, rfl⟩
      have y2 : decide ((1114111 : Int) < (pt : Int)) = false := by rw [decide_eq_false_iff_not]; omega
      by_cases e3 : 55296 ≤ pt
      · have y3 : decide ((55296 : Int) ≤ (pt : Int)) = true := by rw [decide_eq_true_iff]; omega
        by_cases e4 : pt ≤ 57343
        · have y4 : decide ((pt : Int) ≤ 57343) = true := by rw [decide_eq_true_iff]; omega
          have HZ : Hid (Z = 0) := hidden (by rw [HL.out, if_neg (by have := HSN.out; omega), if_neg (by have := HV.out; omega), if_neg (by have := HV.out; omega), if_neg (by have := HV.out; omega), if_pos (by have := HPT.out; have := HLO.out; have := HV.out; omega)])
          clear HL hl hv
          go_wp2
          go_ret
          exact ⟨by rw [HZ.out]; rfl, rfl⟩
        have y4 : decide ((pt : Int) ≤ 57343) = false := by rw [decide_eq_false_iff_not]; omega
        have HZ : Hid (Z = 4) := hidden (by rw [HL.out, if_neg (by have := HSN.out; omega), if_neg (by have := HV.out; omega), if_neg (by have := HV.out; omega), if_neg (by have := HV.out; omega), if_neg (by have := HPT.out; have := HLO.out; have := HV.out; omega)])
        clear HL hl hv
        go_wp2
        go_ret
        exact ⟨by rw [HZ.out]; rfl, rfl⟩
      have y3 : decide ((55296 : Int) ≤ (pt : Int)) = false := by rw [decide_eq_false_iff_not]; omega
      have HZ : Hid (Z = 4) := hidden (by rw [HL.out, if_neg (by have := HSN.out; omega), if_neg (by have := HV.out; omega), if_neg (by have := HV.out; omega), if_neg (by have := HV.out; omega), if_neg (by have := HPT.out; have := HLO.out; have := HV.out; omega)])
      clear HL hl hv
      go_wp2
      go_ret
      exact ⟨by rw [HZ.out]; rfl, rfl⟩
set_option maxRecDepth 100000 in
theorem letter_any (u : ByteArray) (w : World) (h0 : 0 < u.size) (hs : u.size ≤ 140737488355328) : Calls Tryz.prog 68 #[.string u] w fun e w' => e = .returned (.int .i64 (letT u : Int)) ∧ w' = w := by
  have hb := by_lt (u.get! 0)
  by_cases h1 : (u.get! 0).toNat ≤ 127
  · exact letter_one u w h0 hs (Nat.zero_le _) h1
  by_cases h2 : (u.get! 0).toNat ≤ 193
  · exact letter_bad1 u w h0 hs (by omega) h2
  by_cases h3 : (u.get! 0).toNat ≤ 223
  · exact letter_two u w h0 hs (by omega) h3
  by_cases h4 : (u.get! 0).toNat ≤ 239
  · exact letter_three u w h0 hs (by omega) h4
  by_cases h5 : (u.get! 0).toNat ≤ 244
  · exact letter_four u w h0 hs (by omega) h5
  · exact letter_bad2 u w h0 hs (by omega) (by omega)
set_option maxHeartbeats 1000000 in
set_option maxRecDepth 100000 in
theorem utf8_any (t : ByteArray) (w : World) (hs : t.size ≤ 140737488355328) : Calls Tryz.prog 45 #[.string t] w fun e w' => e = .returned (.bool (Lib.validD t.data.toList)) ∧ w' = w := by
  obtain ⟨V, hV⟩ : ∃ V, Lib.validD t.data.toList = V := ⟨_, rfl⟩
  have HV := hidden hV
  rw [hV]
  clear hV
  go_enter Tryz.func45, Tryz.ntmps45
  go_wp2_with fail
  go_loop [3] (fun x => ∃ i : Nat, i ≤ t.size ∧ x = .int .i64 (i : Int) ∧ Hid (Lib.validD (t.data.toList.drop i) = V)) (fun x => t.size - (RowKit.intOf x).toNat)
  case atStart => exact ⟨0, by omega, rfl, hidden (by rw [List.drop_zero]; exact HV.out)⟩
  case round =>
    obtain ⟨i, hi, rfl, HD⟩ := hrel
    have bi : (i : Int) ≤ 140737488355328 := by omega
    by_cases hlt : i < t.size
    · have hltI : (i : Int) < (t.size : Int) := by omega
      have hleI : (i : Int) ≤ (t.size : Int) := by omega
      obtain ⟨u, hu⟩ : ∃ u, t.extract i t.size = u := ⟨_, rfl⟩
      have hus : u.size = t.size - i := by rw [← hu, Lib.ext_size]
      have HS : Hid (V = if letT u = 0 then false else Lib.validD (t.data.toList.drop (i + letT u))) := hidden (by rw [← HD.out, valid_step t i hlt, hu])
      have HLE := hidden (letT_le u (by omega))
      have HLC := hidden (letter_any u w (by omega) (by omega))
      obtain ⟨k, hk⟩ : ∃ k, letT u = k := ⟨_, rfl⟩
      rw [hk] at HS HLE HLC
      have bk : (k : Int) ≤ 140737488355328 := by have := HLE.out; omega
      have HUS := hidden hus
      clear hk hus HD
      go_wp2_with (first | (go_at_call 68; refine same_call HLC.out ?_; refine Hid.out ?_))
      apply hidden
      by_cases hk0 : k = 0
      · subst hk0
        have HF : Hid (V = false) := hidden (by rw [HS.out, if_pos rfl])
        clear HS HLC
        go_wp2
        go_ret
        exact ⟨by rw [HF.out]; rfl, rfl⟩
      · have hk0I : ¬ (k : Int) = 0 := by omega
        have hk0b : ((k : Int) == 0) = false := by rw [beq_eq_false_iff_ne]; omega
        have HN : Hid (Lib.validD (t.data.toList.drop (i + k)) = V) := hidden (by rw [HS.out, if_neg hk0])
        have hle : i + k ≤ t.size := by have := HLE.out; have := HUS.out; omega
        clear HS HLC hu
        go_wp2
        go_round
        case rel => exact ⟨i + k, hle, by go_num, HN⟩
        case measure => simp [RowKit.intOf]; omega
    · obtain rfl : i = t.size := by omega
      have hlI : ¬ (t.size : Int) < (t.size : Int) := by omega
      have HT : Hid (V = true) := hidden (by
        rw [← HD.out, List.drop_of_length_le (by rw [Array.length_toList]; exact Nat.le_refl _)]
        rfl)
      go_wp2
      go_ret
      exact ⟨by rw [HT.out]; rfl, rfl⟩
end Go.Proofs.YtpiijmionafmcaaGreatDoor
