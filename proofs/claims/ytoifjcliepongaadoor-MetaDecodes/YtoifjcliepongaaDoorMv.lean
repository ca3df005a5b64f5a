/- The document's Decode of a meta page. -/
import Derived.Test.YtoifjcliepongaaDoorMu
namespace Go.Proofs.YtoifjcliepongaaDoor
open Go.RowKit

set_option maxRecDepth 100000 in
theorem rdN_take (l : List Int) (p d k : Nat) (hk : k < d) (h : p + d ≤ l.length) : rdB (((l.drop p).take d).take (k + 1)) = rdB (((l.drop p).take d).take k) * 256 + l.getD (p + k) 0 := by
  rw [take_snoc _ k (by simp; omega), rdB_snoc]
  congr 1
  simp [List.getD, hk]
set_option maxRecDepth 100000 in
theorem rdB_grows (l : List Int) (h : Wf l) (k : Nat) : rdB (l.take k) ≤ rdB l := by
  have e : l = l.take k ++ l.drop k := (List.take_append_drop k l).symm
  have h1 := rdB_acc (l.drop k) (rdB (l.take k))
  have h2 : rdB l = rdB (l.take k) * 256 ^ (l.drop k).length + rdB (l.drop k) := by
    rw [← h1]
    conv => lhs; rw [e]
    simp only [rdB, List.foldl_append]
  have h3 := (rdB_bound (l.drop k) (h.drop k)).1
  have h4 := (rdB_bound (l.take k) (h.take k)).1
  have h5 : (1 : Int) ≤ 256 ^ (l.drop k).length := by
    have : (0 : Int) < 256 ^ (l.drop k).length := Int.pow_pos (by omega)
    omega
  have h6 := Int.mul_le_mul_of_nonneg_left h5 h4
  omega

set_option maxRecDepth 100000 in
set_option maxHeartbeats 1000000 in
theorem number_any (ao : Option Addr) (n cap : Nat) (l : List Int) (p d : Nat) (w : World) (hs : Sl w ao n cap l) (hd : p + d ≤ n) (h8 : d ≤ 8) (hfit : rdN l p d ≤ 9223372036854775807) :
    Calls Tryd.prog 36 #[.slice ao n cap, .int .i64 (p : Int), .int .i64 (d : Int)] w fun e w' => e = .returned (.int .i64 (rdN l p d)) ∧ w' = w := by
  have HS := hidden hs
  have hlen := hs.hlen
  have hroom := hs.hroom
  have hwf := hs.wf
  have HWD : Hid (Wf ((l.drop p).take d)) := hidden ((hwf.drop p).take d)
  have HF := hidden hfit
  have HL := hidden hlen
  generalize hR : rdN l p d = R at *
  have HR := hidden hR
  have hpn : (p : Int) ≤ 140737488355328 := by omega
  clear hs hlen hwf hfit hR
  go_enter Tryd.func36, Tryd.ntmps36
  go_wp2_with fail
  go_loop [7, 8] (fun v i => ∃ k : Nat, k ≤ d ∧ i = .int .i64 k ∧ v = .int .i64 (rdB (((l.drop p).take d).take k))) (fun _ i => d - (intOf i).toNat)
  case atStart => exact ⟨0, by omega, rfl, by simp [rdB]⟩
  case round =>
    obtain ⟨k, hk, rfl, rfl⟩ := hrel
    by_cases hlt : k < d
    · have hkc : (k : Int) < (d : Int) := by omega
      rcases HS.out.hat with h | ⟨b, off, rfl, hbb, hc⟩
      · omega
      have hcell := hc (p + k) (by omega)
      have hbd := HS.out.wf.getD (p + k)
      have hst := rdN_take l p d k hlt (by rw [HL.out]; exact hd)
      have hb1 := (rdB_bound _ (HWD.out.take k)).1
      have hb2 := rdB_grows _ HWD.out (k + 1)
      rw [show rdB ((l.drop p).take d) = R from HR.out] at hb2
      rw [hst] at hb2
      have HST := hidden hst
      generalize rdB (((l.drop p).take d).take k) = x at *
      generalize l.getD (p + k) 0 = y at *
      have h256 : 256 * x + y ≤ 9223372036854775807 := by have := HF.out; omega
      have h256' : 256 * x ≤ 9223372036854775807 := by omega
      have hidx : (p : Int) + (k : Int) < (n : Int) := by omega
      have hidx2 : p + k < n := by omega
      have hy64 : IntKind.i64.wrap y = y := by rw [IntKind.wrap_i64]; omega
      have HE : Hid (rdB (((l.drop p).take d).take (k + 1)) = 256 * x + y) := hidden (by rw [HST.out]; omega)
      clear hc hst hb2 HST
      go_wp2
      go_round
      case rel => exact ⟨k + 1, by omega, by go_num, by rw [HE.out]⟩
      case measure => simp [intOf]; omega
    · obtain rfl : k = d := by omega
      have HE : Hid (rdB (((l.drop p).take k).take k) = R) := hidden (by rw [List.take_take, Nat.min_self]; exact HR.out)
      go_wp2
      go_ret
      exact ⟨ret_int HE.out, rfl⟩
set_option maxRecDepth 100000 in
/-- A page's thirteenth byte is below 128. -/
theorem says_12 {l : List Int} {m : Mt} (hw : Wf l) (h : Says l m) : l.getD 12 0 ≤ 127 := by
  have hl := h.length.2
  have hm := h.1.tx
  have e := congrArg Mt.tx h.eq
  have e2 : m.tx = IntKind.i64.wrap (rdN l 12 8) := e
  have h1 : (l.drop 12).take 8 = l.getD 12 0 :: ((l.drop 13).take 7) := by
    rw [drop_cons l 12 (by omega)]
    rfl
  have h2 : rdN l 12 8 = l.getD 12 0 * 256 ^ ((l.drop 13).take 7).length + rdB ((l.drop 13).take 7) := by
    rw [rdN, h1, rdB_cons]
  have h3 : ((l.drop 13).take 7).length = 7 := by simp; omega
  rw [h3] at h2
  have h4 := rdB_bound ((l.drop 13).take 7) ((hw.drop 13).take 7)
  rw [h3] at h4
  have h5 := hw.getD 12
  simp only [Int.reducePow] at h2 h4
  rw [IntKind.wrap_i64] at e2
  omega
set_option maxRecDepth 100000 in
theorem low_12 {l : List Int} (hw : Wf l) (hl : 512 ≤ l.length) (h : l.getD 12 0 ≤ 127) : rdN l 12 8 ≤ 9223372036854775807 := by
  have h1 : (l.drop 12).take 8 = l.getD 12 0 :: ((l.drop 13).take 7) := by
    rw [drop_cons l 12 (by omega)]
    rfl
  have h2 : rdN l 12 8 = l.getD 12 0 * 256 ^ ((l.drop 13).take 7).length + rdB ((l.drop 13).take 7) := by
    rw [rdN, h1, rdB_cons]
  have h3 : ((l.drop 13).take 7).length = 7 := by simp; omega
  rw [h3] at h2
  have h4 := rdB_bound ((l.drop 13).take 7) ((hw.drop 13).take 7)
  rw [h3] at h4
  simp only [Int.reducePow] at h2 h4
  omega
set_option maxRecDepth 100000 in
theorem one_1 {l : List Int} (hl : 512 ≤ l.length) : rdN l 1 1 = l.getD 1 0 := by
  have h1 : (l.drop 1).take 1 = [l.getD 1 0] := by
    rw [drop_cons l 1 (by omega)]
    rfl
  rw [rdN, h1]
  simp [rdB]
set_option maxRecDepth 100000 in
theorem rd_four (l : List Int) (h : Wf l) (p : Nat) : 0 ≤ rdN l p 4 ∧ rdN l p 4 ≤ 4294967295 := by
  have := rdN_bound l h p 4
  simp only [Int.reducePow] at this
  omega
end Go.Proofs.YtoifjcliepongaaDoor
