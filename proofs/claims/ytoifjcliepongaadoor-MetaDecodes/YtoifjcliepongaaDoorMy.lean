/- kept: what was lent stands as it did; then it is written over. -/
import Derived.Test.YtoifjcliepongaaDoorMx
namespace Go.Proofs.YtoifjcliepongaaDoor
open Go.RowKit

set_option maxRecDepth 100000 in
theorem sp_str (l : List Int) : strOfNums (l ++ spN) = strOfNums l ++ spS := by
  unfold strOfNums spS spN
  apply ByteArray.ext
  simp
set_option maxRecDepth 100000 in
theorem str_self (s : ByteArray) : (s.toList == s.toList) = true := by simp

set_option maxRecDepth 100000 in
set_option maxHeartbeats 1000000 in
theorem kept_any (g n c : Nat) (l : List Int) (bo : Option Addr) (cb : Nat) (w : World) (hr : Ry w g (n + 8) (l ++ spN)) (hc : n + 8 ≤ c) (hb : Sl w bo n cb l) (hn : n ≤ 140737488351232) :
    Calls Tryd.prog 20 #[.slice (some ⟨g, 0, none⟩) n c, .slice bo n cb] w fun e w' => e = .returned (.bool true) ∧ w.grownBy w' (some g) := by
  have hcv1 := conv_sl (hr.sl hc (by omega))
  have hcv2 := conv_sl hb
  rw [sp_str] at hcv1
  have HR := hidden hr
  have hsz : (strOfNums l).size = n := by rw [strOfNums_size]; exact hb.hlen
  clear hr hb
  generalize strOfNums l = s1 at *
  have hsp : spS = ⟨#[97, 110, 100, 32, 109, 111, 114, 101]⟩ := rfl
  rw [hsp] at hcv1
  have heq := str_self (s1 ++ ⟨#[97, 110, 100, 32, 109, 111, 114, 101]⟩)
  obtain ⟨N, hN⟩ : ∃ N, n + 8 = N := ⟨_, rfl⟩
  have hN2 : (n : Int) + 8 = (N : Int) := by omega
  rw [hN] at hcv1 hc HR
  have hc2 : (N : Int) ≤ (c : Int) := by omega
  have HG0 : Hid (w.grownBy w (some g)) := hidden (World.grownBy.refl w _)
  go_enter Tryd.func20, Tryd.ntmps20
  go_wp2_with fail
  go_loopw [7] (fun i wr => ∃ (k : Nat) (L : List Int), k ≤ N ∧ i = .int .i64 k ∧ Hid (Ry wr g N L) ∧ Hid (w.grownBy wr (some g))) (fun i _ => N - (intOf i).toNat)
  case atStart => exact ⟨0, _, by omega, rfl, HR, HG0⟩
  case round =>
    obtain ⟨k, L, hk, rfl, HRk, HGk⟩ := hrel
    clear HR HG0 hcv1 hcv2
    by_cases hlt : k < N
    · have hkc : (k : Int) < (N : Int) := by omega
      have hcell := HRk.out.cell k hlt
      have hfr := HRk.out.free k hlt
      obtain ⟨y, hcell⟩ : ∃ y, wr.cell? ⟨g, k, none⟩ = some y := ⟨_, hcell⟩
      have HR2 := hidden (HRk.out.set k 17 hlt (by omega))
      have HG2 : Hid (w.grownBy (wr.setCell ⟨g, k, none⟩ (.int .u8 17)) (some g)) := hidden (by
        have h1 := HGk.out
        have h2 : wr.grownBy (wr.setCell ⟨g, k, none⟩ (.int .u8 17)) (some g) := setCells_grown g [.int .u8 17] k wr
        exact ⟨h2.os.trans h1.os, h2.tape.trans h1.tape, h2.output.trans h1.output, Nat.le_trans h1.size h2.size, fun i hi hne => (h2.block i (Nat.lt_of_lt_of_le hi h1.size) hne).trans (h1.block i hi hne)⟩)
      clear HRk HGk
      go_wp2
      go_roundw
      case rel => exact ⟨k + 1, _, by omega, by go_num, HR2, HG2⟩
      case measure => simp [intOf]; omega
    · have hkc : ¬ (k : Int) < (N : Int) := by omega
      go_wp2
      go_ret
      exact ⟨rfl, HGk.out⟩
end Go.Proofs.YtoifjcliepongaaDoor
