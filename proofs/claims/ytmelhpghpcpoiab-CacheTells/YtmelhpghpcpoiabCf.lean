/- The cache: State; the page that the law fills. -/
import Derived.Test.YtmelhpghpcpoiabCd
import Derived.Deep.RegionHeld3
namespace Go.Proofs.Ytmelhpghpcpoiab
open Go.RowKit Go.Maps

set_option maxRecDepth 100000 in
theorem byte_of (x : Int) (h0 : 0 ≤ x) (h1 : x ≤ 255) : IntKind.u8.wrap x = x := by
  rw [IntKind.wrap_u8]
  omega
set_option maxRecDepth 100000 in
theorem filled_any (w : World) (x : Int) (h0 : 0 ≤ x) (h1 : x ≤ 255) : Calls Try.prog 8 #[.int .i64 x] w fun e w' => e = .returned (.slice (some ⟨w.heap.size, 0, none⟩) 512 512) ∧ Hs w' w.heap.size (By (List.replicate 512 x)) tU ∧ Below w.heap.size w w' := by
  have hmk : (Instr.makeSlice 34 (.int .i64 512) (.int .i64 512)).run Try.prog w = .ok (.slice (some ⟨w.heap.size, 0, none⟩) 512 512) (w.alloc (.cells (By (List.replicate 512 0)).toArray 5)) := mkB 512 (by omega) w
  have hx : ¬ x < 0 := by omega
  have hr1 : Hs (w.alloc (.cells (By (List.replicate 512 0)).toArray tU)) w.heap.size (By (List.replicate 512 0)) tU := al_row _ _
  have hb1 : Below w.heap.size w (w.alloc (.cells (By (List.replicate 512 0)).toArray tU)) := (Below.refl _ _).alloc (Nat.le_refl _) _
  have hwx := byte_of x h0 h1
  generalize w.alloc (.cells (By (List.replicate 512 0)).toArray tU) = w1 at *
  have HR1 := hidden hr1
  have HB1 := hidden hb1
  clear hr1 hb1
  go_enter Try.func8, Try.ntmps8
  go_wp2
  go_loopw [4] (fun i wr => ∃ k : Nat, k ≤ 512 ∧ i = .int .i64 k ∧ Hid (Hs wr w.heap.size (By (List.replicate k x ++ List.replicate (512 - k) 0)) tU) ∧ Hid (Below w.heap.size w wr)) (fun i _ => 512 - (intOf i).toNat)
  case atStart => exact ⟨0, by omega, rfl, HR1, HB1⟩
  case round =>
    obtain ⟨k, hk, rfl, HR, HB⟩ := hrel
    by_cases hlt : k < 512
    · have hlt' : (k : Int) < 512 := by omega
      have f := HR.out.free k
      obtain ⟨y, cy⟩ : ∃ y, wr.cell? ⟨w.heap.size, k, none⟩ = some y := ⟨_, (HR.out.cell k).trans (getD_By _ _ (by simp; omega))⟩
      go_wp2
      go_roundw
      case rel =>
        refine ⟨k + 1, by omega, by go_num, hidden ?_, hidden (HB.out.setCell (by show w.heap.size ≤ w.heap.size; omega) _)⟩
        have := HR.out.self (i := k) (.int .u8 x)
        rw [By_set, fill_step 512 k x hlt] at this
        exact this
      case measure => simp [intOf]; omega
    · have hge : ¬ ((k : Int) < 512) := by omega
      obtain rfl : k = 512 := by omega
      go_wp2
      go_ret
      exact ⟨rfl, by simpa using HR.out, HB.out⟩

def stV (fr h1 h2 h3 h4 h5 h6 : Int) : Value := .agg #[.int .i64 fr, .int .i64 h1, .int .i64 h2, .int .i64 h3, .int .i64 h4, .int .i64 h5, .int .i64 h6]
end Go.Proofs.Ytmelhpghpcpoiab
