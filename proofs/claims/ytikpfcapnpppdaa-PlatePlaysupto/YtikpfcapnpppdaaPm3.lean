/- AsLent. -/
import Derived.Test.YtikpfcapnpppdaaPm2
namespace Go.Proofs.Ytikpfcapnpppdaa
open Go.RowKit

set_option maxRecDepth 100000 in
theorem ow_step (X : List Int) (k : Nat) (c : Int) (h : k < X.length) : (List.replicate k c ++ X.drop k).set k c = List.replicate (k + 1) c ++ X.drop (k + 1) := by
  rw [List.set_append_right _ _ (by simp), List.length_replicate, Nat.sub_self, List.drop_eq_getElem_cons h, List.set_cons_zero, List.replicate_succ', List.append_assoc]
  rfl
set_option maxRecDepth 100000 in
theorem ow_get (X : List Int) (k : Nat) (c : Int) : (List.replicate k c ++ X.drop k).getD k 0 = X.getD k 0 := by
  simp only [List.getD]
  rw [List.getElem?_append_right (by simp), List.length_replicate, Nat.sub_self, List.getElem?_drop, Nat.add_zero]
set_option maxRecDepth 100000 in
theorem ow_len (X : List Int) (k : Nat) (c : Int) (h : k ≤ X.length) : (List.replicate k c ++ X.drop k).length = X.length := by simp; omega

set_option maxRecDepth 100000 in
set_option maxHeartbeats 1000000 in
theorem AsLent_any (g n : Nat) (bo : Option Addr) (d : Nat) (l : List Int) (w : World) (hr : w.heap[g]? = some (.cells (By (l ++ mks 9)).toArray 5 (0, 0))) (hb : Sl w bo n d l) :
    Calls Try.prog 28 #[.slice (some ⟨g, 0, none⟩) n (n + 9), .slice bo n d] w fun e w' => e = .returned (.bool true) ∧ Ch (fun k => k = g) w w' := by
  have hlen := hb.hlen
  have hroom := hb.hroom
  have hsl : Sl w (some ⟨g, 0, none⟩) n (n + 9) l := ⟨hlen, by omega, hroom, hb.wf, (by intro h; cases h), .inr ⟨g, 0, rfl, lt_of_some hr, fun i hi => by
    rw [Nat.zero_add, cell_of_row hr, getD_By _ _ (by rw [List.length_append]; omega)]
    simp only [List.getD]
    rw [List.getElem?_append_left (by omega)]⟩⟩
  have k1 := conv_sl hsl
  have k2 := conv_sl hb
  obtain ⟨S, hS⟩ : ∃ S, strOfNums l = S := ⟨_, rfl⟩
  rw [hS] at k1 k2
  have eS : (S.toList == S.toList) = true := by simp
  obtain ⟨X, hX⟩ : ∃ X, l ++ mks 9 = X := ⟨_, rfl⟩
  have HXL : Hid (X.length = n + 9) := hidden (by rw [← hX, List.length_append, mks_len, hlen])
  have HXG : Hid (∀ j, j < 9 → X.getD (n + j) 0 = 200 + (j : Int)) := hidden fun j hj => by
    rw [← hX]
    have := mks_get 9 j hj
    simp only [List.getD] at this ⊢
    rw [List.getElem?_append_right (by omega), show n + j - l.length = j by omega]
    exact this
  rw [hX] at hr
  have HR := hidden hr
  clear hr hb hsl hS hX hlen
  go_enter Try.func28, Try.ntmps28
  go_wp2_with fail
  clear k1 k2 eS
  go_loopw [6, 7] (fun t i wr => ∃ k : Nat, k ≤ n + 9 ∧ t = .bool true ∧ i = .int .i64 k ∧ Hid (Ch (fun j => j = g) w wr) ∧ Hid (wr.heap[g]? = some (.cells (By (List.replicate k 77 ++ X.drop k)).toArray 5 (0, 0)))) (fun _ i _ => n + 9 - (intOf i).toNat)
  case atStart => exact ⟨0, by omega, rfl, rfl, hidden (Ch.refl _ _), HR⟩
  case round =>
    obtain ⟨k, hk, rfl, rfl, HB, HW⟩ := hrel
    by_cases hlt : k < n + 9
    · have hlt' : (k : Int) < (n : Int) + 9 := by omega
      have f := free_of_row (i := k) HW.out
      have hcell : wr.cell? ⟨g, k, none⟩ = some (.int .u8 (X.getD k 0)) := (cell_of_row HW.out).trans ((getD_By _ _ (by rw [ow_len _ _ _ (by rw [HXL.out]; omega), HXL.out]; exact hlt)).trans (by rw [ow_get]))
      by_cases hkn : k < n
      · have hd : decide ((n : Int) ≤ (k : Int)) = false := by simpa using hkn
        have hd' : ¬ ((n : Int) ≤ (k : Int)) := by omega
        go_wp2
        go_roundw
        case rel =>
          refine ⟨k + 1, by omega, rfl, by go_num, hidden (HB.out.trans (Ch.setCell wr (F := fun j => j = g) rfl _) fun _ _ h => h), hidden ?_⟩
          rw [heap_setCell_self HW.out, By_set, ow_step _ _ _ (by rw [HXL.out]; exact hlt)]
        case measure => simp [intOf]; omega
      · obtain ⟨j, rfl⟩ : ∃ j, k = n + j := ⟨k - n, by omega⟩
        rw [HXG.out j (by omega)] at hcell
        have hnk : (n : Int) ≤ ((n + j : Nat) : Int) := by omega
        have hw8 : IntKind.u8.wrap (200 + ((n + j : Nat) : Int) - (n : Int)) = 200 + (j : Int) := by rw [show 200 + ((n + j : Nat) : Int) - (n : Int) = 200 + (j : Int) by omega]; exact wrapu8 _ (by omega) (by omega)
        go_wp2
        go_roundw
        case rel =>
          refine ⟨n + j + 1, by omega, rfl, by go_num, hidden (HB.out.trans (Ch.setCell wr (F := fun j => j = g) rfl _) fun _ _ h => h), hidden ?_⟩
          rw [heap_setCell_self HW.out, By_set, ow_step _ _ _ (by rw [HXL.out]; exact hlt)]
        case measure => simp [intOf]; omega
    · have hge : ¬ ((k : Int) < (n : Int) + 9) := by omega
      go_wp2
      go_ret
      exact ⟨rfl, HB.out⟩
end Go.Proofs.Ytikpfcapnpppdaa
