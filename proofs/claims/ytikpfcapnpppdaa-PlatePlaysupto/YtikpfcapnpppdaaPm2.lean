/- The document's page sizes and devices: IsPage, device. Lent, AsLent. -/
import Derived.Test.YtikpfcapnpppdaaPl12
namespace Go.Proofs.Ytikpfcapnpppdaa
open Go.RowKit

set_option maxRecDepth 100000 in
theorem IsPage_any (x : Int) (w : World) : Calls Try.prog 50 #[.int .i64 x] w fun e w' => e = .returned (.bool (pgs x)) ∧ w' = w := by
  go_enter Try.func50, Try.ntmps50
  go_wp2
  go_loop [3] (fun t => ∃ n : Int, t = .int .i64 n ∧ 512 ≤ n ∧ n ≤ 131072 ∧ (pgs n = true ∨ n = 131072) ∧ (pgs x = true → n ≤ x)) (fun t => (131072 - intOf t).toNat)
  case atStart => exact ⟨512, rfl, by omega, by omega, .inl (by decide), fun h => by simp only [pgs, decide_eq_true_eq] at h; omega⟩
  case round =>
    obtain ⟨n, rfl, h1, h2, h3, h4⟩ := hrel
    have H3 := hidden h3
    have H4 := hidden h4
    clear h3 h4
    by_cases hle : n ≤ 65536
    · by_cases he : n = x
      · have hp : pgs x = true := by
          rcases H3.out with h | h
          · rw [← he]; exact h
          · omega
        subst he
        have HP := hidden hp
        clear hp
        go_wp2
        go_ret
        exact ⟨by rw [HP.out]; rfl, rfl⟩
      · have hne : (n == x) = false := by simpa using he
        go_wp2
        go_round
        case rel =>
          refine ⟨2 * n, rfl, by omega, by omega, ?_, ?_⟩
          · have := H3.out
            simp only [pgs, decide_eq_true_eq] at this ⊢
            omega
          · intro h
            have h5 := H4.out h
            have h6 := H3.out
            simp only [pgs, decide_eq_true_eq] at h h6
            omega
        case measure => simp [intOf]; omega
    · have hp : pgs x = false := by
        cases hx : pgs x
        · rfl
        · have h5 := H4.out hx
          have h6 := H3.out
          simp only [pgs, decide_eq_true_eq] at hx h6
          omega
      have HP := hidden hp
      clear hp
      go_wp2
      go_ret
      exact ⟨by rw [HP.out]; rfl, rfl⟩

set_option maxRecDepth 100000 in
theorem device_any (x y : Int) (w : World) : Calls Try.prog 24 #[.int .i64 x, .int .i64 y] w fun e w' => e = .returned (.bool (dev x y)) ∧ w' = w := by
  have hp := IsPage_any x w
  cases h : pgs x
  · rw [h] at hp
    have hd : dev x y = false := by simp [dev, h]
    rw [hd]
    clear hd h
    go_enter Try.func24, Try.ntmps24
    go_wp2_with (go_at_call 50; refine same_call hp ?_)
    go_ret
    exact ⟨rfl, rfl⟩
  · rw [h] at hp
    have hb : 512 ≤ x ∧ x ≤ 65536 := by simp only [pgs, decide_eq_true_eq] at h; omega
    obtain ⟨hb1, hb2⟩ := hb
    by_cases h4 : 4 ≤ y
    · by_cases h5 : y ≤ 65536
      · have hm1 : 0 ≤ y * x := Int.mul_nonneg (by omega) (by omega)
        have hm2 : y * x ≤ 65536 * 65536 := Int.mul_le_mul h5 hb2 (by omega) (by omega)
        have hd : dev x y = decide (y * x ≤ 67108864) := by
          unfold dev
          rw [decide_eq_decide, Int.mul_comm x y]
          exact ⟨fun h => h.2.2.2, fun h' => ⟨h, h4, h5, h'⟩⟩
        rw [hd]
        clear hd h
        obtain ⟨z, hz⟩ : ∃ z, y * x = z := ⟨_, rfl⟩
        rw [hz] at hm1 hm2 ⊢
        have hm2' : z ≤ 4294967296 := by omega
        clear hm2
        go_enter Try.func24, Try.ntmps24
        go_wp2_with (go_at_call 50; refine same_call hp ?_)
        go_ret
        exact ⟨rfl, rfl⟩
      · have hd : dev x y = false := by simp [dev]; omega
        rw [hd]
        clear hd h
        go_enter Try.func24, Try.ntmps24
        go_wp2_with (go_at_call 50; refine same_call hp ?_)
        go_ret
        exact ⟨rfl, rfl⟩
    · have hd : dev x y = false := by simp [dev]; omega
      rw [hd]
      clear hd h
      go_enter Try.func24, Try.ntmps24
      go_wp2_with (go_at_call 50; refine same_call hp ?_)
      go_ret
      exact ⟨rfl, rfl⟩

/-- The marks behind what is lent. -/
def mks : Nat → List Int
  | 0 => []
  | k + 1 => mks k ++ [200 + (k : Int)]
set_option maxRecDepth 100000 in
theorem mks_len : ∀ k, (mks k).length = k
  | 0 => rfl
  | k + 1 => by simp [mks, mks_len k]
set_option maxRecDepth 100000 in
theorem mks_get : ∀ k i, i < k → (mks k).getD i 0 = 200 + (i : Int)
  | 0, i, h => by omega
  | k + 1, i, h => by
    simp only [mks, List.getD]
    by_cases e : i < k
    · rw [List.getElem?_append_left (by rw [mks_len]; exact e)]
      exact mks_get k i e
    · obtain rfl : i = k := by omega
      rw [List.getElem?_append_right (by rw [mks_len]; exact Nat.le_refl _), mks_len]
      simp
set_option maxRecDepth 100000 in
theorem mks_wf : Wf (mks 9) := by unfold Wf mks; decide
set_option maxRecDepth 100000 in
theorem mks_step (l : List Int) (n k : Nat) (hl : l.length = n) (hk : k < 9) : (l ++ (mks k ++ List.replicate (9 - k) 0)).set (n + k) (200 + (k : Int)) = l ++ (mks (k + 1) ++ List.replicate (9 - (k + 1)) 0) := by
  rw [List.set_append_right _ _ (by omega), show n + k - l.length = k by omega, List.set_append_right _ _ (by rw [mks_len]; exact Nat.le_refl _), mks_len, Nat.sub_self, show 9 - k = (9 - (k + 1)) + 1 by omega, List.replicate_succ]
  simp [mks]
set_option maxRecDepth 100000 in
theorem wrapu8 (x : Int) (h : 0 ≤ x) (h2 : x ≤ 255) : IntKind.u8.wrap x = x := by
  unfold IntKind.wrap
  simp [IntKind.bits, IntKind.signed]
  omega

set_option maxRecDepth 100000 in
set_option maxHeartbeats 1000000 in
theorem Lent_any (ao : Option Addr) (n cap : Nat) (l : List Int) (w : World) (hs : Sl w ao n cap l) :
    Calls Try.prog 27 #[.slice ao n cap] w fun e w' => e = .returned (.slice (some ⟨w.heap.size, 0, none⟩) n (n + 9)) ∧ w'.heap[w.heap.size]? = some (.cells (By (l ++ mks 9)).toArray 5 (0, 0)) ∧ Below w.heap.size w w' := by
  obtain ⟨i0, hi, hz0, hz1, hz2⟩ := info_parts info5
  have hsz : (Try.prog.info? 5).map (·.size) = some 1 := by rw [hi]; simp [hz1]
  have hroom := hs.hroom
  have hlen := hs.hlen
  have HS := hidden hs
  have HLEN := hidden hlen
  clear hs hlen
  go_enter Try.func27, Try.ntmps27
  go_wp2_with (at_make; refine wpList_make_full _ rfl _ _ 35 rfl 0 5 i0 (.int .u8 0) 1 Try.underlying35 hi hz0 hz1 .i64 .i64 (n + 9) (n + 9) (n + 9) rfl rfl rfl rfl (by rw [hz2]; omega) (by unfold maxLen; omega) (Nat.zero_le _) ?_)
  intro w1 hown1 hg1
  have HR1 := hidden (made_row hown1)
  have HB1 : Hid (Below w.heap.size w w1) := hidden ((Below.refl _ _).grown hg1 (Nat.le_refl _) (fun k hk => by cases hk))
  clear hown1 hg1 hi hz0 hz1 hz2
  have HP : Hid (0 < (By l).length → some (⟨w.heap.size, 0, none⟩ : Addr) = some ⟨w.heap.size, 0, none⟩ ∧ ∃ ad, ao = some ad ∧ ∀ j v, (By l)[j]? = some v → w1.cell? (ad.add j) = some v) := by
    refine hidden fun h => ?_
    rw [By_length] at h
    rcases HS.out.hat with h0 | ⟨b, off, rfl, hbb, hc⟩
    · rw [HLEN.out] at h; omega
    · refine ⟨rfl, _, rfl, fun j v hv => ?_⟩
      obtain ⟨h1, rfl⟩ := getElem?_By l j v hv
      rw [Addr.add_lit]
      exact (HB1.out.cell (p := ⟨b, off + j, none⟩) hbb).trans (hc j (by rw [← HLEN.out]; exact h1))
  obtain ⟨cur, hcur⟩ : ∃ cur, List.replicate (n + 9) (Value.int .u8 0) = cur := ⟨_, rfl⟩
  rw [hcur] at HR1
  have HCL : Hid (cur.length = n + 9) := hidden (by rw [← hcur]; simp)
  have HCUR := hidden hcur
  clear hcur
  go_wp2_with (refine wpList_copy_splice rfl _ _ 35 35 rfl 5 Try.underlying35 hsz _ _ (n + 9) (n + 9) n cap rfl rfl w.heap.size 0 cur 5 HR1.out (By l) (by rw [By_length, HLEN.out]; exact (Nat.min_eq_left (by omega)).symm) HP.out (by rw [By_length, HLEN.out, HCL.out]; omega) (By_one l) w.heap.size w HB1.out (Nat.le_refl _) ?_)
  intro w2 hh hb2
  have HR2 : Hid (w2.heap[w.heap.size]? = some (.cells (By (l ++ (mks 0 ++ List.replicate (9 - 0) 0))).toArray 5 (0, 0))) := hidden (by
    rw [hh.out, ← HCUR.out]
    simp only [splice, By_length, HLEN.out, List.take_zero, List.nil_append, Nat.zero_add, By_append, List.drop_replicate, show n + 9 - n = 9 by omega]
    rfl)
  have HB2 := hidden hb2
  clear hh hb2 HP HCUR HCL HR1 HB1 HS
  go_wp2_with fail
  go_loopw [4] (fun i wr => ∃ k : Nat, k ≤ 9 ∧ i = .int .i64 ((n : Int) + k) ∧ Hid (wr.heap[w.heap.size]? = some (.cells (By (l ++ (mks k ++ List.replicate (9 - k) 0))).toArray 5 (0, 0))) ∧ Hid (Below w.heap.size w wr)) (fun i _ => n + 9 - (intOf i).toNat)
  case atStart => exact ⟨0, by omega, by simp, HR2, HB2⟩
  case round =>
    obtain ⟨k, hk, rfl, HR, HB⟩ := hrel
    by_cases hlt : k < 9
    · have hlt' : (n : Int) + (k : Int) < (n : Int) + 9 := by omega
      have hw8 : IntKind.u8.wrap (200 + ((n : Int) + (k : Int)) - (n : Int)) = 200 + (k : Int) := by rw [show 200 + ((n : Int) + (k : Int)) - (n : Int) = 200 + (k : Int) by omega]; exact wrapu8 _ (by omega) (by omega)
      have f := free_of_row (i := n + k) HR.out
      obtain ⟨y, cy⟩ : ∃ y, wr.cell? ⟨w.heap.size, n + k, none⟩ = some y := ⟨_, (cell_of_row HR.out).trans (getD_By _ _ (by simp [HLEN.out, mks_len]; omega))⟩
      go_wp2
      go_roundw
      case rel =>
        refine ⟨k + 1, by omega, by go_num, hidden ?_, hidden (HB.out.setCell (by show w.heap.size ≤ w.heap.size; omega) _)⟩
        rw [heap_setCell_self HR.out, By_set, mks_step l n k HLEN.out hlt]
      case measure => simp [intOf]; omega
    · have hge : ¬ ((n : Int) + (k : Int) < (n : Int) + 9) := by omega
      obtain rfl : k = 9 := by omega
      go_wp2
      go_ret
      exact ⟨rfl, by simpa using HR.out, HB.out⟩
end Go.Proofs.Ytikpfcapnpppdaa
