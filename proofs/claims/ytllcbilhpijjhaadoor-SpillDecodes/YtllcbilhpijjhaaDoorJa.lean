/- espalierref03's Lent and AsLent. -/
import Derived.Test.YtllcbilhpijjhaaDoorOd
import Derived.Test.YtllcbilhpijjhaaDoorMath
import Derived.Test.YtllcbilhpijjhaaDoorCrcMath
import Derived.Test.YtllcbilhpijjhaaDoorSum
import Derived.Test.YtllcbilhpijjhaaDoorTurnMath
import Derived.Test.YtllcbilhpijjhaaDoorMe
import Derived.Test.YtllcbilhpijjhaaDoorFixed
namespace Go.Proofs.YtllcbilhpijjhaaDoor
open Go.RowKit

set_option maxRecDepth 100000 in
theorem cell9 {w : World} {a i : Nat} {cs : List Value} {t : TypeId} (h : w.heap[a]? = some (.cells cs.toArray t (0, 0))) : w.cell? ⟨a, i, none⟩ = cs[i]? := by simp [World.cell?, h]
set_option maxRecDepth 100000 in
theorem free9 {w : World} {a i : Nat} {cs : List Value} {t : TypeId} (h : w.heap[a]? = some (.cells cs.toArray t (0, 0))) : w.frozen? ⟨a, i, none⟩ = false := by simp [World.frozen?, h]
set_option maxRecDepth 100000 in
theorem getD_By (l : List Int) (n : Nat) (h : n < l.length) : (By l)[n]? = some (.int .u8 (l.getD n 0)) := by
  simp [By, List.getD, List.getElem?_eq_getElem h]
set_option maxRecDepth 100000 in
theorem made_row {w : World} {e n g : Nat} {z : Value} (h : w.ownsRow 0 e 1 (.slice (some ⟨g, 0, none⟩) n n) n (madeCells #[z] n).toList) : w.heap[g]? = some (.cells (List.replicate n z).toArray e (0, 0)) := by
  rcases h.2 with ⟨h, _⟩ | ⟨g, c, cur, h, _, hh, _, _, hs, ht⟩
  · cases h
  · cases h
    rw [hh]
    congr 2
    apply Array.toList_inj.1
    rw [toList_madeCells_one] at ht
    simp only [Nat.mul_one] at hs ht
    rw [List.take_of_length_le (by simp [hs])] at ht
    simpa using ht

set_option maxRecDepth 100000 in
theorem By_set (l : List Int) (k : Nat) (x : Int) : (By l).set k (.int .u8 x) = By (l.set k x) := by simp [By, List.map_set]
/-- The marks behind what is lent. -/
def mks : Nat → List Int
  | 0 => []
  | k + 1 => mks k ++ [200 + (k : Int)]
set_option maxRecDepth 100000 in
theorem mks_len : ∀ k, (mks k).length = k
  | 0 => rfl
  | k + 1 => by simp [mks, mks_len k]
set_option maxRecDepth 100000 in
theorem mks_get : ∀ k i, i < k → (mks k).getD i 0 = 200 + (i : Int)
  | 0, i, h => by omega
  | k + 1, i, h => by
    simp only [mks, List.getD]
    by_cases e : i < k
    · rw [List.getElem?_append_left (by rw [mks_len]; exact e)]
      exact mks_get k i e
    · obtain rfl : i = k := by omega
      rw [List.getElem?_append_right (by rw [mks_len]; exact Nat.le_refl _), mks_len]
      simp
set_option maxRecDepth 100000 in
theorem mks_wf : Wf (mks 9) := by unfold Wf mks; decide
set_option maxRecDepth 100000 in
theorem mks_step (l : List Int) (n k : Nat) (hl : l.length = n) (hk : k < 9) : (l ++ (mks k ++ List.replicate (9 - k) 0)).set (n + k) (200 + (k : Int)) = l ++ (mks (k + 1) ++ List.replicate (9 - (k + 1)) 0) := by
  rw [List.set_append_right _ _ (by omega), show n + k - l.length = k by omega, List.set_append_right _ _ (by rw [mks_len]; exact Nat.le_refl _), mks_len, Nat.sub_self, show 9 - k = (9 - (k + 1)) + 1 by omega, List.replicate_succ]
  simp [mks]
set_option maxRecDepth 100000 in
theorem wrapu8 (x : Int) (h : 0 ≤ x) (h2 : x ≤ 255) : IntKind.u8.wrap x = x := by
  unfold IntKind.wrap
  simp [IntKind.bits, IntKind.signed]
  omega

set_option maxRecDepth 100000 in
set_option maxHeartbeats 1000000 in
theorem Lent_any (ao : Option Addr) (n cap : Nat) (l : List Int) (w : World) (hs : Sl w ao n cap l) :
    Calls Tryd.prog 9 #[.slice ao n cap] w fun e w' => e = .returned (.slice (some ⟨w.heap.size, 0, none⟩) n (n + 9)) ∧ w'.heap[w.heap.size]? = some (.cells (By (l ++ mks 9)).toArray 5 (0, 0)) ∧ Below w.heap.size w w' := by
  obtain ⟨i0, hi, hz0, hz1, hz2⟩ := info_parts info5
  have hsz : (Tryd.prog.info? 5).map (·.size) = some 1 := by rw [hi]; simp [hz1]
  have hroom := hs.hroom
  have hlen := hs.hlen
  have HS := hidden hs
  have HLEN := hidden hlen
  clear hs hlen
  go_enter Tryd.func9, Tryd.ntmps9
  go_wp2_with (at_make; refine wpList_make_full _ rfl _ _ 22 rfl 0 5 i0 (.int .u8 0) 1 Tryd.underlying22 hi hz0 hz1 .i64 .i64 (n + 9) (n + 9) (n + 9) rfl rfl rfl rfl (by rw [hz2]; omega) (by unfold maxLen; omega) (Nat.zero_le _) ?_)
  intro w1 hown1 hg1
  have HR1 := hidden (made_row hown1)
  have HB1 : Hid (Below w.heap.size w w1) := hidden ((Below.refl _ _).grown hg1 (Nat.le_refl _) (fun k hk => by cases hk))
  clear hown1 hg1 hi hz0 hz1 hz2
  have HP : Hid (0 < (By l).length → some (⟨w.heap.size, 0, none⟩ : Addr) = some ⟨w.heap.size, 0, none⟩ ∧ ∃ ad, ao = some ad ∧ ∀ j v, (By l)[j]? = some v → w1.cell? (ad.add j) = some v) := by
    refine hidden fun h => ?_
    rw [By_length] at h
    rcases HS.out.hat with h0 | ⟨b, off, rfl, hbb, hc⟩
    · rw [HLEN.out] at h; omega
    · refine ⟨rfl, _, rfl, fun j v hv => ?_⟩
      obtain ⟨h1, rfl⟩ := getElem?_By l j v hv
      rw [Addr.add_lit]
      exact (HB1.out.cell (p := ⟨b, off + j, none⟩) hbb).trans (hc j (by rw [← HLEN.out]; exact h1))
  obtain ⟨cur, hcur⟩ : ∃ cur, List.replicate (n + 9) (Value.int .u8 0) = cur := ⟨_, rfl⟩
  rw [hcur] at HR1
  have HCL : Hid (cur.length = n + 9) := hidden (by rw [← hcur]; simp)
  have HCUR := hidden hcur
  clear hcur
  go_wp2_with (refine wpList_copy_splice rfl _ _ 22 22 rfl 5 Tryd.underlying22 hsz _ _ (n + 9) (n + 9) n cap rfl rfl w.heap.size 0 cur 5 HR1.out (By l) (by rw [By_length, HLEN.out]; exact (Nat.min_eq_left (by omega)).symm) HP.out (by rw [By_length, HLEN.out, HCL.out]; omega) (By_one l) w.heap.size w HB1.out (Nat.le_refl _) ?_)
  intro w2 hh hb2
  have HR2 : Hid (w2.heap[w.heap.size]? = some (.cells (By (l ++ (mks 0 ++ List.replicate (9 - 0) 0))).toArray 5 (0, 0))) := hidden (by
    rw [hh.out, ← HCUR.out]
    simp only [splice, By_length, HLEN.out, List.take_zero, List.nil_append, Nat.zero_add, By_append, List.drop_replicate, show n + 9 - n = 9 by omega]
    rfl)
  have HB2 := hidden hb2
  clear hh hb2 HP HCUR HCL HR1 HB1 HS
  go_wp2_with fail
  go_loopw [4] (fun i wr => ∃ k : Nat, k ≤ 9 ∧ i = .int .i64 ((n : Int) + k) ∧ Hid (wr.heap[w.heap.size]? = some (.cells (By (l ++ (mks k ++ List.replicate (9 - k) 0))).toArray 5 (0, 0))) ∧ Hid (Below w.heap.size w wr)) (fun i _ => n + 9 - (intOf i).toNat)
  case atStart => exact ⟨0, by omega, by simp, HR2, HB2⟩
  case round =>
    obtain ⟨k, hk, rfl, HR, HB⟩ := hrel
    by_cases hlt : k < 9
    · have hlt' : (n : Int) + (k : Int) < (n : Int) + 9 := by omega
      have hw8 : IntKind.u8.wrap (200 + ((n : Int) + (k : Int)) - (n : Int)) = 200 + (k : Int) := by rw [show 200 + ((n : Int) + (k : Int)) - (n : Int) = 200 + (k : Int) by omega]; exact wrapu8 _ (by omega) (by omega)
      have f := free9 (i := n + k) HR.out
      obtain ⟨y, cy⟩ : ∃ y, wr.cell? ⟨w.heap.size, n + k, none⟩ = some y := ⟨_, (cell9 HR.out).trans (getD_By _ _ (by simp [HLEN.out, mks_len]; omega))⟩
      go_wp2
      go_roundw
      case rel =>
        refine ⟨k + 1, by omega, by go_num, hidden ?_, hidden (HB.out.setCell (by show w.heap.size ≤ w.heap.size; omega) _)⟩
        rw [set_row HR.out, By_set, mks_step l n k HLEN.out hlt]
      case measure => simp [intOf]; omega
    · have hge : ¬ ((n : Int) + (k : Int) < (n : Int) + 9) := by omega
      obtain rfl : k = 9 := by omega
      go_wp2
      go_ret
      exact ⟨rfl, by simpa using HR.out, HB.out⟩
set_option maxRecDepth 100000 in
theorem ow_step (X : List Int) (k : Nat) (c : Int) (h : k < X.length) : (List.replicate k c ++ X.drop k).set k c = List.replicate (k + 1) c ++ X.drop (k + 1) := by
  rw [List.set_append_right _ _ (by simp), List.length_replicate, Nat.sub_self, List.drop_eq_getElem_cons h, List.set_cons_zero, List.replicate_succ', List.append_assoc]
  rfl
set_option maxRecDepth 100000 in
theorem ow_get (X : List Int) (k : Nat) (c : Int) : (List.replicate k c ++ X.drop k).getD k 0 = X.getD k 0 := by
  simp only [List.getD]
  rw [List.getElem?_append_right (by simp), List.length_replicate, Nat.sub_self, List.getElem?_drop, Nat.add_zero]
set_option maxRecDepth 100000 in
theorem ow_len (X : List Int) (k : Nat) (c : Int) (h : k ≤ X.length) : (List.replicate k c ++ X.drop k).length = X.length := by simp; omega

set_option maxRecDepth 100000 in
set_option maxHeartbeats 1000000 in
theorem AsLent_any (g n : Nat) (bo : Option Addr) (d : Nat) (l : List Int) (w : World) (hr : w.heap[g]? = some (.cells (By (l ++ mks 9)).toArray 5 (0, 0))) (hb : Sl w bo n d l) :
    Calls Tryd.prog 11 #[.slice (some ⟨g, 0, none⟩) n (n + 9), .slice bo n d] w fun e w' => e = .returned (.bool true) ∧ Cf (fun k => k = g) w w' := by
  have hlen := hb.hlen
  have hroom := hb.hroom
  have hsl : Sl w (some ⟨g, 0, none⟩) n (n + 9) l := ⟨hlen, by omega, hroom, hb.wf, (by intro h; cases h), .inr ⟨g, 0, rfl, lt_some hr, fun i hi => by
    rw [Nat.zero_add, cell9 hr, getD_By _ _ (by rw [List.length_append]; omega)]
    simp only [List.getD]
    rw [List.getElem?_append_left (by omega)]⟩⟩
  have k1 := conv_sl hsl
  have k2 := conv_sl hb
  obtain ⟨S, hS⟩ : ∃ S, strOfNums l = S := ⟨_, rfl⟩
  rw [hS] at k1 k2
  have eS : (S.toList == S.toList) = true := by simp
  obtain ⟨X, hX⟩ : ∃ X, l ++ mks 9 = X := ⟨_, rfl⟩
  have HXL : Hid (X.length = n + 9) := hidden (by rw [← hX, List.length_append, mks_len, hlen])
  have HXG : Hid (∀ j, j < 9 → X.getD (n + j) 0 = 200 + (j : Int)) := hidden fun j hj => by
    rw [← hX]
    have := mks_get 9 j hj
    simp only [List.getD] at this ⊢
    rw [List.getElem?_append_right (by omega), show n + j - l.length = j by omega]
    exact this
  rw [hX] at hr
  have HR := hidden hr
  clear hr hb hsl hS hX hlen
  go_enter Tryd.func11, Tryd.ntmps11
  go_wp2_with fail
  clear k1 k2 eS
  go_loopw [6, 7] (fun t i wr => ∃ k : Nat, k ≤ n + 9 ∧ t = .bool true ∧ i = .int .i64 k ∧ Hid (Cf (fun j => j = g) w wr) ∧ Hid (wr.heap[g]? = some (.cells (By (List.replicate k 77 ++ X.drop k)).toArray 5 (0, 0)))) (fun _ i _ => n + 9 - (intOf i).toNat)
  case atStart => exact ⟨0, by omega, rfl, rfl, hidden (Cf.refl _ _), HR⟩
  case round =>
    obtain ⟨k, hk, rfl, rfl, HB, HW⟩ := hrel
    by_cases hlt : k < n + 9
    · have hlt' : (k : Int) < (n : Int) + 9 := by omega
      have f := free9 (i := k) HW.out
      have hcell : wr.cell? ⟨g, k, none⟩ = some (.int .u8 (X.getD k 0)) := (cell9 HW.out).trans ((getD_By _ _ (by rw [ow_len _ _ _ (by rw [HXL.out]; omega), HXL.out]; exact hlt)).trans (by rw [ow_get]))
      by_cases hkn : k < n
      · have hd : decide ((n : Int) ≤ (k : Int)) = false := by simpa using hkn
        have hd' : ¬ ((n : Int) ≤ (k : Int)) := by omega
        go_wp2
        go_roundw
        case rel =>
          refine ⟨k + 1, by omega, rfl, by go_num, hidden (HB.out.go (Cf.setCell (F := fun j => j = g) wr rfl _)), hidden ?_⟩
          rw [set_row HW.out, By_set, ow_step _ _ _ (by rw [HXL.out]; exact hlt)]
        case measure => simp [intOf]; omega
      · obtain ⟨j, rfl⟩ : ∃ j, k = n + j := ⟨k - n, by omega⟩
        rw [HXG.out j (by omega)] at hcell
        have hnk : (n : Int) ≤ ((n + j : Nat) : Int) := by omega
        have hw8 : IntKind.u8.wrap (200 + ((n + j : Nat) : Int) - (n : Int)) = 200 + (j : Int) := by rw [show 200 + ((n + j : Nat) : Int) - (n : Int) = 200 + (j : Int) by omega]; exact wrapu8 _ (by omega) (by omega)
        go_wp2
        go_roundw
        case rel =>
          refine ⟨n + j + 1, by omega, rfl, by go_num, hidden (HB.out.go (Cf.setCell (F := fun j => j = g) wr rfl _)), hidden ?_⟩
          rw [set_row HW.out, By_set, ow_step _ _ _ (by rw [HXL.out]; exact hlt)]
        case measure => simp [intOf]; omega
    · have hge : ¬ ((k : Int) < (n : Int) + 9) := by omega
      go_wp2
      go_ret
      exact ⟨rfl, HB.out⟩
end Go.Proofs.YtllcbilhpijjhaaDoor

/- The document's Fixed and Uint come to the same bytes. -/

namespace Go.Proofs.YtllcbilhpijjhaaDoor
open Go.RowKit

set_option maxRecDepth 100000 in
theorem refFixed_no (n x : Int) (w : World) (h : x < 1 ∨ 8 < x) :
    Calls Tryd.prog 29 #[.int .u64 n, .int .i64 x] w fun e w' => e = .returned (.slice none 0 0) ∧ w' = w := by
  rcases h with h | h
  · go_enter Tryd.func29, Tryd.ntmps29
    go_wp2
    go_ret
    exact ⟨rfl, rfl⟩
  · have h' : ¬ x < 1 := by omega
    go_enter Tryd.func29, Tryd.ntmps29
    go_wp2
    go_ret
    exact ⟨rfl, rfl⟩

set_option maxRecDepth 100000 in
set_option maxHeartbeats 1000000 in
theorem refFixed_yes (n x : Int) (w : World) (h0 : 0 ≤ n) (hn : n < 18446744073709551616) (h1 : 1 ≤ x) (h2 : x ≤ 8) :
    Calls Tryd.prog 29 #[.int .u64 n, .int .i64 x] w fun e w' => ∃ v, e = .returned v ∧ OwnB w' w.heap.size v (fB x.toNat n) ∧ Below w.heap.size w w' := by
  obtain ⟨width, rfl⟩ := Int.eq_ofNat_of_zero_le (show 0 ≤ x by omega)
  rw [Int.toNat_natCast]
  go_enter Tryd.func29, Tryd.ntmps29
  go_wp2_with fail
  go_loopw [5, 6] (fun v i wr => ∃ (k : Nat) (acc : List Int), k ≤ width ∧ i = .int .i64 ((k : Int) - 1) ∧ acc ++ fB k n = fB width n ∧ OwnB wr w.heap.size v acc ∧ Below w.heap.size w wr) (fun _ i _ => (intOf i + 1).toNat)
  case atStart => exact ⟨width, [], Nat.le_refl _, rfl, rfl, OwnB.nil _ _, Below.refl _ _⟩
  case round =>
    obtain ⟨k, acc, hk, rfl, hac, hown, hb⟩ := hrel
    have HA := hidden hac
    clear hac
    have hsz := hb.size
    have hlen : acc.length ≤ 8 := by
      have h1 := congrArg List.length HA.out
      simp only [List.length_append, fB_length] at h1
      omega
    by_cases hk0 : k = 0
    · subst hk0
      have e : acc = fB width n := by have := HA.out; simpa [fB] using this
      rw [e] at hown
      clear e HA
      go_wp2
      go_ret
      exact ⟨_, rfl, hown, hb⟩
    · obtain ⟨j, rfl⟩ : ∃ j, k = j + 1 := ⟨k - 1, by omega⟩
      go_wp2_with fail
      go_loopw [7, 8] (fun x i w' => ∃ t : Nat, t ≤ j ∧ i = .int .i64 t ∧ x = .int .u64 (n / 256 ^ t) ∧ w' = wr) (fun _ i _ => j - (intOf i).toNat)
      case atStart => exact ⟨0, by omega, rfl, by simp, rfl⟩
      case round =>
        obtain ⟨t, ht, rfl, rfl, rfl⟩ := hrel
        have hpos : 0 ≤ n / 256 ^ t := Int.ediv_nonneg h0 (Int.le_of_lt (Int.pow_pos (by omega)))
        have hle : n / 256 ^ t ≤ n := Int.ediv_le_self _ h0
        have HP := hidden (pow256 n t)
        by_cases hlt : t < j
        · generalize n / 256 ^ t = y at *
          go_wp2
          go_roundw
          case rel => exact ⟨t + 1, by omega, by go_num, by rw [← HP.out], trivial⟩
          case measure => simp [intOf]; omega
        · obtain rfl : t = j := by omega
          generalize hy : n / 256 ^ t = y at *
          have HY := hidden hy
          clear hy
          go_wp2_with (at_builtin; refine app_bytes _ rfl _ _ rfl w.heap.size acc _ rfl (hown.alloc _) _ 1 1 [y % 256] rfl rfl (one_cell _ _) (by omega) (by simp; omega) ?_)
          intro v2 w2 hown2 hb2
          have R2 : Below w.heap.size w w2 := (hb.alloc hsz _).trans hb2
          clear hb2 hown
          go_wp2
          go_roundw
          case rel => exact ⟨t, acc ++ [y % 256], by omega, by go_num, by rw [← HA.out, fB, HY.out]; simp, hown2, R2⟩
          case measure => simp [intOf]
end Go.Proofs.YtllcbilhpijjhaaDoor

/- The document's check sum, and how many bytes there are. -/

namespace Go.Proofs.YtllcbilhpijjhaaDoor
open Go.RowKit

set_option maxRecDepth 100000 in
theorem Sn_step (k y : Nat) (h : k < 8) : Sn (8 - k) y = Sn (8 - (k + 1)) (S y) := by
  rw [show 8 - k = (8 - (k + 1)) + 1 by omega]
  rfl
set_option maxRecDepth 100000 in
set_option maxHeartbeats 1000000 in
theorem step_any (r x : Nat) (w : World) (hr : r < 4294967296) (hx : x < 256) :
    Calls Tryd.prog 56 #[.int .u32 r, .int .u8 x] w fun e w' => e = .returned (.int .u32 (Sn 8 (r ^^^ x))) ∧ w' = w := by
  have hxr := u32_xor_nat r x hr (by omega)
  have hlt := xor32 hr (show x < 4294967296 by omega)
  generalize (r ^^^ x : Nat) = R at *
  generalize hF : Sn 8 R = F
  have HF := hidden hF
  clear hF
  go_enter Tryd.func56, Tryd.ntmps56
  go_wp2_with fail
  go_loop [5, 6] (fun v i => ∃ k y : Nat, k ≤ 8 ∧ y < 4294967296 ∧ i = .int .i64 k ∧ v = .int .u32 y ∧ Hid (Sn (8 - k) y = F)) (fun _ i => 8 - (intOf i).toNat)
  case atStart => exact ⟨0, R, by omega, hlt, rfl, rfl, HF⟩
  case round =>
    clear hxr hlt HF
    obtain ⟨k, y, hk, hy, rfl, rfl, HK⟩ := hrel
    by_cases hk8 : k < 8
    · have e := HK.out
      rw [Sn_step k y hk8] at e
      have hSl := S_lt hy
      clear HK
      obtain ⟨D, hD⟩ : ∃ D : Nat, y / 2 = D := ⟨_, rfl⟩
      have hD2 : (y : Int) / 2 = (D : Int) := by omega
      have hDl : D < 4294967296 := by omega
      by_cases hodd : y % 2 = 1
      · have hS : S y = D ^^^ 2197175160 := by unfold S; rw [if_pos hodd, hD]
        rw [hS] at e hSl
        have hz := u32_xor_nat D 2197175160 hDl (by omega)
        obtain ⟨Z, hZ⟩ : ∃ Z : Nat, D ^^^ 2197175160 = Z := ⟨_, rfl⟩
        rw [hZ] at e hz hSl
        have hz2 : bits .xor .u32 (D : Int) 2197175160 = (Z : Int) := hz
        have hb : ((y : Int) % 2 == 1) = true := by simp; omega
        have HE := hidden e
        clear e hS hz hZ hD hodd
        go_wp2
        go_round
        case rel => exact ⟨k + 1, Z, by omega, hSl, by go_num, rfl, HE⟩
        case measure => simp [intOf]; omega
      · have hS : S y = D := by unfold S; rw [if_neg hodd, hD]
        rw [hS] at e hSl
        have hb : ((y : Int) % 2 == 1) = false := by simp; omega
        have HE := hidden e
        clear e hS hD hodd
        go_wp2
        go_round
        case rel => exact ⟨k + 1, D, by omega, hSl, by go_num, rfl, HE⟩
        case measure => simp [intOf]; omega
    · have e : y = F := by rw [← HK.out, show 8 - k = 0 by omega]; rfl
      have HE := hidden e
      clear e HK
      go_wp2
      go_ret
      exact ⟨ret_int (by rw [HE.out]), rfl⟩

/-- How many bytes there are, one more for each list. -/
def tot (ls : List (List Int)) : Nat := (ls.map fun l => 1 + l.length).sum
set_option maxRecDepth 100000 in
theorem tot_snoc (ls : List (List Int)) (l : List Int) : tot (ls ++ [l]) = tot ls + (1 + l.length) := by simp [tot]
set_option maxRecDepth 100000 in
theorem take_snocS (ls : List (List Int)) (k : Nat) (h : k < ls.length) : ls.take (k + 1) = ls.take k ++ [ls.getD k []] := by
  rw [List.take_succ_eq_append_getElem h]
  simp [List.getD, List.getElem?_eq_getElem h]

/-- What Great answers: true, or false where there are few bytes. -/
def GreatSays (ls : List (List Int)) (e : Ending) : Prop := ∃ g, e = .returned (.bool g) ∧ (g = false → tot ls ≤ 1000000)
set_option maxRecDepth 100000 in
theorem GreatSays.mk {ls : List (List Int)} {g : Bool} (h : g = false → tot ls ≤ 1000000) : GreatSays ls (.returned (.bool g)) := ⟨g, rfl, h⟩

/-- The register behind all parts. -/
def crS (r : Nat) (ls : List (List Int)) : Nat := ls.foldl (fun r l => cr r (l.map Int.toNat)) r
set_option maxRecDepth 100000 in
theorem sumN_eq : ∀ (ls : List (List Int)) (r : Nat), r < 4294967296 → (∀ l ∈ ls, Wf l) → ls.foldl (fun r l => tk (l.map Int.toNat) r) r = crS r ls
  | [], _, _, _ => rfl
  | l :: ls, r, hr, hw => by
    have h1 := tk_eq (l.map Int.toNat) r hr (nat_lt l (hw l (by simp)))
    show ls.foldl _ (tk (l.map Int.toNat) r) = crS (cr r (l.map Int.toNat)) ls
    rw [h1]
    exact sumN_eq ls _ (cr_lt _ _ hr (nat_lt l (hw l (by simp)))) (fun x hx => hw x (by simp [hx]))
set_option maxRecDepth 100000 in
theorem crS_flat (r : Nat) (ls : List (List Int)) : crS r ls = cr r ((ls.flatMap id).map Int.toNat) := by
  induction ls generalizing r with
  | nil => rfl
  | cons l ls ih =>
    show crS (cr r (l.map Int.toNat)) ls = _
    rw [ih, List.flatMap_cons, List.map_append, cr_append]
    rfl

end Go.Proofs.YtllcbilhpijjhaaDoor

/- The document's SumOf (of Ms, without layer 5's). -/

namespace Go.Proofs.YtllcbilhpijjhaaDoor
open Go.RowKit

set_option maxRecDepth 100000 in
theorem sum_one (l : List Int) (h : Wf l) : sumN [l] = 4294967295 ^^^ cr 4294967295 (l.map Int.toNat) := by
  show 4294967295 ^^^ tk (l.map Int.toNat) 4294967295 = _
  rw [tk_eq _ _ (by omega) (nat_lt l h)]

set_option maxRecDepth 100000 in
set_option maxHeartbeats 1000000 in
theorem rSumOf_any (ao : Option Addr) (n cap : Nat) (l : List Int) (w : World) (hs : Sl w ao n cap l) :
    Calls Tryd.prog 30 #[.slice ao n cap] w fun e w' => e = .returned (.int .u32 (sumN [l] : Nat)) ∧ w' = w := by
  have HS := hidden hs
  have HW := hidden hs.wf
  have hlen := hs.hlen
  have hroom := hs.hroom
  have hE : sumN [l] = cr 4294967295 (l.map Int.toNat) ^^^ 4294967295 := by rw [sum_one l hs.wf, Nat.xor_comm]
  rw [hE]
  clear hE hs
  generalize hF : cr 4294967295 (l.map Int.toNat) = F
  have HF := hidden hF
  clear hF
  go_enter Tryd.func30, Tryd.ntmps30
  go_wp2_with fail
  go_loop [3, 4] (fun v i => ∃ k y : Nat, k ≤ n ∧ y < 4294967296 ∧ i = .int .i64 k ∧ v = .int .u32 y ∧ Hid (cr y ((l.drop k).map Int.toNat) = F)) (fun _ i => n - (intOf i).toNat)
  case atStart => exact ⟨0, 4294967295, by omega, by omega, rfl, rfl, HF⟩
  case round =>
    clear HF
    obtain ⟨k, y, hk, hy, rfl, rfl, HK⟩ := hrel
    by_cases hkn : k < n
    · rcases HS.out.hat with h | ⟨b', off', rfl, hbb', hc'⟩
      · omega
      have hcj := hc' k hkn
      have hby := HW.out.getD k
      have ej := HK.out
      rw [drop_cons l k (by omega)] at ej
      obtain ⟨C, hC⟩ := Int.eq_ofNat_of_zero_le hby.1
      rw [hC] at hcj hby ej
      have HEJ : Hid (cr (Sn 8 (y ^^^ C)) ((l.drop (k + 1)).map Int.toNat) = F) := ej
      have hst := step_any y C w hy (by omega)
      have hzl := Sn_lt 8 (xor32 hy (show C < 4294967296 by omega))
      generalize Sn 8 (y ^^^ C) = Z at *
      have HST := hidden hst
      clear hc' ej HK hC hst hlen
      go_wp2_with fail
      refine same_call HST.out ?_
      go_wp2
      go_round
      case rel => exact ⟨k + 1, Z, by omega, hzl, by go_num, rfl, HEJ⟩
      case measure => simp [intOf]; omega
    · have e : y = F := by rw [← HK.out, List.drop_eq_nil_of_le (by omega)]; rfl
      have HE := hidden e
      have hx := u32_xor_nat y 4294967295 hy (by omega)
      have hx2 : bits .xor .u32 (y : Int) 4294967295 = ((y ^^^ 4294967295 : Nat) : Int) := hx
      have HX := hidden hx2
      clear e HK hx hx2
      go_wp2
      go_ret
      exact ⟨ret_int (by rw [← HE.out]; exact HX.out), rfl⟩
end Go.Proofs.YtllcbilhpijjhaaDoor

/- espalierref03's Turned; the document's Encode. -/

namespace Go.Proofs.YtllcbilhpijjhaaDoor
open Go.RowKit

/-- A byte with a bit turned. -/
def tB (x : Int) : Int := bits .xor .u8 x 1
set_option maxRecDepth 100000 in
theorem tB_ok (x : Int) (h : 0 ≤ x ∧ x ≤ 255) : 0 ≤ tB x ∧ tB x ≤ 255 := by
  have : ∀ n : Fin 256, 0 ≤ tB (n.val : Int) ∧ tB (n.val : Int) ≤ 255 := by decide +kernel
  obtain ⟨m, rfl⟩ := Int.eq_ofNat_of_zero_le h.1
  exact this ⟨m, by omega⟩
/-- The last k bytes, from the last one on, each with a bit turned. -/
def trn (l : List Int) : Nat → List Int
  | 0 => []
  | k + 1 => trn l k ++ [tB (l.getD (l.length - 1 - k) 0)]
set_option maxRecDepth 100000 in
theorem trn_length (l : List Int) : ∀ k, (trn l k).length = k
  | 0 => rfl
  | k + 1 => by simp [trn, trn_length l k]
set_option maxRecDepth 100000 in
theorem trn_wf {l : List Int} (h : Wf l) : ∀ k, Wf (trn l k)
  | 0 => Wf.nil
  | k + 1 => (trn_wf h k).append (Wf.cons (tB_ok _ (h.getD _)) Wf.nil)
set_option maxRecDepth 100000 in
theorem turned_any (ao : Option Addr) (n cap : Nat) (l : List Int) (w : World) (hs : Sl w ao n cap l) :
    Calls Tryd.prog 8 #[.slice ao n cap] w fun e w' => ∃ to tc, e = .returned (.slice to n tc) ∧ Hid (OwnB w' w.heap.size (.slice to n tc) (trn l n)) ∧ Hid (Below w.heap.size w w') := by
  have HS := hidden hs
  have hr := hs.hroom
  have hrI : (n : Int) ≤ 140737488355328 := by omega
  have HL := hidden hs.hlen
  clear hs
  go_enter Tryd.func8, Tryd.ntmps8
  go_wp2_with fail
  go_loopw [3, 4] (fun v i wr => ∃ (k : Nat) (to : Option Addr) (tc : Nat), k ≤ n ∧ v = .slice to k tc ∧ i = .int .i64 ((n : Int) - 1 - (k : Int)) ∧ Hid (OwnB wr w.heap.size (.slice to k tc) (trn l k)) ∧ Hid (Below w.heap.size w wr)) (fun _ i _ => (intOf i + 1).toNat)
  case atStart => exact ⟨0, none, 0, by omega, rfl, by simp, hidden (OwnB.nil _ _), hidden (Below.refl _ _)⟩
  case round =>
    obtain ⟨k, to, tc, hk, rfl, rfl, HO, HB⟩ := hrel
    by_cases hlt : k < n
    · have hge : 0 ≤ (n : Int) - 1 - (k : Int) := by omega
      obtain ⟨j, hj⟩ : ∃ j : Nat, (n : Int) - 1 - (k : Int) = (j : Int) := ⟨n - 1 - k, by omega⟩
      have hjn : j < n := by omega
      have hjI : (j : Int) < (n : Int) := by omega
      have HSR := hidden (HS.out.on (Nat.le_refl _) HB.out)
      obtain ⟨b, off, rfl, _, hc⟩ : ∃ b off, ao = some ⟨b, off, none⟩ ∧ b < wr.heap.size ∧ ∀ i, i < n → wr.cell? ⟨b, off + i, none⟩ = some (.int .u8 (l.getD i 0)) := by
        rcases HSR.out.hat with h | h
        · omega
        · exact h
      have hcj := hc j hjn
      have HTR : Hid (trn l (k + 1) = trn l k ++ [tB (l.getD j 0)]) := hidden (by
        show trn l k ++ [tB (l.getD (l.length - 1 - k) 0)] = _
        rw [HL.out, show n - 1 - k = j by omega])
      have hby := HS.out.wf.getD j
      have hok := tB_ok _ hby
      generalize l.getD j 0 = y at *
      have hxo : bits .xor .u8 y 1 = tB y := rfl
      obtain ⟨x, hx⟩ : ∃ x, wr.alloc (.cells #[.int .u8 (tB y)] 5) = x := ⟨_, rfl⟩
      have hbx : Below wr.heap.size wr x := by rw [← hx]; exact bl_al (Below.refl _ _) (Nat.le_refl _) _
      have hslx : Sl x (some ⟨wr.heap.size, 0, none⟩) 1 1 [tB y] := by
        refine ⟨rfl, Nat.le_refl _, by omega, Wf.cons hok Wf.nil, (by intro h; cases h), .inr ⟨wr.heap.size, 0, rfl, by rw [← hx]; simp, fun i hi => ?_⟩⟩
        obtain rfl : i = 0 := by omega
        rw [← hx]
        simp
      have HOX : Hid (OwnB x w.heap.size (.slice to k tc) (trn l k)) := hidden (HO.out.on (Nat.le_refl _) hbx)
      have HSX := hidden hslx
      have hxs : w.heap.size ≤ x.heap.size := Nat.le_trans HB.out.size hbx.size
      have HBX := hidden (bl_go HB.out (Nat.le_refl _) hbx)
      have htl := trn_length l k
      rw [hj]
      generalize tB y = z at *
      clear hc hslx hbx
      go_wp2_with (at_builtin; refine app_sl _ rfl _ _ rfl w.heap.size (trn l k) [z] _ (some ⟨wr.heap.size, 0, none⟩) 1 1 rfl rfl HOX.out HSX.out (by omega) hxs ?_; refine Hid.out ?_)
      apply hidden
      intro v' w' ho hg
      have HB2 : Hid (Below w.heap.size w w') := hidden (HBX.out.trans (hg.below HOX.out hxs))
      obtain ⟨to2, tc2, rfl, _⟩ := own_shape ho
      have hl2 : (trn l k ++ [z]).length = k + 1 := by rw [List.length_append, htl]; rfl
      rw [hl2] at ho ⊢
      have HO2 : Hid (OwnB w' w.heap.size (.slice to2 (k + 1) tc2) (trn l (k + 1))) := hidden (by rw [HTR.out]; exact ho)
      clear ho hg hx hcj hxo
      go_wp2
      go_roundw
      case rel => exact ⟨k + 1, to2, tc2, by omega, rfl, by congr 1; omega, HO2, HB2⟩
      case measure => first | (simp [intOf]; done) | (simp [intOf]; omega)
    · obtain rfl : k = n := by omega
      have hge : ¬ 0 ≤ (k : Int) - 1 - (k : Int) := by omega
      go_wp2
      go_ret
      exact ⟨_, _, rfl, HO, HB⟩
end Go.Proofs.YtllcbilhpijjhaaDoor

/- The document's ReadFixed (of RefReads, alone). -/

namespace Go.Proofs.YtllcbilhpijjhaaDoor
open Go.RowKit

/-- What ReadFixed comes to. -/
def rF (l : List Int) (p x : Int) : Int × Int := if (x < 1 ∨ 8 < x) ∨ (p < 0 ∨ l.length < p) then (0, 1) else if (l.length : Int) - p < x then (0, 10) else (rdB ((l.drop p.toNat).take x.toNat), 0)
set_option maxRecDepth 100000 in
set_option maxHeartbeats 1000000 in
theorem refReadFixed_all (ao : Option Addr) (n cap : Nat) (l : List Int) (p' x : Int) (w : World) (hs : Sl w ao n cap l) :
    Calls Tryd.prog 37 #[.slice ao n cap, .int .i64 p', .int .i64 x] w fun e w' => e = .returned (.tuple #[.int .u64 (rF l p' x).1, .int .i64 (rF l p' x).2]) ∧ w' = w := by
  obtain ⟨hlen, hcap, hroom, hwf, hnil, hat⟩ := hs
  unfold rF
  by_cases h : (x < 1 ∨ 8 < x) ∨ (p' < 0 ∨ l.length < p')
  · rw [if_pos h]
    rw [hlen] at h
    rcases h with (h | h) | (h | h)
    · go_enter Tryd.func37, Tryd.ntmps37
      go_wp2
      go_ret2
      exact ⟨rfl, rfl⟩
    · have h' : ¬ x < 1 := by omega
      go_enter Tryd.func37, Tryd.ntmps37
      go_wp2
      go_ret2
      exact ⟨rfl, rfl⟩
    · by_cases h1 : x < 1
      · go_enter Tryd.func37, Tryd.ntmps37
        go_wp2
        go_ret2
        exact ⟨rfl, rfl⟩
      · by_cases h8 : 8 < x
        all_goals
          go_enter Tryd.func37, Tryd.ntmps37
          go_wp2
          go_ret2
          exact ⟨rfl, rfl⟩
    · by_cases h1 : x < 1
      · go_enter Tryd.func37, Tryd.ntmps37
        go_wp2
        go_ret2
        exact ⟨rfl, rfl⟩
      · have hp0 : ¬ p' < 0 := by omega
        by_cases h8 : 8 < x
        all_goals
          go_enter Tryd.func37, Tryd.ntmps37
          go_wp2
          go_ret2
          exact ⟨rfl, rfl⟩
  · rw [if_neg h]
    rw [hlen] at h ⊢
    have h1 : 1 ≤ x := by omega
    have h2 : x ≤ 8 := by omega
    have h3 : 0 ≤ p' := by omega
    have h4 : p' ≤ n := by omega
    clear h
    by_cases h5 : (n : Int) - p' < x
    · rw [if_pos h5]
      go_enter Tryd.func37, Tryd.ntmps37
      go_wp2
      go_ret2
      exact ⟨rfl, rfl⟩
    · rw [if_neg h5]
      obtain ⟨width, rfl⟩ := Int.eq_ofNat_of_zero_le (show 0 ≤ x by omega)
      obtain ⟨p, rfl⟩ := Int.eq_ofNat_of_zero_le h3
      rw [Int.toNat_natCast, Int.toNat_natCast]
      rcases hat with h | ⟨b, off, rfl, hb, hc⟩
      · omega
      have hd : ((l.drop p).take width).length = width := by simp; omega
      have hwd : Wf ((l.drop p).take width) := (hwf.drop p).take width
      go_enter Tryd.func37, Tryd.ntmps37
      go_wp2_with fail
      go_loop [8, 9] (fun v i => ∃ k : Nat, k ≤ width ∧ i = .int .i64 ((p : Int) + k) ∧ v = .int .u64 (rdB (((l.drop p).take width).take k))) (fun _ i => ((p : Int) + width - intOf i).toNat)
      case atStart => exact ⟨0, by omega, by simp, by simp [rdB]⟩
      case round =>
        obtain ⟨k, hk, rfl, rfl⟩ := hrel
        by_cases hlt : k < width
        · have hck : w.cell? ⟨b, off + (p + k), none⟩ = some (.int .u8 (((l.drop p).take width).getD k 0)) := by
            rw [hc (p + k) (by omega)]
            simp [List.getD, hlt]
          have hby := hwd.getD k
          have hsm := rdB_small _ (hwd.take k) k (by omega) (by simp; omega)
          have hsn : rdB (((l.drop p).take width).take (k + 1)) = rdB (((l.drop p).take width).take k) * 256 + ((l.drop p).take width).getD k 0 := by
            rw [take_snoc _ k (by omega), rdB_snoc]
          generalize ((l.drop p).take width).getD k 0 = c at *
          generalize rdB (((l.drop p).take width).take k) = m at *
          have HS := hidden hsn
          clear hsn hc
          go_wp2
          go_round
          case rel => exact ⟨k + 1, by omega, by go_num, by rw [HS.out, Int.mul_comm m 256]⟩
          case measure => simp [intOf]; omega
        · obtain rfl : k = width := by omega
          have ht : ((l.drop p).take k).take k = (l.drop p).take k := List.take_of_length_le (by omega)
          go_wp2
          go_ret2
          exact ⟨rfl, rfl⟩

end Go.Proofs.YtllcbilhpijjhaaDoor
