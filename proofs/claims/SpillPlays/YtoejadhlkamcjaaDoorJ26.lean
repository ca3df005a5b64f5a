import Derived.Test.YtoejadhlkamcjaaDoorJ25
import Derived.Test.YtoejadhlkamcjaaDoorJ00
import Derived.Test.YtoejadhlkamcjaaDoorJ02
namespace Go.Proofs.YtoejadhlkamcjaaDoor
set_option maxRecDepth 100000
open Go.RowKit
theorem cell9 {w : World} {a i : Nat} {cs : List Value} {t : TypeId} (h : w.heap[a]? = some (.cells cs.toArray t (0, 0))) : w.cell? ⟨a, i, none⟩ = cs[i]? := by simp [World.cell?, h]
theorem free9 {w : World} {a i : Nat} {cs : List Value} {t : TypeId} (h : w.heap[a]? = some (.cells cs.toArray t (0, 0))) : w.frozen? ⟨a, i, none⟩ = false := by simp [World.frozen?, h]
theorem getD_By (l : List Int) (n : Nat) (h : n < l.length) : (By l)[n]? = some (.int .u8 (l.getD n 0)) := by
 simp [By, List.getD, List.getElem?_eq_getElem h]
theorem made_row {w : World} {e n g : Nat} {z : Value} (h : w.ownsRow 0 e 1 (.slice (some ⟨g, 0, none⟩) n n) n (madeCells #[z] n).toList) : w.heap[g]? = some (.cells (List.replicate n z).toArray e (0, 0)) := by
 rcases h.2 with ⟨h, _⟩ | ⟨g, c, cur, h, _, hh, _, _, hs, ht⟩
 ·cases h
 ·cases h
  rw [hh]
  congr 2
  apply Array.toList_inj.1
  rw [toList_madeCells_one] at ht
  simp only [Nat.mul_one] at hs ht
  rw [List.take_of_length_le (by simp [hs])] at ht
  simpa using ht
theorem By_set (l : List Int) (k : Nat) (x : Int) : (By l).set k (.int .u8 x) = By (l.set k x) := by simp [By, List.map_set]
def mks : Nat → List Int
 | 0 => []
 | k + 1 => mks k ++ [200 + (k : Int)]
theorem mks_len : ∀ k, (mks k).length = k
 | 0 => rfl
 | k + 1 => by simp [mks, mks_len k]
theorem mks_get : ∀ k i, i < k → (mks k).getD i 0 = 200 + (i : Int)
 | 0, i, h => by omega
 | k + 1, i, h => by
  simp only [mks, List.getD]
  by_cases e : i < k
  ·rw [List.getElem?_append_left (by rw [mks_len]; exact e)]
   exact mks_get k i e
  ·obtain rfl : i = k := by omega
   rw [List.getElem?_append_right (by rw [mks_len]; exact Nat.le_refl _), mks_len]
   simp
theorem mks_step (l : List Int) (n k : Nat) (hl : l.length = n) (hk : k < 9) : (l ++ (mks k ++ List.replicate (9 - k) 0)).set (n + k) (200 + (k : Int)) = l ++ (mks (k + 1) ++ List.replicate (9 - (k + 1)) 0) := by
 rw [List.set_append_right _ _ (by omega), show n + k - l.length = k by omega, List.set_append_right _ _ (by rw [mks_len]; exact Nat.le_refl _), mks_len, Nat.sub_self, show 9 - k = (9 - (k + 1)) + 1 by omega, List.replicate_succ]
 simp [mks]
theorem wrapu8 (x : Int) (h : 0 ≤ x) (h2 : x ≤ 255) : IntKind.u8.wrap x = x := by
 unfold IntKind.wrap
 simp [IntKind.bits, IntKind.signed]
 omega
set_option maxHeartbeats 1000000 in
theorem Lent_any (ao : Option Addr) (n cap : Nat) (l : List Int) (w : World) (hs : Sl w ao n cap l) :
  Calls Tryd.prog 44 #[.slice ao n cap] w fun e w' => e = .returned (.slice (some ⟨w.heap.size, 0, none⟩) n (n + 9)) ∧ w'.heap[w.heap.size]? = some (.cells (By (l ++ mks 9)).toArray 5 (0, 0)) ∧ Below w.heap.size w w' := by
 obtain ⟨i0, hi, hz0, hz1, hz2⟩ := info_parts info5
 have hsz : (Tryd.prog.info? 5).map (·.size) = some 1 := by rw [hi]; simp [hz1]
 have hroom := hs.hroom
 have hlen := hs.hlen
 have HS := hidden hs
 have HLEN := hidden hlen
 clear hs hlen
 go_enter Tryd.func44, Tryd.ntmps44
 go_wp2_with (at_make; refine wpList_make_full _ rfl _ _ 33 rfl 0 5 i0 (.int .u8 0) 1 Tryd.underlying33 hi hz0 hz1 .i64 .i64 (n + 9) (n + 9) (n + 9) rfl rfl rfl rfl (by rw [hz2]; omega) (by unfold maxLen; omega) (Nat.zero_le _) ?_)
 intro w1 hown1 hg1
 have HR1 := hidden (made_row hown1)
 have HB1 : Hid (Below w.heap.size w w1) := hidden ((Below.refl _ _).grown hg1 (Nat.le_refl _) (fun k hk => by cases hk))
 clear hown1 hg1 hi hz0 hz1 hz2
 have HP : Hid (0 < (By l).length → some (⟨w.heap.size, 0, none⟩ : Addr) = some ⟨w.heap.size, 0, none⟩ ∧ ∃ ad, ao = some ad ∧ ∀ j v, (By l)[j]? = some v → w1.cell? (ad.add j) = some v) := by
  refine hidden fun h => ?_
  rw [By_length] at h
  rcases HS.out.hat with h0 | ⟨b, off, rfl, hbb, hc⟩
  ·rw [HLEN.out] at h; omega
  ·refine ⟨rfl, _, rfl, fun j v hv => ?_⟩
   obtain ⟨h1, rfl⟩ := getElem?_By l j v hv
   rw [Addr.add_lit]
   exact (HB1.out.cell (p := ⟨b, off + j, none⟩) hbb).trans (hc j (by rw [← HLEN.out]; exact h1))
 obtain ⟨cur, hcur⟩ : ∃ cur, List.replicate (n + 9) (Value.int .u8 0) = cur := ⟨_, rfl⟩
 rw [hcur] at HR1
 have HCL : Hid (cur.length = n + 9) := hidden (by rw [← hcur]; simp)
 have HCUR := hidden hcur
 clear hcur
 go_wp2_with (refine wpList_copy_splice rfl _ _ 33 33 rfl 5 Tryd.underlying33 hsz _ _ (n + 9) (n + 9) n cap rfl rfl w.heap.size 0 cur 5 HR1.out (By l) (by rw [By_length, HLEN.out]; exact (Nat.min_eq_left (by omega)).symm) HP.out (by rw [By_length, HLEN.out, HCL.out]; omega) (By_one l) w.heap.size w HB1.out (Nat.le_refl _) ?_)
 intro w2 hh hb2
 have HR2 : Hid (w2.heap[w.heap.size]? = some (.cells (By (l ++ (mks 0 ++ List.replicate (9 - 0) 0))).toArray 5 (0, 0))) := hidden (by
  rw [hh.out, ← HCUR.out]
  simp only [splice, By_length, HLEN.out, List.take_zero, List.nil_append, Nat.zero_add, By_append, List.drop_replicate, show n + 9 - n = 9 by omega]
  rfl)
 have HB2 := hidden hb2
 clear hh hb2 HP HCUR HCL HR1 HB1 HS
 go_wp2_with fail
 go_loopw [4] (fun i wr => ∃ k : Nat, k ≤ 9 ∧ i = .int .i64 ((n : Int) + k) ∧ Hid (wr.heap[w.heap.size]? = some (.cells (By (l ++ (mks k ++ List.replicate (9 - k) 0))).toArray 5 (0, 0))) ∧ Hid (Below w.heap.size w wr)) (fun i _ => n + 9 - (RowKit.intOf i).toNat)
 case atStart => exact ⟨0, by omega, by simp, HR2, HB2⟩
 case round =>
  obtain ⟨k, hk, rfl, HR, HB⟩ := hrel
  by_cases hlt : k < 9
  ·have hlt' : (n : Int) + (k : Int) < (n : Int) + 9 := by omega
   have hw8 : IntKind.u8.wrap (200 + ((n : Int) + (k : Int)) - (n : Int)) = 200 + (k : Int) := by rw [show 200 + ((n : Int) + (k : Int)) - (n : Int) = 200 + (k : Int) by omega]; exact wrapu8 _ (by omega) (by omega)
   have f := free9 (i := n + k) HR.out
   obtain ⟨y, cy⟩ : ∃ y, wr.cell? ⟨w.heap.size, n + k, none⟩ = some y := ⟨_, (cell9 HR.out).trans (getD_By _ _ (by simp [HLEN.out, mks_len]; omega))⟩
   go_wp2
   go_roundw
   case rel =>
    refine ⟨k + 1, by omega, by go_num, hidden ?_, hidden (HB.out.setCell (by show w.heap.size ≤ w.heap.size; omega) _)⟩
    rw [set_row HR.out, By_set, mks_step l n k HLEN.out hlt]
   case measure => simp [RowKit.intOf]; omega
  ·have hge : ¬ ((n : Int) + (k : Int) < (n : Int) + 9) := by omega
   obtain rfl : k = 9 := by omega
   go_wp2
   go_ret
   exact ⟨rfl, by simpa using HR.out, HB.out⟩
theorem ow_step (X : List Int) (k : Nat) (c : Int) (h : k < X.length) : (List.replicate k c ++ X.drop k).set k c = List.replicate (k + 1) c ++ X.drop (k + 1) := by
 rw [List.set_append_right _ _ (by simp), List.length_replicate, Nat.sub_self, List.drop_eq_getElem_cons h, List.set_cons_zero, List.replicate_succ', List.append_assoc]
 rfl
theorem ow_get (X : List Int) (k : Nat) (c : Int) : (List.replicate k c ++ X.drop k).getD k 0 = X.getD k 0 := by
 simp only [List.getD]
 rw [List.getElem?_append_right (by simp), List.length_replicate, Nat.sub_self, List.getElem?_drop, Nat.add_zero]
theorem ow_len (X : List Int) (k : Nat) (c : Int) (h : k ≤ X.length) : (List.replicate k c ++ X.drop k).length = X.length := by simp; omega
set_option maxHeartbeats 1000000 in
theorem AsLent_any (g n : Nat) (bo : Option Addr) (d : Nat) (l : List Int) (w : World) (hr : w.heap[g]? = some (.cells (By (l ++ mks 9)).toArray 5 (0, 0))) (hb : Sl w bo n d l) :
  Calls Tryd.prog 45 #[.slice (some ⟨g, 0, none⟩) n (n + 9), .slice bo n d] w fun e w' => e = .returned (.bool true) ∧ Cf (fun k => k = g) w w' := by
 have hlen := hb.hlen
 have hroom := hb.hroom
 have hsl : Sl w (some ⟨g, 0, none⟩) n (n + 9) l := ⟨hlen, by omega, hroom, hb.wf, (by intro h; cases h), .inr ⟨g, 0, rfl, lt_some hr, fun i hi => by
  rw [Nat.zero_add, cell9 hr, getD_By _ _ (by rw [List.length_append]; omega)]
  simp only [List.getD]
  rw [List.getElem?_append_left (by omega)]⟩⟩
 have k1 := conv_sl hsl
 have k2 := conv_sl hb
 obtain ⟨S, hS⟩ : ∃ S, strOfNums l = S := ⟨_, rfl⟩
 rw [hS] at k1 k2
 have eS : (S.toList == S.toList) = true := by simp
 obtain ⟨X, hX⟩ : ∃ X, l ++ mks 9 = X := ⟨_, rfl⟩
 have HXL : Hid (X.length = n + 9) := hidden (by rw [← hX, List.length_append, mks_len, hlen])
 have HXG : Hid (∀ j, j < 9 → X.getD (n + j) 0 = 200 + (j : Int)) := hidden fun j hj => by
  rw [← hX]
  have := mks_get 9 j hj
  simp only [List.getD] at this ⊢
  rw [List.getElem?_append_right (by omega), show n + j - l.length = j by omega]
  exact this
 rw [hX] at hr
 have HR := hidden hr
 clear hr hb hsl hS hX hlen
 go_enter Tryd.func45, Tryd.ntmps45
 go_wp2_with fail
 clear k1 k2 eS
 go_loopw [6, 7] (fun t i wr => ∃ k : Nat, k ≤ n + 9 ∧ t = .bool true ∧ i = .int .i64 k ∧ Hid (Cf (fun j => j = g) w wr) ∧ Hid (wr.heap[g]? = some (.cells (By (List.replicate k 77 ++ X.drop k)).toArray 5 (0, 0)))) (fun _ i _ => n + 9 - (RowKit.intOf i).toNat)
 case atStart => exact ⟨0, by omega, rfl, rfl, hidden (Cf.refl _ _), HR⟩
 case round =>
  obtain ⟨k, hk, rfl, rfl, HB, HW⟩ := hrel
  by_cases hlt : k < n + 9
  ·have hlt' : (k : Int) < (n : Int) + 9 := by omega
   have f := free9 (i := k) HW.out
   have hcell : wr.cell? ⟨g, k, none⟩ = some (.int .u8 (X.getD k 0)) := (cell9 HW.out).trans ((getD_By _ _ (by rw [ow_len _ _ _ (by rw [HXL.out]; omega), HXL.out]; exact hlt)).trans (by rw [ow_get]))
   by_cases hkn : k < n
   ·have hd : decide ((n : Int) ≤ (k : Int)) = false := by simpa using hkn
    have hd' : ¬ ((n : Int) ≤ (k : Int)) := by omega
    go_wp2
    go_roundw
    case rel =>
     refine ⟨k + 1, by omega, rfl, by go_num, hidden (HB.out.go (Cf.setCell (F := fun j => j = g) wr rfl _)), hidden ?_⟩
     rw [set_row HW.out, By_set, ow_step _ _ _ (by rw [HXL.out]; exact hlt)]
    case measure => simp [RowKit.intOf]; omega
   ·obtain ⟨j, rfl⟩ : ∃ j, k = n + j := ⟨k - n, by omega⟩
    rw [HXG.out j (by omega)] at hcell
    have hnk : (n : Int) ≤ ((n + j : Nat) : Int) := by omega
    have hw8 : IntKind.u8.wrap (200 + ((n + j : Nat) : Int) - (n : Int)) = 200 + (j : Int) := by rw [show 200 + ((n + j : Nat) : Int) - (n : Int) = 200 + (j : Int) by omega]; exact wrapu8 _ (by omega) (by omega)
    go_wp2
    go_roundw
    case rel =>
     refine ⟨n + j + 1, by omega, rfl, by go_num, hidden (HB.out.go (Cf.setCell (F := fun j => j = g) wr rfl _)), hidden ?_⟩
     rw [set_row HW.out, By_set, ow_step _ _ _ (by rw [HXL.out]; exact hlt)]
    case measure => simp [RowKit.intOf]; omega
  ·have hge : ¬ ((k : Int) < (n : Int) + 9) := by omega
   go_wp2
   go_ret
   exact ⟨rfl, HB.out⟩
end Go.Proofs.YtoejadhlkamcjaaDoor

namespace Go.Proofs.YtoejadhlkamcjaaDoor
set_option maxRecDepth 100000
open Go.RowKit
set_option maxHeartbeats 1000000 in
theorem refFixed_yes (n x : Int) (w : World) (h0 : 0 ≤ n) (hn : n < 18446744073709551616) (h1 : 1 ≤ x) (h2 : x ≤ 8) :
  Calls Tryd.prog 67 #[.int .u64 n, .int .i64 x] w fun e w' => ∃ v, e = .returned v ∧ OwnB w' w.heap.size v (fB x.toNat n) ∧ Below w.heap.size w w' := by
 obtain ⟨width, rfl⟩ := Int.eq_ofNat_of_zero_le (show 0 ≤ x by omega)
 rw [Int.toNat_natCast]
 go_enter Tryd.func67, Tryd.ntmps67
 go_wp2_with fail
 go_loopw [5, 6] (fun v i wr => ∃ (k : Nat) (acc : List Int), k ≤ width ∧ i = .int .i64 ((k : Int) - 1) ∧ acc ++ fB k n = fB width n ∧ OwnB wr w.heap.size v acc ∧ Below w.heap.size w wr) (fun _ i _ => (intOf i + 1).toNat)
 case atStart => exact ⟨width, [], Nat.le_refl _, rfl, rfl, OwnB.nil _ _, Below.refl _ _⟩
 case round =>
  obtain ⟨k, acc, hk, rfl, hac, hown, hb⟩ := hrel
  have HA := hidden hac
  clear hac
  have hsz := hb.size
  have hlen : acc.length ≤ 8 := by
   have h1 := congrArg List.length HA.out
   simp only [List.length_append, fB_length] at h1
   omega
  by_cases hk0 : k = 0
  ·subst hk0
   have e : acc = fB width n := by have := HA.out; simpa [fB] using this
   rw [e] at hown
   clear e HA
   go_wp2
   go_ret
   exact ⟨_, rfl, hown, hb⟩
  ·obtain ⟨j, rfl⟩ : ∃ j, k = j + 1 := ⟨k - 1, by omega⟩
   go_wp2_with fail
   go_loopw [7, 8] (fun x i w' => ∃ t : Nat, t ≤ j ∧ i = .int .i64 t ∧ x = .int .u64 (n / 256 ^ t) ∧ w' = wr) (fun _ i _ => j - (intOf i).toNat)
   case atStart => exact ⟨0, by omega, rfl, by simp, rfl⟩
   case round =>
    obtain ⟨t, ht, rfl, rfl, rfl⟩ := hrel
    have hpos : 0 ≤ n / 256 ^ t := Int.ediv_nonneg h0 (Int.le_of_lt (Int.pow_pos (by omega)))
    have hle : n / 256 ^ t ≤ n := Int.ediv_le_self _ h0
    have HP := hidden (pow256 n t)
    by_cases hlt : t < j
    ·generalize n / 256 ^ t = y at *
     go_wp2
     go_roundw
     case rel => exact ⟨t + 1, by omega, by go_num, by rw [← HP.out], trivial⟩
     case measure => simp [intOf]; omega
    ·obtain rfl : t = j := by omega
     generalize hy : n / 256 ^ t = y at *
     have HY := hidden hy
     clear hy
     go_wp2_with (at_builtin; refine app_bytes _ rfl _ _ rfl w.heap.size acc _ rfl (hown.alloc _) _ 1 1 [y % 256] rfl rfl (one_cell _ _) (by omega) (by simp; omega) ?_)
     intro v2 w2 hown2 hb2
     have R2 : Below w.heap.size w w2 := (hb.alloc hsz _).trans hb2
     clear hb2 hown
     go_wp2
     go_roundw
     case rel => exact ⟨t, acc ++ [y % 256], by omega, by go_num, by rw [← HA.out, fB, HY.out]; simp, hown2, R2⟩
     case measure => simp [intOf]
end Go.Proofs.YtoejadhlkamcjaaDoor

namespace Go.Proofs.YtoejadhlkamcjaaDoor
set_option maxRecDepth 100000
open Go.RowKit
theorem Sn_step (k y : Nat) (h : k < 8) : Sn (8 - k) y = Sn (8 - (k + 1)) (S y) := by
 rw [show 8 - k = (8 - (k + 1)) + 1 by omega]
 rfl
set_option maxHeartbeats 1000000 in
theorem step_any (r x : Nat) (w : World) (hr : r < 4294967296) (hx : x < 256) :
  Calls Tryd.prog 71 #[.int .u32 r, .int .u8 x] w fun e w' => e = .returned (.int .u32 (Sn 8 (r ^^^ x))) ∧ w' = w := by
 have hxr := u32_xor_nat r x hr (by omega)
 have hlt := xor32 hr (show x < 4294967296 by omega)
 generalize (r ^^^ x : Nat) = R at *
 generalize hF : Sn 8 R = F
 have HF := hidden hF
 clear hF
 go_enter Tryd.func71, Tryd.ntmps71
 go_wp2_with fail
 go_loop [5, 6] (fun v i => ∃ k y : Nat, k ≤ 8 ∧ y < 4294967296 ∧ i = .int .i64 k ∧ v = .int .u32 y ∧ Hid (Sn (8 - k) y = F)) (fun _ i => 8 - (intOf i).toNat)
 case atStart => exact ⟨0, R, by omega, hlt, rfl, rfl, HF⟩
 case round =>
  clear hxr hlt HF
  obtain ⟨k, y, hk, hy, rfl, rfl, HK⟩ := hrel
  by_cases hk8 : k < 8
  ·have e := HK.out
   rw [Sn_step k y hk8] at e
   have hSl := S_lt hy
   clear HK
   obtain ⟨D, hD⟩ : ∃ D : Nat, y / 2 = D := ⟨_, rfl⟩
   have hD2 : (y : Int) / 2 = (D : Int) := by omega
   have hDl : D < 4294967296 := by omega
   by_cases hodd : y % 2 = 1
   ·have hS : S y = D ^^^ 2197175160 := by unfold S; rw [if_pos hodd, hD]
    rw [hS] at e hSl
    have hz := u32_xor_nat D 2197175160 hDl (by omega)
    obtain ⟨Z, hZ⟩ : ∃ Z : Nat, D ^^^ 2197175160 = Z := ⟨_, rfl⟩
    rw [hZ] at e hz hSl
    have hz2 : bits .xor .u32 (D : Int) 2197175160 = (Z : Int) := hz
    have hb : ((y : Int) % 2 == 1) = true := by simp; omega
    have HE := hidden e
    clear e hS hz hZ hD hodd
    go_wp2
    go_round
    case rel => exact ⟨k + 1, Z, by omega, hSl, by go_num, rfl, HE⟩
    case measure => simp [intOf]; omega
   ·have hS : S y = D := by unfold S; rw [if_neg hodd, hD]
    rw [hS] at e hSl
    have hb : ((y : Int) % 2 == 1) = false := by simp; omega
    have HE := hidden e
    clear e hS hD hodd
    go_wp2
    go_round
    case rel => exact ⟨k + 1, D, by omega, hSl, by go_num, rfl, HE⟩
    case measure => simp [intOf]; omega
  ·have e : y = F := by rw [← HK.out, show 8 - k = 0 by omega]; rfl
   have HE := hidden e
   clear e HK
   go_wp2
   go_ret
   exact ⟨ret_int (by rw [HE.out]), rfl⟩
end Go.Proofs.YtoejadhlkamcjaaDoor

namespace Go.Proofs.YtoejadhlkamcjaaDoor
set_option maxRecDepth 100000
open Go.RowKit
theorem sum_one (l : List Int) (h : Wf l) : sumN [l] = 4294967295 ^^^ cr 4294967295 (l.map Int.toNat) := by
 show 4294967295 ^^^ tk (l.map Int.toNat) 4294967295 = _
 rw [tk_eq _ _ (by omega) (nat_lt l h)]
set_option maxHeartbeats 1000000 in
theorem rSumOf_any (ao : Option Addr) (n cap : Nat) (l : List Int) (w : World) (hs : Sl w ao n cap l) :
  Calls Tryd.prog 68 #[.slice ao n cap] w fun e w' => e = .returned (.int .u32 (sumN [l] : Nat)) ∧ w' = w := by
 have HS := hidden hs
 have HW := hidden hs.wf
 have hlen := hs.hlen
 have hroom := hs.hroom
 have hE : sumN [l] = cr 4294967295 (l.map Int.toNat) ^^^ 4294967295 := by rw [sum_one l hs.wf, Nat.xor_comm]
 rw [hE]
 clear hE hs
 generalize hF : cr 4294967295 (l.map Int.toNat) = F
 have HF := hidden hF
 clear hF
 go_enter Tryd.func68, Tryd.ntmps68
 go_wp2_with fail
 go_loop [3, 4] (fun v i => ∃ k y : Nat, k ≤ n ∧ y < 4294967296 ∧ i = .int .i64 k ∧ v = .int .u32 y ∧ Hid (cr y ((l.drop k).map Int.toNat) = F)) (fun _ i => n - (intOf i).toNat)
 case atStart => exact ⟨0, 4294967295, by omega, by omega, rfl, rfl, HF⟩
 case round =>
  clear HF
  obtain ⟨k, y, hk, hy, rfl, rfl, HK⟩ := hrel
  by_cases hkn : k < n
  ·rcases HS.out.hat with h | ⟨b', off', rfl, hbb', hc'⟩
   ·omega
   have hcj := hc' k hkn
   have hby := HW.out.getD k
   have ej := HK.out
   rw [drop_cons l k (by omega)] at ej
   obtain ⟨C, hC⟩ := Int.eq_ofNat_of_zero_le hby.1
   rw [hC] at hcj hby ej
   have HEJ : Hid (cr (Sn 8 (y ^^^ C)) ((l.drop (k + 1)).map Int.toNat) = F) := ej
   have hst := step_any y C w hy (by omega)
   have hzl := Sn_lt 8 (xor32 hy (show C < 4294967296 by omega))
   generalize Sn 8 (y ^^^ C) = Z at *
   have HST := hidden hst
   clear hc' ej HK hC hst hlen
   go_wp2_with fail
   refine same_call HST.out ?_
   go_wp2
   go_round
   case rel => exact ⟨k + 1, Z, by omega, hzl, by go_num, rfl, HEJ⟩
   case measure => simp [intOf]; omega
  ·have e : y = F := by rw [← HK.out, List.drop_eq_nil_of_le (by omega)]; rfl
   have HE := hidden e
   have hx := u32_xor_nat y 4294967295 hy (by omega)
   have hx2 : bits .xor .u32 (y : Int) 4294967295 = ((y ^^^ 4294967295 : Nat) : Int) := hx
   have HX := hidden hx2
   clear e HK hx hx2
   go_wp2
   go_ret
   exact ⟨ret_int (by rw [← HE.out]; exact HX.out), rfl⟩
end Go.Proofs.YtoejadhlkamcjaaDoor
