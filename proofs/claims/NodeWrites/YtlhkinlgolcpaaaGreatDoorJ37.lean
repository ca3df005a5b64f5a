import Derived.Test.YtlhkinlgolcpaaaGreatDoorJ36
import Derived.Deep.QuietTactic
import Derived.Handy
import Derived.BigQuiet
import Derived.Test.YtlhkinlgolcpaaaGreatDoorJ16
namespace Go.Proofs.YtlhkinlgolcpaaaGreatDoor
set_option maxRecDepth 100000
open Go.RowKit
theorem cell9 {w : World} {a i : Nat} {cs : List Value} {t : TypeId} (h : w.heap[a]? = some (.cells cs.toArray t (0, 0))) : w.cell? ⟨a, i, none⟩ = cs[i]? := by simp [World.cell?, h]
theorem free9 {w : World} {a i : Nat} {cs : List Value} {t : TypeId} (h : w.heap[a]? = some (.cells cs.toArray t (0, 0))) : w.frozen? ⟨a, i, none⟩ = false := by simp [World.frozen?, h]
theorem getD_By (l : List Int) (n : Nat) (h : n < l.length) : (By l)[n]? = some (.int .u8 (l.getD n 0)) := by
 simp [By, List.getD, List.getElem?_eq_getElem h]
theorem made_row {w : World} {e n g : Nat} {z : Value} (h : w.ownsRow 0 e 1 (.slice (some ⟨g, 0, none⟩) n n) n (madeCells #[z] n).toList) : w.heap[g]? = some (.cells (List.replicate n z).toArray e (0, 0)) := by
 rcases h.2 with ⟨h, _⟩ | ⟨g, c, cur, h, _, hh, _, _, hs, ht⟩
 ·cases h
 ·cases h
  rw [hh]
  congr 2
  apply Array.toList_inj.1
  rw [toList_madeCells_one] at ht
  simp only [Nat.mul_one] at hs ht
  rw [List.take_of_length_le (by simp [hs])] at ht
  simpa using ht
theorem By_set (l : List Int) (k : Nat) (x : Int) : (By l).set k (.int .u8 x) = By (l.set k x) := by simp [By, List.map_set]
def mks : Nat → List Int
 | 0 => []
 | k + 1 => mks k ++ [200 + (k : Int)]
theorem mks_len : ∀ k, (mks k).length = k
 | 0 => rfl
 | k + 1 => by simp [mks, mks_len k]
theorem mks_get : ∀ k i, i < k → (mks k).getD i 0 = 200 + (i : Int)
 | 0, i, h => by omega
 | k + 1, i, h => by
  simp only [mks, List.getD]
  by_cases e : i < k
  ·rw [List.getElem?_append_left (by rw [mks_len]; exact e)]
   exact mks_get k i e
  ·obtain rfl : i = k := by omega
   rw [List.getElem?_append_right (by rw [mks_len]; exact Nat.le_refl _), mks_len]
   simp
theorem mks_step (l : List Int) (n k : Nat) (hl : l.length = n) (hk : k < 9) : (l ++ (mks k ++ List.replicate (9 - k) 0)).set (n + k) (200 + (k : Int)) = l ++ (mks (k + 1) ++ List.replicate (9 - (k + 1)) 0) := by
 rw [List.set_append_right _ _ (by omega), show n + k - l.length = k by omega, List.set_append_right _ _ (by rw [mks_len]; exact Nat.le_refl _), mks_len, Nat.sub_self, show 9 - k = (9 - (k + 1)) + 1 by omega, List.replicate_succ]
 simp [mks]
theorem wrapu8 (x : Int) (h : 0 ≤ x) (h2 : x ≤ 255) : IntKind.u8.wrap x = x := by
 unfold IntKind.wrap
 simp [IntKind.bits, IntKind.signed]
 omega
set_option maxHeartbeats 1000000 in
theorem Lent_any (ao : Option Addr) (n cap : Nat) (l : List Int) (w : World) (hs : Sl w ao n cap l) :
  Calls Tryz.prog 44 #[.slice ao n cap] w fun e w' => e = .returned (.slice (some ⟨w.heap.size, 0, none⟩) n (n + 9)) ∧ w'.heap[w.heap.size]? = some (.cells (By (l ++ mks 9)).toArray 5 (0, 0)) ∧ Below w.heap.size w w' := by
 obtain ⟨i0, hi, hz0, hz1, hz2⟩ := info_parts info5
 have hsz : (Tryz.prog.info? 5).map (·.size) = some 1 := by rw [hi]; simp [hz1]
 have hroom := hs.hroom
 have hlen := hs.hlen
 have HS := hidden hs
 have HLEN := hidden hlen
 clear hs hlen
 go_enter Tryz.func44, Tryz.ntmps44
 go_wp2_with (at_make; refine wpList_make_full _ rfl _ _ 25 rfl 0 5 i0 (.int .u8 0) 1 Tryz.underlying25 hi hz0 hz1 .i64 .i64 (n + 9) (n + 9) (n + 9) rfl rfl rfl rfl (by rw [hz2]; omega) (by unfold maxLen; omega) (Nat.zero_le _) ?_)
 intro w1 hown1 hg1
 have HR1 := hidden (made_row hown1)
 have HB1 : Hid (Below w.heap.size w w1) := hidden ((Below.refl _ _).grown hg1 (Nat.le_refl _) (fun k hk => by cases hk))
 clear hown1 hg1 hi hz0 hz1 hz2
 have HP : Hid (0 < (By l).length → some (⟨w.heap.size, 0, none⟩ : Addr) = some ⟨w.heap.size, 0, none⟩ ∧ ∃ ad, ao = some ad ∧ ∀ j v, (By l)[j]? = some v → w1.cell? (ad.add j) = some v) := by
  refine hidden fun h => ?_
  rw [By_length] at h
  rcases HS.out.hat with h0 | ⟨b, off, rfl, hbb, hc⟩
  ·rw [HLEN.out] at h; omega
  ·refine ⟨rfl, _, rfl, fun j v hv => ?_⟩
   obtain ⟨h1, rfl⟩ := getElem?_By l j v hv
   rw [Addr.add_lit]
   exact (HB1.out.cell (p := ⟨b, off + j, none⟩) hbb).trans (hc j (by rw [← HLEN.out]; exact h1))
 obtain ⟨cur, hcur⟩ : ∃ cur, List.replicate (n + 9) (Value.int .u8 0) = cur := ⟨_, rfl⟩
 rw [hcur] at HR1
 have HCL : Hid (cur.length = n + 9) := hidden (by rw [← hcur]; simp)
 have HCUR := hidden hcur
 clear hcur
 go_wp2_with (refine wpList_copy_splice rfl _ _ 25 25 rfl 5 Tryz.underlying25 hsz _ _ (n + 9) (n + 9) n cap rfl rfl w.heap.size 0 cur 5 HR1.out (By l) (by rw [By_length, HLEN.out]; exact (Nat.min_eq_left (by omega)).symm) HP.out (by rw [By_length, HLEN.out, HCL.out]; omega) (By_one l) w.heap.size w HB1.out (Nat.le_refl _) ?_)
 intro w2 hh hb2
 have HR2 : Hid (w2.heap[w.heap.size]? = some (.cells (By (l ++ (mks 0 ++ List.replicate (9 - 0) 0))).toArray 5 (0, 0))) := hidden (by
  rw [hh.out, ← HCUR.out]
  simp only [splice, By_length, HLEN.out, List.take_zero, List.nil_append, Nat.zero_add, By_append, List.drop_replicate, show n + 9 - n = 9 by omega]
  rfl)
 have HB2 := hidden hb2
 clear hh hb2 HP HCUR HCL HR1 HB1 HS
 go_wp2_with fail
 go_loopw [4] (fun i wr => ∃ k : Nat, k ≤ 9 ∧ i = .int .i64 ((n : Int) + k) ∧ Hid (wr.heap[w.heap.size]? = some (.cells (By (l ++ (mks k ++ List.replicate (9 - k) 0))).toArray 5 (0, 0))) ∧ Hid (Below w.heap.size w wr)) (fun i _ => n + 9 - (RowKit.intOf i).toNat)
 case atStart => exact ⟨0, by omega, by simp, HR2, HB2⟩
 case round =>
  obtain ⟨k, hk, rfl, HR, HB⟩ := hrel
  by_cases hlt : k < 9
  ·have hlt' : (n : Int) + (k : Int) < (n : Int) + 9 := by omega
   have hw8 : IntKind.u8.wrap (200 + ((n : Int) + (k : Int)) - (n : Int)) = 200 + (k : Int) := by rw [show 200 + ((n : Int) + (k : Int)) - (n : Int) = 200 + (k : Int) by omega]; exact wrapu8 _ (by omega) (by omega)
   have f := free9 (i := n + k) HR.out
   obtain ⟨y, cy⟩ : ∃ y, wr.cell? ⟨w.heap.size, n + k, none⟩ = some y := ⟨_, (cell9 HR.out).trans (getD_By _ _ (by simp [HLEN.out, mks_len]; omega))⟩
   go_wp2
   go_roundw
   case rel =>
    refine ⟨k + 1, by omega, by go_num, hidden ?_, hidden (HB.out.setCell (by show w.heap.size ≤ w.heap.size; omega) _)⟩
    rw [set_row HR.out, By_set, mks_step l n k HLEN.out hlt]
   case measure => simp [RowKit.intOf]; omega
  ·have hge : ¬ ((n : Int) + (k : Int) < (n : Int) + 9) := by omega
   obtain rfl : k = 9 := by omega
   go_wp2
   go_ret
   exact ⟨rfl, by simpa using HR.out, HB.out⟩
theorem ow_step (X : List Int) (k : Nat) (c : Int) (h : k < X.length) : (List.replicate k c ++ X.drop k).set k c = List.replicate (k + 1) c ++ X.drop (k + 1) := by
 rw [List.set_append_right _ _ (by simp), List.length_replicate, Nat.sub_self, List.drop_eq_getElem_cons h, List.set_cons_zero, List.replicate_succ', List.append_assoc]
 rfl
theorem ow_get (X : List Int) (k : Nat) (c : Int) : (List.replicate k c ++ X.drop k).getD k 0 = X.getD k 0 := by
 simp only [List.getD]
 rw [List.getElem?_append_right (by simp), List.length_replicate, Nat.sub_self, List.getElem?_drop, Nat.add_zero]
theorem ow_len (X : List Int) (k : Nat) (c : Int) (h : k ≤ X.length) : (List.replicate k c ++ X.drop k).length = X.length := by simp; omega
set_option maxHeartbeats 1000000 in
theorem AsLent_any (g n : Nat) (bo : Option Addr) (d : Nat) (l : List Int) (w : World) (hr : w.heap[g]? = some (.cells (By (l ++ mks 9)).toArray 5 (0, 0))) (hb : Sl w bo n d l) :
  Calls Tryz.prog 65 #[.slice (some ⟨g, 0, none⟩) n (n + 9), .slice bo n d] w fun e w' => e = .returned (.bool true) ∧ Cf (fun k => k = g) w w' := by
 have hlen := hb.hlen
 have hroom := hb.hroom
 have hsl : Sl w (some ⟨g, 0, none⟩) n (n + 9) l := ⟨hlen, by omega, hroom, hb.wf, (by intro h; cases h), .inr ⟨g, 0, rfl, lt_some hr, fun i hi => by
  rw [Nat.zero_add, cell9 hr, getD_By _ _ (by rw [List.length_append]; omega)]
  simp only [List.getD]
  rw [List.getElem?_append_left (by omega)]⟩⟩
 have k1 := conv_sl hsl
 have k2 := conv_sl hb
 obtain ⟨S, hS⟩ : ∃ S, strOfNums l = S := ⟨_, rfl⟩
 rw [hS] at k1 k2
 have eS : (S.toList == S.toList) = true := by simp
 obtain ⟨X, hX⟩ : ∃ X, l ++ mks 9 = X := ⟨_, rfl⟩
 have HXL : Hid (X.length = n + 9) := hidden (by rw [← hX, List.length_append, mks_len, hlen])
 have HXG : Hid (∀ j, j < 9 → X.getD (n + j) 0 = 200 + (j : Int)) := hidden fun j hj => by
  rw [← hX]
  have := mks_get 9 j hj
  simp only [List.getD] at this ⊢
  rw [List.getElem?_append_right (by omega), show n + j - l.length = j by omega]
  exact this
 rw [hX] at hr
 have HR := hidden hr
 clear hr hb hsl hS hX hlen
 go_enter Tryz.func65, Tryz.ntmps65
 go_wp2_with fail
 clear k1 k2 eS
 go_loopw [6, 7] (fun t i wr => ∃ k : Nat, k ≤ n + 9 ∧ t = .bool true ∧ i = .int .i64 k ∧ Hid (Cf (fun j => j = g) w wr) ∧ Hid (wr.heap[g]? = some (.cells (By (List.replicate k 77 ++ X.drop k)).toArray 5 (0, 0)))) (fun _ i _ => n + 9 - (RowKit.intOf i).toNat)
 case atStart => exact ⟨0, by omega, rfl, rfl, hidden (Cf.refl _ _), HR⟩
 case round =>
  obtain ⟨k, hk, rfl, rfl, HB, HW⟩ := hrel
  by_cases hlt : k < n + 9
  ·have hlt' : (k : Int) < (n : Int) + 9 := by omega
   have f := free9 (i := k) HW.out
   have hcell : wr.cell? ⟨g, k, none⟩ = some (.int .u8 (X.getD k 0)) := (cell9 HW.out).trans ((getD_By _ _ (by rw [ow_len _ _ _ (by rw [HXL.out]; omega), HXL.out]; exact hlt)).trans (by rw [ow_get]))
   by_cases hkn : k < n
   ·have hd : decide ((n : Int) ≤ (k : Int)) = false := by simpa using hkn
    have hd' : ¬ ((n : Int) ≤ (k : Int)) := by omega
    go_wp2
    go_roundw
    case rel =>
     refine ⟨k + 1, by omega, rfl, by go_num, hidden (HB.out.go (Cf.setCell (F := fun j => j = g) wr rfl _)), hidden ?_⟩
     rw [set_row HW.out, By_set, ow_step _ _ _ (by rw [HXL.out]; exact hlt)]
    case measure => simp [RowKit.intOf]; omega
   ·obtain ⟨j, rfl⟩ : ∃ j, k = n + j := ⟨k - n, by omega⟩
    rw [HXG.out j (by omega)] at hcell
    have hnk : (n : Int) ≤ ((n + j : Nat) : Int) := by omega
    have hw8 : IntKind.u8.wrap (200 + ((n + j : Nat) : Int) - (n : Int)) = 200 + (j : Int) := by rw [show 200 + ((n + j : Nat) : Int) - (n : Int) = 200 + (j : Int) by omega]; exact wrapu8 _ (by omega) (by omega)
    go_wp2
    go_roundw
    case rel =>
     refine ⟨n + j + 1, by omega, rfl, by go_num, hidden (HB.out.go (Cf.setCell (F := fun j => j = g) wr rfl _)), hidden ?_⟩
     rw [set_row HW.out, By_set, ow_step _ _ _ (by rw [HXL.out]; exact hlt)]
    case measure => simp [RowKit.intOf]; omega
  ·have hge : ¬ ((k : Int) < (n : Int) + 9) := by omega
   go_wp2
   go_ret
   exact ⟨rfl, HB.out⟩
end Go.Proofs.YtlhkinlgolcpaaaGreatDoor

namespace Go.Proofs.YtlhkinlgolcpaaaGreatDoor
set_option maxRecDepth 100000
open Go.RowKit
set_option maxHeartbeats 4000000 in
theorem lentCell_any (key val : List Int) (kd pg ct : Int) (ka va : Option Addr) (kn vn kc vc : Nat) (w : World) (hk : Sl w ka kn kc key) (hv : Sl w va vn vc val) :
  Calls Tryz.prog 21 #[.agg #[.slice ka kn kc, .int .i64 kd, .slice va vn vc, .int .i64 pg, .int .i64 ct]] w fun e w' => ∃ G1 G2, e = .returned (.agg #[.slice (some ⟨G1, 0, none⟩) kn (kn + 9), .int .i64 kd, .slice (some ⟨G2, 0, none⟩) vn (vn + 9), .int .i64 pg, .int .i64 ct]) ∧ Hid (Bk w' G1 (key ++ mks 9) ∧ Bk w' G2 (val ++ mks 9) ∧ w.heap.size < G1 ∧ G1 < G2) ∧ Hid (Below w.heap.size w w') := by
 obtain ⟨s, hs⟩ : ∃ s, w.heap.size = s := ⟨_, rfl⟩
 have hz : (w.alloc (.cells #[.slice ka kn kc, .int .i64 kd, .slice va vn vc, .int .i64 pg, .int .i64 ct] 41)).heap.size = s + 1 := by rw [← hs]; simp
 obtain ⟨x, hx⟩ : ∃ x, (w.alloc (.cells #[.slice ka kn kc, .int .i64 kd, .slice va vn vc, .int .i64 pg, .int .i64 ct] 41)).alloc (.cells #[.slice none 0 0, .int .i64 0, .slice none 0 0, .int .i64 0, .int .i64 0] 41) = x := ⟨_, rfl⟩
 have hbx : Below w.heap.size w x := by rw [← hx]; exact bl_al (bl_al (Below.refl _ _) (Nat.le_refl _) _) (Nat.le_refl _) _
 have HBOX : Hid (C5 x s (.slice ka kn kc) (.int .i64 kd) (.slice va vn vc) (.int .i64 pg) (.int .i64 ct)) := by
  have h1 := heap_alloc_last w (.cells #[.slice ka kn kc, .int .i64 kd, .slice va vn vc, .int .i64 pg, .int .i64 ct] 41)
  rw [hs] at h1
  rw [← hx]
  exact hidden ((Below.heap_alloc _ _ _ (by rw [hz]; exact Nat.lt_succ_self _)).trans h1)
 have HRES : Hid (C5 x (s + 1) (.slice none 0 0) (.int .i64 0) (.slice none 0 0) (.int .i64 0) (.int .i64 0)) := by
  have := heap_alloc_last (w.alloc (.cells #[.slice ka kn kc, .int .i64 kd, .slice va vn vc, .int .i64 pg, .int .i64 ct] 41)) (.cells #[.slice none 0 0, .int .i64 0, .slice none 0 0, .int .i64 0, .int .i64 0] 41)
  rw [hz, hx] at this
  exact hidden this
 have HV0 := hidden hv
 have HBX := hidden hbx
 have hxs : x.heap.size = s + 2 := by rw [← hx, ← hs]; simp
 have HL1 := hidden (Lent_any ka kn kc key x (hk.on (Nat.le_refl _) hbx))
 rw [hxs] at HL1
 have hbx2 : s ≤ x.heap.size := by omega
 obtain ⟨c0, c1, c2, c3, c4⟩ := HBOX.out.cells
 clear hk hv hbx
 go_enter Tryz.func21, Tryz.ntmps21
 go_wp2_with (first | (go_at_call 44; refine HL1.out.mono ?_; rintro e u1 ⟨rfl, hg1, hb1⟩; refine Hid.out ?_))
 apply hidden
 have hb1' : Below x.heap.size x u1 := by rw [hxs]; exact hb1
 have HG1 : Hid (Bk u1 (s + 2) (key ++ mks 9)) := hidden hg1
 have hbox1 : C5 u1 s (.slice ka kn kc) (.int .i64 kd) (.slice va vn vc) (.int .i64 pg) (.int .i64 ct) := box_on HBOX.out hb1'
 have hres1 : C5 u1 (s + 1) (.slice none 0 0) (.int .i64 0) (.slice none 0 0) (.int .i64 0) (.int .i64 0) := box_on HRES.out hb1'
 clear c0 c1 c2 c3 c4
 obtain ⟨c0, c1, c2, c3, c4⟩ := hbox1.cells
 obtain ⟨f0, f1, f2, f3, f4⟩ := hbox1.free
 obtain ⟨X, hX⟩ : ∃ X, Value.slice (some ⟨s + 2, 0, none⟩) kn (kn + 9) = X := ⟨_, rfl⟩
 obtain ⟨y1, hy1⟩ : ∃ y, u1.setCell ⟨s, 0, none⟩ X = y := ⟨_, rfl⟩
 have hc1 : Cf (· = s) u1 y1 := by rw [← hy1]; exact Cf.set _ _ _ _
 have HB1 : Hid (C5 y1 s X (.int .i64 kd) (.slice va vn vc) (.int .i64 pg) (.int .i64 ct)) := hidden (by rw [← hy1]; exact (hbox1.set X).1)
 have HR1 : Hid (C5 y1 (s + 1) (.slice none 0 0) (.int .i64 0) (.slice none 0 0) (.int .i64 0) (.int .i64 0)) := hidden (hres1.cf hc1 (by omega))
 have HGY : Hid (Bk y1 (s + 2) (key ++ mks 9)) := hidden (HG1.out.cf hc1 (HG1.out.apart5 hbox1))
 have hz1 : y1.heap.size = u1.heap.size := by rw [← hy1]; simp
 have HBY : Hid (Below w.heap.size w y1) := hidden ((HBX.out.trans (hb1'.mono HBX.out.size)).trans (hc1.below (Nat.le_trans HBX.out.size hb1'.size) (by intro i hi e; omega)))
 have HVY : Hid (Sl y1 va vn vc val) := hidden (HV0.out.on (Nat.le_refl _) HBY.out)
 have HL2 := hidden (Lent_any va vn vc val y1 HVY.out)
 obtain ⟨G2, hG2⟩ : ∃ G, y1.heap.size = G := ⟨_, rfl⟩
 rw [hG2] at HL2
 have hG2l : s + 2 < G2 := by rw [← hG2]; exact lt_some HGY.out
 subst hX
 clear hg1 hb1 hb1' hbox1 hres1 hc1 HG1 HL1 HVY hx HBOX HRES
 obtain ⟨d0, d1, d2, d3, d4⟩ := HB1.out.cells
 go_wp2_with (first | (go_at_call 44; refine HL2.out.mono ?_; rintro e u2 ⟨rfl, hg2, hb2⟩; refine Hid.out ?_))
 apply hidden
 rw [← hG2] at hb2
 have HG2 : Hid (Bk u2 G2 (val ++ mks 9)) := hidden hg2
 have hbox2 : C5 u2 s (.slice (some ⟨s + 2, 0, none⟩) kn (kn + 9)) (.int .i64 kd) (.slice va vn vc) (.int .i64 pg) (.int .i64 ct) := box_on HB1.out hb2
 have hres2 : C5 u2 (s + 1) (.slice none 0 0) (.int .i64 0) (.slice none 0 0) (.int .i64 0) (.int .i64 0) := box_on HR1.out hb2
 have HGZ : Hid (Bk u2 (s + 2) (key ++ mks 9)) := hidden (HGY.out.on hb2)
 clear c0 c1 c2 c3 c4 f0 f1 f2 f3 f4 d0 d1 d2 d3 d4
 obtain ⟨c0, c1, c2, c3, c4⟩ := hbox2.cells
 obtain ⟨f0, f1, f2, f3, f4⟩ := hbox2.free
 obtain ⟨Y, hY⟩ : ∃ Y, Value.slice (some ⟨G2, 0, none⟩) vn (vn + 9) = Y := ⟨_, rfl⟩
 obtain ⟨y2, hy2⟩ : ∃ y, u2.setCell ⟨s, 2, none⟩ Y = y := ⟨_, rfl⟩
 have hc2 : Cf (· = s) u2 y2 := by rw [← hy2]; exact Cf.set _ _ _ _
 have HB2 : Hid (C5 y2 s (.slice (some ⟨s + 2, 0, none⟩) kn (kn + 9)) (.int .i64 kd) Y (.int .i64 pg) (.int .i64 ct)) := hidden (by rw [← hy2]; exact (hbox2.set Y).2.2.1)
 have HR2 : Hid (C5 y2 (s + 1) (.slice none 0 0) (.int .i64 0) (.slice none 0 0) (.int .i64 0) (.int .i64 0)) := hidden (hres2.cf hc2 (by omega))
 have HK1 : Hid (Bk y2 (s + 2) (key ++ mks 9)) := hidden (HGZ.out.cf hc2 (HGZ.out.apart5 hbox2))
 have HK2 : Hid (Bk y2 G2 (val ++ mks 9)) := hidden (HG2.out.cf hc2 (HG2.out.apart5 hbox2))
 have HBZ : Hid (Below w.heap.size w y2) := hidden ((HBY.out.trans (hb2.mono HBY.out.size)).trans (hc2.below (Nat.le_trans HBY.out.size hb2.size) (by intro i hi e; omega)))
 subst hY
 clear hg2 hb2 hbox2 hres2 hc2 HG2 HGZ HGY HL2 HB1 HR1 HBY
 have hE := HB2.out.cells
 obtain ⟨g0, g1, g2, g3, g4⟩ := hE
 obtain ⟨b0, b1, b2, b3, b4⟩ := HR2.out.cells
 obtain ⟨h0, h1, h2, h3, h4⟩ := HR2.out.free
 go_wp2
 refine bodyPost_ret (results_cell_row rfl _ _ (s + 1) 41 #[.slice (some ⟨s + 2, 0, none⟩) kn (kn + 9), .int .i64 kd, .slice (some ⟨G2, 0, none⟩) vn (vn + 9), .int .i64 pg, .int .i64 ct] (0, 0) _ (by rfl) (HR2.out.put _ _ _ _ _) Tryz.underlying41 rfl sizeCell) rfl ?_
 have hf := put5_cf y2 (s + 1) (.slice (some ⟨s + 2, 0, none⟩) kn (kn + 9)) (.int .i64 kd) (.slice (some ⟨G2, 0, none⟩) vn (vn + 9)) (.int .i64 pg) (.int .i64 ct)
 exact ⟨s + 2, G2, rfl, hidden ⟨HK1.out.cf hf (HK1.out.apart5 HR2.out), HK2.out.cf hf (HK2.out.apart5 HR2.out), by omega, hG2l⟩, hidden (HBZ.out.trans (hf.below HBZ.out.size (by intro i hi e; omega)))⟩
end Go.Proofs.YtlhkinlgolcpaaaGreatDoor

namespace Go.Proofs.YtlhkinlgolcpaaaGreatDoor
set_option maxRecDepth 100000
open Go.RowKit
theorem sets5_below {b j : Nat} : ∀ (vs : List Value) (i : Nat) (w : World), Below b w (w.setCells b i vs)
 | [], _, _ => Below.refl _ _
 | v :: r, i, w => ((Below.refl b w).setCell (p := ⟨b, i, none⟩) (Nat.le_refl _) v).trans (sets5_below (j := j) r (i + 1) _)
theorem sets5_size {b : Nat} : ∀ (vs : List Value) (i : Nat) (w : World), (w.setCells b i vs).heap.size = w.heap.size
 | [], _, _ => rfl
 | v :: r, i, w => by
  show ((w.setCell ⟨b, i, none⟩ v).setCells b (i + 1) r).heap.size = _
  rw [sets5_size r (i + 1)]
  simp
def Bt (R L k : Nat) : Prop := R ≤ k ∧ k < L
theorem sets5_cf {b : Nat} {F : Nat → Prop} (hb : F b) : ∀ (vs : List Value) (i : Nat) (w : World), Cf F w (w.setCells b i vs)
 | [], _, w => Cf.refl _ w
 | v :: r, i, w => (Cf.setCell (F := F) w (p := ⟨b, i, none⟩) hb v).go (sets5_cf hb r (i + 1) _)
theorem sl_lent {w : World} {g : Nat} {l : List Int} (h : Bk w g (l ++ mks 9)) (hw : Wf l) (hl : l.length ≤ 140737488355328) : Sl w (some ⟨g, 0, none⟩) l.length (l.length + 9) l :=
 ⟨rfl, by omega, hl, hw, (by intro h; cases h), .inr ⟨g, 0, rfl, lt_some h, fun i hi => by
  rw [Nat.zero_add, cell9 h, getD_By _ _ (by rw [List.length_append]; omega)]
  simp only [List.getD]
  rw [List.getElem?_append_left (by omega)]⟩⟩
set_option maxHeartbeats 4000000 in
theorem asLentCell_any (key val : List Int) (kd pg ct : Int) (G1 G2 : Nat) (ka va : Option Addr) (kn vn kc vc : Nat) (w : World) (h1 : Bk w G1 (key ++ mks 9)) (h2 : Bk w G2 (val ++ mks 9)) (hne : ¬ G1 = G2)
  (hk : ∀ u, Cf (fun k => k = G1 ∨ k = G2) w u → Sl u ka kn kc key) (hv : ∀ u, Cf (fun k => k = G1 ∨ k = G2) w u → Sl u va vn vc val) :
  Calls Tryz.prog 34 #[.agg #[.slice (some ⟨G1, 0, none⟩) kn (kn + 9), .int .i64 kd, .slice (some ⟨G2, 0, none⟩) vn (vn + 9), .int .i64 pg, .int .i64 ct], .agg #[.slice ka kn kc, .int .i64 kd, .slice va vn vc, .int .i64 pg, .int .i64 ct]] w fun e w' => e = .returned (.bool true) ∧ Hid (Cf (fun k => k = G1 ∨ k = G2) w w') := by
 obtain ⟨s, hs⟩ : ∃ s, w.heap.size = s := ⟨_, rfl⟩
 obtain ⟨y, hy⟩ : ∃ y, w.alloc (.cells #[.slice (some ⟨G1, 0, none⟩) kn (kn + 9), .int .i64 kd, .slice (some ⟨G2, 0, none⟩) vn (vn + 9), .int .i64 pg, .int .i64 ct] 41) = y := ⟨_, rfl⟩
 have hz : y.heap.size = s + 1 := by rw [← hy, ← hs]; simp
 obtain ⟨x, hx⟩ : ∃ x, y.alloc (.cells #[.slice ka kn kc, .int .i64 kd, .slice va vn vc, .int .i64 pg, .int .i64 ct] 41) = x := ⟨_, rfl⟩
 have hbx : Below w.heap.size w x := by rw [← hx, ← hy]; exact bl_al (bl_al (Below.refl _ _) (Nat.le_refl _) _) (Nat.le_refl _) _
 have HBA : Hid (C5 x s (.slice (some ⟨G1, 0, none⟩) kn (kn + 9)) (.int .i64 kd) (.slice (some ⟨G2, 0, none⟩) vn (vn + 9)) (.int .i64 pg) (.int .i64 ct)) := by
  have h1 := heap_alloc_last w (.cells #[.slice (some ⟨G1, 0, none⟩) kn (kn + 9), .int .i64 kd, .slice (some ⟨G2, 0, none⟩) vn (vn + 9), .int .i64 pg, .int .i64 ct] 41)
  rw [hs, hy] at h1
  rw [← hx]
  exact hidden ((Below.heap_alloc _ _ _ (by rw [hz]; exact Nat.lt_succ_self _)).trans h1)
 have HBC : Hid (C5 x (s + 1) (.slice ka kn kc) (.int .i64 kd) (.slice va vn vc) (.int .i64 pg) (.int .i64 ct)) := by
  have := heap_alloc_last y (.cells #[.slice ka kn kc, .int .i64 kd, .slice va vn vc, .int .i64 pg, .int .i64 ct] 41)
  rw [hz, hx] at this
  exact hidden this
 have hl1 : G1 < s := by rw [← hs]; exact lt_some h1
 have hl2 : G2 < s := by rw [← hs]; exact lt_some h2
 have HCX : Hid (Cf (fun k => k = G1 ∨ k = G2) w x) := hidden (Cf.of_below hbx)
 have HK2 : Hid (Bk x G2 (val ++ mks 9)) := hidden (h2.on hbx)
 have HA1 := hidden (AsLent_any G1 kn ka kc key x (h1.on hbx) (hk x HCX.out))
 have HV := hidden hv
 have ekd : (kd == kd) = true := by simp
 have epg : (pg == pg) = true := by simp
 have ect : (ct == ct) = true := by simp
 have hxw : (w.alloc (.cells #[.slice (some ⟨G1, 0, none⟩) kn (kn + 9), .int .i64 kd, .slice (some ⟨G2, 0, none⟩) vn (vn + 9), .int .i64 pg, .int .i64 ct] 41)).alloc (.cells #[.slice ka kn kc, .int .i64 kd, .slice va vn vc, .int .i64 pg, .int .i64 ct] 41) = x := by rw [hy, hx]
 obtain ⟨a0, a1, a2, a3, a4⟩ := HBA.out.cells
 obtain ⟨b0, b1, b2, b3, b4⟩ := HBC.out.cells
 clear h1 h2 hk hv hbx hy hx hz
 go_enter Tryz.func34, Tryz.ntmps34
 go_wp2_with (first | (go_at_call 65; refine HA1.out.mono ?_; rintro e u1 ⟨rfl, hc1⟩; refine Hid.out ?_))
 apply hidden
 have HC1 : Hid (Cf (fun k => k = G1 ∨ k = G2) w u1) := hidden (HCX.out.go (hc1.wide (fun k h => .inl h)))
 have HBA1 := hidden (HBA.out.cf hc1 (by omega))
 have HBC1 := hidden (HBC.out.cf hc1 (by omega))
 have HA2 := hidden (AsLent_any G2 vn va vc val u1 (HK2.out.cf hc1 (fun e => hne e.symm)) (HV.out u1 HC1.out))
 clear a0 a1 a2 a3 a4 b0 b1 b2 b3 b4 hc1 HA1 HCX HK2 HBA HBC
 obtain ⟨a0, a1, a2, a3, a4⟩ := HBA1.out.cells
 obtain ⟨b0, b1, b2, b3, b4⟩ := HBC1.out.cells
 go_wp2_with (first | (go_at_call 65; refine HA2.out.mono ?_; rintro e u2 ⟨rfl, hc2⟩; refine Hid.out ?_))
 apply hidden
 have HC2 : Hid (Cf (fun k => k = G1 ∨ k = G2) w u2) := hidden (HC1.out.go (hc2.wide (fun k h => .inr h)))
 clear a0 a1 a2 a3 a4 b0 b1 b2 b3 b4 hc2 HA2 HC1
 go_wp2
 go_ret
 exact ⟨rfl, HC2⟩
end Go.Proofs.YtlhkinlgolcpaaaGreatDoor
