import Derived.Test.YtoejadhlkamcjaaDoorJ00
import Derived.Test.YtoejadhlkamcjaaDoorJ02
import Derived.Deep.QuietTactic
import Derived.BigQuiet
import Derived.Handy
import Derived.Laws.BitsAllLaws
import Derived.Deep.WholeRow
namespace Go.Proofs.YtoejadhlkamcjaaDoor
set_option maxRecDepth 100000
open Go.RowKit
theorem conv_sl {w : World} {ao : Option Addr} {n cap : Nat} {l : List Int} (hs : Sl w ao n cap l) :
  (convert 33 9 (.slice ao n cap)).run Tryd.prog w = .ok (.string (strOfNums l)) w := by
 obtain ⟨hlen, hcap, hroom, hwf, hnil, hat⟩ := hs
 rcases hat with rfl | ⟨b, off, rfl, hb, hc⟩
 ·obtain rfl : l = [] := List.eq_nil_of_length_eq_zero hlen
  rw [run_convert_bytes_string w 33 9 5 ao 0 cap Tryd.underlying33 Tryd.underlying5 Tryd.underlying9]
  cases ao with
  | none => simp [Conv.bytesToString, Sem.run_pure, strOfNums]; rfl
  | some a =>
   rw [run_bytesToString w a 0 cap [] (by simpa using run_loadCells_list (P := Tryd.prog) w a [] (fun j v h => by cases h))]
   rfl
 ·exact run_convert_bytes_arg w 33 5 Tryd.underlying33 Tryd.underlying5 b off n cap l hlen hc 9 Tryd.underlying9
theorem byte_inj {x y : Int} (hx : 0 ≤ x ∧ x ≤ 255) (hy : 0 ≤ y ∧ y ≤ 255) (h : UInt8.ofNat x.toNat = UInt8.ofNat y.toNat) : x = y := by
 have h1 := congrArg UInt8.toNat h
 simp only [UInt8.toNat_ofNat'] at h1
 omega
theorem bytes_inj : ∀ (a b : List Int), Wf a → Wf b → (a.map fun n => UInt8.ofNat n.toNat) = (b.map fun n => UInt8.ofNat n.toNat) → a = b
 | [], [], _, _, _ => rfl
 | [], _ :: _, _, _, h => by simp at h
 | _ :: _, [], _, _, h => by simp at h
 | x :: a, y :: b, ha, hb, h => by
  simp only [List.map_cons, List.cons.injEq] at h
  rw [byte_inj (ha x (by simp)) (hb y (by simp)) h.1, bytes_inj a b (fun z hz => ha z (by simp [hz])) (fun z hz => hb z (by simp [hz])) h.2]
theorem str_beq {a b : List Int} (ha : Wf a) (hb : Wf b) : ((strOfNums a).toList == (strOfNums b).toList) = decide (a = b) := by
 rw [Bool.eq_iff_iff, beq_iff_eq, decide_eq_true_iff, ByteArray.toList_eq, ByteArray.toList_eq, strOfNums_data, strOfNums_data]
 constructor
 ·exact bytes_inj a b ha hb
 ·rintro rfl; rfl
end Go.Proofs.YtoejadhlkamcjaaDoor

namespace Go.Proofs.YtoejadhlkamcjaaDoor
set_option maxRecDepth 100000
open Go.RowKit
def ordL : List Int → List Int → Int
 | [], [] => 0
 | [], _ :: _ => -1
 | _ :: _, [] => 1
 | x :: a, y :: b => if x < y then -1 else if y < x then 1 else ordL a b
end Go.Proofs.YtoejadhlkamcjaaDoor

namespace Go.Proofs.YtoejadhlkamcjaaDoor
set_option maxRecDepth 100000
def kl (a b : List Int) : Prop := ordL a b = -1
instance (a b : List Int) : Decidable (kl a b) := by unfold kl; infer_instance
def ahead : Option (List Int) → List Int → Prop
 | none, _ => True
 | some p, k => kl p k
instance (p : Option (List Int)) (k : List Int) : Decidable (ahead p k) := by cases p <;> (unfold ahead; infer_instance)
def isKd (k : Int) : Prop := k = 2 ∨ k = 3
instance (k : Int) : Decidable (isKd k) := by unfold isKd; infer_instance
instance (k : Int) : Decidable (pw k) := by unfold pw; infer_instance
end Go.Proofs.YtoejadhlkamcjaaDoor

namespace Go.Proofs.YtoejadhlkamcjaaDoor
set_option maxRecDepth 100000
def nxt (n : Int) : Prop := n = 0 ∨ 2 ≤ n ∧ n < 65536
instance (n : Int) : Decidable (nxt n) := by unfold nxt; infer_instance
def spH (n : Int) (d : List Int) (p : Nat) : List Int := [4, 0, 0, 0] ++ (fB 4 n ++ (fB 4 d.length ++ (d ++ zs (p - 16 - d.length))))
def spB (n : Int) (d : List Int) (p : Nat) : List Int := sealB (spH n d p)
def spE (n : Int) (d : List Int) (p : Int) : Int := if ¬ pw p ∨ ¬ nxt n then 1 else if d.length = 0 ∨ p - 16 < d.length then 31 else 0
theorem spH_length (n : Int) (d : List Int) (p : Nat) (h : d.length + 16 ≤ p) : (spH n d p).length = p - 4 := by
 simp only [spH, List.length_append, fB_length, zs_length, List.length_cons, List.length_nil]
 omega
theorem spB_length (n : Int) (d : List Int) (p : Nat) (h : d.length + 16 ≤ p) : (spB n d p).length = p := by
 rw [spB, sealB_length, spH_length n d p h]
 omega
theorem spH_wf {n : Int} {d : List Int} (p : Nat) (h : Wf d) : Wf (spH n d p) := by
 refine Wf.append ?_ ((fB_wf _ _).append ((fB_wf _ _).append (h.append (zs_wf _))))
 intro x hx
 simp only [List.mem_cons, List.not_mem_nil, or_false] at hx
 omega
theorem spB_wf {n : Int} {d : List Int} (p : Nat) (h : Wf d) : Wf (spB n d p) := sealB_wf (spH_wf p h)
theorem spE_zero {n : Int} {d : List Int} {p : Int} : spE n d p = 0 ↔ pw p ∧ nxt n ∧ 1 ≤ d.length ∧ (d.length : Int) ≤ p - 16 := by
 unfold spE
 split
 ·rename_i h
  constructor
  ·intro h1; omega
  ·rintro ⟨h1, h2, _⟩
   rcases h with h | h
   ·exact absurd h1 h
   ·exact absurd h2 h
 ·rename_i h
  rw [not_or, Decidable.not_not, Decidable.not_not] at h
  split
  ·rename_i h2
   constructor
   ·intro h1; omega
   ·rintro ⟨_, _, h3, h4⟩
    omega
  ·rename_i h2
   exact ⟨fun _ => ⟨h.1, h.2, by omega, by omega⟩, fun _ => rfl⟩
def spT (b : List Int) : List Int := (b.drop 12).take (rdN b 8 4).toNat
def spIs (b : List Int) : Prop := pw b.length ∧ rdN b 8 4 ≤ (b.length : Int) - 16 ∧ spE (rdN b 4 4) (spT b) b.length = 0 ∧ spB (rdN b 4 4) (spT b) b.length = b
instance (b : List Int) : Decidable (spIs b) := by unfold spIs; infer_instance
def spD (b : List Int) : Option (Int × List Int) := if spIs b then some (rdN b 4 4, spT b) else none
theorem spB_reads (n : Int) (d : List Int) (p : Nat) (hn : nxt n) (hd : d.length + 16 ≤ p) (hp : p ≤ 65536) : rdN (spB n d p) 4 4 = n ∧ rdN (spB n d p) 8 4 = d.length ∧ spT (spB n d p) = d := by
 obtain ⟨Z, hZ⟩ : ∃ Z, Z = zs (p - 16 - d.length) ++ fB 4 (sumN [spH n d p]) := ⟨_, rfl⟩
 have e : spB n d p = [4, 0, 0, 0] ++ (fB 4 n ++ (fB 4 d.length ++ (d ++ Z))) := by
  rw [hZ]
  simp only [spB, sealB, spH, List.append_assoc]
 have e1 : rdN (spB n d p) 4 4 = n := by
  rw [e, rdN_mid [4, 0, 0, 0] (fB 4 n) _ 4 4 rfl (fB_length _ _), fB_read 4 _ (by unfold nxt at hn; omega) (by unfold nxt at hn; simp; omega)]
 have e2 : rdN (spB n d p) 8 4 = d.length := by
  rw [e, show [4, 0, 0, 0] ++ (fB 4 n ++ (fB 4 d.length ++ (d ++ Z))) = ([4, 0, 0, 0] ++ fB 4 n) ++ (fB 4 d.length ++ (d ++ Z)) from by simp only [List.append_assoc], rdN_mid _ (fB 4 d.length) _ 8 4 (by simp [fB_length]) (fB_length _ _), fB_read 4 _ (by omega) (by simp; omega)]
 refine ⟨e1, e2, ?_⟩
 unfold spT
 rw [e2, e, show [4, 0, 0, 0] ++ (fB 4 n ++ (fB 4 d.length ++ (d ++ Z))) = ([4, 0, 0, 0] ++ (fB 4 n ++ fB 4 d.length)) ++ (d ++ Z) from by simp only [List.append_assoc], List.drop_left' (by simp [fB_length]), Int.toNat_natCast, List.take_left]
theorem spD_of {n : Int} {d : List Int} {p : Nat} (h : spE n d p = 0) : spD (spB n d p) = some (n, d) := by
 obtain ⟨h1, h2, h3, h4⟩ := spE_zero.1 h
 have hp := pw_le h1
 obtain ⟨e1, e2, e3⟩ := spB_reads n d p h2 (by omega) (by omega)
 have hl := spB_length n d p (by omega)
 unfold spD
 rw [if_pos, e1, e3]
 unfold spIs
 rw [e1, e2, e3, hl]
 exact ⟨h1, by omega, h, rfl⟩
theorem spD_inv {b : List Int} {n : Int} {d : List Int} (h : spD b = some (n, d)) : spE n d b.length = 0 ∧ spB n d b.length = b := by
 unfold spD at h
 split at h
 ·rename_i hi
  obtain ⟨_, _, h3, h4⟩ := hi
  injection h with h
  injection h with ha hb
  subst ha hb
  exact ⟨h3, h4⟩
 ·cases h
theorem spT_wf {b : List Int} (h : Wf b) : Wf (spT b) := (h.drop _).take _
end Go.Proofs.YtoejadhlkamcjaaDoor

namespace Go.Proofs.YtoejadhlkamcjaaDoor
set_option maxRecDepth 100000
open Go.RowKit
theorem isWidth_yes (x : Int) (w : World) (h1 : 1 ≤ x) (h2 : x ≤ 8) : Calls Tryd.prog 58 #[.int .i64 x] w fun e w' => e = .returned (.bool true) ∧ w' = w := by
 go_enter Tryd.func58, Tryd.ntmps58
 go_wp2
 go_ret
 exact ⟨rfl, rfl⟩
theorem isWidth_no (x : Int) (w : World) (h : x < 1 ∨ 8 < x) : Calls Tryd.prog 58 #[.int .i64 x] w fun e w' => e = .returned (.bool false) ∧ w' = w := by
 rcases h with h | h
 ·go_enter Tryd.func58, Tryd.ntmps58
  go_wp2
  go_ret
  exact ⟨rfl, rfl⟩
 ·have h' : 1 ≤ x := by omega
  have h8 : ¬ x ≤ 8 := by omega
  go_enter Tryd.func58, Tryd.ntmps58
  go_wp2
  go_ret
  exact ⟨rfl, rfl⟩
theorem isPlace_yes (ao : Option Addr) (n cap : Nat) (x : Int) (w : World) (h1 : 0 ≤ x) (h2 : x ≤ n) : Calls Tryd.prog 70 #[.slice ao n cap, .int .i64 x] w fun e w' => e = .returned (.bool true) ∧ w' = w := by
 go_enter Tryd.func70, Tryd.ntmps70
 go_wp2
 go_ret
 exact ⟨rfl, rfl⟩
end Go.Proofs.YtoejadhlkamcjaaDoor

namespace Go.Proofs.YtoejadhlkamcjaaDoor
set_option maxRecDepth 100000
open Go.RowKit
theorem fixed_no (n x : Int) (w : World) (h : x < 1 ∨ 8 < x) :
  Calls Tryd.prog 40 #[.int .u64 n, .int .i64 x] w fun e w' => e = .returned (.slice none 0 0) ∧ w' = w := by
 go_enter Tryd.func40, Tryd.ntmps40
 go_wp2_with (go_at_call 58; refine same_call (isWidth_no _ _ h) ?_)
 go_ret
 exact ⟨rfl, rfl⟩
set_option maxHeartbeats 400000 in
theorem fixed_yes (n x : Int) (w : World) (h0 : 0 ≤ n) (h1 : 1 ≤ x) (h2 : x ≤ 8) :
  Calls Tryd.prog 40 #[.int .u64 n, .int .i64 x] w fun e w' => ∃ v, e = .returned v ∧ OwnB w' w.heap.size v (fB x.toNat n) ∧ Below w.heap.size w w' := by
 obtain ⟨width, rfl⟩ := Int.eq_ofNat_of_zero_le (show 0 ≤ x by omega)
 rw [Int.toNat_natCast]
 obtain ⟨i0, hi, hz0, hz1, hz2⟩ := info_parts info5
 go_enter Tryd.func40, Tryd.ntmps40
 go_wp2_with (first
  | (go_at_call 58; refine same_call (isWidth_yes _ _ h1 h2) ?_)
  | (at_make; refine wpList_make_full _ rfl _ _ 33 rfl w.heap.size 5 i0 (.int .u8 0) 1 Tryd.underlying33 hi hz0 hz1 .i64 .i64 width width width rfl rfl rfl rfl (by rw [hz2]; omega) (by unfold maxLen; omega) (Nat.le_refl _) ?_))
 intro w1 hown1 hg1
 have ho1 : OwnB w1 w.heap.size (.slice (some ⟨w.heap.size, 0, none⟩) width width) (List.replicate width 0) := by
  unfold OwnB
  rw [toList_madeCells_one] at hown1
  simpa [By] using hown1
 have hb1 : Below w.heap.size w w1 := (Below.refl _ _).grown hg1 (Nat.le_refl _) (fun k hk => by cases hk)
 clear hown1 hg1
 go_wp2_with fail
 go_loopw [0, 6] (fun y i wr => ∃ j : Nat, j ≤ width ∧ y = .int .u64 (n / 256 ^ j) ∧ i = .int .i64 ((width : Int) - 1 - j) ∧ OwnB wr w.heap.size (.slice (some ⟨w.heap.size, 0, none⟩) width width) (List.replicate (width - j) 0 ++ fB j n) ∧ Below w.heap.size w wr) (fun _ i _ => (intOf i + 1).toNat)
 case atStart => exact ⟨0, by omega, by simp, by simp, by simpa [fB] using ho1, hb1⟩
 case round =>
  obtain ⟨j, hj, rfl, rfl, hown, hb⟩ := hrel
  by_cases hlt : j < width
  ·have hpos : 0 ≤ n / 256 ^ j := Int.ediv_nonneg h0 (Int.le_of_lt (Int.pow_pos (by omega)))
   have hle : n / 256 ^ j ≤ n := Int.ediv_le_self _ h0
   have hl : (List.replicate (width - j) (0 : Int) ++ fB j n).length = width := by simp [fB_length]; omega
   have hfr : wr.frozen? ⟨w.heap.size, width - 1 - j, none⟩ = false := by
    unfold OwnB at hown; rw [hl] at hown; exact World.ownsRow.frozenAt hown _
   have hce : ∃ u, wr.cell? ⟨w.heap.size, width - 1 - j, none⟩ = some u := by
    unfold OwnB at hown; rw [hl] at hown
    exact ⟨_, (World.ownsRow.cellAt hown (width - 1 - j) (by omega)).trans (List.getElem?_eq_getElem (by rw [By_length, hl]; omega))⟩
   obtain ⟨u, hce⟩ := hce
   have hp := pow256 n j
   generalize hy : n / 256 ^ j = y at *
   have HY := hidden hy
   clear hy
   have hs := own_set (x := y % 256) hown hl (show width - 1 - j < width by omega)
   go_wp2
   go_roundw
   case rel =>
    refine ⟨j + 1, by omega, rfl, by go_num, ?_, hb.setCell (Nat.le_refl _) _⟩
    rw [← fB_set width j n hlt, HY.out, show width - j - 1 = width - 1 - j by omega]
    exact hs
   case measure => simp [intOf]; omega
  ·obtain rfl : j = width := by omega
   go_wp2
   go_ret
   exact ⟨_, rfl, by simpa using hown, hb⟩
set_option maxHeartbeats 400000 in
theorem readFixed_ok (ao : Option Addr) (n cap : Nat) (l : List Int) (p' x : Int) (w : World) (hs : Sl w ao n cap l) (h1 : 1 ≤ x) (h2 : x ≤ 8) (h3 : 0 ≤ p') (h5 : x ≤ (n : Int) - p') :
  Calls Tryd.prog 60 #[.slice ao n cap, .int .i64 p', .int .i64 x] w fun e w' => e = .returned (.tuple #[.int .u64 (rdB ((l.drop p'.toNat).take x.toNat)), .int .i64 0]) ∧ w' = w := by
 obtain ⟨width, rfl⟩ := Int.eq_ofNat_of_zero_le (show 0 ≤ x by omega)
 obtain ⟨p, rfl⟩ := Int.eq_ofNat_of_zero_le h3
 rw [Int.toNat_natCast, Int.toNat_natCast]
 obtain ⟨hlen, hcap, hroom, hwf, hnil, hat⟩ := hs
 rcases hat with h | ⟨b, off, rfl, hb, hc⟩
 ·omega
 have hd : ((l.drop p).take width).length = width := by simp; omega
 have hwd : Wf ((l.drop p).take width) := (hwf.drop p).take width
 go_enter Tryd.func60, Tryd.ntmps60
 go_wp2_with (first | (go_at_call 58; refine same_call (isWidth_yes _ _ h1 h2) ?_) | (go_at_call 70; refine same_call (isPlace_yes _ _ _ _ _ h3 (by omega)) ?_))
 go_loop [8, 33] (fun v i => ∃ k : Nat, k ≤ width ∧ i = .int .i64 k ∧ v = .int .u64 (rdB (((l.drop p).take width).take k))) (fun _ i => width - (intOf i).toNat)
 case atStart => exact ⟨0, by omega, rfl, by simp [rdB]⟩
 case round =>
  obtain ⟨k, hk, rfl, rfl⟩ := hrel
  by_cases hlt : k < width
  ·have hck : w.cell? ⟨b, off + p + k, none⟩ = some (.int .u8 (((l.drop p).take width).getD k 0)) := by
    rw [Nat.add_assoc, hc (p + k) (by omega)]
    simp [List.getD, hlt]
   have hby := hwd.getD k
   have hsm := rdB_small _ (hwd.take k) k (by omega) (by simp; omega)
   have hsn : rdB (((l.drop p).take width).take (k + 1)) = rdB (((l.drop p).take width).take k) * 256 + ((l.drop p).take width).getD k 0 := by
    rw [take_snoc _ k (by omega), rdB_snoc]
   generalize ((l.drop p).take width).getD k 0 = c at *
   generalize rdB (((l.drop p).take width).take k) = m at *
   have hor := or_byte m c (by omega) (by omega) hby
   have HS := hidden hsn
   clear hsn
   go_wp2
   go_round
   case rel => exact ⟨k + 1, by omega, by go_num, by rw [HS.out]⟩
   case measure => simp [intOf]; omega
  ·obtain rfl : k = width := by omega
   have ht : ((l.drop p).take k).take k = (l.drop p).take k := List.take_of_length_le (by omega)
   go_wp2
   go_ret2
   exact ⟨rfl, rfl⟩
end Go.Proofs.YtoejadhlkamcjaaDoor

namespace Go.Proofs.YtoejadhlkamcjaaDoor
set_option maxRecDepth 100000
open Go.RowKit
theorem i64_and_nat (a b : Nat) (ha : a < 9223372036854775808) (hb : b < 9223372036854775808) : bits .and .i64 (a : Int) (b : Int) = ((a &&& b : Nat) : Int) := by
 show IntKind.i64.wrap ((BitVec.ofInt 64 a &&& BitVec.ofInt 64 b).toNat : Nat) = _
 have hle : a &&& b < 9223372036854775808 := Nat.and_lt_two_pow (n := 63) a (by omega)
 have h1 : (BitVec.ofInt 64 (a : Int)).toNat = a := by rw [BitVec.toNat_ofInt]; omega
 have h2 : (BitVec.ofInt 64 (b : Int)).toNat = b := by rw [BitVec.toNat_ofInt]; omega
 rw [BitVec.toNat_and, h1, h2, IntKind.wrap_i64]
 omega
theorem top_bit (n k : Nat) (h1 : 2 ^ k < n) (h2 : n < 2 * 2 ^ k) : n &&& (n - 1) ≠ 0 := by
 intro h
 have hb := congrArg (fun x => Nat.testBit x k) h
 simp only [Nat.testBit_and, Nat.zero_testBit] at hb
 have e1 : n.testBit k = true := by
  rw [Nat.testBit_eq_decide_div_mod_eq]
  have : n / 2 ^ k = 1 := Nat.div_eq_of_lt_le (by omega) (by omega)
  simp [this]
 have e2 : (n - 1).testBit k = true := by
  rw [Nat.testBit_eq_decide_div_mod_eq]
  have : (n - 1) / 2 ^ k = 1 := Nat.div_eq_of_lt_le (by omega) (by omega)
  simp [this]
 rw [e1, e2] at hb
 cases hb
theorem pow_iff (x : Int) (h0 : 512 ≤ x) (h1 : x ≤ 65536) : bits .and .i64 x (x - 1) = 0 ↔ pw x := by
 obtain ⟨n, rfl⟩ := Int.eq_ofNat_of_zero_le (show 0 ≤ x by omega)
 have e : ((n : Int) - 1) = ((n - 1 : Nat) : Int) := by omega
 rw [e, i64_and_nat n (n - 1) (by omega) (by omega)]
 constructor
 ·intro h
  have h' : n &&& (n - 1) = 0 := by omega
  unfold pw
  have k9 : ¬ (512 < n ∧ n < 1024) := fun a => top_bit n 9 (by simpa using a.1) (by simpa using a.2) h'
  have k10 : ¬ (1024 < n ∧ n < 2048) := fun a => top_bit n 10 (by simpa using a.1) (by simpa using a.2) h'
  have k11 : ¬ (2048 < n ∧ n < 4096) := fun a => top_bit n 11 (by simpa using a.1) (by simpa using a.2) h'
  have k12 : ¬ (4096 < n ∧ n < 8192) := fun a => top_bit n 12 (by simpa using a.1) (by simpa using a.2) h'
  have k13 : ¬ (8192 < n ∧ n < 16384) := fun a => top_bit n 13 (by simpa using a.1) (by simpa using a.2) h'
  have k14 : ¬ (16384 < n ∧ n < 32768) := fun a => top_bit n 14 (by simpa using a.1) (by simpa using a.2) h'
  have k15 : ¬ (32768 < n ∧ n < 65536) := fun a => top_bit n 15 (by simpa using a.1) (by simpa using a.2) h'
  omega
 ·intro h
  have h2 : n = 512 ∨ n = 1024 ∨ n = 2048 ∨ n = 4096 ∨ n = 8192 ∨ n = 16384 ∨ n = 32768 ∨ n = 65536 := by unfold pw at h; omega
  rcases h2 with rfl | rfl | rfl | rfl | rfl | rfl | rfl | rfl <;> decide
end Go.Proofs.YtoejadhlkamcjaaDoor

namespace Go.Proofs.YtoejadhlkamcjaaDoor
set_option maxRecDepth 100000
open Go.RowKit
theorem bl_al {B : Nat} {a w : World} (h : Below B a w) (hB : B ≤ a.heap.size) (o : Obj) : Below B a (w.alloc o) := h.alloc (Nat.le_trans hB h.size) o
theorem bl_go {B : Nat} {a w w' : World} (h : Below B a w) (hB : B ≤ a.heap.size) (k : Below w.heap.size w w') : Below B a w' := h.trans (k.mono (Nat.le_trans hB h.size))
theorem bl_dr {B : Nat} {a w : World} (h : Below B a w) (q : Nat) : Below B a (w.drewN q) := h.trans ⟨rfl, rfl, rfl, Nat.le_refl _, fun _ _ => rfl⟩
theorem lt_some {w : World} {g : Nat} {o : Obj} (h : w.heap[g]? = some o) : g < w.heap.size := by
 rcases Nat.lt_or_ge g w.heap.size with hx | hx
 ·exact hx
 ·rw [Array.getElem?_eq_none hx] at h; cases h
end Go.Proofs.YtoejadhlkamcjaaDoor
