/- ink.Fixed writes a number's lowest bytes into memory of its own; ReadFixed reads them. -/
import Derived.Test.YtphjnahmbdinmaaGreatDoorJ00
import Derived.Test.YtphjnahmbdinmaaGreatDoorJ03
import Derived.Test.YtphjnahmbdinmaaGreatDoorJ02
import Derived.Deep.QuietTactic
import Derived.BigQuiet
import Derived.Handy
import Derived.Laws.BitsAllLaws
import Derived.Deep.WholeRow
import Derived.Lib.SlBuf
import Derived.Lib.BufferWrite
import Derived.Laws.CopyOwn
import Derived.Deep.RegionLaw
namespace Go.Proofs.YtphjnahmbdinmaaGreatDoor
open Go.RowKit

set_option maxRecDepth 100000 in
theorem fixed_no (n x : Int) (w : World) (h : x < 1 ∨ 8 < x) :
    Calls Tryz.prog 60 #[.int .u64 n, .int .i64 x] w fun e w' => e = .returned (.slice none 0 0) ∧ w' = w := by
  go_enter Tryz.func60, Tryz.ntmps60
  go_wp2_with (go_at_call 79; refine same_call (isWidth_no _ _ h) ?_)
  go_ret
  exact ⟨rfl, rfl⟩

set_option maxHeartbeats 400000 in
set_option maxRecDepth 100000 in
theorem fixed_yes (n x : Int) (w : World) (h0 : 0 ≤ n) (h1 : 1 ≤ x) (h2 : x ≤ 8) :
    Calls Tryz.prog 60 #[.int .u64 n, .int .i64 x] w fun e w' => ∃ v, e = .returned v ∧ OwnB w' w.heap.size v (fB x.toNat n) ∧ Below w.heap.size w w' := by
  obtain ⟨width, rfl⟩ := Int.eq_ofNat_of_zero_le (show 0 ≤ x by omega)
  rw [Int.toNat_natCast]
  obtain ⟨i0, hi, hz0, hz1, hz2⟩ := info_parts info5
  go_enter Tryz.func60, Tryz.ntmps60
  go_wp2_with (first
    | (go_at_call 79; refine same_call (isWidth_yes _ _ h1 h2) ?_)
    | (at_make; refine wpList_make_full _ rfl _ _ 38 rfl w.heap.size 5 i0 (.int .u8 0) 1 Tryz.underlying38 hi hz0 hz1 .i64 .i64 width width width rfl rfl rfl rfl (by rw [hz2]; omega) (by unfold maxLen; omega) (Nat.le_refl _) ?_))
  intro w1 hown1 hg1
  have ho1 : OwnB w1 w.heap.size (.slice (some ⟨w.heap.size, 0, none⟩) width width) (List.replicate width 0) := by
    unfold OwnB
    rw [toList_madeCells_one] at hown1
    simpa [By] using hown1
  have hb1 : Below w.heap.size w w1 := (Below.refl _ _).grown hg1 (Nat.le_refl _) (fun k hk => by cases hk)
  clear hown1 hg1
  go_wp2_with fail
  go_loopw [0, 6] (fun y i wr => ∃ j : Nat, j ≤ width ∧ y = .int .u64 (n / 256 ^ j) ∧ i = .int .i64 ((width : Int) - 1 - j) ∧ OwnB wr w.heap.size (.slice (some ⟨w.heap.size, 0, none⟩) width width) (List.replicate (width - j) 0 ++ fB j n) ∧ Below w.heap.size w wr) (fun _ i _ => (intOf i + 1).toNat)
  case atStart => exact ⟨0, by omega, by simp, by simp, by simpa [fB] using ho1, hb1⟩
  case round =>
    obtain ⟨j, hj, rfl, rfl, hown, hb⟩ := hrel
    by_cases hlt : j < width
    · have hpos : 0 ≤ n / 256 ^ j := Int.ediv_nonneg h0 (Int.le_of_lt (Int.pow_pos (by omega)))
      have hle : n / 256 ^ j ≤ n := Int.ediv_le_self _ h0
      have hl : (List.replicate (width - j) (0 : Int) ++ fB j n).length = width := by simp [fB_length]; omega
      have hfr : wr.frozen? ⟨w.heap.size, width - 1 - j, none⟩ = false := by
        unfold OwnB at hown; rw [hl] at hown; exact World.ownsRow.frozenAt hown _
      have hce : ∃ u, wr.cell? ⟨w.heap.size, width - 1 - j, none⟩ = some u := by
        unfold OwnB at hown; rw [hl] at hown
        exact ⟨_, (World.ownsRow.cellAt hown (width - 1 - j) (by omega)).trans (List.getElem?_eq_getElem (by rw [By_length, hl]; omega))⟩
      obtain ⟨u, hce⟩ := hce
      have hp := pow256 n j
      generalize hy : n / 256 ^ j = y at *
      have HY := hidden hy
      clear hy
      have hs := own_set (x := y % 256) hown hl (show width - 1 - j < width by omega)
      go_wp2
      go_roundw
      case rel =>
        refine ⟨j + 1, by omega, rfl, by go_num, ?_, hb.setCell (Nat.le_refl _) _⟩
        rw [← fB_set width j n hlt, HY.out, show width - j - 1 = width - 1 - j by omega]
        exact hs
      case measure => simp [intOf]; omega
    · obtain rfl : j = width := by omega
      go_wp2
      go_ret
      exact ⟨_, rfl, by simpa using hown, hb⟩
set_option maxRecDepth 100000 in
theorem readFixed_arg (ao : Option Addr) (n cap : Nat) (p x : Int) (w : World) (h : (x < 1 ∨ 8 < x) ∨ (p < 0 ∨ n < p)) :
    Calls Tryz.prog 108 #[.slice ao n cap, .int .i64 p, .int .i64 x] w fun e w' => e = .returned (.tuple #[.int .u64 0, .int .i64 1]) ∧ w' = w := by
  by_cases hx : x < 1 ∨ 8 < x
  · go_enter Tryz.func108, Tryz.ntmps108
    go_wp2_with (go_at_call 79; refine same_call (isWidth_no _ _ hx) ?_)
    go_ret2
    exact ⟨rfl, rfl⟩
  · have hp : p < 0 ∨ n < p := by omega
    go_enter Tryz.func108, Tryz.ntmps108
    go_wp2_with (first | (go_at_call 79; refine same_call (isWidth_yes _ _ (by omega) (by omega)) ?_) | (go_at_call 111; refine same_call (isPlace_no _ _ _ _ _ hp) ?_))
    go_ret2
    exact ⟨rfl, rfl⟩
set_option maxRecDepth 100000 in
theorem readFixed_short (ao : Option Addr) (n cap : Nat) (p x : Int) (w : World) (h1 : 1 ≤ x) (h2 : x ≤ 8) (h3 : 0 ≤ p) (h4 : p ≤ n) (h5 : (n : Int) - p < x) :
    Calls Tryz.prog 108 #[.slice ao n cap, .int .i64 p, .int .i64 x] w fun e w' => e = .returned (.tuple #[.int .u64 0, .int .i64 10]) ∧ w' = w := by
  go_enter Tryz.func108, Tryz.ntmps108
  go_wp2_with (first | (go_at_call 79; refine same_call (isWidth_yes _ _ h1 h2) ?_) | (go_at_call 111; refine same_call (isPlace_yes _ _ _ _ _ h3 h4) ?_))
  go_ret2
  exact ⟨rfl, rfl⟩
set_option maxRecDepth 100000 in
set_option maxHeartbeats 400000 in
theorem readFixed_ok (ao : Option Addr) (n cap : Nat) (l : List Int) (p' x : Int) (w : World) (hs : Sl w ao n cap l) (h1 : 1 ≤ x) (h2 : x ≤ 8) (h3 : 0 ≤ p') (h5 : x ≤ (n : Int) - p') :
    Calls Tryz.prog 108 #[.slice ao n cap, .int .i64 p', .int .i64 x] w fun e w' => e = .returned (.tuple #[.int .u64 (rdB ((l.drop p'.toNat).take x.toNat)), .int .i64 0]) ∧ w' = w := by
  obtain ⟨width, rfl⟩ := Int.eq_ofNat_of_zero_le (show 0 ≤ x by omega)
  obtain ⟨p, rfl⟩ := Int.eq_ofNat_of_zero_le h3
  rw [Int.toNat_natCast, Int.toNat_natCast]
  obtain ⟨hlen, hcap, hroom, hwf, hnil, hat⟩ := hs
  rcases hat with h | ⟨b, off, rfl, hb, hc⟩
  · omega
  have hd : ((l.drop p).take width).length = width := by simp; omega
  have hwd : Wf ((l.drop p).take width) := (hwf.drop p).take width
  go_enter Tryz.func108, Tryz.ntmps108
  go_wp2_with (first | (go_at_call 79; refine same_call (isWidth_yes _ _ h1 h2) ?_) | (go_at_call 111; refine same_call (isPlace_yes _ _ _ _ _ h3 (by omega)) ?_))
  go_loop [8, 33] (fun v i => ∃ k : Nat, k ≤ width ∧ i = .int .i64 k ∧ v = .int .u64 (rdB (((l.drop p).take width).take k))) (fun _ i => width - (intOf i).toNat)
  case atStart => exact ⟨0, by omega, rfl, by simp [rdB]⟩
  case round =>
    obtain ⟨k, hk, rfl, rfl⟩ := hrel
    by_cases hlt : k < width
    · have hck : w.cell? ⟨b, off + p + k, none⟩ = some (.int .u8 (((l.drop p).take width).getD k 0)) := by
        rw [Nat.add_assoc, hc (p + k) (by omega)]
        simp [List.getD, hlt]
      have hby := hwd.getD k
      have hsm := rdB_small _ (hwd.take k) k (by omega) (by simp; omega)
      have hsn : rdB (((l.drop p).take width).take (k + 1)) = rdB (((l.drop p).take width).take k) * 256 + ((l.drop p).take width).getD k 0 := by
        rw [take_snoc _ k (by omega), rdB_snoc]
      generalize ((l.drop p).take width).getD k 0 = c at *
      generalize rdB (((l.drop p).take width).take k) = m at *
      have hor := or_byte m c (by omega) (by omega) hby
      have HS := hidden hsn
      clear hsn
      go_wp2
      go_round
      case rel => exact ⟨k + 1, by omega, by go_num, by rw [HS.out]⟩
      case measure => simp [intOf]; omega
    · obtain rfl : k = width := by omega
      have ht : ((l.drop p).take k).take k = (l.drop p).take k := List.take_of_length_le (by omega)
      go_wp2
      go_ret2
      exact ⟨rfl, rfl⟩

end Go.Proofs.YtphjnahmbdinmaaGreatDoor

/- The small functions of package meta: what they answer. -/

namespace Go.Proofs.YtphjnahmbdinmaaGreatDoor
open Go.RowKit

/-- A meta as the program has it. -/
def mtV (m : Mt) : Value := .agg #[.int .i64 m.en, .int .i64 m.pg, .int .i64 m.tx, .int .i64 m.ro, .int .i64 m.co, .int .i64 m.fr, .int .i64 m.li, .int .i64 m.hi]
/-- It answers whether P. -/
def Ans (P : Prop) (w : World) (e : Ending) (w' : World) : Prop := ∃ b, e = .returned (.bool b) ∧ (b = true ↔ P) ∧ Below w.heap.size w w'
set_option maxRecDepth 100000 in
theorem Ans.mk {P : Prop} {w w' : World} {b : Bool} (h : b = true ↔ P) (hb : Below w.heap.size w w') : Ans P w (.returned (.bool b)) w' := ⟨b, rfl, h, hb⟩
/-- The table of places. -/
def plC : Array Value := #[.int .i64 1, .int .i64 1, .int .i64 1, .int .i64 2, .int .i64 8, .int .i64 4, .int .i64 512, .int .i64 65536, .int .i64 12, .int .i64 8, .int .i64 0, .int .i64 1099511627776, .int .i64 20, .int .i64 4, .int .i64 0, .int .i64 65535,
  .int .i64 24, .int .i64 4, .int .i64 0, .int .i64 256, .int .i64 28, .int .i64 4, .int .i64 0, .int .i64 65535, .int .i64 32, .int .i64 4, .int .i64 0, .int .i64 65534, .int .i64 36, .int .i64 4, .int .i64 2, .int .i64 65536]
def plV : Value := .agg plC
set_option maxRecDepth 100000 in
theorem plC_one : plC.all (·.oneCell') = true := by kernel_rfl
set_option maxRecDepth 100000 in
theorem i64_and_one (n : Int) : bits .and .i64 n 1 = n % 2 := by
  have h1 : (BitVec.ofInt 64 1).toNat = 2 ^ 1 - 1 := by decide
  have key : (BitVec.ofInt 64 n &&& BitVec.ofInt 64 1).toNat = (n % ((2 ^ 64 : Nat) : Int)).toNat % 2 ^ 1 := by
    rw [BitVec.toNat_and, BitVec.toNat_ofInt, h1, Nat.and_two_pow_sub_one_eq_mod]
  show IntKind.i64.wrap ((BitVec.ofInt 64 n &&& BitVec.ofInt 64 1).toNat : Nat) = n % 2
  rw [key, IntKind.wrap_i64]
  omega
set_option maxRecDepth 100000 in
theorem i64_and_nat (a b : Nat) (ha : a < 9223372036854775808) (hb : b < 9223372036854775808) : bits .and .i64 (a : Int) (b : Int) = ((a &&& b : Nat) : Int) := by
  show IntKind.i64.wrap ((BitVec.ofInt 64 a &&& BitVec.ofInt 64 b).toNat : Nat) = _
  have hle : a &&& b < 9223372036854775808 := Nat.and_lt_two_pow (n := 63) a (by omega)
  have h1 : (BitVec.ofInt 64 (a : Int)).toNat = a := by rw [BitVec.toNat_ofInt]; omega
  have h2 : (BitVec.ofInt 64 (b : Int)).toNat = b := by rw [BitVec.toNat_ofInt]; omega
  rw [BitVec.toNat_and, h1, h2, IntKind.wrap_i64]
  omega
set_option maxRecDepth 100000 in
theorem top_bit (n k : Nat) (h1 : 2 ^ k < n) (h2 : n < 2 * 2 ^ k) : n &&& (n - 1) ≠ 0 := by
  intro h
  have hb := congrArg (fun x => Nat.testBit x k) h
  simp only [Nat.testBit_and, Nat.zero_testBit] at hb
  have e1 : n.testBit k = true := by
    rw [Nat.testBit_eq_decide_div_mod_eq]
    have : n / 2 ^ k = 1 := Nat.div_eq_of_lt_le (by omega) (by omega)
    simp [this]
  have e2 : (n - 1).testBit k = true := by
    rw [Nat.testBit_eq_decide_div_mod_eq]
    have : (n - 1) / 2 ^ k = 1 := Nat.div_eq_of_lt_le (by omega) (by omega)
    simp [this]
  rw [e1, e2] at hb
  cases hb
set_option maxRecDepth 100000 in
theorem pow_iff (x : Int) (h0 : 512 ≤ x) (h1 : x ≤ 65536) : bits .and .i64 x (x - 1) = 0 ↔ pw x := by
  obtain ⟨n, rfl⟩ := Int.eq_ofNat_of_zero_le (show 0 ≤ x by omega)
  have e : ((n : Int) - 1) = ((n - 1 : Nat) : Int) := by omega
  rw [e, i64_and_nat n (n - 1) (by omega) (by omega)]
  constructor
  · intro h
    have h' : n &&& (n - 1) = 0 := by omega
    unfold pw
    have k9 : ¬ (512 < n ∧ n < 1024) := fun a => top_bit n 9 (by simpa using a.1) (by simpa using a.2) h'
    have k10 : ¬ (1024 < n ∧ n < 2048) := fun a => top_bit n 10 (by simpa using a.1) (by simpa using a.2) h'
    have k11 : ¬ (2048 < n ∧ n < 4096) := fun a => top_bit n 11 (by simpa using a.1) (by simpa using a.2) h'
    have k12 : ¬ (4096 < n ∧ n < 8192) := fun a => top_bit n 12 (by simpa using a.1) (by simpa using a.2) h'
    have k13 : ¬ (8192 < n ∧ n < 16384) := fun a => top_bit n 13 (by simpa using a.1) (by simpa using a.2) h'
    have k14 : ¬ (16384 < n ∧ n < 32768) := fun a => top_bit n 14 (by simpa using a.1) (by simpa using a.2) h'
    have k15 : ¬ (32768 < n ∧ n < 65536) := fun a => top_bit n 15 (by simpa using a.1) (by simpa using a.2) h'
    omega
  · intro h
    have h2 : n = 512 ∨ n = 1024 ∨ n = 2048 ∨ n = 4096 ∨ n = 8192 ∨ n = 16384 ∨ n = 32768 ∨ n = 65536 := by unfold pw at h; omega
    rcases h2 with rfl | rfl | rfl | rfl | rfl | rfl | rfl | rfl <;> decide

end Go.Proofs.YtphjnahmbdinmaaGreatDoor

/- meta.isWithin and meta.Check: what they answer. -/

namespace Go.Proofs.YtphjnahmbdinmaaGreatDoor
open Go.RowKit

set_option maxRecDepth 100000 in
theorem bl_al {B : Nat} {a w : World} (h : Below B a w) (hB : B ≤ a.heap.size) (o : Obj) : Below B a (w.alloc o) := h.alloc (Nat.le_trans hB h.size) o
set_option maxRecDepth 100000 in
theorem bl_go {B : Nat} {a w w' : World} (h : Below B a w) (hB : B ≤ a.heap.size) (k : Below w.heap.size w w') : Below B a w' := h.trans (k.mono (Nat.le_trans hB h.size))
set_option maxRecDepth 100000 in
theorem bl_dr {B : Nat} {a w : World} (h : Below B a w) (q : Nat) : Below B a (w.drewN q) := h.trans ⟨rfl, rfl, rfl, Nat.le_refl _, fun _ _ => rfl⟩
set_option maxRecDepth 100000 in
theorem lt_some {w : World} {g : Nat} {o : Obj} (h : w.heap[g]? = some o) : g < w.heap.size := by
  rcases Nat.lt_or_ge g w.heap.size with hx | hx
  · exact hx
  · rw [Array.getElem?_eq_none hx] at h; cases h
/-- Each number lies between its least and its most. -/
def Mt.nth (m : Mt) (k : Nat) : Int := [m.en, m.pg, m.tx, m.ro, m.co, m.fr, m.li, m.hi].getD k 0
def atN (k : Nat) : Nat := [1, 8, 12, 20, 24, 28, 32, 36].getD k 0
def wdN (k : Nat) : Nat := [1, 4, 8, 4, 4, 4, 4, 4].getD k 0
def leastN (k : Nat) : Int := [1, 512, 0, 0, 0, 0, 0, 2].getD k 0
def mostN (k : Nat) : Int := [2, 65536, 1099511627776, 65535, 256, 65535, 65534, 65536].getD k 0
def InM (m : Mt) : Prop := ∀ k, k < 8 → leastN k ≤ m.nth k ∧ m.nth k ≤ mostN k
set_option maxRecDepth 100000 in
theorem eight {k : Nat} (h : k < 8) : k = 0 ∨ k = 1 ∨ k = 2 ∨ k = 3 ∨ k = 4 ∨ k = 5 ∨ k = 6 ∨ k = 7 := by omega
/-- The cells of a meta. -/
def mtC (m : Mt) : Array Value := #[.int .i64 m.en, .int .i64 m.pg, .int .i64 m.tx, .int .i64 m.ro, .int .i64 m.co, .int .i64 m.fr, .int .i64 m.li, .int .i64 m.hi]
set_option maxRecDepth 100000 in
theorem mtV_eq (m : Mt) : mtV m = .agg #[.int .i64 m.en, .int .i64 m.pg, .int .i64 m.tx, .int .i64 m.ro, .int .i64 m.co, .int .i64 m.fr, .int .i64 m.li, .int .i64 m.hi] := rfl
set_option maxRecDepth 100000 in
theorem mtC_at (m : Mt) (k : Nat) (h : k < 8) : (mtC m)[k]? = some (.int .i64 (m.nth k)) := by
  rcases eight h with rfl | rfl | rfl | rfl | rfl | rfl | rfl | rfl <;> rfl
set_option maxRecDepth 100000 in
theorem cell_mt {w : World} {g t : Nat} {m : Mt} (hg : w.heap[g]? = some (.cells (mtC m) t (0, 0))) (k : Nat) (h : k < 8) : w.cell? ⟨g, k, none⟩ = some (.int .i64 (m.nth k)) := by
  rw [cell_of_row _ _ k _ _ _ hg, mtC_at m k h]

set_option maxRecDepth 100000 in
theorem inM_iff (m : Mt) : InM m ↔ (1 ≤ m.en ∧ m.en ≤ 2) ∧ (512 ≤ m.pg ∧ m.pg ≤ 65536) ∧ (0 ≤ m.tx ∧ m.tx ≤ 1099511627776) ∧ (0 ≤ m.ro ∧ m.ro ≤ 65535) ∧ (0 ≤ m.co ∧ m.co ≤ 256) ∧ (0 ≤ m.fr ∧ m.fr ≤ 65535) ∧ (0 ≤ m.li ∧ m.li ≤ 65534) ∧ (2 ≤ m.hi ∧ m.hi ≤ 65536) := by
  constructor
  · intro h
    exact ⟨h 0 (by omega), h 1 (by omega), h 2 (by omega), h 3 (by omega), h 4 (by omega), h 5 (by omega), h 6 (by omega), h 7 (by omega)⟩
  · rintro ⟨h0, h1, h2, h3, h4, h5, h6, h7⟩ k hk
    rcases eight hk with rfl | rfl | rfl | rfl | rfl | rfl | rfl | rfl
    · exact h0
    · exact h1
    · exact h2
    · exact h3
    · exact h4
    · exact h5
    · exact h6
    · exact h7

/-- A meta's cells in a block. -/
structure Row8 (w : World) (g : Nat) (m : Mt) : Prop where
  c0 : w.cell? ⟨g, 0, none⟩ = some (.int .i64 m.en)
  c1 : w.cell? ⟨g, 1, none⟩ = some (.int .i64 m.pg)
  c2 : w.cell? ⟨g, 2, none⟩ = some (.int .i64 m.tx)
  c3 : w.cell? ⟨g, 3, none⟩ = some (.int .i64 m.ro)
  c4 : w.cell? ⟨g, 4, none⟩ = some (.int .i64 m.co)
  c5 : w.cell? ⟨g, 5, none⟩ = some (.int .i64 m.fr)
  c6 : w.cell? ⟨g, 6, none⟩ = some (.int .i64 m.li)
  c7 : w.cell? ⟨g, 7, none⟩ = some (.int .i64 m.hi)
set_option maxRecDepth 100000 in
theorem row8 {w : World} {g t : Nat} {m : Mt} (h : w.heap[g]? = some (.cells (mtC m) t (0, 0))) : Row8 w g m :=
  ⟨cell_mt h 0 (by omega), cell_mt h 1 (by omega), cell_mt h 2 (by omega), cell_mt h 3 (by omega), cell_mt h 4 (by omega), cell_mt h 5 (by omega), cell_mt h 6 (by omega), cell_mt h 7 (by omega)⟩
set_option maxRecDepth 100000 in
theorem Row8.go {w w' : World} {g : Nat} {m : Mt} (h : Row8 w g m) (hg : g < w.heap.size) (hb : Below w.heap.size w w') : Row8 w' g m :=
  ⟨(hb.cell (p := ⟨g, 0, none⟩) hg).trans h.c0, (hb.cell (p := ⟨g, 1, none⟩) hg).trans h.c1, (hb.cell (p := ⟨g, 2, none⟩) hg).trans h.c2, (hb.cell (p := ⟨g, 3, none⟩) hg).trans h.c3,
   (hb.cell (p := ⟨g, 4, none⟩) hg).trans h.c4, (hb.cell (p := ⟨g, 5, none⟩) hg).trans h.c5, (hb.cell (p := ⟨g, 6, none⟩) hg).trans h.c6, (hb.cell (p := ⟨g, 7, none⟩) hg).trans h.c7⟩
set_option maxRecDepth 100000 in
theorem row_new (w : World) (m : Mt) (t : TypeId) : (w.alloc (.cells (mtC m) t)).heap[w.heap.size]? = some (.cells (mtC m) t (0, 0)) := heap_alloc_last w _
set_option maxRecDepth 100000 in
/-- What a call leaves: the box that was made ahead of it. -/
theorem box_kept {w w1 : World} {m : Mt} {t : TypeId} (hb : Below (w.alloc (.cells (mtC m) t)).heap.size (w.alloc (.cells (mtC m) t)) w1) : w1.heap[w.heap.size]? = some (.cells (mtC m) t (0, 0)) ∧ Below w.heap.size w w1 :=
  ⟨(hb.block _ (by simp)).trans (row_new w m t), bl_go (bl_al (Below.refl _ w) (Nat.le_refl _) _) (Nat.le_refl _) hb⟩
set_option maxRecDepth 100000 in
theorem box_on {w1 w2 : World} {g : Nat} {o : Obj} (h : w1.heap[g]? = some o) (hb : Below w1.heap.size w1 w2) : w2.heap[g]? = some o := (hb.block _ (lt_some h)).trans h

/-- What Check answers: 0 for a meta, else 1. -/
def Says1 (m : Mt) (w : World) (e : Ending) (w' : World) : Prop := ∃ k, e = .returned (.int .i64 k) ∧ (m.ok ∧ k = 0 ∨ ¬ m.ok ∧ k = 1) ∧ Below w.heap.size w w'
set_option maxRecDepth 100000 in
theorem Says1.yes {m : Mt} {w w' : World} (h : m.ok) (hb : Below w.heap.size w w') : Says1 m w (.returned (.int .i64 0)) w' := ⟨0, rfl, .inl ⟨h, rfl⟩, hb⟩
set_option maxRecDepth 100000 in
theorem Says1.no {m : Mt} {w w' : World} (h : ¬ m.ok) (hb : Below w.heap.size w w') : Says1 m w (.returned (.int .i64 1)) w' := ⟨1, rfl, .inr ⟨h, rfl⟩, hb⟩
set_option maxRecDepth 100000 in
theorem ok_of (m : Mt) (h1 : InM m) (h2 : pw m.pg) (h3 : m.ro = 0 ∧ m.co = 0 ∨ m.ro ≠ 0 ∧ 2 ≤ m.ro ∧ m.ro < m.hi ∧ 0 < m.co) (h4 : m.fr = 0 ∧ m.li = 0 ∨ m.fr ≠ 0 ∧ 2 ≤ m.fr ∧ m.fr < m.hi ∧ m.li ≤ m.hi - 2) (h5 : ¬ (m.ro = m.fr ∧ m.ro ≠ 0)) : m.ok := by
  rw [inM_iff] at h1
  exact ⟨by omega, h2, by omega, by omega, by omega, by omega, by omega, by omega, by omega, by omega, h5⟩
set_option maxRecDepth 100000 in
theorem Mt.ok.inM {m : Mt} (h : m.ok) : InM m := by
  rw [inM_iff]
  have := pw_le h.pg
  obtain ⟨h1, h2, h3, h4, h5, h6, h7, h8, h9, h10, h11⟩ := h
  omega
set_option maxRecDepth 100000 in
theorem Mt.ok.tree {m : Mt} (h : m.ok) : m.ro = 0 ∧ m.co = 0 ∨ m.ro ≠ 0 ∧ 2 ≤ m.ro ∧ m.ro < m.hi ∧ 0 < m.co := by
  obtain ⟨h1, h2, h3, h4, h5, h6, h7, h8, h9, h10, h11⟩ := h
  omega
set_option maxRecDepth 100000 in
theorem Mt.ok.list {m : Mt} (h : m.ok) : m.fr = 0 ∧ m.li = 0 ∨ m.fr ≠ 0 ∧ 2 ≤ m.fr ∧ m.fr < m.hi ∧ m.li ≤ m.hi - 2 := by
  obtain ⟨h1, h2, h3, h4, h5, h6, h7, h8, h9, h10, h11⟩ := h
  omega

end Go.Proofs.YtphjnahmbdinmaaGreatDoor

/- meta.written: the page's bytes, number by number. -/

namespace Go.Proofs.YtphjnahmbdinmaaGreatDoor
open Go.RowKit

set_option maxRecDepth 100000 in
theorem splice_mid (A X N C : List Int) (a : Nat) (hA : A.length = a) (hX : X.length = N.length) : splice (A ++ (X ++ C)) a N = A ++ (N ++ C) := by
  subst hA
  unfold splice
  have e : (A ++ (X ++ C)).drop (A.length + N.length) = C := by
    rw [← List.append_assoc]
    exact List.drop_left' (by rw [List.length_append, hX])
  rw [List.take_left, e]
/-- A page behind its first k numbers. -/
def lay5 (m : Mt) : Nat → List Int
  | 0 => [1, 0, 0, 0, 69, 83, 80, 76] ++ zs (m.pg.toNat - 8)
  | k + 1 => splice (lay5 m k) (atN k) (fB (wdN k) (m.nth k))
set_option maxRecDepth 100000 in
theorem lay5_all (m : Mt) (h : m.ok) : lay5 m 8 = hdB m ++ zs (m.pg.toNat - 40) := by
  have hp := pw_le h.pg
  obtain ⟨Z, hZ⟩ : ∃ Z, Z = zs (m.pg.toNat - 40) := ⟨_, rfl⟩
  have e0 : lay5 m 0 = [1] ++ (zs 1 ++ ([0, 0, 69, 83, 80, 76] ++ (zs 4 ++ (zs 8 ++ (zs 4 ++ (zs 4 ++ (zs 4 ++ (zs 4 ++ (zs 4 ++ (Z)))))))))) := by
    show [1, 0, 0, 0, 69, 83, 80, 76] ++ zs (m.pg.toNat - 8) = _
    rw [show m.pg.toNat - 8 = 4 + (8 + (4 + (4 + (4 + (4 + (4 + (m.pg.toNat - 40))))))) by omega, zs_add, zs_add, zs_add, zs_add, zs_add, zs_add, zs_add, ← hZ]
    rfl
  have e1 : lay5 m 1 = [1] ++ (fB 1 m.en ++ ([0, 0, 69, 83, 80, 76] ++ (zs 4 ++ (zs 8 ++ (zs 4 ++ (zs 4 ++ (zs 4 ++ (zs 4 ++ (zs 4 ++ (Z)))))))))) := by
    show splice (lay5 m 0) 1 (fB 1 m.en) = _
    rw [e0, show [1] ++ (zs 1 ++ ([0, 0, 69, 83, 80, 76] ++ (zs 4 ++ (zs 8 ++ (zs 4 ++ (zs 4 ++ (zs 4 ++ (zs 4 ++ (zs 4 ++ (Z)))))))))) = ([1]) ++ (zs 1 ++ ([0, 0, 69, 83, 80, 76] ++ (zs 4 ++ (zs 8 ++ (zs 4 ++ (zs 4 ++ (zs 4 ++ (zs 4 ++ (zs 4 ++ (Z)))))))))) from rfl, splice_mid _ _ _ _ 1 rfl (by rw [zs_length, fB_length])]
  have e2 : lay5 m 2 = [1] ++ (fB 1 m.en ++ ([0, 0, 69, 83, 80, 76] ++ (fB 4 m.pg ++ (zs 8 ++ (zs 4 ++ (zs 4 ++ (zs 4 ++ (zs 4 ++ (zs 4 ++ (Z)))))))))) := by
    show splice (lay5 m 1) 8 (fB 4 m.pg) = _
    rw [e1, show [1] ++ (fB 1 m.en ++ ([0, 0, 69, 83, 80, 76] ++ (zs 4 ++ (zs 8 ++ (zs 4 ++ (zs 4 ++ (zs 4 ++ (zs 4 ++ (zs 4 ++ (Z)))))))))) = ([1] ++ fB 1 m.en ++ [0, 0, 69, 83, 80, 76]) ++ (zs 4 ++ (zs 8 ++ (zs 4 ++ (zs 4 ++ (zs 4 ++ (zs 4 ++ (zs 4 ++ (Z)))))))) from by simp only [List.append_assoc], splice_mid _ _ _ _ 8 (by simp [fB_length]) (by rw [zs_length, fB_length])]
    simp only [List.append_assoc]
  have e3 : lay5 m 3 = [1] ++ (fB 1 m.en ++ ([0, 0, 69, 83, 80, 76] ++ (fB 4 m.pg ++ (fB 8 m.tx ++ (zs 4 ++ (zs 4 ++ (zs 4 ++ (zs 4 ++ (zs 4 ++ (Z)))))))))) := by
    show splice (lay5 m 2) 12 (fB 8 m.tx) = _
    rw [e2, show [1] ++ (fB 1 m.en ++ ([0, 0, 69, 83, 80, 76] ++ (fB 4 m.pg ++ (zs 8 ++ (zs 4 ++ (zs 4 ++ (zs 4 ++ (zs 4 ++ (zs 4 ++ (Z)))))))))) = ([1] ++ fB 1 m.en ++ [0, 0, 69, 83, 80, 76] ++ fB 4 m.pg) ++ (zs 8 ++ (zs 4 ++ (zs 4 ++ (zs 4 ++ (zs 4 ++ (zs 4 ++ (Z))))))) from by simp only [List.append_assoc], splice_mid _ _ _ _ 12 (by simp [fB_length]) (by rw [zs_length, fB_length])]
    simp only [List.append_assoc]
  have e4 : lay5 m 4 = [1] ++ (fB 1 m.en ++ ([0, 0, 69, 83, 80, 76] ++ (fB 4 m.pg ++ (fB 8 m.tx ++ (fB 4 m.ro ++ (zs 4 ++ (zs 4 ++ (zs 4 ++ (zs 4 ++ (Z)))))))))) := by
    show splice (lay5 m 3) 20 (fB 4 m.ro) = _
    rw [e3, show [1] ++ (fB 1 m.en ++ ([0, 0, 69, 83, 80, 76] ++ (fB 4 m.pg ++ (fB 8 m.tx ++ (zs 4 ++ (zs 4 ++ (zs 4 ++ (zs 4 ++ (zs 4 ++ (Z)))))))))) = ([1] ++ fB 1 m.en ++ [0, 0, 69, 83, 80, 76] ++ fB 4 m.pg ++ fB 8 m.tx) ++ (zs 4 ++ (zs 4 ++ (zs 4 ++ (zs 4 ++ (zs 4 ++ (Z)))))) from by simp only [List.append_assoc], splice_mid _ _ _ _ 20 (by simp [fB_length]) (by rw [zs_length, fB_length])]
    simp only [List.append_assoc]
  have e5 : lay5 m 5 = [1] ++ (fB 1 m.en ++ ([0, 0, 69, 83, 80, 76] ++ (fB 4 m.pg ++ (fB 8 m.tx ++ (fB 4 m.ro ++ (fB 4 m.co ++ (zs 4 ++ (zs 4 ++ (zs 4 ++ (Z)))))))))) := by
    show splice (lay5 m 4) 24 (fB 4 m.co) = _
    rw [e4, show [1] ++ (fB 1 m.en ++ ([0, 0, 69, 83, 80, 76] ++ (fB 4 m.pg ++ (fB 8 m.tx ++ (fB 4 m.ro ++ (zs 4 ++ (zs 4 ++ (zs 4 ++ (zs 4 ++ (Z)))))))))) = ([1] ++ fB 1 m.en ++ [0, 0, 69, 83, 80, 76] ++ fB 4 m.pg ++ fB 8 m.tx ++ fB 4 m.ro) ++ (zs 4 ++ (zs 4 ++ (zs 4 ++ (zs 4 ++ (Z))))) from by simp only [List.append_assoc], splice_mid _ _ _ _ 24 (by simp [fB_length]) (by rw [zs_length, fB_length])]
    simp only [List.append_assoc]
  have e6 : lay5 m 6 = [1] ++ (fB 1 m.en ++ ([0, 0, 69, 83, 80, 76] ++ (fB 4 m.pg ++ (fB 8 m.tx ++ (fB 4 m.ro ++ (fB 4 m.co ++ (fB 4 m.fr ++ (zs 4 ++ (zs 4 ++ (Z)))))))))) := by
    show splice (lay5 m 5) 28 (fB 4 m.fr) = _
    rw [e5, show [1] ++ (fB 1 m.en ++ ([0, 0, 69, 83, 80, 76] ++ (fB 4 m.pg ++ (fB 8 m.tx ++ (fB 4 m.ro ++ (fB 4 m.co ++ (zs 4 ++ (zs 4 ++ (zs 4 ++ (Z)))))))))) = ([1] ++ fB 1 m.en ++ [0, 0, 69, 83, 80, 76] ++ fB 4 m.pg ++ fB 8 m.tx ++ fB 4 m.ro ++ fB 4 m.co) ++ (zs 4 ++ (zs 4 ++ (zs 4 ++ (Z)))) from by simp only [List.append_assoc], splice_mid _ _ _ _ 28 (by simp [fB_length]) (by rw [zs_length, fB_length])]
    simp only [List.append_assoc]
  have e7 : lay5 m 7 = [1] ++ (fB 1 m.en ++ ([0, 0, 69, 83, 80, 76] ++ (fB 4 m.pg ++ (fB 8 m.tx ++ (fB 4 m.ro ++ (fB 4 m.co ++ (fB 4 m.fr ++ (fB 4 m.li ++ (zs 4 ++ (Z)))))))))) := by
    show splice (lay5 m 6) 32 (fB 4 m.li) = _
    rw [e6, show [1] ++ (fB 1 m.en ++ ([0, 0, 69, 83, 80, 76] ++ (fB 4 m.pg ++ (fB 8 m.tx ++ (fB 4 m.ro ++ (fB 4 m.co ++ (fB 4 m.fr ++ (zs 4 ++ (zs 4 ++ (Z)))))))))) = ([1] ++ fB 1 m.en ++ [0, 0, 69, 83, 80, 76] ++ fB 4 m.pg ++ fB 8 m.tx ++ fB 4 m.ro ++ fB 4 m.co ++ fB 4 m.fr) ++ (zs 4 ++ (zs 4 ++ (Z))) from by simp only [List.append_assoc], splice_mid _ _ _ _ 32 (by simp [fB_length]) (by rw [zs_length, fB_length])]
    simp only [List.append_assoc]
  have e8 : lay5 m 8 = [1] ++ (fB 1 m.en ++ ([0, 0, 69, 83, 80, 76] ++ (fB 4 m.pg ++ (fB 8 m.tx ++ (fB 4 m.ro ++ (fB 4 m.co ++ (fB 4 m.fr ++ (fB 4 m.li ++ (fB 4 m.hi ++ (Z)))))))))) := by
    show splice (lay5 m 7) 36 (fB 4 m.hi) = _
    rw [e7, show [1] ++ (fB 1 m.en ++ ([0, 0, 69, 83, 80, 76] ++ (fB 4 m.pg ++ (fB 8 m.tx ++ (fB 4 m.ro ++ (fB 4 m.co ++ (fB 4 m.fr ++ (fB 4 m.li ++ (zs 4 ++ (Z)))))))))) = ([1] ++ fB 1 m.en ++ [0, 0, 69, 83, 80, 76] ++ fB 4 m.pg ++ fB 8 m.tx ++ fB 4 m.ro ++ fB 4 m.co ++ fB 4 m.fr ++ fB 4 m.li) ++ (zs 4 ++ (Z)) from by simp only [List.append_assoc], splice_mid _ _ _ _ 36 (by simp [fB_length]) (by rw [zs_length, fB_length])]
    simp only [List.append_assoc]
  rw [e8, hZ]
  simp only [hdB, List.append_assoc]
set_option maxRecDepth 100000 in
theorem lay5_length (m : Mt) (h : m.ok) : ∀ k, k ≤ 8 → (lay5 m k).length = m.pg.toNat
  | 0, _ => by
    have hp := pw_le h.pg
    simp only [lay5, List.length_append, zs_length, List.length_cons, List.length_nil]
    omega
  | k + 1, hk => by
    have hp := pw_le h.pg
    have ih := lay5_length m h k (by omega)
    show (splice _ _ _).length = _
    rw [length_splice _ _ _ (by
      rw [ih, fB_length]
      rcases eight (show k < 8 by omega) with rfl | rfl | rfl | rfl | rfl | rfl | rfl | rfl <;> simp [atN, wdN] <;> omega), ih]
set_option maxRecDepth 100000 in
theorem splice_wf {l cs : List Int} (h : Wf l) (hc : Wf cs) (off : Nat) : Wf (splice l off cs) := (h.take _).append (hc.append (h.drop _))
set_option maxRecDepth 100000 in
theorem lay5_wf (m : Mt) : ∀ k, Wf (lay5 m k)
  | 0 => by
    refine Wf.append ?_ (zs_wf _)
    intro x hx
    simp only [List.mem_cons, List.not_mem_nil, or_false] at hx
    omega
  | k + 1 => splice_wf (lay5_wf m k) (fB_wf _ _) _
set_option maxRecDepth 100000 in
theorem lay5_body (m : Mt) (h : m.ok) : (lay5 m 8).take (m.pg.toNat - 4) = bodyB m := by
  have hp := pw_le h.pg
  rw [lay5_all m h, List.take_append, hdB_length, List.take_of_length_le (by rw [hdB_length]; omega)]
  unfold bodyB zs
  rw [List.take_replicate, show min (m.pg.toNat - 4 - 40) (m.pg.toNat - 40) = m.pg.toNat - 44 by omega]
set_option maxRecDepth 100000 in
theorem lay5_page (m : Mt) (h : m.ok) : splice (lay5 m 8) (m.pg.toNat - 4) (fB 4 (sumN [bodyB m])) = pageB m := by
  have hp := pw_le h.pg
  unfold splice
  rw [lay5_body m h, fB_length, List.drop_eq_nil_of_le (by rw [lay5_length m h 8 (Nat.le_refl _)]; omega), List.append_nil]
  rfl
set_option maxRecDepth 100000 in
theorem By_splice5 (l cs : List Int) (off : Nat) : splice (By l) off (By cs) = By (splice l off cs) := by simp [splice, By, List.map_take, List.map_drop]

set_option maxRecDepth 100000 in
theorem step_copy_rw {P : Program} {ops : Array Oper} {o : Oper} {a : Act} {w : World} {K : Act → World → Prop} {Q : Exit → Act → World → Prop} {E : Prop} (hgd : o.guard = none) (d s : Operand) (dT sT : TypeId)
    (ho : o.op = .call { callee := .builtin .copy, args := #[d, s], argTypes := #[dT, sT] }) (elem : TypeId) (hu : P.underlying dT = some (.slice elem)) (hsz : (P.info? elem).map (·.size) = some 1)
    (g off dLen dCap : Nat) (ad : Addr) (sLen sCap : Nat) (hd : a.eval d = .slice (some ⟨g, off, none⟩) dLen dCap) (hs : a.eval s = .slice (some ad) sLen sCap)
    (cur : List Value) (t : TypeId) (hg : w.heap[g]? = some (.cells cur.toArray t (0, 0))) (cs : List Value) (hn : cs.length = Nat.min sLen dLen)
    (hsrc : ∀ j v, cs[j]? = some v → w.cell? (ad.add j) = some v) (hfit : off + cs.length ≤ cur.length) (h1 : ∀ v ∈ cs, v.oneCell' = true)
    (h : ∀ u, Hid (u = w.setRow g (splice cur off cs).toArray) → K (a.put o.dst (goInt cs.length)) u) : if Region.wanted o (yielded ops a.tmps) = true then Oper.wp P o a w K Q else E := by
  have hw : Region.wanted o (yielded ops a.tmps) = true := by simp [Region.wanted, hgd]
  rw [if_pos hw]
  have hrun := run_copy_row (P := P) w dT sT o.type elem g off dLen dCap ad sLen sCap cur.toArray t cs hu hsz hg hn hsrc (by simpa using hfit) h1
  unfold Oper.wp
  simp [execOp, ho, resolve, invoke, builtin, hd, hs, hrun, Result.andThen]
  exact h _ (hidden (by simp [splice]))

set_option maxRecDepth 100000 in
/-- What Fixed hands out lies in new memory. -/
theorem fixed_row (n x : Int) (w : World) (h0 : 0 ≤ n) (h1 : 1 ≤ x) (h2 : x ≤ 8) :
    Calls Tryz.prog 60 #[.int .u64 n, .int .i64 x] w fun e w' => ∃ b off c, e = .returned (.slice (some ⟨b, off, none⟩) x.toNat c) ∧ Hid (Sl w' (some ⟨b, off, none⟩) x.toNat c (fB x.toNat n)) ∧ Hid (Below w.heap.size w w') := by
  refine (fixed_yes n x w h0 h1 h2).mono ?_
  rintro e w' ⟨v, rfl, ho, hb⟩
  obtain ⟨ao, cap, rfl, hs, _⟩ := ho.sl (fB_wf _ _) (by rw [fB_length]; omega)
  rw [fB_length] at hs ⊢
  rcases hs.hat with h | ⟨b, off, rfl, hlt, hc⟩
  · omega
  · exact ⟨b, off, cap, rfl, hs, hb⟩
set_option maxRecDepth 100000 in
theorem sl_src5 {w : World} {b off n c : Nat} {l : List Int} (h : Sl w (some ⟨b, off, none⟩) n c l) : ∀ j v, (By l)[j]? = some v → w.cell? ((⟨b, off, none⟩ : Addr).add j) = some v := by
  intro j v hv
  obtain ⟨h1, rfl⟩ := getElem?_By l j v hv
  rw [Addr.add_lit]
  rcases h.hat with h0 | ⟨b', off', e, hlt, hc⟩
  · have := h.hlen; omega
  · injection e with e
    injection e with e1 e2
    subst e1 e2
    exact hc j (by have := h.hlen; omega)
end Go.Proofs.YtphjnahmbdinmaaGreatDoor
