/- Which numbers a device may have; New. -/
import Derived.Test.YtbnjojplfbibkaaGreatDoorPl3
import Derived.Laws.BitsLemmas
namespace Go.Proofs.YtbnjojplfbibkaaGreatDoor
open Go.RowKit

set_option maxRecDepth 100000 in
theorem and_i64_nat (a b : Nat) (ha : a < 4611686018427387904) (hb : b < 4611686018427387904) : bits .and .i64 (a : Int) (b : Int) = ((a &&& b : Nat) : Int) := by
  have hx : a &&& b < 2 ^ 62 := Nat.and_lt_two_pow _ (by omega)
  have h1 : (BitVec.ofInt 64 (a : Int)).toNat = a := by
    rw [BitVec.ofInt_natCast, BitVec.toNat_ofNat]; exact Nat.mod_eq_of_lt (by omega)
  have h2 : (BitVec.ofInt 64 (b : Int)).toNat = b := by
    rw [BitVec.ofInt_natCast, BitVec.toNat_ofNat]; exact Nat.mod_eq_of_lt (by omega)
  show IntKind.i64.wrap ((BitVec.ofInt 64 (a : Int) &&& BitVec.ofInt 64 (b : Int)).toNat : Int) = _
  rw [BitVec.toNat_and, h1, h2]
  rw [IntKind.wrap_i64]
  omega

set_option maxRecDepth 100000 in
theorem mkB (N : Nat) (h : N ≤ 67108864) (u : World) : (Instr.makeSlice 28 (.int .i64 (N : Int)) (.int .i64 (N : Int))).run Tryz.prog u = .ok (.slice (some ⟨u.heap.size, 0, none⟩) N N) (u.alloc (.cells (By (List.replicate N 0)).toArray 5)) := by
  obtain ⟨i0, hi, hz0, hz1, hz2⟩ := info_parts info5
  have hr := run_make (P := Tryz.prog) u 28 5 i0 _ Tryz.underlying28 hi hz0 .i64 .i64 (N : Int) (N : Int) (by omega) (Int.le_refl _) (by rw [hz2]; omega) (by omega)
  rw [hr, hz1]
  simp only [Int.toNat_natCast, Nat.mul_one]
  refine congrArg (fun x => Result.ok _ (u.alloc (.cells x _))) ?_
  apply Array.toList_inj.1
  rw [show (Value.int .u8 0).cells = #[.int .u8 0] from rfl, toList_madeCells_one]
  simp [By]
set_option maxRecDepth 100000 in
theorem mkI (N : Nat) (h : N ≤ 4398046511103) (u : World) : (Instr.makeSlice 23 (.int .i64 (N : Int)) (.int .i64 (N : Int))).run Tryz.prog u = .ok (.slice (some ⟨u.heap.size, 0, none⟩) N N) (u.alloc (.cells (In (List.replicate N 0)).toArray 3)) := by
  obtain ⟨i0, hi, hz0, hz1, hz2⟩ := info_parts infoI
  have hr := run_make (P := Tryz.prog) u 23 3 i0 _ Tryz.underlying23 hi hz0 .i64 .i64 (N : Int) (N : Int) (by omega) (Int.le_refl _) (by rw [hz2]; omega) (by omega)
  rw [hr, hz1]
  simp only [Int.toNat_natCast, Nat.mul_one]
  refine congrArg (fun x => Result.ok _ (u.alloc (.cells x _))) ?_
  apply Array.toList_inj.1
  rw [show (Value.int .i64 0).cells = #[.int .i64 0] from rfl, toList_madeCells_one]
  simp [In]

/-- A page size. -/
def pgs (x : Int) : Bool := decide (x = 512 ∨ x = 1024 ∨ x = 2048 ∨ x = 4096 ∨ x = 8192 ∨ x = 16384 ∨ x = 32768 ∨ x = 65536)
/-- Numbers that a device may have. -/
def dev (x y : Int) : Bool := decide (pgs x = true ∧ 4 ≤ y ∧ y ≤ 65536 ∧ x * y ≤ 67108864)

set_option maxRecDepth 100000 in
theorem land_pred {x k : Nat} (h1 : 2 ^ k < x) (h2 : x < 2 ^ (k + 1)) : x &&& (x - 1) ≠ 0 := by
  intro h
  have a1 : x.testBit k = true := Nat.testBit_of_two_pow_le_and_two_pow_add_one_gt (by omega) (by omega)
  have a2 : (x - 1).testBit k = true := Nat.testBit_of_two_pow_le_and_two_pow_add_one_gt (by omega) (by omega)
  have : (x &&& (x - 1)).testBit k = true := by rw [Nat.testBit_and, a1, a2]; rfl
  rw [h] at this
  simp at this

set_option maxRecDepth 100000 in
theorem pgs_bits (x : Int) (h1 : 512 ≤ x) (h2 : x ≤ 65536) : (bits BinOp.and IntKind.i64 x (x - 1) == 0) = pgs x := by
  obtain ⟨n, rfl⟩ : ∃ n : Nat, x = (n : Int) := ⟨x.toNat, by omega⟩
  rw [show (n : Int) - 1 = ((n - 1 : Nat) : Int) by omega, and_i64_nat _ _ (by omega) (by omega)]
  by_cases h : pgs (n : Int) = true
  · rw [h]
    simp only [pgs, decide_eq_true_eq] at h
    rcases h with h | h | h | h | h | h | h | h
    · have e : n = 512 := by omega
      subst e
      decide
    · have e : n = 1024 := by omega
      subst e
      decide
    · have e : n = 2048 := by omega
      subst e
      decide
    · have e : n = 4096 := by omega
      subst e
      decide
    · have e : n = 8192 := by omega
      subst e
      decide
    · have e : n = 16384 := by omega
      subst e
      decide
    · have e : n = 32768 := by omega
      subst e
      decide
    · have e : n = 65536 := by omega
      subst e
      decide
  · have hf : pgs (n : Int) = false := by simpa using h
    rw [hf]
    simp only [pgs, decide_eq_true_eq] at h
    have hne : n &&& (n - 1) ≠ 0 := by
      by_cases b1 : n < 1024
      · exact land_pred (k := 9) (by omega) (by omega)
      by_cases b2 : n < 2048
      · exact land_pred (k := 10) (by omega) (by omega)
      by_cases b3 : n < 4096
      · exact land_pred (k := 11) (by omega) (by omega)
      by_cases b4 : n < 8192
      · exact land_pred (k := 12) (by omega) (by omega)
      by_cases b5 : n < 16384
      · exact land_pred (k := 13) (by omega) (by omega)
      by_cases b6 : n < 32768
      · exact land_pred (k := 14) (by omega) (by omega)
      exact land_pred (k := 15) (by omega) (by omega)
    simp only [beq_eq_false_iff_ne, ne_eq]
    omega

set_option maxRecDepth 100000 in
theorem isPageSize_any (x : Int) (w : World) : Calls Tryz.prog 37 #[.int .i64 x] w fun e w' => e = .returned (.bool (pgs x)) ∧ w' = w := by
  by_cases h1 : 512 ≤ x
  · by_cases h2 : x ≤ 65536
    · have e := pgs_bits x h1 h2
      go_enter Tryz.func37, Tryz.ntmps37
      go_wp2
      go_ret
      exact ⟨rfl, rfl⟩
    · have e : pgs x = false := by simp [pgs]; omega
      go_enter Tryz.func37, Tryz.ntmps37
      go_wp2
      go_ret
      exact ⟨rfl, rfl⟩
  · have e : pgs x = false := by simp [pgs]; omega
    go_enter Tryz.func37, Tryz.ntmps37
    go_wp2
    go_ret
    exact ⟨rfl, rfl⟩

set_option maxRecDepth 100000 in
theorem isDevice_no (x y : Int) (w : World) (h : pgs x = false) : Calls Tryz.prog 63 #[.int .i64 x, .int .i64 y] w fun e w' => e = .returned (.bool (dev x y)) ∧ w' = w := by
  have hd : dev x y = false := by simp [dev, h]
  go_enter Tryz.func63, Tryz.ntmps63
  go_wp2_with (go_at_call 37; refine (isPageSize_any x _).mono ?_; rintro e w' ⟨rfl, rfl⟩)
  go_ret
  exact ⟨by rw [hd]; rfl, rfl⟩
set_option maxRecDepth 100000 in
theorem isDevice_yes (x y : Int) (w : World) (h : pgs x = true) : Calls Tryz.prog 63 #[.int .i64 x, .int .i64 y] w fun e w' => e = .returned (.bool (dev x y)) ∧ w' = w := by
  by_cases h4 : 4 ≤ y
  · simp only [pgs, decide_eq_true_eq] at h
    rcases h with h | h | h | h | h | h | h | h <;>
    · subst h
      go_enter Tryz.func63, Tryz.ntmps63
      go_wp2_with (go_at_call 37; refine (isPageSize_any _ _).mono ?_; rintro e w' ⟨rfl, rfl⟩)
      go_ret
      refine ⟨congrArg (fun b => Ending.returned (Value.bool b)) (show decide (y ≤ _) = dev _ y from ?_), rfl⟩
      unfold dev
      rw [decide_eq_decide]
      exact ⟨fun h => ⟨by decide, h4, by omega, by omega⟩, fun ⟨_, _, _, _⟩ => by omega⟩
  · have hd : dev x y = false := by simp [dev]; omega
    go_enter Tryz.func63, Tryz.ntmps63
    go_wp2_with (go_at_call 37; refine (isPageSize_any x _).mono ?_; rintro e w' ⟨rfl, rfl⟩)
    go_ret
    exact ⟨rfl, rfl⟩

set_option maxRecDepth 100000 in
theorem isDevice_any (x y : Int) (w : World) : Calls Tryz.prog 63 #[.int .i64 x, .int .i64 y] w fun e w' => e = .returned (.bool (dev x y)) ∧ w' = w := by
  cases h : pgs x
  · exact isDevice_no x y w h
  · exact isDevice_yes x y w h

set_option maxRecDepth 100000 in
theorem New_no (x y : Int) (w : World) (h : dev x y = false) : Calls Tryz.prog 38 #[.int .i64 x, .int .i64 y] w fun e w' => e = .returned (.pointer none) ∧ w' = w := by
  have hd := isDevice_any x y
  rw [h] at hd
  go_enter Tryz.func38, Tryz.ntmps38
  go_wp2_with (go_at_call 63; refine (hd _).mono ?_; rintro e w' ⟨rfl, rfl⟩)
  go_ret
  exact ⟨rfl, rfl⟩

/-- A new device. -/
def d0 (x y : Nat) : D := ⟨x, y, List.replicate (x * y) 0, [], List.replicate y 0, 0, 0, 0, false, false, 0, 0, 0, []⟩

set_option maxRecDepth 100000 in
theorem new_dv {u : World} {x y a bs bl : Nat} {F : Nat → Prop} (hdv : dev x y = true) (ha : u.heap[a]? = some (.cells (row (d0 x y) bs bl (.slice none 0 0) (.slice none 0 0)).toArray 99 (0, 0)))
    (hs : u.heap[bs]? = some (.cells (By (List.replicate (x * y) 0)).toArray 5 (0, 0))) (hl : u.heap[bl]? = some (.cells (In (List.replicate y 0)).toArray 3 (0, 0))) (fa : F a) (fs : F bs) (fl : F bl) (n1 : bs ≠ a) (n2 : bl ≠ a) (n3 : bl ≠ bs) : Dv u F a (d0 x y) := by
  simp only [dev, pgs, decide_eq_true_eq] at hdv
  obtain ⟨p, q1, q2, q3⟩ := hdv
  have q3' : x * y ≤ 67108864 := by
    have : ((x * y : Nat) : Int) ≤ 67108864 := by simpa using q3
    omega
  refine ⟨bs, bl, _, _, ha, fa, fs, fl, n1, n2, n3, hs, hl, by simp [d0], by simp [d0], ?_, by simp only [d0]; omega, by simp only [d0]; omega, by simp only [d0]; omega, by simp only [d0]; omega, by simpa [d0] using q3', ?_, ?_, ?_, by simp [d0]⟩
  · intro z hz
    simp only [d0] at hz
    have := List.eq_of_mem_replicate hz
    omega
  · refine ⟨⟨[], World.ownsRow_nil _ _ _ _, fun k z hz => by simp [d0] at hz⟩, fun g hg => by simp [Value.ownBlock] at hg, fun z hz => by simp [d0] at hz⟩
  · exact ⟨none, 0, 0, rfl, rfl, Nat.le_refl _, by omega, fun _ => rfl, .inl rfl⟩
  · intro n hn
    have e : (d0 x y).last.getD n 0 = 0 := by
      simp only [d0, List.getD, List.getElem?_replicate]
      split <;> rfl
    rw [e]
    exact ⟨by omega, by omega, fun h => by omega⟩

set_option maxRecDepth 100000 in
theorem alloc3 (w : World) (o1 o2 o3 : Obj) : (((w.alloc o1).alloc o2).alloc o3).drew.heap[w.heap.size]? = some o1 ∧ (((w.alloc o1).alloc o2).alloc o3).drew.heap[w.heap.size + 1]? = some o2 ∧ (((w.alloc o1).alloc o2).alloc o3).drew.heap[w.heap.size + 1 + 1]? = some o3 ∧ (((w.alloc o1).alloc o2).alloc o3).drew.heap.size = w.heap.size + 3 := by
  have e : (((w.alloc o1).alloc o2).alloc o3).drew.heap = ((w.heap.push o1).push o2).push o3 := rfl
  rw [e]
  refine ⟨?_, ?_, ?_, by simp⟩
  · rw [Array.getElem?_push, if_neg (by simp; omega), Array.getElem?_push, if_neg (by simp), Array.getElem?_push, if_pos rfl]
  · rw [Array.getElem?_push, if_neg (by simp), Array.getElem?_push, if_pos (by simp)]
  · rw [Array.getElem?_push, if_pos (by simp)]

def row0 (x y N bs bl : Nat) : Array Value := #[.int .i64 x, .int .i64 y, .slice (some ⟨bs, 0, none⟩) N N, .slice none 0 0, .slice (some ⟨bl, 0, none⟩) y y, .int .i64 0, .int .i64 0, .int .i64 0, .bool false, .bool false, .int .i64 0, .slice none 0 0, .int .i64 0, .int .i64 0]
set_option maxRecDepth 100000 in
theorem New_yes (x y : Nat) (w : World) (h : dev x y = true) : Calls Tryz.prog 38 #[.int .i64 (x : Int), .int .i64 (y : Int)] w fun e w' => ∃ a, e = .returned (.pointer (some ⟨a, 0, none⟩)) ∧ Dv w' (fun k => w.heap.size ≤ k ∧ k < w'.heap.size) a (d0 x y) ∧ Below w.heap.size w w' := by
  have hdev := isDevice_any x y
  rw [h] at hdev
  obtain ⟨N, hNN⟩ : ∃ N, x * y = N := ⟨_, rfl⟩
  have hN : (x : Int) * (y : Int) = (N : Int) := by rw [← hNN]; simp
  have h1 : (N : Int) ≤ 67108864 := by
    simp only [dev, decide_eq_true_eq] at h
    rw [← hN]; exact h.2.2.2
  have h3 : (y : Int) ≤ 65536 := by
    simp only [dev, decide_eq_true_eq] at h
    exact h.2.2.1
  have hw : IntKind.i64.wrap (N : Int) = N := by rw [IntKind.wrap_i64]; omega
  obtain ⟨A, hA⟩ : ∃ A, (By (List.replicate N 0)).toArray = A := ⟨_, rfl⟩
  obtain ⟨B, hB⟩ : ∃ B, (In (List.replicate y 0)).toArray = B := ⟨_, rfl⟩
  have m1 := mkB N (by omega)
  have m2 := mkI y (by omega)
  rw [hA] at m1
  rw [hB] at m2
  have HA := hidden hA
  have HB := hidden hB
  have HN := hidden hNN
  have H := hidden h
  clear hA hB h hNN
  have HW : Hid (w = w) := hidden rfl
  go_enter Tryz.func38, Tryz.ntmps38
  go_wp2_with (go_at_call 63; refine (hdev _).mono ?_; rintro e w' ⟨rfl, rfl⟩)
  go_region
  all_goals
    go_wp2
    go_ret
  · obtain ⟨a1, a2, a3, a4⟩ := alloc3 w' (.cells A 5) (.cells B 3) (.cells (row0 x y N w'.heap.size (w'.heap.size + 1)) 99)
    unfold row0 at a1 a2 a3 a4
    refine ⟨_, rfl, new_dv (bs := w'.heap.size) (bl := w'.heap.size + 1) H.out ?_ ?_ ?_ ⟨by omega, by rw [a4]; omega⟩ ⟨by omega, by rw [a4]; omega⟩ ⟨by omega, by rw [a4]; omega⟩ (by omega) (by omega) (by omega), ?_⟩
    · simp only [row, d0, HN.out]
      exact a3
    · rw [HN.out, HA.out]; exact a1
    · rw [HB.out]; exact a2
    · exact ((((Below.refl _ _).alloc (Nat.le_refl _) _).alloc (by simp) _).alloc (by simp; omega) _).drew
  · obtain ⟨a1, a2, a3, a4⟩ := alloc3 w' (.cells B 3) (.cells A 5) (.cells (row0 x y N (w'.heap.size + 1) w'.heap.size) 99)
    unfold row0 at a1 a2 a3 a4
    refine ⟨_, rfl, new_dv (bs := w'.heap.size + 1) (bl := w'.heap.size) H.out ?_ ?_ ?_ ⟨by omega, by rw [a4]; omega⟩ ⟨by omega, by rw [a4]; omega⟩ ⟨by omega, by rw [a4]; omega⟩ (by omega) (by omega) (by omega), ?_⟩
    · simp only [row, d0, HN.out]
      exact a3
    · rw [HN.out, HA.out]; exact a2
    · rw [HB.out]; exact a1
    · exact ((((Below.refl _ _).alloc (Nat.le_refl _) _).alloc (by simp) _).alloc (by simp; omega) _).drew
end Go.Proofs.YtbnjojplfbibkaaGreatDoor
