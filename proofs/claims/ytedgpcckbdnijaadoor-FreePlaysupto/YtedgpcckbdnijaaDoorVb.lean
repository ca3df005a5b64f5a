/- Room, put, refused, numberAt. -/
import Derived.Test.YtedgpcckbdnijaaDoorVa
namespace Go.Proofs.YtedgpcckbdnijaaDoor
open Go.RowKit

set_option maxRecDepth 100000 in
theorem ret_bool {b c : Bool} (h : b = c) : Ending.returned (.bool b) = .returned (.bool c) := by rw [h]
set_option maxRecDepth 100000 in
theorem within_any (n lo hi : Int) (w : World) : Calls Tryd.prog 68 #[.int .i64 n, .int .i64 lo, .int .i64 hi] w fun e w' => e = .returned (.bool (decide (lo ≤ n ∧ n ≤ hi))) ∧ w' = w := by
  go_enter Tryd.func68, Tryd.ntmps68
  go_wp2
  all_goals go_ret
  all_goals refine ⟨ret_bool ?_, rfl⟩
  all_goals (rw [Bool.eq_iff_iff]; first | (simp; done) | (simp; omega) | (simp_all; done) | (simp_all; omega))
set_option maxRecDepth 100000 in
theorem isSize_any (p : Int) (w : World) : Calls Tryd.prog 51 #[.int .i64 p] w fun e w' => e = .returned (.bool (pwb p)) ∧ w' = w := by
  by_cases h : 512 ≤ p ∧ p ≤ 65536
  · have hp := pow_iff p h.1 h.2
    have h1 := h.1
    have h2 := h.2
    have e : decide (512 ≤ p ∧ p ≤ 65536) = true := by simpa using h
    obtain ⟨z, hz⟩ : ∃ z, bits .and .i64 p (p - 1) = z := ⟨_, rfl⟩
    rw [hz] at hp
    rw [show pwb p = decide (z = 0) from by rw [Bool.eq_iff_iff, pwb_iff, ← hp]; simp]
    clear hp
    go_enter Tryd.func51, Tryd.ntmps51
    go_wp2_with (go_at_call 68; refine same_call (within_any _ _ _ _) ?_; rw [e])
    all_goals go_ret
    all_goals refine ⟨?_, rfl⟩
    all_goals (congr 2 <;> simp)
  · have e : decide (512 ≤ p ∧ p ≤ 65536) = false := by simpa using h
    have e2 : pwb p = false := by
      cases h2 : pwb p with
      | false => rfl
      | true => exact absurd (pwb_le h2) h
    rw [e2]
    go_enter Tryd.func51, Tryd.ntmps51
    go_wp2_with (go_at_call 68; refine same_call (within_any _ _ _ _) ?_; rw [e])
    go_ret
    exact ⟨rfl, rfl⟩
/-- How many pages a page lists. -/
def roomN (p : Int) : Int := if pwb p then (p - 12) / 4 else 0
set_option maxRecDepth 100000 in
theorem room_any (p : Int) (w : World) : Calls Tryd.prog 22 #[.int .i64 p] w fun e w' => e = .returned (.int .i64 (roomN p)) ∧ w' = w := by
  have hz := isSize_any p w
  unfold roomN
  cases h : pwb p with
  | false =>
    rw [h] at hz
    go_enter Tryd.func22, Tryd.ntmps22
    go_wp2_with (go_at_call 51; refine same_call hz ?_)
    go_ret
    exact ⟨rfl, rfl⟩
  | true =>
    rw [h] at hz
    obtain ⟨h1, h2⟩ := pwb_le h
    go_enter Tryd.func22, Tryd.ntmps22
    go_wp2_with (go_at_call 51; refine same_call hz ?_)
    go_ret
    exact ⟨ret_int (by first | rfl | omega | (simp; omega)), rfl⟩
set_option maxRecDepth 100000 in
set_option maxHeartbeats 1000000 in
theorem put_any {w : World} {g : Nat} {L : List Int} (h : Bk w g L) (P t wd : Nat) (hL : L.length = P) (hP : P ≤ 65536) (n : Int) (hn : 0 ≤ n ∧ n < 9223372036854775808) (hw1 : 1 ≤ wd) (hw2 : wd ≤ 8) (ht : t + wd ≤ P) :
    Calls Tryd.prog 49 #[.slice (some ⟨g, 0, none⟩) P P, .int .i64 (t : Int), .int .i64 n, .int .i64 (wd : Int)] w fun e u => e = .returned (.tuple #[]) ∧ Hid (Bk u g (splice L t (fB wd n)) ∧ Cf (· = g) w u) := by
  obtain ⟨i0, hi, hz0, hz1, hz2⟩ := info_parts info5
  have hsz : (Tryd.prog.info? 5).map (·.size) = some 1 := by rw [hi]; simp [hz1]
  have hwn : IntKind.u64.wrap n = n := by rw [IntKind.wrap_u64]; omega
  have HF : Hid (∀ v, (∃ q, v = w.drewN q) → Calls Tryd.prog 66 #[.int .u64 n, .int .i64 (wd : Int)] v fun e v2 => ∃ b off c, e = .returned (.slice (some ⟨b, off, none⟩) wd c) ∧ Hid (Sl v2 (some ⟨b, off, none⟩) wd c (fB wd n)) ∧ Hid (Bk v2 g L) ∧ Hid (Below w.heap.size w v2)) := hidden (by
    rintro v ⟨q, rfl⟩
    have hd : Below w.heap.size w (w.drewN q) := ⟨rfl, rfl, rfl, Nat.le_refl _, fun _ _ => rfl⟩
    refine (fixed_row n (wd : Int) (w.drewN q) hn.1 (by omega) (by omega)).mono ?_
    rintro e v2 ⟨b, off, c, rfl, hs, hb⟩
    rw [Int.toNat_natCast] at hs ⊢
    have hb2 : Below w.heap.size w v2 := hd.trans hb.out
    exact ⟨b, off, c, rfl, hs, h.on hb2, hb2⟩)
  have HM4 : Hid ((By (fB wd n)).length = Nat.min wd (P - t)) := hidden (by rw [By_length, fB_length]; exact (Nat.min_eq_left (by omega)).symm)
  have HF4 : Hid (t + (By (fB wd n)).length ≤ (By L).length) := hidden (by rw [By_length, By_length, hL, fB_length]; omega)
  have a1 : ¬ P = t := by omega
  have a2 : (t : Int) ≤ (P : Int) := by omega
  have a3 : t ≤ P := by omega
  have a4 : (P : Int) ≤ 65536 := by omega
  clear hi hz0 hz1 hz2 h
  go_enter Tryd.func49, Tryd.ntmps49
  go_wp2_with fail
  go_region_law (first
    | (go_simp; go_at_call 66; refine (HF.out _ (by first | exact ⟨0, rfl⟩ | exact ⟨1, rfl⟩ | exact ⟨2, rfl⟩)).mono ?_; rintro e v2 ⟨fb, fo, fc, rfl, HS2, HK2, HB2⟩)
    | (refine step_copy_rw rfl _ _ 50 50 rfl 5 Tryd.underlying50 hsz g t (P - t) (P - t) ⟨fb, fo, none⟩ wd fc rfl rfl (By L) 5 HK2.out (By (fB wd n)) HM4.out (sl_src5 HS2.out) HF4.out (By_one _) ?_; intro u3 HU))
  all_goals
    have HK3 : Hid (Bk u3 g (splice L t (fB wd n)) ∧ Cf (· = g) w u3) := hidden (by
      constructor
      · unfold Bk
        rw [HU.out, setRow_heap _ _ _ _ _ _ HK2.out, By_splice5]
      · rw [HU.out]
        exact (Cf.of_below HB2.out).go ⟨rfl, rfl, rfl, by simp [World.setRow], fun k _ hf => setRow_other _ _ _ _ hf⟩)
    clear HU HS2 HK2 HB2 HM4 HF4 HF
    go_end0
    exact ⟨rfl, HK3⟩
set_option maxRecDepth 100000 in
theorem numberAt_any (ao : Option Addr) (n cap : Nat) (l : List Int) (p wd : Nat) (w : World) (hs : Sl w ao n cap l) (h1 : 1 ≤ wd) (h2 : wd ≤ 4) (hp : p + wd ≤ n) : Calls Tryd.prog 52 #[.slice ao n cap, .int .i64 (p : Int), .int .i64 (wd : Int)] w fun e w' => e = .returned (.int .i64 (rdN l p wd)) ∧ w' = w := by
  have hr := readFixed_ok ao n cap l (p : Int) (wd : Int) w hs (by omega) (by omega) (by omega) (by omega)
  have hb := rdN_bound l hs.wf p wd
  rw [Int.toNat_natCast, Int.toNat_natCast, show rdB ((l.drop p).take wd) = rdN l p wd from rfl] at hr
  have hb2 : rdN l p wd < 4294967296 := by
    have : (256 : Int) ^ wd ≤ 256 ^ 4 := by
      have hc : wd = 1 ∨ wd = 2 ∨ wd = 3 ∨ wd = 4 := by omega
      rcases hc with rfl | rfl | rfl | rfl <;> decide
    have e : (256 : Int) ^ 4 = 4294967296 := by decide
    omega
  generalize rdN l p wd = r at *
  have hw : IntKind.i64.wrap r = r := by rw [IntKind.wrap_i64]; omega
  clear hs
  go_enter Tryd.func52, Tryd.ntmps52
  go_wp2_with (go_at_call 69; refine same_call hr ?_)
  go_ret
  exact ⟨rfl, rfl⟩
end Go.Proofs.YtedgpcckbdnijaaDoor
