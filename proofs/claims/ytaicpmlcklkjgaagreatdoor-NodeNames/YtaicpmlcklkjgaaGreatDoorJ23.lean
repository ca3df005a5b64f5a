/- ink.ReadUint reads a number in groups of seven bits. -/
import Derived.Test.YtaicpmlcklkjgaaGreatDoorJ01
import Derived.Test.YtaicpmlcklkjgaaGreatDoorJ04
import Derived.Test.YtaicpmlcklkjgaaGreatDoorJ11
import Derived.Test.YtaicpmlcklkjgaaGreatDoorJ12
import Derived.Test.YtaicpmlcklkjgaaGreatDoorJ22
namespace Go.Proofs.YtaicpmlcklkjgaaGreatDoor
open Go.RowKit

set_option maxRecDepth 100000 in
set_option maxHeartbeats 400000 in
theorem readUint_end (ao : Option Addr) (n cap : Nat) (w : World) (hn : n ≤ 140737488355328) :
    Calls Tryz.prog 237 #[.slice ao n cap, .int .i64 n] w fun e w' => e = .returned (.tuple #[.int .u64 0, .int .i64 0, .int .i64 10]) ∧ w' = w := by
  go_enter Tryz.func237, Tryz.ntmps237
  go_wp2_with (go_at_call 240; refine same_call (isPlace_yes _ _ _ _ _ (by omega) (by omega)) ?_)
  all_goals
    refine wp_loop_rounds 1 ?_
    rw [rounds_succ]
    go_wp2
    go_ret3
    exact ⟨rfl, rfl⟩
set_option maxRecDepth 100000 in
set_option maxHeartbeats 400000 in
theorem readUint_in (b off n cap : Nat) (l : List Int) (p : Nat) (w : World) (hs : Sl w (some ⟨b, off, none⟩) n cap l) (hp : p < n) :
    Calls Tryz.prog 237 #[.slice (some ⟨b, off, none⟩) n cap, .int .i64 p] w fun e w' => e = .returned (.tuple #[.int .u64 (rU p (l.drop p) 0 0).1, .int .i64 (rU p (l.drop p) 0 0).2.1, .int .i64 (rU p (l.drop p) 0 0).2.2]) ∧ w' = w := by
  obtain ⟨hlen, hcap, hroom, hwf, hnil, hat⟩ := hs
  rcases hat with h | ⟨b', off', he, hb, hc⟩
  · omega
  cases he
  go_enter Tryz.func237, Tryz.ntmps237
  go_wp2_with (go_at_call 240; refine same_call (isPlace_yes _ _ _ _ _ (by omega) (by omega)) ?_)
  go_loop [7, 18] (fun v i => ∃ (k : Nat) (m : Int), k ≤ n - p ∧ k ≤ 9 ∧ i = .int .i64 k ∧ v = .int .u64 m ∧ 0 ≤ m ∧ m < 128 ^ k ∧ rU p (l.drop (p + k)) k m = rU p (l.drop p) 0 0) (fun _ i => (n - p) - (intOf i).toNat)
  case atStart => exact ⟨0, 0, by omega, by omega, rfl, rfl, by omega, by simp, rfl⟩
  case round =>
    obtain ⟨k, m, hk, hk9, rfl, rfl, hm0, hm, hR⟩ := hrel
    have HR := hidden hR
    clear hR
    by_cases hlt : k < n - p
    · have hck : w.cell? ⟨b, off + p + k, none⟩ = some (.int .u8 (l.getD (p + k) 0)) := by
        rw [Nat.add_assoc, hc (p + k) (by omega)]
      have hby := hwf.getD (p + k)
      have HD := hidden (drop_cons l (p + k) (by omega))
      generalize l.getD (p + k) 0 = c at *
      by_cases h9 : k = 9 ∧ 1 < c
      · obtain ⟨rfl, hc1⟩ := h9
        have e : rU p (l.drop p) 0 0 = (0, 0, 12) := by rw [← HR.out, HD.out, rU, if_pos ⟨rfl, hc1⟩]
        have HE := hidden e
        clear e
        go_wp2
        go_ret3
        exact ⟨by rw [HE.out]; rfl, rfl⟩
      · by_cases hcc : 128 ≤ c
        · have hand := andNot_hi c hcc hby.2
          have h9' : k < 9 := by omega
          clear h9
          have hup := or_up m (c - 128) k hm0 hm (by omega) (by omega) (.inl h9')
          have HU := hidden hup.1
          have HL := hidden hup.2.1
          have hd0 : 0 ≤ (c - 128) * 128 ^ k := Int.mul_nonneg (by omega) (Int.le_of_lt (Int.pow_pos (by omega)))
          clear hup
          go_wp2
          go_round
          case rel =>
            refine ⟨k + 1, m + (c - 128) * 128 ^ k, by omega, by omega, by go_num, by rw [HU.out], by omega, HL.out, ?_⟩
            rw [← HR.out, HD.out, rU, if_neg (by omega), if_pos hcc, Nat.add_assoc]
          case measure => simp [intOf]; omega
        · have hand := andNot_lo c hby.1 (by omega)
          have hup := or_up m c k hm0 hm (by omega) (by omega) (by omega)
          have HU := hidden hup.1
          clear hup
          by_cases h0 : c = 0 ∧ 0 < k
          · obtain ⟨rfl, hk0⟩ := h0
            have e : rU p (l.drop p) 0 0 = (0, 0, 11) := by rw [← HR.out, HD.out, rU, if_neg (by omega), if_neg (by omega), if_pos ⟨rfl, hk0⟩]
            have HE := hidden e
            clear e HU
            by_cases h9k : k = 9
            · subst h9k
              go_wp2
              go_ret3
              exact ⟨by rw [HE.out]; rfl, rfl⟩
            · have hb9 : ((k : Int) == 9) = false := by simp; omega
              go_wp2
              go_ret3
              exact ⟨by rw [HE.out]; rfl, rfl⟩
          · have e : rU p (l.drop p) 0 0 = (m + c * 128 ^ k, (p : Int) + k + 1, 0) := by rw [← HR.out, HD.out, rU, if_neg (by omega), if_neg (by omega), if_neg h0]
            have HE := hidden e
            clear e
            by_cases h9k : k = 9
            · subst h9k
              obtain rfl : c = 1 := by omega
              have hor := HU.out
              rw [show IntKind.u64.wrap (1 * 2 ^ (7 * 9)) = 9223372036854775808 by rw [IntKind.wrap_u64]; decide] at hor
              have HO := hidden hor
              clear hor HU
              go_wp2
              go_ret3
              exact ⟨by rw [HE.out, ← HO.out]; rfl, rfl⟩
            · have hb9 : ((k : Int) == 9) = false := by simp; omega
              by_cases hc0 : c = 0
              · subst hc0
                have hk0 : k ≤ 0 := by omega
                have ho : bits .or .u64 m 0 = m := by
                  have := HU.out
                  simp only [Int.zero_mul, Int.add_zero] at this
                  rw [show IntKind.u64.wrap 0 = 0 by decide] at this
                  exact this
                have hE := HE.out
                simp only [Int.zero_mul, Int.add_zero] at hE
                have HE' := hidden hE
                clear hE HE HU
                go_wp2
                go_ret3
                exact ⟨by rw [HE'.out]; rfl, rfl⟩
              · have hb0 : (c == 0) = false := by simp; omega
                go_wp2
                go_ret3
                exact ⟨by rw [HE.out, ← HU.out]; rfl, rfl⟩
    · have e : rU p (l.drop p) 0 0 = (0, 0, 10) := by rw [← HR.out, List.drop_eq_nil_of_le (by omega), rU]
      have HE := hidden e
      clear e
      go_wp2
      go_ret3
      exact ⟨by rw [HE.out]; rfl, rfl⟩
set_option maxRecDepth 100000 in
theorem readUint_any (ao : Option Addr) (n cap : Nat) (l : List Int) (p' : Int) (w : World) (hs : Sl w ao n cap l) (h0 : 0 ≤ p') (hp : p' ≤ n) :
    Calls Tryz.prog 237 #[.slice ao n cap, .int .i64 p'] w fun e w' => e = .returned (.tuple #[.int .u64 (rU p' (l.drop p'.toNat) 0 0).1, .int .i64 (rU p' (l.drop p'.toNat) 0 0).2.1, .int .i64 (rU p' (l.drop p'.toNat) 0 0).2.2]) ∧ w' = w := by
  obtain ⟨p, rfl⟩ := Int.eq_ofNat_of_zero_le h0
  rw [Int.toNat_natCast]
  by_cases h : p = n
  · subst h
    rw [List.drop_eq_nil_of_le (by rw [hs.hlen]; exact Nat.le_refl _)]
    exact readUint_end ao p cap w hs.hroom
  · rcases hs.hat with h' | ⟨b, off, rfl, hb, hc⟩
    · omega
    · exact readUint_in b off n cap l p w hs (by omega)
end Go.Proofs.YtaicpmlcklkjgaaGreatDoor

/- packed.reader: what stands while it reads. -/

namespace Go.Proofs.YtaicpmlcklkjgaaGreatDoor
open Go.RowKit

/-- A reader. -/
def Rdq (w : World) (r : Nat) (ao : Option Addr) (n cap at_ : Nat) (en : Bool) : Prop := w.heap[r]? = some (.cells #[.slice ao n cap, .int .i64 (at_ : Int), .bool en] 194 (0, 0))
set_option maxRecDepth 100000 in
theorem Rdq.c0 {w : World} {r : Nat} {ao : Option Addr} {n cap at_ : Nat} {en : Bool} (h : Rdq w r ao n cap at_ en) : w.cell? ⟨r, 0, none⟩ = some (.slice ao n cap) := by rw [cell_of_row _ _ 0 _ _ _ h]; rfl
set_option maxRecDepth 100000 in
theorem Rdq.c1 {w : World} {r : Nat} {ao : Option Addr} {n cap at_ : Nat} {en : Bool} (h : Rdq w r ao n cap at_ en) : w.cell? ⟨r, 1, none⟩ = some (.int .i64 (at_ : Int)) := by rw [cell_of_row _ _ 1 _ _ _ h]; rfl
set_option maxRecDepth 100000 in
theorem Rdq.c2 {w : World} {r : Nat} {ao : Option Addr} {n cap at_ : Nat} {en : Bool} (h : Rdq w r ao n cap at_ en) : w.cell? ⟨r, 2, none⟩ = some (.bool en) := by rw [cell_of_row _ _ 2 _ _ _ h]; rfl
set_option maxRecDepth 100000 in
theorem Rdq.free {w : World} {r : Nat} {ao : Option Addr} {n cap at_ : Nat} {en : Bool} (h : Rdq w r ao n cap at_ en) (k : Nat) : w.frozen? ⟨r, k, none⟩ = false := by
  unfold Rdq at h
  simp [World.frozen?, h]
set_option maxRecDepth 100000 in
theorem Rdq.drewN {w : World} {r : Nat} {ao : Option Addr} {n cap at_ : Nat} {en : Bool} (h : Rdq w r ao n cap at_ en) (q : Nat) : Rdq (w.drewN q) r ao n cap at_ en := h
set_option maxRecDepth 100000 in
theorem Rdq.lt {w : World} {r : Nat} {ao : Option Addr} {n cap at_ : Nat} {en : Bool} (h : Rdq w r ao n cap at_ en) : r < w.heap.size := lt_some h
set_option maxRecDepth 100000 in
theorem Rdq.set1 {w : World} {r : Nat} {ao : Option Addr} {n cap at_ : Nat} {en : Bool} (h : Rdq w r ao n cap at_ en) (x : Nat) : Rdq (w.setCell ⟨r, 1, none⟩ (.int .i64 (x : Int))) r ao n cap x en := by
  unfold Rdq at *
  have := set_row (w := w) (a := r) (cs := [.slice ao n cap, .int .i64 (at_ : Int), .bool en]) (i := 1) (u := .int .i64 (x : Int)) h
  simpa using this
set_option maxRecDepth 100000 in
theorem Rdq.set2 {w : World} {r : Nat} {ao : Option Addr} {n cap at_ : Nat} {en : Bool} (h : Rdq w r ao n cap at_ en) (x : Bool) : Rdq (w.setCell ⟨r, 2, none⟩ (.bool x)) r ao n cap at_ x := by
  unfold Rdq at *
  have := set_row (w := w) (a := r) (cs := [.slice ao n cap, .int .i64 (at_ : Int), .bool en]) (i := 2) (u := .bool x) h
  simpa using this
set_option maxRecDepth 100000 in
/-- The bytes don't lie in the reader. -/
theorem Sl.apartq {w : World} {ao : Option Addr} {n cap : Nat} {l : List Int} (h : Sl w ao n cap l) {r : Nat} {a : Option Addr} {b c d : Nat} {en : Bool} (hr : Rdq w r a b c d en) : n = 0 ∨ ∀ p, ao = some p → p.block ≠ r := by
  rcases h.hat with h0 | ⟨g, off, rfl, hg, hc⟩
  · exact .inl h0
  · rcases Nat.eq_zero_or_pos n with h0 | h0
    · exact .inl h0
    · right
      rintro p hp rfl
      injection hp with hp
      subst hp
      have h1 := hc 0 h0
      rw [cell_of_row _ _ _ _ _ _ hr] at h1
      rcases Nat.lt_or_ge (off + 0) 3 with h3 | h3
      · have h4 : off + 0 = 0 ∨ off + 0 = 1 ∨ off + 0 = 2 := by omega
        rcases h4 with h4 | h4 | h4 <;> (rw [h4] at h1; simp at h1)
      · rw [Array.getElem?_eq_none (by simpa using h3)] at h1
        cases h1
/-- What number comes to. -/
def UNumTo (l : List Int) (w : World) (r : Nat) (ao : Option Addr) (n cap at_ : Nat) (en : Bool) (e : Ending) (w' : World) : Prop :=
  ∃ (v : Int) (p : Nat) (en' : Bool), e = .returned (.int .u64 v) ∧ Hid (Rdq w' r ao n cap p en') ∧ Hid (Cf (· = r) w w') ∧ Hid ((0 ≤ v ∧ v < 18446744073709551616) ∧ p ≤ n ∧ ((pU (l.drop at_) = some (v, l.drop p) ∧ en' = en) ∨ (pU (l.drop at_) = none ∧ en' = true ∧ v = 0 ∧ p = at_)))
set_option maxRecDepth 100000 in
theorem rU_shift (l : List Int) : ∀ (p : Int) (i : Nat) (n : Int), (rU p l i n).1 = (rU 0 l i n).1 ∧ (rU p l i n).2.2 = (rU 0 l i n).2.2 ∧ ((rU 0 l i n).2.2 = 0 → (rU p l i n).2.1 = p + (rU 0 l i n).2.1) := by
  induction l with
  | nil => intro p i n; simp [rU]
  | cons c r ih =>
    intro p i n
    rw [rU, rU]
    split
    · simp
    · split
      · exact ih p (i + 1) _
      · split
        · simp
        · refine ⟨rfl, rfl, fun _ => ?_⟩
          simp only
          omega
set_option maxRecDepth 100000 in
set_option maxHeartbeats 1000000 in
theorem unumber_any (l : List Int) (w : World) (r : Nat) (ao : Option Addr) (n cap at_ : Nat) (en : Bool) (hr : Rdq w r ao n cap at_ en) (hs : Sl w ao n cap l) (ha : at_ ≤ n) :
    Calls Tryz.prog 231 #[.pointer (some ⟨r, 0, none⟩)] w fun e w' => UNumTo l w r ao n cap at_ en e w' := by
  have c0 := hr.c0
  have c1 := hr.c1
  have c2 := hr.c2
  have f1 := hr.free 1
  have f2 := hr.free 2
  have hn := hs.hroom
  have HR := hidden hr
  have hlen := hs.hlen
  have HF : Hid (∀ q, Calls Tryz.prog 237 #[.slice ao n cap, .int .i64 (at_ : Int)] (w.drewN q) fun e w' => e = .returned (.tuple #[.int .u64 (rU (at_ : Int) (l.drop at_) 0 0).1, .int .i64 (rU (at_ : Int) (l.drop at_) 0 0).2.1, .int .i64 (rU (at_ : Int) (l.drop at_) 0 0).2.2]) ∧ w' = w.drewN q) :=
    hidden fun q => by simpa using readUint_any ao n cap l (at_ : Int) (w.drewN q) (hs.drewN q) (by omega) (by omega)
  obtain ⟨s1, s2, s3⟩ := rU_shift (l.drop at_) (at_ : Int) 0 0
  have hsp := rU_spec (l.drop at_) 0 0 0 (hs.wf.drop at_) (by omega) (by omega) (by omega)
  rw [s1, s2] at HF
  by_cases h : (rU 0 (l.drop at_) 0 0).2.2 = 0
  · obtain ⟨k, M, k1, k2, k3, k4, k5, k6⟩ : ∃ (k : Nat) (M : Int), 1 ≤ k ∧ k ≤ (l.drop at_).length ∧ (rU 0 (l.drop at_) 0 0).2.1 = k ∧ 0 ≤ M ∧ (rU 0 (l.drop at_) 0 0).1 = M ∧ (rU 0 (l.drop at_) 0 0).1 < 18446744073709551616 := by
      rcases hsp with ⟨g, _⟩ | ⟨_, k, M, g1, g2, g3, g4, g5, g6, _, _⟩
      · exact absurd h g
      · exact ⟨k, M, g1, g2, by rw [g3]; simp, g4, by rw [g5]; simp, g6⟩
    have e3 := s3 h
    rw [k3] at e3
    rw [e3, h, k5] at HF
    rw [k5] at k6
    have HP : Hid (pU (l.drop at_) = some (M, l.drop (at_ + k))) := hidden (by
      unfold pU
      rw [if_pos h, k5, k3, Int.toNat_natCast, List.drop_drop])
    rw [List.length_drop, hlen] at k2
    have bM : M ≤ 18446744073709551615 := by omega
    have HS : ∀ q, Hid (Rdq ((w.drewN q).setCell ⟨r, 1, none⟩ (.int .i64 ((at_ + k : Nat) : Int))) r ao n cap (at_ + k) en) := fun q => hidden (Rdq.set1 (HR.out.drewN q) (at_ + k))
    clear hs s1 s2 s3 hsp h k3 k5 e3
    go_enter Tryz.func231, Tryz.ntmps231
    go_wp2_with fail
    go_quiet (first | (go_at_call 237; exact Calls.quiet_of_same (HF.out _)))
    go_wp2
    go_ret
    exact ⟨M, at_ + k, en, rfl, by simpa using HS _, hidden ((Cf.drew _ _ _).go (Cf.set _ _ _ _)), hidden ⟨⟨k4, k6⟩, by omega, .inl ⟨HP.out, rfl⟩⟩⟩
  · have HP : Hid (pU (l.drop at_) = none) := hidden (by unfold pU; rw [if_neg h])
    have hz : (rU 0 (l.drop at_) 0 0).1 = 0 := by
      rcases hsp with ⟨_, g, _⟩ | ⟨g, _⟩
      · exact g
      · exact absurd g h
    have d1 : ((rU 0 (l.drop at_) 0 0).2.2 == 0) = false := by simpa using h
    generalize (rU 0 (l.drop at_) 0 0).2.2 = er at *
    generalize (rU (at_ : Int) (l.drop at_) 0 0).2.1 = pe at *
    rw [hz] at HF
    clear hs s1 s2 s3 hsp hz
    go_enter Tryz.func231, Tryz.ntmps231
    go_wp2_with fail
    go_quiet (first | (go_at_call 237; exact Calls.quiet_of_same (HF.out _)))
    go_wp2
    go_ret
    exact ⟨0, at_, true, rfl, hidden (Rdq.set2 (HR.out.drewN _) true), hidden ((Cf.drew _ _ _).go (Cf.set _ _ _ _)), hidden ⟨⟨by omega, by omega⟩, ha, .inr ⟨HP.out, rfl, rfl, rfl⟩⟩⟩
end Go.Proofs.YtaicpmlcklkjgaaGreatDoor
