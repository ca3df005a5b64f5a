/- The document's ReadFixed (of RefReads, alone). -/
import Derived.Test.YtobfkcepjnjfpaaGreatDoorJ03
import Derived.Test.YtobfkcepjnjfpaaGreatDoorJ34
import Derived.Test.YtobfkcepjnjfpaaGreatDoorJ24
import Derived.Test.YtobfkcepjnjfpaaGreatDoorJ05
namespace Go.Proofs.YtobfkcepjnjfpaaGreatDoor
open Go.RowKit

/-- What ReadFixed comes to. -/
def rF (l : List Int) (p x : Int) : Int × Int := if (x < 1 ∨ 8 < x) ∨ (p < 0 ∨ l.length < p) then (0, 1) else if (l.length : Int) - p < x then (0, 10) else (rdB ((l.drop p.toNat).take x.toNat), 0)
set_option maxRecDepth 100000 in
set_option maxHeartbeats 1000000 in
theorem refReadFixed_all (ao : Option Addr) (n cap : Nat) (l : List Int) (p' x : Int) (w : World) (hs : Sl w ao n cap l) :
    Calls Tryz.prog 24 #[.slice ao n cap, .int .i64 p', .int .i64 x] w fun e w' => e = .returned (.tuple #[.int .u64 (rF l p' x).1, .int .i64 (rF l p' x).2]) ∧ w' = w := by
  obtain ⟨hlen, hcap, hroom, hwf, hnil, hat⟩ := hs
  unfold rF
  by_cases h : (x < 1 ∨ 8 < x) ∨ (p' < 0 ∨ l.length < p')
  · rw [if_pos h]
    rw [hlen] at h
    rcases h with (h | h) | (h | h)
    · go_enter Tryz.func24, Tryz.ntmps24
      go_wp2
      go_ret2
      exact ⟨rfl, rfl⟩
    · have h' : ¬ x < 1 := by omega
      go_enter Tryz.func24, Tryz.ntmps24
      go_wp2
      go_ret2
      exact ⟨rfl, rfl⟩
    · by_cases h1 : x < 1
      · go_enter Tryz.func24, Tryz.ntmps24
        go_wp2
        go_ret2
        exact ⟨rfl, rfl⟩
      · by_cases h8 : 8 < x
        all_goals
          go_enter Tryz.func24, Tryz.ntmps24
          go_wp2
          go_ret2
          exact ⟨rfl, rfl⟩
    · by_cases h1 : x < 1
      · go_enter Tryz.func24, Tryz.ntmps24
        go_wp2
        go_ret2
        exact ⟨rfl, rfl⟩
      · have hp0 : ¬ p' < 0 := by omega
        by_cases h8 : 8 < x
        all_goals
          go_enter Tryz.func24, Tryz.ntmps24
          go_wp2
          go_ret2
          exact ⟨rfl, rfl⟩
  · rw [if_neg h]
    rw [hlen] at h ⊢
    have h1 : 1 ≤ x := by omega
    have h2 : x ≤ 8 := by omega
    have h3 : 0 ≤ p' := by omega
    have h4 : p' ≤ n := by omega
    clear h
    by_cases h5 : (n : Int) - p' < x
    · rw [if_pos h5]
      go_enter Tryz.func24, Tryz.ntmps24
      go_wp2
      go_ret2
      exact ⟨rfl, rfl⟩
    · rw [if_neg h5]
      obtain ⟨width, rfl⟩ := Int.eq_ofNat_of_zero_le (show 0 ≤ x by omega)
      obtain ⟨p, rfl⟩ := Int.eq_ofNat_of_zero_le h3
      rw [Int.toNat_natCast, Int.toNat_natCast]
      rcases hat with h | ⟨b, off, rfl, hb, hc⟩
      · omega
      have hd : ((l.drop p).take width).length = width := by simp; omega
      have hwd : Wf ((l.drop p).take width) := (hwf.drop p).take width
      go_enter Tryz.func24, Tryz.ntmps24
      go_wp2_with fail
      go_loop [8, 9] (fun v i => ∃ k : Nat, k ≤ width ∧ i = .int .i64 ((p : Int) + k) ∧ v = .int .u64 (rdB (((l.drop p).take width).take k))) (fun _ i => ((p : Int) + width - intOf i).toNat)
      case atStart => exact ⟨0, by omega, by simp, by simp [rdB]⟩
      case round =>
        obtain ⟨k, hk, rfl, rfl⟩ := hrel
        by_cases hlt : k < width
        · have hck : w.cell? ⟨b, off + (p + k), none⟩ = some (.int .u8 (((l.drop p).take width).getD k 0)) := by
            rw [hc (p + k) (by omega)]
            simp [List.getD, hlt]
          have hby := hwd.getD k
          have hsm := rdB_small _ (hwd.take k) k (by omega) (by simp; omega)
          have hsn : rdB (((l.drop p).take width).take (k + 1)) = rdB (((l.drop p).take width).take k) * 256 + ((l.drop p).take width).getD k 0 := by
            rw [take_snoc _ k (by omega), rdB_snoc]
          generalize ((l.drop p).take width).getD k 0 = c at *
          generalize rdB (((l.drop p).take width).take k) = m at *
          have HS := hidden hsn
          clear hsn hc
          go_wp2
          go_round
          case rel => exact ⟨k + 1, by omega, by go_num, by rw [HS.out, Int.mul_comm m 256]⟩
          case measure => simp [intOf]; omega
        · obtain rfl : k = width := by omega
          have ht : ((l.drop p).take k).take k = (l.drop p).take k := List.take_of_length_le (by omega)
          go_wp2
          go_ret2
          exact ⟨rfl, rfl⟩
end Go.Proofs.YtobfkcepjnjfpaaGreatDoor

/- Layer 7: the document's part; what ReadUint says of bytes. -/

namespace Go.Proofs.YtobfkcepjnjfpaaGreatDoor
open Go.RowKit

set_option maxRecDepth 100000 in
/-- Where ReadUint reads. -/
theorem ru_ok {l : List Int} {p : Nat} (hw : Wf l) (hp : p ≤ l.length) (h : (rUx l (p : Int)).2.2 = 0) : ∃ (v t9 : Nat), rUx l (p : Int) = ((v : Int), (t9 : Int), 0) ∧ l.drop p = uB (v : Int) ++ l.drop t9 ∧ p < t9 ∧ t9 ≤ l.length ∧ (v : Int) < 18446744073709551616 := by
  unfold rUx at h ⊢
  rw [if_neg (by omega)] at h ⊢
  rw [Int.toNat_natCast] at h ⊢
  obtain ⟨s1, s2, s3⟩ := rU_shift (l.drop p) (p : Int) 0 0
  rw [s2] at h
  have hpu : pU (l.drop p) = some ((rU 0 (l.drop p) 0 0).1, (l.drop p).drop (rU 0 (l.drop p) 0 0).2.1.toNat) := by
    unfold pU
    rw [if_pos h]
  obtain ⟨e1, h0, h1, _⟩ := pU_inv (hw.drop p) hpu
  generalize (rU 0 (l.drop p) 0 0).1 = v at *
  generalize (l.drop p).drop (rU 0 (l.drop p) 0 0).2.1.toNat = r at *
  obtain ⟨x, rfl⟩ := Int.eq_ofNat_of_zero_le h0
  have hl := congrArg List.length e1
  rw [List.length_drop, List.length_append] at hl
  have hu := uB_length_pos (x : Int)
  refine ⟨x, p + (uB (x : Int)).length, ?_, ?_, by omega, by omega, h1⟩
  · rw [e1, rU_uB _ _ _ h0 h1]
    simp
  · rw [← List.drop_drop, e1, List.drop_left]
set_option maxRecDepth 100000 in
theorem ru_no {l : List Int} {p : Nat} (hp : p ≤ l.length) (h : (rUx l (p : Int)).2.2 ≠ 0) (v : Int) (R : List Int) (h0 : 0 ≤ v) (h1 : v < 18446744073709551616) : l.drop p ≠ uB v ++ R := fun e => by
  unfold rUx at h
  rw [if_neg (by omega), Int.toNat_natCast, e, rU_uB _ _ _ h0 h1] at h
  exact h rfl
set_option maxRecDepth 100000 in
theorem part_no (ao : Option Addr) (n cap at_ : Nat) (m : Int) (w : World) (ha : at_ ≤ n) (hn : n ≤ 65536) (hm : (n : Int) - (at_ : Int) < m) :
    Calls Tryz.prog 25 #[.slice ao n cap, .int .i64 (at_ : Int), .int .u64 m] w fun e w' => e = .returned (.tuple #[.slice none 0 0, .bool false]) ∧ w' = w := by
  obtain ⟨D, hD⟩ : ∃ D, n - at_ = D := ⟨_, rfl⟩
  have hDI : (n : Int) - (at_ : Int) = (D : Int) := by omega
  have hlt : (D : Int) < m := by omega
  have hDb : (D : Int) ≤ 65536 := by omega
  have hnI : (n : Int) ≤ 65536 := by omega
  have haI : (at_ : Int) ≤ 65536 := by omega
  clear hm hD ha
  go_enter Tryz.func25, Tryz.ntmps25
  go_wp2
  go_ret2
  exact ⟨rfl, rfl⟩
set_option maxRecDepth 100000 in
theorem part_yes (g off n cap at_ M : Nat) (l : List Int) (w : World) (hs : Sl w (some ⟨g, off, none⟩) n cap l) (hn : n ≤ 65536) (hM : at_ + M ≤ n) :
    ∃ po pc, (∀ u, Calls Tryz.prog 25 #[.slice (some ⟨g, off, none⟩) n cap, .int .i64 (at_ : Int), .int .u64 (M : Int)] u fun e w' => e = .returned (.tuple #[.slice po M pc, .bool true]) ∧ w' = u) ∧ (∀ u, Below w.heap.size w u → Sl u po M pc ((l.drop at_).take M)) ∧ ∀ p, po = some p → p.block = g := by
  have hc := hs.hcap
  have HS := hidden hs
  obtain ⟨D, hD⟩ : ∃ D, n - at_ = D := ⟨_, rfl⟩
  have hDI : (n : Int) - (at_ : Int) = (D : Int) := by omega
  have hlt : ¬ (D : Int) < (M : Int) := by omega
  have hDb : (D : Int) ≤ 65536 := by omega
  have hnI : (n : Int) ≤ 65536 := by omega
  have haI : (at_ : Int) ≤ 65536 := by omega
  have hMI : (M : Int) ≤ 65536 := by omega
  obtain ⟨t, ht⟩ : ∃ t, at_ + M = t := ⟨_, rfl⟩
  have htI : (at_ : Int) + (M : Int) = (t : Int) := by omega
  have htc : (t : Int) ≤ (cap : Int) := by omega
  have hat : (at_ : Int) ≤ (t : Int) := by omega
  have htm : t - at_ = M := by omega
  by_cases e : cap = at_
  · obtain rfl : M = 0 := by omega
    refine ⟨some ⟨g, off, none⟩, 0, fun u => ?_, fun u hu => ?_, fun p hp => by cases hp; rfl⟩
    · have hx1 : cap - at_ = 0 := by omega
      clear hs hD hM hc ht
      go_enter Tryz.func25, Tryz.ntmps25
      go_wp2
      go_ret2
      exact ⟨by simp, rfl⟩
    · rw [List.take_zero]
      exact Sl.nil_any _ _ _ (fun h => by cases h)
  · refine ⟨some ⟨g, off + at_, none⟩, cap - at_, fun u => ?_, fun u hu => (HS.out.on (Nat.le_refl _) hu).piece at_ M (cap - at_) hM (by omega), fun p hp => by cases hp; rfl⟩
    have hx1 : ¬ cap - at_ = 0 := by omega
    have hx2 : at_ < cap := by omega
    clear hs hD hM hc ht
    go_enter Tryz.func25, Tryz.ntmps25
    go_wp2
    go_ret2
    exact ⟨by simp, rfl⟩
end Go.Proofs.YtobfkcepjnjfpaaGreatDoor

/- Layer 7: what the document's read comes to, in plain words. -/

namespace Go.Proofs.YtobfkcepjnjfpaaGreatDoor
open Go.RowKit

/-- A cell as it may be read: its numbers within bounds. -/
structure Gd7 (c : Cl) : Prop where
  k0 : 0 ≤ c.kd
  k1 : c.kd ≤ 255
  v1 : c.kd = 1 → c.pg = 0 ∧ c.ct = 0
  v2 : c.kd ≠ 1 → c.val = [] ∧ 0 ≤ c.pg ∧ c.pg ≤ 65536 ∧ 0 ≤ c.ct ∧ c.ct ≤ 1073741824
  l1 : c.key.length ≤ 65536
  l2 : c.val.length ≤ 65536
/-- What stands behind the key. -/
def qtl (c : Cl) : List Int := if c.kd = 1 then uB c.val.length ++ c.val else uB (c.pg % 18446744073709551616) ++ uB (c.ct % 18446744073709551616)
set_option maxRecDepth 100000 in
theorem qB_split (c : Cl) (R : List Int) : qB 0 c ++ R = (c.kd % 256) :: (uB (c.key.length : Int) ++ (c.key ++ (qtl c ++ R))) := by
  unfold qB qtl
  simp
set_option maxRecDepth 100000 in
theorem uB_inj {a b : Int} {R S : List Int} (ha : 0 ≤ a) (ha1 : a < 18446744073709551616) (hb : 0 ≤ b) (hb1 : b < 18446744073709551616) (h : uB a ++ R = uB b ++ S) : a = b ∧ R = S := by
  have h1 := rU_uB 0 a R ha ha1
  have h2 := rU_uB 0 b S hb hb1
  rw [h] at h1
  have e : a = b := by
    have := h1.symm.trans h2
    injection this
  subst e
  exact ⟨rfl, List.append_cancel_left h⟩
/-- No cell begins there. -/
def No7 (l : List Int) (at_ : Nat) : Prop := ∀ c R, Gd7 c → l.drop at_ ≠ qB 0 c ++ R
/-- The cell that begins there, and where it ends. -/
def Is7 (l : List Int) (at_ t : Nat) (c : Cl) : Prop := Gd7 c ∧ c.Wf ∧ l.drop at_ = qB 0 c ++ l.drop t ∧ at_ < t ∧ t ≤ l.length
set_option maxRecDepth 100000 in
theorem no_end {l : List Int} {at_ : Nat} (h : l.length ≤ at_) : No7 l at_ := fun c R _ e => by
  rw [List.drop_eq_nil_of_le h, qB_split] at e
  cases e
set_option maxRecDepth 100000 in
/-- What is there, behind the first byte. -/
theorem at_cons {l : List Int} {at_ : Nat} (h : at_ < l.length) : l.drop at_ = l.getD at_ 0 :: l.drop (at_ + 1) := drop_cons l at_ h
set_option maxRecDepth 100000 in
theorem no_key {l : List Int} {at_ : Nat} (h : at_ < l.length) (he : (rUx l ((at_ + 1 : Nat) : Int)).2.2 ≠ 0) : No7 l at_ := fun c R g e => by
  rw [at_cons h, qB_split] at e
  injection e with _ e
  exact ru_no (by omega) he _ _ (by omega) (by have := g.l1; omega) e
set_option maxRecDepth 100000 in
theorem no_rest {l : List Int} {at_ v t : Nat} (h : at_ < l.length) (hv : (v : Int) < 18446744073709551616) (h1 : l.drop (at_ + 1) = uB (v : Int) ++ l.drop t) (ht : t ≤ l.length) (hno : l.length < t + v) : No7 l at_ := fun c R g e => by
  rw [at_cons h, qB_split] at e
  injection e with _ e
  rw [h1] at e
  obtain ⟨e1, e2⟩ := uB_inj (by omega) hv (by omega) (by have := g.l1; omega) e
  have := congrArg List.length e2
  simp only [List.length_append, List.length_drop] at this
  omega
set_option maxRecDepth 100000 in
/-- Up to the key. -/
theorem to_key {l : List Int} {at_ v t : Nat} (h : at_ < l.length) (hv : (v : Int) < 18446744073709551616) (h1 : l.drop (at_ + 1) = uB (v : Int) ++ l.drop t) {c : Cl} {R : List Int} (g : Gd7 c) (e : l.drop at_ = qB 0 c ++ R) : c.kd = l.getD at_ 0 ∧ l.drop (t + v) = qtl c ++ R := by
  rw [at_cons h, qB_split] at e
  injection e with e0 e
  rw [h1] at e
  obtain ⟨e1, e2⟩ := uB_inj (by omega) hv (by omega) (by have := g.l1; omega) e
  have := g.k0
  have := g.k1
  refine ⟨by omega, ?_⟩
  have hv2 : v = c.key.length := by omega
  rw [← List.drop_drop, e2, hv2, List.drop_left]
set_option maxRecDepth 100000 in
theorem no_tail {l : List Int} {at_ v t : Nat} (h : at_ < l.length) (hv : (v : Int) < 18446744073709551616) (h1 : l.drop (at_ + 1) = uB (v : Int) ++ l.drop t) (htv : t + v ≤ l.length) (he : (rUx l ((t + v : Nat) : Int)).2.2 ≠ 0) : No7 l at_ := fun c R g e => by
  obtain ⟨_, e2⟩ := to_key h hv h1 g e
  unfold qtl at e2
  split at e2
  · rw [List.append_assoc] at e2
    exact ru_no htv he _ _ (by omega) (by have := g.l2; omega) e2
  · rw [List.append_assoc] at e2
    exact ru_no htv he _ _ (by omega) (by omega) e2
set_option maxRecDepth 100000 in
theorem no_val {l : List Int} {at_ v t m s : Nat} (h : at_ < l.length) (hv : (v : Int) < 18446744073709551616) (h1 : l.drop (at_ + 1) = uB (v : Int) ++ l.drop t) (hx : l.getD at_ 0 = 1) (hm : (m : Int) < 18446744073709551616) (h2 : l.drop (t + v) = uB (m : Int) ++ l.drop s) (hs : s ≤ l.length) (hno : l.length < s + m) : No7 l at_ := fun c R g e => by
  obtain ⟨ek, e2⟩ := to_key h hv h1 g e
  unfold qtl at e2
  rw [if_pos (by omega), List.append_assoc, h2] at e2
  obtain ⟨e3, e4⟩ := uB_inj (by omega) hm (by omega) (by have := g.l2; omega) e2
  have := congrArg List.length e4
  simp only [List.length_append, List.length_drop] at this
  omega
set_option maxRecDepth 100000 in
theorem no_ct {l : List Int} {at_ v t m s : Nat} (h : at_ < l.length) (hv : (v : Int) < 18446744073709551616) (h1 : l.drop (at_ + 1) = uB (v : Int) ++ l.drop t) (hx : ¬ l.getD at_ 0 = 1) (hm : (m : Int) < 18446744073709551616) (h2 : l.drop (t + v) = uB (m : Int) ++ l.drop s) (hs : s ≤ l.length) (he : (rUx l (s : Int)).2.2 ≠ 0) : No7 l at_ := fun c R g e => by
  obtain ⟨ek, e2⟩ := to_key h hv h1 g e
  unfold qtl at e2
  rw [if_neg (by omega), List.append_assoc, h2] at e2
  obtain ⟨e3, e4⟩ := uB_inj (by omega) hm (by omega) (by omega) e2
  exact ru_no hs he _ _ (by omega) (by omega) e4
set_option maxRecDepth 100000 in
theorem no_big {l : List Int} {at_ v t m s q z : Nat} (h : at_ < l.length) (hv : (v : Int) < 18446744073709551616) (h1 : l.drop (at_ + 1) = uB (v : Int) ++ l.drop t) (hx : ¬ l.getD at_ 0 = 1) (hm : (m : Int) < 18446744073709551616) (h2 : l.drop (t + v) = uB (m : Int) ++ l.drop s) (hq : (q : Int) < 18446744073709551616) (h3 : l.drop s = uB (q : Int) ++ l.drop z) (hno : 65536 < m ∨ 1073741824 < q) : No7 l at_ := fun c R g e => by
  obtain ⟨ek, e2⟩ := to_key h hv h1 g e
  have hc := g.v2 (by omega)
  unfold qtl at e2
  rw [if_neg (by omega), List.append_assoc, h2] at e2
  obtain ⟨e3, e4⟩ := uB_inj (by omega) hm (by omega) (by omega) e2
  rw [h3] at e4
  obtain ⟨e5, _⟩ := uB_inj (by omega) hq (by omega) (by omega) e4
  omega
set_option maxRecDepth 100000 in
theorem is_val {l : List Int} {at_ v t m s : Nat} (hw : Wf l) (hl : l.length ≤ 65536) (h : at_ < l.length) (h1 : l.drop (at_ + 1) = uB (v : Int) ++ l.drop t) (ht : at_ + 1 < t) (htv : t + v ≤ l.length) (hx : l.getD at_ 0 = 1) (h2 : l.drop (t + v) = uB (m : Int) ++ l.drop s) (hs : t + v < s) (hsm : s + m ≤ l.length) : Is7 l at_ (s + m) ⟨(l.drop t).take v, 1, (l.drop s).take m, 0, 0⟩ := by
  have k1 : ((l.drop t).take v).length = v := by rw [List.length_take, List.length_drop]; omega
  have k2 : ((l.drop s).take m).length = m := by rw [List.length_take, List.length_drop]; omega
  refine ⟨⟨by simp, by simp, fun _ => ⟨rfl, rfl⟩, fun e => absurd rfl e, by simp only; omega, by simp only; omega⟩, ⟨(hw.drop t).take v, (hw.drop s).take m⟩, ?_, by omega, hsm⟩
  rw [at_cons h, qB_split, hx, h1]
  simp only [qtl, k1, k2, if_true]
  have e3 : (l.drop s).take m ++ l.drop (s + m) = l.drop s := by rw [← List.drop_drop]; exact List.take_append_drop _ _
  have e4 : (l.drop t).take v ++ l.drop (t + v) = l.drop t := by rw [← List.drop_drop]; exact List.take_append_drop _ _
  rw [List.append_assoc, e3, ← h2, e4]
  rfl
set_option maxRecDepth 100000 in
theorem is_ct {l : List Int} {at_ v t m s q z : Nat} (hw : Wf l) (hl : l.length ≤ 65536) (h : at_ < l.length) (h1 : l.drop (at_ + 1) = uB (v : Int) ++ l.drop t) (ht : at_ + 1 < t) (htv : t + v ≤ l.length) (hx : ¬ l.getD at_ 0 = 1) (h2 : l.drop (t + v) = uB (m : Int) ++ l.drop s) (hs : t + v < s) (h3 : l.drop s = uB (q : Int) ++ l.drop z) (hz : s < z) (hzl : z ≤ l.length) (hm : m ≤ 65536) (hq : q ≤ 1073741824) : Is7 l at_ z ⟨(l.drop t).take v, l.getD at_ 0, [], m, q⟩ := by
  have k1 : ((l.drop t).take v).length = v := by rw [List.length_take, List.length_drop]; omega
  have hb := hw.getD at_
  refine ⟨⟨hb.1, hb.2, fun e => absurd e hx, fun _ => ⟨rfl, by simp only; omega, by simp only; omega, by simp only; omega, by simp only; omega⟩, by simp only; omega, by simp⟩, ⟨(hw.drop t).take v, Wf.nil⟩, ?_, by omega, hzl⟩
  rw [at_cons h, qB_split, h1]
  simp only [qtl, k1, if_neg hx]
  rw [show ((m : Int) % 18446744073709551616) = (m : Int) by omega, show ((q : Int) % 18446744073709551616) = (q : Int) by omega, List.append_assoc, show l.getD at_ 0 % 256 = l.getD at_ 0 by omega]
  rw [← h3, ← h2, ← List.drop_drop, List.take_append_drop]
end Go.Proofs.YtobfkcepjnjfpaaGreatDoor
