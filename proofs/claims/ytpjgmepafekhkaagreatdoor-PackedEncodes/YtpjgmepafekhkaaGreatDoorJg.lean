/- What ReadUint reads is what Uint writes. -/
import Derived.Test.YtpjgmepafekhkaaGreatDoorBackMath
import Derived.Test.YtpjgmepafekhkaaGreatDoorFb
import Derived.Test.YtpjgmepafekhkaaGreatDoorMath
import Derived.Test.YtpjgmepafekhkaaGreatDoorSmall
import Derived.Test.YtpjgmepafekhkaaGreatDoorFe
namespace Go.Proofs.YtpjgmepafekhkaaGreatDoor

set_option maxRecDepth 100000 in
theorem rU_spec (l : List Int) : ∀ (p : Int) (i : Nat) (n : Int), Wf l → 0 ≤ n → n < 128 ^ i → i ≤ 9 →
    ((rU p l i n).2.2 ≠ 0 ∧ (rU p l i n).1 = 0 ∧ (rU p l i n).2.1 = 0) ∨
    ((rU p l i n).2.2 = 0 ∧ ∃ (k : Nat) (M : Int), 1 ≤ k ∧ k ≤ l.length ∧ (rU p l i n).2.1 = p + i + k ∧ 0 ≤ M ∧ (rU p l i n).1 = n + M * 128 ^ i ∧ (rU p l i n).1 < 18446744073709551616 ∧ l.take k = uB M ∧ (0 < i → 0 < M)) := by
  induction l with
  | nil => intro p i n _ _ _ _; left; simp [rU]
  | cons c r ih =>
    intro p i n hw h0 hn hi
    have hc := hw c (by simp)
    have hr : Wf r := fun x hx => hw x (by simp [hx])
    have hpos : (0 : Int) < 128 ^ i := Int.pow_pos (by omega)
    rw [rU]
    by_cases h9 : i = 9 ∧ 1 < c
    · left; rw [if_pos h9]; simp
    · rw [if_neg h9]
      by_cases h128 : 128 ≤ c
      · rw [if_pos h128]
        have hi8 : i < 9 := by omega
        have hup := or_up n (c - 128) i h0 hn (by omega) (by omega) (.inl hi8)
        have hnn : 0 ≤ n + (c - 128) * 128 ^ i := by
          have : 0 ≤ (c - 128) * 128 ^ i := Int.mul_nonneg (by omega) (Int.le_of_lt hpos)
          omega
        rcases ih p (i + 1) (n + (c - 128) * 128 ^ i) hr hnn hup.2.1 (by omega) with h | ⟨he, k, M, hk1, hk2, ht, hM0, hN, hlt, htk, hMp⟩
        · exact .inl h
        · right
          have hMp' := hMp (by omega)
          refine ⟨he, k + 1, (c - 128) + 128 * M, by omega, by simp; omega, by rw [ht]; push_cast; omega, by omega, ?_, hlt, ?_, fun _ => by omega⟩
          · rw [hN, Int.pow_succ, Int.add_mul, Int.mul_comm (128 ^ i) 128, ← Int.mul_assoc, Int.mul_comm M 128]
            omega
          · have hMlt : (c - 128) + 128 * M < 18446744073709551616 := by
              have h1 : (c - 128) + 128 * M ≤ ((c - 128) + 128 * M) * 128 ^ i := by
                have := Int.mul_le_mul_of_nonneg_left (show (1 : Int) ≤ 128 ^ i by omega) (show 0 ≤ (c - 128) + 128 * M by omega)
                omega
              have h2 : (rU p r (i + 1) (n + (c - 128) * 128 ^ i)).1 = n + ((c - 128) + 128 * M) * 128 ^ i := by
                rw [hN, Int.pow_succ, Int.add_mul, Int.mul_comm (128 ^ i) 128, ← Int.mul_assoc, Int.mul_comm M 128]
                omega
              omega
            rw [uB_step (by omega) hMlt, List.take_succ_cons, htk]
            congr 1
            · omega
            · congr 1
              omega
      · rw [if_neg h128]
        by_cases hz : c = 0 ∧ 0 < i
        · left; rw [if_pos hz]; simp
        · right
          rw [if_neg hz]
          have hup := or_up n c i h0 hn (by omega) (by omega) (by omega)
          have hlt : n + c * 128 ^ i < 18446744073709551616 := by
            rcases hup.2.2 with h | h
            · have h2 : i = 0 ∨ i = 1 ∨ i = 2 ∨ i = 3 ∨ i = 4 ∨ i = 5 ∨ i = 6 ∨ i = 7 ∨ i = 8 := by omega
              have h3 := hup.2.1
              rcases h2 with rfl | rfl | rfl | rfl | rfl | rfl | rfl | rfl | rfl <;> simp at h3 ⊢ <;> omega
            · exact h
          exact ⟨rfl, 1, c, by omega, by simp, by simp, by omega, rfl, hlt, by rw [uB_small (by omega)]; rfl, fun h => by omega⟩
end Go.Proofs.YtpjgmepafekhkaaGreatDoor

/- Cells of the packed kind: plain mathematics: a cell's bytes with a prefix left out, and how they are read. -/

namespace Go.Proofs.YtpjgmepafekhkaaGreatDoor

set_option maxRecDepth 100000 in
theorem uB_length_pos (n : Int) : 1 ≤ (uB n).length := (uB_length n).2
/-- The number at the bytes' beginning, in groups of seven bits. -/
def pU (l : List Int) : Option (Int × List Int) := if (rU 0 l 0 0).2.2 = 0 then some ((rU 0 l 0 0).1, l.drop (rU 0 l 0 0).2.1.toNat) else none
set_option maxRecDepth 100000 in
theorem pU_mid (n : Int) (r : List Int) (h0 : 0 ≤ n) (h : n < 18446744073709551616) : pU (uB n ++ r) = some (n, r) := by
  unfold pU
  rw [rU_uB 0 n r h0 h]
  simp
set_option maxRecDepth 100000 in
theorem pU_inv {l r : List Int} {n : Int} (hw : Wf l) (h : pU l = some (n, r)) : l = uB n ++ r ∧ 0 ≤ n ∧ n < 18446744073709551616 ∧ Wf r := by
  unfold pU at h
  split at h
  · next he =>
    simp only [Option.some.injEq, Prod.mk.injEq] at h
    obtain ⟨h1, h2⟩ := h
    rcases rU_spec l 0 0 0 hw (by omega) (by omega) (by omega) with ⟨g, _⟩ | ⟨_, k, M, g1, g2, g3, g4, g5, g6, g7, _⟩
    · exact absurd he g
    · have e1 : n = M := by rw [← h1, g5]; simp
      have e2 : (rU 0 l 0 0).2.1.toNat = k := by rw [g3]; omega
      rw [e2] at h2
      subst e1
      refine ⟨?_, g4, by rw [← h1]; exact g6, by rw [← h2]; exact hw.drop _⟩
      rw [← h2, ← g7, List.take_append_drop]
  · cases h
/-- The text there. -/
def pT (l : List Int) : Option (List Int × List Int) :=
  match pU l with
  | none => none
  | some (n, r) => if (r.length : Int) < n then none else some (r.take n.toNat, r.drop n.toNat)
/-- The cell there: the rest of its key as its key. -/
def pC (l : List Int) : Option (Cl × List Int) :=
  match pNum 1 l with
  | none => none
  | some (k, r) =>
    match pT r with
    | none => none
    | some (key, r) =>
      if k = 1 then
        match pT r with
        | none => none
        | some (val, r) => some (⟨key, k, val, 0, 0⟩, r)
      else
        match pU r with
        | none => none
        | some (p, r) =>
          match pU r with
          | none => none
          | some (c, r) => some (⟨key, k, [], RowKit.wrap64 p, RowKit.wrap64 c⟩, r)
/-- A cell's bytes, the first m of its key left out. -/
def qB (m : Nat) (c : Cl) : List Int := [c.kd % 256] ++ (uB ((c.key.length - m : Nat) : Int) ++ (c.key.drop m ++ (if c.kd = 1 then uB c.val.length ++ c.val else uB (c.pg % 18446744073709551616) ++ uB (c.ct % 18446744073709551616))))
/-- How many bytes a text of n bytes takes. -/
def tL (n : Nat) : Nat := (uB (n : Int)).length + n
/-- How many a cell takes with its slot. -/
def qtk (m : Nat) (c : Cl) : Nat := 3 + tL (c.key.length - m) + (if c.kd = 1 then tL c.val.length else (uB (c.pg % 18446744073709551616)).length + (uB (c.ct % 18446744073709551616)).length)
set_option maxRecDepth 100000 in
theorem qB_length (m : Nat) (c : Cl) : (qB m c).length + 2 = qtk m c := by
  unfold qB qtk tL
  split <;> simp only [List.length_append, List.length_cons, List.length_nil, List.length_drop] <;> omega
set_option maxRecDepth 100000 in
theorem qB_wf {m : Nat} {c : Cl} (h : c.Wf) (h1 : c.key.length < 18446744073709551616) (h2 : c.val.length < 18446744073709551616) : Wf (qB m c) := by
  unfold qB
  refine Wf.append (Wf.cons (by omega) Wf.nil) (Wf.append (uB_wf (by omega) (by omega)) (Wf.append (h.1.drop m) ?_))
  split
  · exact Wf.append (uB_wf (by omega) (by omega)) h.2
  · exact Wf.append (uB_wf (by omega) (by omega)) (uB_wf (by omega) (by omega))
/-- A cell with the rest of its key alone. -/
def Cl.cut (c : Cl) (m : Nat) : Cl := ⟨c.key.drop m, c.kd, c.val, c.pg, c.ct⟩
/-- A cell with more ahead of its key. -/
def Cl.pre (c : Cl) (P : List Int) : Cl := ⟨P ++ c.key, c.kd, c.val, c.pg, c.ct⟩
set_option maxRecDepth 100000 in
theorem Cl.cut_pre (c : Cl) (m : Nat) (P : List Int) (h : c.key.take m = P) : (c.cut m).pre P = c := by
  subst h
  obtain ⟨key, kd, val, pg, ct⟩ := c
  simp [Cl.cut, Cl.pre, List.take_append_drop]
set_option maxRecDepth 100000 in
theorem pT_mid (t r : List Int) (h : t.length < 18446744073709551616) : pT (uB t.length ++ (t ++ r)) = some (t, r) := by
  unfold pT
  rw [pU_mid _ _ (by omega) (by omega)]
  simp only
  rw [if_neg (by rw [List.length_append]; omega), Int.toNat_natCast, List.take_left, List.drop_left]
set_option maxRecDepth 100000 in
theorem pC_mid (m : Nat) (c : Cl) (r : List Int) (h : c.fit) : pC (qB m c ++ r) = some (c.cut m, r) := by
  obtain ⟨key, kd, val, pg, ct⟩ := c
  obtain ⟨h1, h2, h3, h4, h5, h6, h7⟩ := h
  simp only at h1 h2 h3 h4 h5 h6 h7
  unfold qB pC Cl.cut
  simp only
  rw [List.append_assoc, show ([kd % 256] : List Int) = fB 1 kd from by simp [fB], pNum_mid 1 kd _ h1.1 (by omega)]
  simp only
  rw [List.append_assoc, List.append_assoc, show key.length - m = (key.drop m).length from by rw [List.length_drop], pT_mid _ _ (by rw [List.length_drop]; omega)]
  simp only
  by_cases e : kd = 1
  · rw [if_pos e, if_pos e, List.append_assoc, pT_mid _ _ (by omega)]
    simp only
    obtain ⟨rfl, rfl⟩ := h6 e
    rfl
  · have e4 : pg % 18446744073709551616 = pg := by omega
    have e5 : ct % 18446744073709551616 = ct := by omega
    rw [if_neg e, if_neg e, List.append_assoc, e4, e5, pU_mid pg _ h4.1 (by omega)]
    simp only
    rw [pU_mid ct _ h5.1 (by omega)]
    simp only
    have e6 : RowKit.wrap64 pg = pg := by unfold RowKit.wrap64; omega
    have e7 : RowKit.wrap64 ct = ct := by unfold RowKit.wrap64; omega
    rw [h7 e, e6, e7]
set_option maxRecDepth 100000 in
theorem pT_inv {l r t : List Int} (hw : Wf l) (h : pT l = some (t, r)) : l = uB t.length ++ (t ++ r) ∧ Wf t ∧ Wf r := by
  unfold pT at h
  split at h
  · cases h
  · next n r' e =>
    obtain ⟨h1, h2, h3, h4⟩ := pU_inv hw e
    split at h
    · cases h
    · next hl =>
      simp only [Option.some.injEq, Prod.mk.injEq] at h
      obtain ⟨rfl, rfl⟩ := h
      have ht : (r'.take n.toNat).length = n.toNat := by rw [List.length_take]; omega
      refine ⟨?_, h4.take _, h4.drop _⟩
      rw [ht, Int.toNat_of_nonneg h2, List.take_append_drop]
      exact h1
set_option maxRecDepth 100000 in
/-- What is read was written so, with nothing left out. -/
theorem pC_inv {l r : List Int} {c : Cl} (hw : Wf l) (h : pC l = some (c, r)) : l = qB 0 c ++ r ∧ c.Wf ∧ Wf r ∧ (0 ≤ c.kd ∧ c.kd ≤ 255) := by
  unfold pC at h
  split at h
  · cases h
  · next k r1 e1 =>
    obtain ⟨h1, h2, h3, h4⟩ := pNum_inv hw e1
    split at h
    · cases h
    · next key r2 e2 =>
      obtain ⟨g1, g3, g4⟩ := pT_inv h4 e2
      split at h
      · next hk =>
        split at h
        · cases h
        · next val r3 e3 =>
          obtain ⟨f1, f3, f4⟩ := pT_inv g4 e3
          simp only [Option.some.injEq, Prod.mk.injEq] at h
          obtain ⟨rfl, rfl⟩ := h
          refine ⟨?_, ⟨g3, f3⟩, f4, by simp only; omega⟩
          rw [h1, g1, f1]
          simp [qB, hk, fB]
      · next hk =>
        split at h
        · cases h
        · next p r3 e3 =>
          obtain ⟨f1, f2, f3, f4⟩ := pU_inv g4 e3
          split at h
          · cases h
          · next ct r4 e4 =>
            obtain ⟨d1, d2, d3, d4⟩ := pU_inv f4 e4
            simp only [Option.some.injEq, Prod.mk.injEq] at h
            obtain ⟨rfl, rfl⟩ := h
            have e5 : RowKit.wrap64 p % 18446744073709551616 = p := by unfold RowKit.wrap64; omega
            have e6 : RowKit.wrap64 ct % 18446744073709551616 = ct := by unfold RowKit.wrap64; omega
            refine ⟨?_, ⟨g3, Wf.nil⟩, d4, by simp only; omega⟩
            rw [h1, g1, f1, d1]
            simp [qB, hk, fB, e5, e6]
end Go.Proofs.YtpjgmepafekhkaaGreatDoor

/- ink.ReadUint reads a number in groups of seven bits. -/

namespace Go.Proofs.YtpjgmepafekhkaaGreatDoor
open Go.RowKit

set_option maxRecDepth 100000 in
theorem readUint_arg (ao : Option Addr) (n cap : Nat) (p : Int) (w : World) (h : p < 0 ∨ n < p) :
    Calls Tryz.prog 119 #[.slice ao n cap, .int .i64 p] w fun e w' => e = .returned (.tuple #[.int .u64 0, .int .i64 0, .int .i64 1]) ∧ w' = w := by
  go_enter Tryz.func119, Tryz.ntmps119
  go_wp2_with (go_at_call 125; refine same_call (isPlace_no _ _ _ _ _ h) ?_)
  go_ret3
  exact ⟨rfl, rfl⟩
set_option maxRecDepth 100000 in
set_option maxHeartbeats 400000 in
theorem readUint_end (ao : Option Addr) (n cap : Nat) (w : World) (hn : n ≤ 140737488355328) :
    Calls Tryz.prog 119 #[.slice ao n cap, .int .i64 n] w fun e w' => e = .returned (.tuple #[.int .u64 0, .int .i64 0, .int .i64 10]) ∧ w' = w := by
  go_enter Tryz.func119, Tryz.ntmps119
  go_wp2_with (go_at_call 125; refine same_call (isPlace_yes _ _ _ _ _ (by omega) (by omega)) ?_)
  all_goals
    refine wp_loop_rounds 1 ?_
    rw [rounds_succ]
    go_wp2
    go_ret3
    exact ⟨rfl, rfl⟩
set_option maxRecDepth 100000 in
set_option maxHeartbeats 400000 in
theorem readUint_in (b off n cap : Nat) (l : List Int) (p : Nat) (w : World) (hs : Sl w (some ⟨b, off, none⟩) n cap l) (hp : p < n) :
    Calls Tryz.prog 119 #[.slice (some ⟨b, off, none⟩) n cap, .int .i64 p] w fun e w' => e = .returned (.tuple #[.int .u64 (rU p (l.drop p) 0 0).1, .int .i64 (rU p (l.drop p) 0 0).2.1, .int .i64 (rU p (l.drop p) 0 0).2.2]) ∧ w' = w := by
  obtain ⟨hlen, hcap, hroom, hwf, hnil, hat⟩ := hs
  rcases hat with h | ⟨b', off', he, hb, hc⟩
  · omega
  cases he
  go_enter Tryz.func119, Tryz.ntmps119
  go_wp2_with (go_at_call 125; refine same_call (isPlace_yes _ _ _ _ _ (by omega) (by omega)) ?_)
  go_loop [7, 18] (fun v i => ∃ (k : Nat) (m : Int), k ≤ n - p ∧ k ≤ 9 ∧ i = .int .i64 k ∧ v = .int .u64 m ∧ 0 ≤ m ∧ m < 128 ^ k ∧ rU p (l.drop (p + k)) k m = rU p (l.drop p) 0 0) (fun _ i => (n - p) - (intOf i).toNat)
  case atStart => exact ⟨0, 0, by omega, by omega, rfl, rfl, by omega, by simp, rfl⟩
  case round =>
    obtain ⟨k, m, hk, hk9, rfl, rfl, hm0, hm, hR⟩ := hrel
    have HR := hidden hR
    clear hR
    by_cases hlt : k < n - p
    · have hck : w.cell? ⟨b, off + p + k, none⟩ = some (.int .u8 (l.getD (p + k) 0)) := by
        rw [Nat.add_assoc, hc (p + k) (by omega)]
      have hby := hwf.getD (p + k)
      have HD := hidden (drop_cons l (p + k) (by omega))
      generalize l.getD (p + k) 0 = c at *
      by_cases h9 : k = 9 ∧ 1 < c
      · obtain ⟨rfl, hc1⟩ := h9
        have e : rU p (l.drop p) 0 0 = (0, 0, 12) := by rw [← HR.out, HD.out, rU, if_pos ⟨rfl, hc1⟩]
        have HE := hidden e
        clear e
        go_wp2
        go_ret3
        exact ⟨by rw [HE.out]; rfl, rfl⟩
      · by_cases hcc : 128 ≤ c
        · have hand := andNot_hi c hcc hby.2
          have h9' : k < 9 := by omega
          clear h9
          have hup := or_up m (c - 128) k hm0 hm (by omega) (by omega) (.inl h9')
          have HU := hidden hup.1
          have HL := hidden hup.2.1
          have hd0 : 0 ≤ (c - 128) * 128 ^ k := Int.mul_nonneg (by omega) (Int.le_of_lt (Int.pow_pos (by omega)))
          clear hup
          go_wp2
          go_round
          case rel =>
            refine ⟨k + 1, m + (c - 128) * 128 ^ k, by omega, by omega, by go_num, by rw [HU.out], by omega, HL.out, ?_⟩
            rw [← HR.out, HD.out, rU, if_neg (by omega), if_pos hcc, Nat.add_assoc]
          case measure => simp [intOf]; omega
        · have hand := andNot_lo c hby.1 (by omega)
          have hup := or_up m c k hm0 hm (by omega) (by omega) (by omega)
          have HU := hidden hup.1
          clear hup
          by_cases h0 : c = 0 ∧ 0 < k
          · obtain ⟨rfl, hk0⟩ := h0
            have e : rU p (l.drop p) 0 0 = (0, 0, 11) := by rw [← HR.out, HD.out, rU, if_neg (by omega), if_neg (by omega), if_pos ⟨rfl, hk0⟩]
            have HE := hidden e
            clear e HU
            by_cases h9k : k = 9
            · subst h9k
              go_wp2
              go_ret3
              exact ⟨by rw [HE.out]; rfl, rfl⟩
            · have hb9 : ((k : Int) == 9) = false := by simp; omega
              go_wp2
              go_ret3
              exact ⟨by rw [HE.out]; rfl, rfl⟩
          · have e : rU p (l.drop p) 0 0 = (m + c * 128 ^ k, (p : Int) + k + 1, 0) := by rw [← HR.out, HD.out, rU, if_neg (by omega), if_neg (by omega), if_neg h0]
            have HE := hidden e
            clear e
            by_cases h9k : k = 9
            · subst h9k
              obtain rfl : c = 1 := by omega
              have hor := HU.out
              rw [show IntKind.u64.wrap (1 * 2 ^ (7 * 9)) = 9223372036854775808 by rw [IntKind.wrap_u64]; decide] at hor
              have HO := hidden hor
              clear hor HU
              go_wp2
              go_ret3
              exact ⟨by rw [HE.out, ← HO.out]; rfl, rfl⟩
            · have hb9 : ((k : Int) == 9) = false := by simp; omega
              by_cases hc0 : c = 0
              · subst hc0
                have hk0 : k ≤ 0 := by omega
                have ho : bits .or .u64 m 0 = m := by
                  have := HU.out
                  simp only [Int.zero_mul, Int.add_zero] at this
                  rw [show IntKind.u64.wrap 0 = 0 by decide] at this
                  exact this
                have hE := HE.out
                simp only [Int.zero_mul, Int.add_zero] at hE
                have HE' := hidden hE
                clear hE HE HU
                go_wp2
                go_ret3
                exact ⟨by rw [HE'.out]; rfl, rfl⟩
              · have hb0 : (c == 0) = false := by simp; omega
                go_wp2
                go_ret3
                exact ⟨by rw [HE.out, ← HU.out]; rfl, rfl⟩
    · have e : rU p (l.drop p) 0 0 = (0, 0, 10) := by rw [← HR.out, List.drop_eq_nil_of_le (by omega), rU]
      have HE := hidden e
      clear e
      go_wp2
      go_ret3
      exact ⟨by rw [HE.out]; rfl, rfl⟩

set_option maxRecDepth 100000 in
theorem readUint_any (ao : Option Addr) (n cap : Nat) (l : List Int) (p' : Int) (w : World) (hs : Sl w ao n cap l) (h0 : 0 ≤ p') (hp : p' ≤ n) :
    Calls Tryz.prog 119 #[.slice ao n cap, .int .i64 p'] w fun e w' => e = .returned (.tuple #[.int .u64 (rU p' (l.drop p'.toNat) 0 0).1, .int .i64 (rU p' (l.drop p'.toNat) 0 0).2.1, .int .i64 (rU p' (l.drop p'.toNat) 0 0).2.2]) ∧ w' = w := by
  obtain ⟨p, rfl⟩ := Int.eq_ofNat_of_zero_le h0
  rw [Int.toNat_natCast]
  by_cases h : p = n
  · subst h
    rw [List.drop_eq_nil_of_le (by rw [hs.hlen]; exact Nat.le_refl _)]
    exact readUint_end ao p cap w hs.hroom
  · rcases hs.hat with h' | ⟨b, off, rfl, hb, hc⟩
    · omega
    · exact readUint_in b off n cap l p w hs (by omega)

end Go.Proofs.YtpjgmepafekhkaaGreatDoor

/- packed.reader: what stands while it reads. -/

namespace Go.Proofs.YtpjgmepafekhkaaGreatDoor
open Go.RowKit

/-- Behind w' all blocks that w had are as they were, but those of F. -/
structure Cf (F : Nat → Prop) (w w' : World) : Prop where
  os : w'.os = w.os
  tape : w'.tape = w.tape
  output : w'.output = w.output
  size : w.heap.size ≤ w'.heap.size
  block : ∀ k, k < w.heap.size → ¬ F k → w'.heap[k]? = w.heap[k]?
set_option maxRecDepth 100000 in
theorem Cf.refl (F : Nat → Prop) (w : World) : Cf F w w := ⟨rfl, rfl, rfl, Nat.le_refl _, fun _ _ _ => rfl⟩
set_option maxRecDepth 100000 in
theorem Cf.trans {F G : Nat → Prop} {a b c : World} (h : Cf F a b) (k : Cf G b c) (hG : ∀ i, i < a.heap.size → G i → F i) : Cf F a c :=
  ⟨k.os.trans h.os, k.tape.trans h.tape, k.output.trans h.output, Nat.le_trans h.size k.size, fun i hi hf => (k.block i (Nat.lt_of_lt_of_le hi h.size) fun g => hf (hG i hi g)).trans (h.block i hi hf)⟩
set_option maxRecDepth 100000 in
theorem Cf.go {F : Nat → Prop} {a b c : World} (h : Cf F a b) (k : Cf F b c) : Cf F a c := h.trans k fun _ _ g => g
set_option maxRecDepth 100000 in
theorem Cf.of_below {F : Nat → Prop} {a b : World} (h : Below a.heap.size a b) : Cf F a b := ⟨h.os, h.tape, h.output, h.size, fun k hk _ => h.block k hk⟩
set_option maxRecDepth 100000 in
theorem Cf.below {F : Nat → Prop} {a b : World} {B : Nat} (h : Cf F a b) (hB : B ≤ a.heap.size) (hF : ∀ k, k < B → ¬ F k) : Below B a b := ⟨h.os, h.tape, h.output, h.size, fun k hk => h.block k (by omega) (hF k hk)⟩
set_option maxRecDepth 100000 in
theorem Cf.alloc (F : Nat → Prop) (w : World) (o : Obj) : Cf F w (w.alloc o) := ⟨rfl, rfl, rfl, by simp, fun k hk _ => Below.heap_alloc _ _ _ hk⟩
set_option maxRecDepth 100000 in
theorem Cf.setCell {F : Nat → Prop} (w : World) {p : Addr} (hp : F p.block) (u : Value) : Cf F w (w.setCell p u) :=
  ⟨rfl, rfl, rfl, by simp [World.setCell], fun k _ hk => Below.heap_setCell _ _ _ _ fun e => hk (e ▸ hp)⟩
set_option maxRecDepth 100000 in
theorem Cf.set (w : World) (r k : Nat) (u : Value) : Cf (· = r) w (w.setCell ⟨r, k, none⟩ u) := Cf.setCell (F := (· = r)) w (p := ⟨r, k, none⟩) rfl u
set_option maxRecDepth 100000 in
theorem Cf.drew (F : Nat → Prop) (w : World) (n : Nat) : Cf F w (w.drewN n) := ⟨rfl, rfl, rfl, Nat.le_refl _, fun _ _ _ => rfl⟩

/-- A reader. -/
def Rd (w : World) (r : Nat) (ao : Option Addr) (n cap at_ : Nat) (en : Bool) : Prop := w.heap[r]? = some (.cells #[.slice ao n cap, .int .i64 (at_ : Int), .bool en] 102 (0, 0))
set_option maxRecDepth 100000 in
theorem Rd.c0 {w : World} {r : Nat} {ao : Option Addr} {n cap at_ : Nat} {en : Bool} (h : Rd w r ao n cap at_ en) : w.cell? ⟨r, 0, none⟩ = some (.slice ao n cap) := by rw [cell_of_row _ _ 0 _ _ _ h]; rfl
set_option maxRecDepth 100000 in
theorem Rd.c1 {w : World} {r : Nat} {ao : Option Addr} {n cap at_ : Nat} {en : Bool} (h : Rd w r ao n cap at_ en) : w.cell? ⟨r, 1, none⟩ = some (.int .i64 (at_ : Int)) := by rw [cell_of_row _ _ 1 _ _ _ h]; rfl
set_option maxRecDepth 100000 in
theorem Rd.c2 {w : World} {r : Nat} {ao : Option Addr} {n cap at_ : Nat} {en : Bool} (h : Rd w r ao n cap at_ en) : w.cell? ⟨r, 2, none⟩ = some (.bool en) := by rw [cell_of_row _ _ 2 _ _ _ h]; rfl
set_option maxRecDepth 100000 in
theorem Rd.free {w : World} {r : Nat} {ao : Option Addr} {n cap at_ : Nat} {en : Bool} (h : Rd w r ao n cap at_ en) (k : Nat) : w.frozen? ⟨r, k, none⟩ = false := by
  unfold Rd at h
  simp [World.frozen?, h]
set_option maxRecDepth 100000 in
theorem Rd.drewN {w : World} {r : Nat} {ao : Option Addr} {n cap at_ : Nat} {en : Bool} (h : Rd w r ao n cap at_ en) (q : Nat) : Rd (w.drewN q) r ao n cap at_ en := h
set_option maxRecDepth 100000 in
theorem Rd.lt {w : World} {r : Nat} {ao : Option Addr} {n cap at_ : Nat} {en : Bool} (h : Rd w r ao n cap at_ en) : r < w.heap.size := lt_some h
set_option maxRecDepth 100000 in
theorem Rd.set1 {w : World} {r : Nat} {ao : Option Addr} {n cap at_ : Nat} {en : Bool} (h : Rd w r ao n cap at_ en) (x : Nat) : Rd (w.setCell ⟨r, 1, none⟩ (.int .i64 (x : Int))) r ao n cap x en := by
  unfold Rd at *
  have := set_row (w := w) (a := r) (cs := [.slice ao n cap, .int .i64 (at_ : Int), .bool en]) (i := 1) (u := .int .i64 (x : Int)) h
  simpa using this
set_option maxRecDepth 100000 in
theorem Rd.set2 {w : World} {r : Nat} {ao : Option Addr} {n cap at_ : Nat} {en : Bool} (h : Rd w r ao n cap at_ en) (x : Bool) : Rd (w.setCell ⟨r, 2, none⟩ (.bool x)) r ao n cap at_ x := by
  unfold Rd at *
  have := set_row (w := w) (a := r) (cs := [.slice ao n cap, .int .i64 (at_ : Int), .bool en]) (i := 2) (u := .bool x) h
  simpa using this
set_option maxRecDepth 100000 in
/-- The bytes don't lie in the reader. -/
theorem Sl.apart {w : World} {ao : Option Addr} {n cap : Nat} {l : List Int} (h : Sl w ao n cap l) {r : Nat} {a : Option Addr} {b c d : Nat} {en : Bool} (hr : Rd w r a b c d en) : n = 0 ∨ ∀ p, ao = some p → p.block ≠ r := by
  rcases h.hat with h0 | ⟨g, off, rfl, hg, hc⟩
  · exact .inl h0
  · rcases Nat.eq_zero_or_pos n with h0 | h0
    · exact .inl h0
    · right
      rintro p hp rfl
      injection hp with hp
      subst hp
      have h1 := hc 0 h0
      rw [cell_of_row _ _ _ _ _ _ hr] at h1
      rcases Nat.lt_or_ge (off + 0) 3 with h3 | h3
      · have h4 : off + 0 = 0 ∨ off + 0 = 1 ∨ off + 0 = 2 := by omega
        rcases h4 with h4 | h4 | h4 <;> (rw [h4] at h1; simp at h1)
      · rw [Array.getElem?_eq_none (by simpa using h3)] at h1
        cases h1
set_option maxRecDepth 100000 in
theorem Sl.cf {w w' : World} {ao : Option Addr} {n cap : Nat} {l : List Int} {F : Nat → Prop} (h : Sl w ao n cap l) (hc : Cf F w w') (hf : n = 0 ∨ ∀ p, ao = some p → ¬ F p.block) : Sl w' ao n cap l := by
  refine ⟨h.hlen, h.hcap, h.hroom, h.wf, h.hnil, ?_⟩
  rcases h.hat with h0 | ⟨b, off, e, hlt, hcl⟩
  · exact .inl h0
  · rcases hf with h0 | hf
    · exact .inl h0
    · refine .inr ⟨b, off, e, Nat.lt_of_lt_of_le hlt hc.size, fun i hi => ?_⟩
      have := hc.block b hlt (hf _ e)
      rw [← hcl i hi]
      simp only [World.cell?, this]

set_option maxRecDepth 100000 in
/-- A piece of bytes. -/
theorem Sl.piece {w : World} {g off n cap : Nat} {l : List Int} (h : Sl w (some ⟨g, off, none⟩) n cap l) (a k c : Nat) (hk : a + k ≤ n) (hc : k ≤ c) : Sl w (some ⟨g, off + a, none⟩) k c ((l.drop a).take k) := by
  have hl := h.hlen
  refine ⟨by rw [List.length_take, List.length_drop]; omega, hc, Nat.le_trans (by omega) h.hroom, (h.wf.drop a).take k, (by intro e; cases e), ?_⟩
  rcases h.hat with h0 | ⟨b, o, e, hlt, hcl⟩
  · exact .inl (by omega)
  · injection e with e
    injection e with e1 e2
    subst e1 e2
    refine .inr ⟨g, off + a, rfl, hlt, fun i hi => ?_⟩
    rw [Nat.add_assoc, hcl (a + i) (by omega)]
    simp [List.getD, hi]
set_option maxRecDepth 100000 in
theorem Sl.nil_any (w : World) (ao : Option Addr) (c : Nat) (h : ao = none → c = 0) : Sl w ao 0 c [] := ⟨rfl, Nat.zero_le _, by omega, Wf.nil, h, .inl rfl⟩

/-- What number comes to. -/
def UNumTo (l : List Int) (w : World) (r : Nat) (ao : Option Addr) (n cap at_ : Nat) (en : Bool) (e : Ending) (w' : World) : Prop :=
  ∃ (v : Int) (p : Nat) (en' : Bool), e = .returned (.int .u64 v) ∧ Hid (Rd w' r ao n cap p en') ∧ Hid (Cf (· = r) w w') ∧ Hid ((0 ≤ v ∧ v < 18446744073709551616) ∧ p ≤ n ∧ ((pU (l.drop at_) = some (v, l.drop p) ∧ en' = en) ∨ (pU (l.drop at_) = none ∧ en' = true ∧ v = 0 ∧ p = at_)))
set_option maxRecDepth 100000 in
theorem rU_shift (l : List Int) : ∀ (p : Int) (i : Nat) (n : Int), (rU p l i n).1 = (rU 0 l i n).1 ∧ (rU p l i n).2.2 = (rU 0 l i n).2.2 ∧ ((rU 0 l i n).2.2 = 0 → (rU p l i n).2.1 = p + (rU 0 l i n).2.1) := by
  induction l with
  | nil => intro p i n; simp [rU]
  | cons c r ih =>
    intro p i n
    rw [rU, rU]
    split
    · simp
    · split
      · exact ih p (i + 1) _
      · split
        · simp
        · refine ⟨rfl, rfl, fun _ => ?_⟩
          simp only
          omega
set_option maxRecDepth 100000 in
set_option maxHeartbeats 1000000 in
theorem unumber_any (l : List Int) (w : World) (r : Nat) (ao : Option Addr) (n cap at_ : Nat) (en : Bool) (hr : Rd w r ao n cap at_ en) (hs : Sl w ao n cap l) (ha : at_ ≤ n) :
    Calls Tryz.prog 104 #[.pointer (some ⟨r, 0, none⟩)] w fun e w' => UNumTo l w r ao n cap at_ en e w' := by
  have c0 := hr.c0
  have c1 := hr.c1
  have c2 := hr.c2
  have f1 := hr.free 1
  have f2 := hr.free 2
  have hn := hs.hroom
  have HR := hidden hr
  have hlen := hs.hlen
  have HF : Hid (∀ q, Calls Tryz.prog 119 #[.slice ao n cap, .int .i64 (at_ : Int)] (w.drewN q) fun e w' => e = .returned (.tuple #[.int .u64 (rU (at_ : Int) (l.drop at_) 0 0).1, .int .i64 (rU (at_ : Int) (l.drop at_) 0 0).2.1, .int .i64 (rU (at_ : Int) (l.drop at_) 0 0).2.2]) ∧ w' = w.drewN q) :=
    hidden fun q => by simpa using readUint_any ao n cap l (at_ : Int) (w.drewN q) (hs.drewN q) (by omega) (by omega)
  obtain ⟨s1, s2, s3⟩ := rU_shift (l.drop at_) (at_ : Int) 0 0
  have hsp := rU_spec (l.drop at_) 0 0 0 (hs.wf.drop at_) (by omega) (by omega) (by omega)
  rw [s1, s2] at HF
  by_cases h : (rU 0 (l.drop at_) 0 0).2.2 = 0
  · obtain ⟨k, M, k1, k2, k3, k4, k5, k6⟩ : ∃ (k : Nat) (M : Int), 1 ≤ k ∧ k ≤ (l.drop at_).length ∧ (rU 0 (l.drop at_) 0 0).2.1 = k ∧ 0 ≤ M ∧ (rU 0 (l.drop at_) 0 0).1 = M ∧ (rU 0 (l.drop at_) 0 0).1 < 18446744073709551616 := by
      rcases hsp with ⟨g, _⟩ | ⟨_, k, M, g1, g2, g3, g4, g5, g6, _, _⟩
      · exact absurd h g
      · exact ⟨k, M, g1, g2, by rw [g3]; simp, g4, by rw [g5]; simp, g6⟩
    have e3 := s3 h
    rw [k3] at e3
    rw [e3, h, k5] at HF
    rw [k5] at k6
    have HP : Hid (pU (l.drop at_) = some (M, l.drop (at_ + k))) := hidden (by
      unfold pU
      rw [if_pos h, k5, k3, Int.toNat_natCast, List.drop_drop])
    rw [List.length_drop, hlen] at k2
    have bM : M ≤ 18446744073709551615 := by omega
    have HS : ∀ q, Hid (Rd ((w.drewN q).setCell ⟨r, 1, none⟩ (.int .i64 ((at_ + k : Nat) : Int))) r ao n cap (at_ + k) en) := fun q => hidden (Rd.set1 (HR.out.drewN q) (at_ + k))
    clear hs s1 s2 s3 hsp h k3 k5 e3
    go_enter Tryz.func104, Tryz.ntmps104
    go_wp2_with fail
    go_quiet (first | (go_at_call 119; exact Calls.quiet_of_same (HF.out _)))
    go_wp2
    go_ret
    exact ⟨M, at_ + k, en, rfl, by simpa using HS _, hidden ((Cf.drew _ _ _).go (Cf.set _ _ _ _)), hidden ⟨⟨k4, k6⟩, by omega, .inl ⟨HP.out, rfl⟩⟩⟩
  · have HP : Hid (pU (l.drop at_) = none) := hidden (by unfold pU; rw [if_neg h])
    have hz : (rU 0 (l.drop at_) 0 0).1 = 0 := by
      rcases hsp with ⟨_, g, _⟩ | ⟨g, _⟩
      · exact g
      · exact absurd g h
    have d1 : ((rU 0 (l.drop at_) 0 0).2.2 == 0) = false := by simpa using h
    generalize (rU 0 (l.drop at_) 0 0).2.2 = er at *
    generalize (rU (at_ : Int) (l.drop at_) 0 0).2.1 = pe at *
    rw [hz] at HF
    clear hs s1 s2 s3 hsp hz
    go_enter Tryz.func104, Tryz.ntmps104
    go_wp2_with fail
    go_quiet (first | (go_at_call 119; exact Calls.quiet_of_same (HF.out _)))
    go_wp2
    go_ret
    exact ⟨0, at_, true, rfl, hidden (Rd.set2 (HR.out.drewN _) true), hidden ((Cf.drew _ _ _).go (Cf.set _ _ _ _)), hidden ⟨⟨by omega, by omega⟩, ha, .inr ⟨HP.out, rfl, rfl, rfl⟩⟩⟩
end Go.Proofs.YtpjgmepafekhkaaGreatDoor

/- packed.reader.text and kind. -/

namespace Go.Proofs.YtpjgmepafekhkaaGreatDoor
open Go.RowKit

/-- What text comes to. -/
def UTextTo (l : List Int) (w : World) (r : Nat) (ao : Option Addr) (n cap at_ : Nat) (en : Bool) (e : Ending) (w' : World) : Prop :=
  ∃ (ko : Option Addr) (kn kc p : Nat) (en' : Bool) (t : List Int), e = .returned (.slice ko kn kc) ∧ Hid (Rd w' r ao n cap p en') ∧ Hid (Cf (· = r) w w') ∧ Hid (Sl w' ko kn kc t ∧ (∀ q, ko = some q → ∀ o, ao = some o → q.block = o.block) ∧ (p ≤ n ∧ kn ≤ n) ∧ ((pT (l.drop at_) = some (t, l.drop p) ∧ en' = en) ∨ (pT (l.drop at_) = none ∧ en' = true)))

set_option maxRecDepth 100000 in
set_option maxHeartbeats 1000000 in
theorem utext_any (l : List Int) (w : World) (r g off n cap at_ : Nat) (en : Bool) (hr : Rd w r (some ⟨g, off, none⟩) n cap at_ en) (hs : Sl w (some ⟨g, off, none⟩) n cap l) (ha : at_ ≤ n) :
    Calls Tryz.prog 103 #[.pointer (some ⟨r, 0, none⟩)] w fun e w' => UTextTo l w r (some ⟨g, off, none⟩) n cap at_ en e w' := by
  have HN := hidden (unumber_any l w r (some ⟨g, off, none⟩) n cap at_ en hr hs ha)
  have HS := hidden hs
  have HAP := hidden (hs.apart hr)
  have hn := hs.hroom
  have hcap := hs.hcap
  clear hr hs
  go_enter Tryz.func103, Tryz.ntmps103
  go_wp2_with (first | (go_at_call 104; refine HN.out.mono ?_; rintro e w1 ⟨v, p, en', rfl, HR, HC, HV⟩; refine Hid.out ?_))
  apply hidden
  clear HN
  obtain ⟨⟨hv0, hv1⟩, hp, hcase⟩ := HV.out
  clear HV
  have HCASE := hidden hcase
  clear hcase
  obtain ⟨m, rfl⟩ := Int.eq_ofNat_of_zero_le hv0
  have hm : (m : Int) < 18446744073709551616 := by omega
  clear hv0 hv1
  have HS1 : Hid (Sl w1 (some ⟨g, off, none⟩) n cap l) := hidden (HS.out.cf HC.out HAP.out)
  have c0 := HR.out.c0
  have c1 := HR.out.c1
  have c2 := HR.out.c2
  have f1 := HR.out.free 1
  have f2 := HR.out.free 2
  have HLEN := hidden HS.out.hlen
  by_cases h : (n : Int) - (p : Int) < (m : Int)
  · have d1 : decide ((n : Int) - (p : Int) < (m : Int)) = true := decide_eq_true h
    have HQ : Hid (pT (l.drop at_) = none) := by
      rcases HCASE.out with ⟨h1, h2⟩ | ⟨h1, h2, h3, h4⟩
      · refine hidden ?_
        unfold pT
        rw [h1]
        simp only
        rw [if_pos (by rw [List.length_drop, HLEN.out]; omega)]
      · omega
    go_wp2_with fail
    go_quiet (fail)
    go_wp2
    go_ret
    exact ⟨none, 0, 0, p, true, [], rfl, hidden (Rd.set2 (HR.out.drewN _) true), hidden ((HC.out.go (Cf.drew _ _ _)).go (Cf.set _ _ _ _)), hidden ⟨Sl.nil_any _ _ _ (fun _ => rfl), (by intro q hq; cases hq), ⟨hp, Nat.zero_le _⟩, .inr ⟨HQ.out, rfl⟩⟩⟩
  · have d1 : decide ((n : Int) - (p : Int) < (m : Int)) = false := decide_eq_false h
    have HCASE2 : Hid (∃ tx, tx = (l.drop p).take m ∧ ((pT (l.drop at_) = some (tx, l.drop (p + m)) ∧ en' = en) ∨ (pT (l.drop at_) = none ∧ en' = true))) := by
      refine hidden ⟨(l.drop p).take m, rfl, ?_⟩
      rcases HCASE.out with ⟨h1, h2⟩ | ⟨h1, h2, h3, h4⟩
      · left
        refine ⟨?_, h2⟩
        unfold pT
        rw [h1]
        simp only
        rw [if_neg (by rw [List.length_drop, HLEN.out]; omega), Int.toNat_natCast, List.drop_drop]
      · right
        refine ⟨?_, h2⟩
        unfold pT
        rw [h1]
    have HAP2 : Hid (m = 0 ∨ ∀ q : Addr, some (⟨g, off + p, none⟩ : Addr) = some q → ¬ q.block = r) := by
      refine hidden ?_
      rcases HAP.out with h0 | h0
      · exact .inl (by omega)
      · exact .inr fun q hq => by injection hq with hq; subst hq; exact h0 ⟨g, off, none⟩ rfl
    by_cases hm0 : m = 0
    · subst hm0
      have p2 : p ≤ cap := by omega
      have p3 : (p : Int) ≤ (cap : Int) := by omega
      have HS2 : ∀ q, Hid (Rd ((w1.drewN q).setCell ⟨r, 1, none⟩ (.int .i64 (p : Int))) r (some ⟨g, off, none⟩) n cap p en') := fun q => hidden (Rd.set1 (HR.out.drewN q) p)
      have x0 := fun q => (HS2 q).out.c0
      have x1 := fun q => (HS2 q).out.c1
      have HCF : Hid (∀ q q' : Nat, Cf (· = r) w (((w1.drewN q).setCell ⟨r, 1, none⟩ (.int .i64 (p : Int))).drewN q')) := hidden fun q q' => ((HC.out.go (Cf.drew _ _ _)).go (Cf.set _ _ _ _)).go (Cf.drew _ _ _)
      clear h HAP2 HCASE
      go_wp2_with fail
      go_quiet (fail)
      go_wp2_with fail
      go_quiet (fail)
      go_wp2
      go_ret
      obtain ⟨tx, htx, hcx⟩ := HCASE2.out
      rw [List.take_zero] at htx
      subst htx
      exact ⟨_, _, _, p, en', [], rfl, hidden ((HS2 _).out.drewN _), hidden (HCF.out _ _), hidden ⟨Sl.nil_any _ _ _ (by intro h; cases h), (fun q hq o ho => by injection hq with hq; injection ho with ho; subst hq ho; rfl), ⟨hp, Nat.zero_le _⟩, hcx⟩⟩
    · obtain ⟨t, ht⟩ : ∃ t, p + m = t := ⟨_, rfl⟩
      have htI : (p : Int) + (m : Int) = (t : Int) := by omega
      have t1 : p ≤ t := by omega
      have t2 : t ≤ n := by omega
      have t3 : t ≤ cap := by omega
      have t4 : (p : Int) ≤ (t : Int) := by omega
      have t5 : (t : Int) ≤ (cap : Int) := by omega
      have t6 : t - p = m := by omega
      have t7 : ¬ t = p := by omega
      have HS2 : ∀ q, Hid (Rd ((w1.drewN q).setCell ⟨r, 1, none⟩ (.int .i64 (t : Int))) r (some ⟨g, off, none⟩) n cap t en') := fun q => hidden (Rd.set1 (HR.out.drewN q) t)
      have x0 := fun q => (HS2 q).out.c0
      have x1 := fun q => (HS2 q).out.c1
      have HCF : Hid (∀ q q' : Nat, Cf (· = r) w (((w1.drewN q).setCell ⟨r, 1, none⟩ (.int .i64 (t : Int))).drewN q')) := hidden fun q q' => ((HC.out.go (Cf.drew _ _ _)).go (Cf.set _ _ _ _)).go (Cf.drew _ _ _)
      have HCF1 : Hid (∀ q q' : Nat, Cf (· = r) w1 (((w1.drewN q).setCell ⟨r, 1, none⟩ (.int .i64 (t : Int))).drewN q')) := hidden fun q q' => ((Cf.drew _ _ _).go (Cf.set _ _ _ _)).go (Cf.drew _ _ _)
      have HSX := hidden (HS1.out.piece p m m (by omega) (Nat.le_refl _))
      rw [ht] at HCASE2
      clear h HCASE ht
      go_wp2_with fail
      go_quiet (fail)
      go_wp2_with fail
      go_quiet (fail)
      go_wp2
      go_ret
      obtain ⟨tx, htx, hcx⟩ := HCASE2.out
      subst htx
      exact ⟨_, _, _, t, en', _, rfl, hidden ((HS2 _).out.drewN _), hidden (HCF.out _ _), hidden ⟨HSX.out.cf (HCF1.out _ _) HAP2.out, (fun q hq o ho => by injection hq with hq; injection ho with ho; subst hq ho; rfl), ⟨t2, by omega⟩, hcx⟩⟩
/-- What kind comes to. -/
def KndTo (l : List Int) (w : World) (r : Nat) (ao : Option Addr) (n cap at_ : Nat) (en : Bool) (e : Ending) (w' : World) : Prop :=
  ∃ (v : Int) (p : Nat) (en' : Bool), e = .returned (.int .i64 v) ∧ Hid (Rd w' r ao n cap p en') ∧ Hid (Cf (· = r) w w') ∧ Hid ((0 ≤ v ∧ v < 256) ∧ p ≤ n ∧ ((pNum 1 (l.drop at_) = some (v, l.drop p) ∧ en' = en) ∨ (pNum 1 (l.drop at_) = none ∧ en' = true ∧ v = 0 ∧ p = at_)))
set_option maxRecDepth 100000 in
set_option maxHeartbeats 1000000 in
theorem kind_any (l : List Int) (w : World) (r : Nat) (ao : Option Addr) (n cap at_ : Nat) (en : Bool) (hr : Rd w r ao n cap at_ en) (hs : Sl w ao n cap l) (ha : at_ ≤ n) :
    Calls Tryz.prog 102 #[.pointer (some ⟨r, 0, none⟩)] w fun e w' => KndTo l w r ao n cap at_ en e w' := by
  have c0 := hr.c0
  have c1 := hr.c1
  have c2 := hr.c2
  have f1 := hr.free 1
  have f2 := hr.free 2
  have hn := hs.hroom
  have HR := hidden hr
  have hlen := hs.hlen
  by_cases h : 1 ≤ n - at_
  · have HF : Hid (∀ q, Calls Tryz.prog 118 #[.slice ao n cap, .int .i64 (at_ : Int), .int .i64 1] (w.drewN q) fun e w' => e = .returned (.tuple #[.int .u64 (rdB ((l.drop at_).take 1)), .int .i64 0]) ∧ w' = w.drewN q) :=
      hidden fun q => by simpa using readFixed_ok ao n cap l (at_ : Int) 1 (w.drewN q) (hs.drewN q) (by omega) (by omega) (by omega) (by omega)
    have hp : pNum 1 (l.drop at_) = some (rdB ((l.drop at_).take 1), l.drop (at_ + 1)) := by
      unfold pNum
      rw [if_neg (by rw [List.length_drop]; omega), List.drop_drop]
    have hb := rdB_bound ((l.drop at_).take 1) ((hs.wf.drop at_).take 1)
    rw [show ((l.drop at_).take 1).length = 1 from by rw [List.length_take, List.length_drop]; omega] at hb
    have HB := hidden hb
    have hb8 : rdB ((l.drop at_).take 1) < 256 := by omega
    generalize rdB ((l.drop at_).take 1) = v at *
    have hv0 := hb.1
    have HP := hidden hp
    clear hp hb hs
    have hw : wrap64 v = v := by simp [wrap64]; omega
    have HS : ∀ q, Hid (Rd ((w.drewN q).setCell ⟨r, 1, none⟩ (.int .i64 ((at_ + 1 : Nat) : Int))) r ao n cap (at_ + 1) en) := fun q => hidden (Rd.set1 (HR.out.drewN q) (at_ + 1))
    go_enter Tryz.func102, Tryz.ntmps102
    go_wp2_with fail
    go_quiet (first | (go_at_call 118; exact Calls.quiet_of_same (HF.out _)))
    go_wp2
    go_ret
    exact ⟨v, at_ + 1, en, rfl, by simpa using HS _, hidden ((Cf.drew _ _ _).go (Cf.set _ _ _ _)), hidden ⟨⟨hv0, hb8⟩, by omega, .inl ⟨HP.out, rfl⟩⟩⟩
  · have HF : Hid (∀ q, Calls Tryz.prog 118 #[.slice ao n cap, .int .i64 (at_ : Int), .int .i64 1] (w.drewN q) fun e w' => e = .returned (.tuple #[.int .u64 0, .int .i64 10]) ∧ w' = w.drewN q) :=
      hidden fun q => by simpa using readFixed_short ao n cap (at_ : Int) 1 (w.drewN q) (by omega) (by omega) (by omega) (by omega) (by omega)
    have hp : pNum 1 (l.drop at_) = none := by
      unfold pNum
      rw [if_pos (by rw [List.length_drop]; omega)]
    have HP := hidden hp
    clear hp hs
    go_enter Tryz.func102, Tryz.ntmps102
    go_wp2_with fail
    go_quiet (first | (go_at_call 118; exact Calls.quiet_of_same (HF.out _)))
    go_wp2
    go_ret
    exact ⟨0, at_, true, rfl, hidden (Rd.set2 (HR.out.drewN _) true), hidden ((Cf.drew _ _ _).go (Cf.set _ _ _ _)), hidden ⟨⟨by omega, by omega⟩, ha, .inr ⟨HP.out, rfl, rfl, rfl⟩⟩⟩
end Go.Proofs.YtpjgmepafekhkaaGreatDoor

/- packed.reader.cell. -/

namespace Go.Proofs.YtpjgmepafekhkaaGreatDoor
open Go.RowKit

/-- A cell in a block of its own. -/
def C5 (w : World) (g : Nat) (x0 x1 x2 x3 x4 : Value) : Prop := w.heap[g]? = some (.cells #[x0, x1, x2, x3, x4] 47 (0, 0))
set_option maxRecDepth 100000 in
theorem C5.cells {w : World} {g : Nat} {x0 x1 x2 x3 x4 : Value} (h : C5 w g x0 x1 x2 x3 x4) :
    w.cell? ⟨g, 0, none⟩ = some x0 ∧ w.cell? ⟨g, 1, none⟩ = some x1 ∧ w.cell? ⟨g, 2, none⟩ = some x2 ∧ w.cell? ⟨g, 3, none⟩ = some x3 ∧ w.cell? ⟨g, 4, none⟩ = some x4 := by
  unfold C5 at h
  refine ⟨?_, ?_, ?_, ?_, ?_⟩
  · rw [cell_of_row _ _ 0 _ _ _ h]; rfl
  · rw [cell_of_row _ _ 1 _ _ _ h]; rfl
  · rw [cell_of_row _ _ 2 _ _ _ h]; rfl
  · rw [cell_of_row _ _ 3 _ _ _ h]; rfl
  · rw [cell_of_row _ _ 4 _ _ _ h]; rfl
set_option maxRecDepth 100000 in
theorem C5.free {w : World} {g : Nat} {x0 x1 x2 x3 x4 : Value} (h : C5 w g x0 x1 x2 x3 x4) : w.frozen? ⟨g, 0, none⟩ = false ∧ w.frozen? ⟨g, 1, none⟩ = false ∧ w.frozen? ⟨g, 2, none⟩ = false ∧ w.frozen? ⟨g, 3, none⟩ = false ∧ w.frozen? ⟨g, 4, none⟩ = false := by
  unfold C5 at h
  simp [World.frozen?, h]
set_option maxRecDepth 100000 in
theorem C5.set {w : World} {g : Nat} {x0 x1 x2 x3 x4 : Value} (h : C5 w g x0 x1 x2 x3 x4) (y : Value) :
    C5 (w.setCell ⟨g, 0, none⟩ y) g y x1 x2 x3 x4 ∧ C5 (w.setCell ⟨g, 1, none⟩ y) g x0 y x2 x3 x4 ∧ C5 (w.setCell ⟨g, 2, none⟩ y) g x0 x1 y x3 x4 ∧ C5 (w.setCell ⟨g, 3, none⟩ y) g x0 x1 x2 y x4 ∧ C5 (w.setCell ⟨g, 4, none⟩ y) g x0 x1 x2 x3 y := by
  unfold C5 at *
  refine ⟨?_, ?_, ?_, ?_, ?_⟩
  · simpa using set_row (w := w) (a := g) (i := 0) (cs := [x0, x1, x2, x3, x4]) (u := y) h
  · simpa using set_row (w := w) (a := g) (i := 1) (cs := [x0, x1, x2, x3, x4]) (u := y) h
  · simpa using set_row (w := w) (a := g) (i := 2) (cs := [x0, x1, x2, x3, x4]) (u := y) h
  · simpa using set_row (w := w) (a := g) (i := 3) (cs := [x0, x1, x2, x3, x4]) (u := y) h
  · simpa using set_row (w := w) (a := g) (i := 4) (cs := [x0, x1, x2, x3, x4]) (u := y) h
set_option maxRecDepth 100000 in
theorem C5.cf {w w' : World} {g : Nat} {x0 x1 x2 x3 x4 : Value} {F : Nat → Prop} (h : C5 w g x0 x1 x2 x3 x4) (hc : Cf F w w') (hg : ¬ F g) : C5 w' g x0 x1 x2 x3 x4 := (hc.block g (lt_some h) hg).trans h
set_option maxRecDepth 100000 in
theorem Rd.cf {w w' : World} {r : Nat} {ao : Option Addr} {n cap at_ : Nat} {en : Bool} {F : Nat → Prop} (h : Rd w r ao n cap at_ en) (hc : Cf F w w') (hg : ¬ F r) : Rd w' r ao n cap at_ en := (hc.block r h.lt hg).trans h

/-- cell, under way: its two blocks are k and k + 1. -/
structure Cs (w u : World) (k r g off n cap p : Nat) (en : Bool) (l : List Int) (x0 x1 x2 x3 x4 : Value) : Prop where
  rd : Rd u r (some ⟨g, off, none⟩) n cap p en
  sl : Sl u (some ⟨g, off, none⟩) n cap l
  c2 : C5 u k (.slice none 0 0) (.int .i64 0) (.slice none 0 0) (.int .i64 0) (.int .i64 0)
  c3 : C5 u (k + 1) x0 x1 x2 x3 x4
  cf : Cf (· = r) w u
  hk : k = w.heap.size
  hp : p ≤ n
set_option maxRecDepth 100000 in
theorem Cs.r_lt {w u : World} {k r g off n cap p : Nat} {en : Bool} {l : List Int} {x0 x1 x2 x3 x4 : Value} (h : Cs w u k r g off n cap p en l x0 x1 x2 x3 x4) (hr : r < w.heap.size) : ¬ k = r ∧ ¬ k + 1 = r := by
  have := h.hk
  omega
set_option maxRecDepth 100000 in
theorem Cs.kind {w u : World} {k r g off n cap p : Nat} {en : Bool} {l : List Int} {x0 x1 x2 x3 x4 : Value} (h : Cs w u k r g off n cap p en l x0 x1 x2 x3 x4) (hr : r < w.heap.size) :
    Calls Tryz.prog 102 #[.pointer (some ⟨r, 0, none⟩)] u fun e w' => ∃ (v : Int) (p' : Nat) (en' : Bool), e = .returned (.int .i64 v) ∧ Hid (Cs w w' k r g off n cap p' en' l x0 x1 x2 x3 x4) ∧ Hid ((pNum 1 (l.drop p) = some (v, l.drop p') ∧ en' = en) ∨ (pNum 1 (l.drop p) = none ∧ en' = true)) ∧ Hid (Cf (· = r) u w') := by
  refine (kind_any l u r _ n cap p en h.rd h.sl h.hp).mono ?_
  rintro e w' ⟨v, p', en', rfl, HR, HC, HV⟩
  obtain ⟨h1, h2⟩ := h.r_lt hr
  obtain ⟨_, hp, hv⟩ := HV.out
  refine ⟨v, p', en', rfl, hidden ⟨HR.out, h.sl.cf HC.out (h.sl.apart h.rd), h.c2.cf HC.out h1, h.c3.cf HC.out h2, h.cf.go HC.out, h.hk, hp⟩, hidden ?_, HC⟩
  rcases hv with ⟨a, b⟩ | ⟨a, b, c, d⟩
  · exact .inl ⟨a, b⟩
  · exact .inr ⟨a, b⟩
set_option maxRecDepth 100000 in
theorem Cs.unumber {w u : World} {k r g off n cap p : Nat} {en : Bool} {l : List Int} {x0 x1 x2 x3 x4 : Value} (h : Cs w u k r g off n cap p en l x0 x1 x2 x3 x4) (hr : r < w.heap.size) :
    Calls Tryz.prog 104 #[.pointer (some ⟨r, 0, none⟩)] u fun e w' => ∃ (v : Int) (p' : Nat) (en' : Bool), e = .returned (.int .u64 v) ∧ Hid (Cs w w' k r g off n cap p' en' l x0 x1 x2 x3 x4) ∧ Hid ((pU (l.drop p) = some (v, l.drop p') ∧ en' = en) ∨ (pU (l.drop p) = none ∧ en' = true)) ∧ Hid (Cf (· = r) u w') := by
  refine (unumber_any l u r _ n cap p en h.rd h.sl h.hp).mono ?_
  rintro e w' ⟨v, p', en', rfl, HR, HC, HV⟩
  obtain ⟨h1, h2⟩ := h.r_lt hr
  obtain ⟨_, hp, hv⟩ := HV.out
  refine ⟨v, p', en', rfl, hidden ⟨HR.out, h.sl.cf HC.out (h.sl.apart h.rd), h.c2.cf HC.out h1, h.c3.cf HC.out h2, h.cf.go HC.out, h.hk, hp⟩, hidden ?_, HC⟩
  rcases hv with ⟨a, b⟩ | ⟨a, b, c, d⟩
  · exact .inl ⟨a, b⟩
  · exact .inr ⟨a, b⟩
set_option maxRecDepth 100000 in
theorem Cs.text {w u : World} {k r g off n cap p : Nat} {en : Bool} {l : List Int} {x0 x1 x2 x3 x4 : Value} (h : Cs w u k r g off n cap p en l x0 x1 x2 x3 x4) (hr : r < w.heap.size) :
    Calls Tryz.prog 103 #[.pointer (some ⟨r, 0, none⟩)] u fun e w' => ∃ (ko : Option Addr) (kn kc p' : Nat) (en' : Bool) (t : List Int), e = .returned (.slice ko kn kc) ∧ Hid (Cs w w' k r g off n cap p' en' l x0 x1 x2 x3 x4) ∧ Hid (Sl w' ko kn kc t ∧ (∀ q, ko = some q → q.block = g) ∧ kn ≤ n) ∧ Hid ((pT (l.drop p) = some (t, l.drop p') ∧ en' = en) ∨ (pT (l.drop p) = none ∧ en' = true)) ∧ Hid (Cf (· = r) u w') := by
  refine (utext_any l u r g off n cap p en h.rd h.sl h.hp).mono ?_
  rintro e w' ⟨ko, kn, kc, p', en', t, rfl, HR, HC, HV⟩
  obtain ⟨h1, h2⟩ := h.r_lt hr
  obtain ⟨hs, hloc, ⟨hp, hkn⟩, hv⟩ := HV.out
  exact ⟨ko, kn, kc, p', en', t, rfl, hidden ⟨HR.out, h.sl.cf HC.out (h.sl.apart h.rd), h.c2.cf HC.out h1, h.c3.cf HC.out h2, h.cf.go HC.out, h.hk, hp⟩, hidden ⟨hs, fun q hq => hloc q hq _ rfl, hkn⟩, hidden hv, HC⟩
set_option maxRecDepth 100000 in
/-- A slice of bytes does not lie in a cell's block. -/
theorem Sl.apart5 {w : World} {ao : Option Addr} {n cap : Nat} {l : List Int} (h : Sl w ao n cap l) {g : Nat} {a b : Option Addr} {c d e f : Nat} {x y z : Int} (hr : C5 w g (.slice a c d) (.int .i64 x) (.slice b e f) (.int .i64 y) (.int .i64 z)) : n = 0 ∨ ∀ p, ao = some p → ¬ p.block = g := by
  rcases h.hat with h0 | ⟨q, off, rfl, hg, hc⟩
  · exact .inl h0
  · rcases Nat.eq_zero_or_pos n with h0 | h0
    · exact .inl h0
    · right
      rintro p hp rfl
      injection hp with hp
      subst hp
      have h1 := hc 0 h0
      unfold C5 at hr
      rw [cell_of_row _ _ _ _ _ _ hr] at h1
      rcases Nat.lt_or_ge (off + 0) 5 with h3 | h3
      · have h4 : off + 0 = 0 ∨ off + 0 = 1 ∨ off + 0 = 2 ∨ off + 0 = 3 ∨ off + 0 = 4 := by omega
        rcases h4 with h4 | h4 | h4 | h4 | h4 <;> (rw [h4] at h1; simp at h1)
      · rw [Array.getElem?_eq_none (by simpa using h3)] at h1
        cases h1
set_option maxRecDepth 100000 in
/-- A store into the cell's block. -/
theorem Cs.store {w u : World} {k r g off n cap p : Nat} {en : Bool} {l : List Int} {a b : Option Addr} {c d e f : Nat} {x y z : Int} (h : Cs w u k r g off n cap p en l (.slice a c d) (.int .i64 x) (.slice b e f) (.int .i64 y) (.int .i64 z)) (hr : r < w.heap.size) (i : Nat) (v : Value) {y0 y1 y2 y3 y4 : Value} (hy : C5 (u.setCell ⟨k + 1, i, none⟩ v) (k + 1) y0 y1 y2 y3 y4) :
    Cs w (u.setCell ⟨k + 1, i, none⟩ v) k r g off n cap p en l y0 y1 y2 y3 y4 := by
  obtain ⟨h1, h2⟩ := h.r_lt hr
  have hc := Cf.set u (k + 1) i v
  refine ⟨h.rd.cf hc (by omega), h.sl.cf hc (h.sl.apart5 h.c3), h.c2.cf hc (by omega), hy, ?_, h.hk, h.hp⟩
  refine h.cf.trans hc ?_
  intro j hj e
  have := h.hk
  omega

/-- What cell comes to. -/
def UCellTo (l : List Int) (w : World) (r g off n cap at_ : Nat) (en : Bool) (e : Ending) (w' : World) : Prop :=
  ∃ (ko : Option Addr) (kn kc : Nat) (kd : Int) (vo : Option Addr) (vn vc : Nat) (pg ct : Int) (p : Nat) (en' : Bool) (key val : List Int), e = .returned (.agg #[.slice ko kn kc, .int .i64 kd, .slice vo vn vc, .int .i64 pg, .int .i64 ct]) ∧ Hid (Rd w' r (some ⟨g, off, none⟩) n cap p en') ∧ Hid (Cf (· = r) w w') ∧
    Hid (Sl w' ko kn kc key ∧ Sl w' vo vn vc val ∧ (∀ q, ko = some q → q.block = g) ∧ (∀ q, vo = some q → q.block = g) ∧ (p ≤ n ∧ kn ≤ n) ∧ ((pC (l.drop at_) = some (⟨key, kd, val, pg, ct⟩, l.drop p) ∧ en' = en) ∨ (pC (l.drop at_) = none ∧ en' = true)))
set_option maxRecDepth 100000 in
theorem ucellV {l : List Int} {a p1 p2 p3 : Nat} {en e1 e2 e3 : Bool} {key val : List Int} (h1 : (pNum 1 (l.drop a) = some (1, l.drop p1) ∧ e1 = en) ∨ (pNum 1 (l.drop a) = none ∧ e1 = true))
    (h2 : (pT (l.drop p1) = some (key, l.drop p2) ∧ e2 = e1) ∨ (pT (l.drop p1) = none ∧ e2 = true)) (h3 : (pT (l.drop p2) = some (val, l.drop p3) ∧ e3 = e2) ∨ (pT (l.drop p2) = none ∧ e3 = true)) :
    (pC (l.drop a) = some (⟨key, 1, val, 0, 0⟩, l.drop p3) ∧ e3 = en) ∨ (pC (l.drop a) = none ∧ e3 = true) := by
  unfold pC
  rcases h1 with ⟨h1, rfl⟩ | ⟨h1, rfl⟩
  · rw [h1]
    simp only
    rcases h2 with ⟨h2, rfl⟩ | ⟨h2, rfl⟩
    · rw [h2]
      simp only [if_true]
      rcases h3 with ⟨h3, rfl⟩ | ⟨h3, rfl⟩
      · rw [h3]; exact .inl ⟨rfl, rfl⟩
      · rw [h3]; exact .inr ⟨rfl, rfl⟩
    · rw [h2]
      refine .inr ⟨rfl, ?_⟩
      rcases h3 with ⟨_, h⟩ | ⟨_, h⟩ <;> exact h
  · rw [h1]
    refine .inr ⟨rfl, ?_⟩
    rcases h2 with ⟨_, rfl⟩ | ⟨_, rfl⟩ <;> rcases h3 with ⟨_, h⟩ | ⟨_, h⟩ <;> exact h
set_option maxRecDepth 100000 in
theorem ucellN {l : List Int} {a p1 p2 p3 p4 : Nat} {en e1 e2 e3 e4 : Bool} {key : List Int} {kd pg ct : Int} (hk : kd ≠ 1) (h1 : (pNum 1 (l.drop a) = some (kd, l.drop p1) ∧ e1 = en) ∨ (pNum 1 (l.drop a) = none ∧ e1 = true))
    (h2 : (pT (l.drop p1) = some (key, l.drop p2) ∧ e2 = e1) ∨ (pT (l.drop p1) = none ∧ e2 = true)) (h3 : (pU (l.drop p2) = some (pg, l.drop p3) ∧ e3 = e2) ∨ (pU (l.drop p2) = none ∧ e3 = true))
    (h4 : (pU (l.drop p3) = some (ct, l.drop p4) ∧ e4 = e3) ∨ (pU (l.drop p3) = none ∧ e4 = true)) :
    (pC (l.drop a) = some (⟨key, kd, [], wrap64 pg, wrap64 ct⟩, l.drop p4) ∧ e4 = en) ∨ (pC (l.drop a) = none ∧ e4 = true) := by
  unfold pC
  rcases h1 with ⟨h1, rfl⟩ | ⟨h1, rfl⟩
  · rw [h1]
    simp only
    rcases h2 with ⟨h2, rfl⟩ | ⟨h2, rfl⟩
    · rw [h2]
      simp only [if_neg hk]
      rcases h3 with ⟨h3, rfl⟩ | ⟨h3, rfl⟩
      · rw [h3]
        simp only
        rcases h4 with ⟨h4, rfl⟩ | ⟨h4, rfl⟩
        · rw [h4]; exact .inl ⟨rfl, rfl⟩
        · rw [h4]; exact .inr ⟨rfl, rfl⟩
      · rw [h3]
        refine .inr ⟨rfl, ?_⟩
        rcases h4 with ⟨_, h⟩ | ⟨_, h⟩ <;> exact h
    · rw [h2]
      refine .inr ⟨rfl, ?_⟩
      rcases h3 with ⟨_, rfl⟩ | ⟨_, rfl⟩ <;> rcases h4 with ⟨_, h⟩ | ⟨_, h⟩ <;> exact h
  · rw [h1]
    refine .inr ⟨rfl, ?_⟩
    rcases h2 with ⟨_, rfl⟩ | ⟨_, rfl⟩ <;> rcases h3 with ⟨_, rfl⟩ | ⟨_, rfl⟩ <;> rcases h4 with ⟨_, h⟩ | ⟨_, h⟩ <;> exact h

/-- A cell written whole. -/
def put5 (w : World) (g : Nat) (y0 y1 y2 y3 y4 : Value) : World := ((((w.setCell ⟨g, 0, none⟩ y0).setCell ⟨g, 1, none⟩ y1).setCell ⟨g, 2, none⟩ y2).setCell ⟨g, 3, none⟩ y3).setCell ⟨g, 4, none⟩ y4
set_option maxRecDepth 100000 in
theorem C5.put {w : World} {g : Nat} {x0 x1 x2 x3 x4 : Value} (h : C5 w g x0 x1 x2 x3 x4) (y0 y1 y2 y3 y4 : Value) : C5 (put5 w g y0 y1 y2 y3 y4) g y0 y1 y2 y3 y4 :=
  ((((((h.set y0).1).set y1).2.1.set y2).2.2.1.set y3).2.2.2.1.set y4).2.2.2.2
set_option maxRecDepth 100000 in
theorem put5_cf (w : World) (g : Nat) (y0 y1 y2 y3 y4 : Value) : Cf (· = g) w (put5 w g y0 y1 y2 y3 y4) := ((((Cf.set _ _ _ _).go (Cf.set _ _ _ _)).go (Cf.set _ _ _ _)).go (Cf.set _ _ _ _)).go (Cf.set _ _ _ _)
set_option maxRecDepth 100000 in
theorem sizeCell : (Tryz.prog.info? 47).map (·.size) = some 5 := by kernel_rfl
set_option maxRecDepth 100000 in
/-- The end of cell. -/
theorem Cs.fin {w u : World} {k r g off n cap p at_ : Nat} {en en' : Bool} {l : List Int} {ko vo : Option Addr} {kn kc vn vc : Nat} {kd pg ct : Int} (h : Cs w u k r g off n cap p en' l (.slice ko kn kc) (.int .i64 kd) (.slice vo vn vc) (.int .i64 pg) (.int .i64 ct)) (hr : r < w.heap.size) {key val : List Int}
    (hk : Sl u ko kn kc key) (hv : Sl u vo vn vc val) (hloc : ∀ q, ko = some q → q.block = g) (hlocV : ∀ q, vo = some q → q.block = g) (hkn : kn ≤ n) (hc : (pC (l.drop at_) = some (⟨key, kd, val, pg, ct⟩, l.drop p) ∧ en' = en) ∨ (pC (l.drop at_) = none ∧ en' = true)) :
    UCellTo l w r g off n cap at_ en (.returned (.agg #[.slice ko kn kc, .int .i64 kd, .slice vo vn vc, .int .i64 pg, .int .i64 ct])) (put5 u k (.slice ko kn kc) (.int .i64 kd) (.slice vo vn vc) (.int .i64 pg) (.int .i64 ct)) := by
  obtain ⟨h1, h2⟩ := h.r_lt hr
  have hf := put5_cf u k (.slice ko kn kc) (.int .i64 kd) (.slice vo vn vc) (.int .i64 pg) (.int .i64 ct)
  refine ⟨ko, kn, kc, kd, vo, vn, vc, pg, ct, p, en', key, val, rfl, hidden (h.rd.cf hf (by omega)), hidden (h.cf.trans hf ?_), hidden ⟨hk.cf hf (hk.apart5 h.c2), hv.cf hf (hv.apart5 h.c2), hloc, hlocV, ⟨h.hp, hkn⟩, hc⟩⟩
  intro j hj e
  have := h.hk
  omega

set_option maxRecDepth 100000 in
set_option maxHeartbeats 1000000 in
theorem ucell_any (l : List Int) (w : World) (r g off n cap at_ : Nat) (en : Bool) (hr : Rd w r (some ⟨g, off, none⟩) n cap at_ en) (hs : Sl w (some ⟨g, off, none⟩) n cap l) (ha : at_ ≤ n) :
    Calls Tryz.prog 78 #[.pointer (some ⟨r, 0, none⟩)] w fun e w' => UCellTo l w r g off n cap at_ en e w' := by
  have hrl := hr.lt
  obtain ⟨k, hk⟩ : ∃ k, w.heap.size = k := ⟨_, rfl⟩
  obtain ⟨u, hu⟩ : ∃ u, (w.alloc (.cells #[.slice none 0 0, .int .i64 0, .slice none 0 0, .int .i64 0, .int .i64 0] 47)).alloc (.cells #[.slice none 0 0, .int .i64 0, .slice none 0 0, .int .i64 0, .int .i64 0] 47) = u := ⟨_, rfl⟩
  have HC0 : Hid (Cs w u k r g off n cap at_ en l (.slice none 0 0) (.int .i64 0) (.slice none 0 0) (.int .i64 0) (.int .i64 0)) := by
    have hc : Cf (· = r) w u := by rw [← hu]; exact (Cf.alloc _ _ _).go (Cf.alloc _ _ _)
    refine hidden ⟨?_, ?_, ?_, ?_, hc, hk.symm, ha⟩
    · rw [← hu]
      exact (Below.heap_alloc _ _ _ (by simp; omega)).trans ((Below.heap_alloc _ _ _ hrl).trans hr)
    · rw [← hu]
      exact hs.on (Nat.le_refl _) (bl_al (bl_al (Below.refl _ _) (Nat.le_refl _) _) (Nat.le_refl _) _)
    · rw [← hu, ← hk]
      exact (Below.heap_alloc _ _ _ (by simp)).trans (heap_alloc_last w _)
    · rw [← hu, ← hk]
      have hz : (w.alloc (.cells #[.slice none 0 0, .int .i64 0, .slice none 0 0, .int .i64 0, .int .i64 0] 47)).heap.size = w.heap.size + 1 := by simp
      have := heap_alloc_last (w.alloc (.cells #[.slice none 0 0, .int .i64 0, .slice none 0 0, .int .i64 0, .int .i64 0] 47)) (.cells #[.slice none 0 0, .int .i64 0, .slice none 0 0, .int .i64 0, .int .i64 0] 47)
      rw [hz] at this
      exact this
  have N1 := hidden (HC0.out.kind hrl)
  clear hr hs
  go_enter Tryz.func78, Tryz.ntmps78
  go_wp2_with (first | (go_at_call 102; refine N1.out.mono ?_; rintro e w1 ⟨v1, p1, e1, rfl, HS1, HV1, HX1⟩; refine Hid.out ?_))
  apply hidden
  clear N1 HC0 hu
  obtain ⟨a0, a1, a2, a3, a4⟩ := HS1.out.c3.cells
  obtain ⟨f0, f1, f2, f3, f4⟩ := HS1.out.c3.free
  have HT1 := hidden (HS1.out.store hrl 1 (.int .i64 v1) (HS1.out.c3.set (.int .i64 v1)).2.1)
  have T1 := hidden (HT1.out.text hrl)
  go_wp2_with (first | (go_at_call 103; refine T1.out.mono ?_; rintro e w2 ⟨ko, kn, kc, p2, e2, key, rfl, HS2, HK2L, HV2, HX2⟩; refine Hid.out ?_))
  apply hidden
  have HK2 := hidden HK2L.out.1
  have HLOC := hidden HK2L.out.2.1
  have HKN := hidden HK2L.out.2.2
  clear HK2L
  clear a0 a1 a2 a3 a4 f0 f1 f2 f3 f4 T1 HT1 HS1
  obtain ⟨a0, a1, a2, a3, a4⟩ := HS2.out.c3.cells
  obtain ⟨f0, f1, f2, f3, f4⟩ := HS2.out.c3.free
  have HT2 := hidden (HS2.out.store hrl 0 (.slice ko kn kc) (HS2.out.c3.set (.slice ko kn kc)).1)
  have HK2a : Hid (Sl (w2.setCell ⟨k + 1, 0, none⟩ (.slice ko kn kc)) ko kn kc key) := hidden (HK2.out.cf (Cf.set _ _ _ _) (HK2.out.apart5 HS2.out.c3))
  by_cases h1 : v1 = 1
  · subst h1
    have T2 := hidden (HT2.out.text hrl)
    go_wp2_with (first | (go_at_call 103; refine T2.out.mono ?_; rintro e w3 ⟨vo, vn, vc, p3, e3, val, rfl, HS3, HK3L, HV3, HX3⟩; refine Hid.out ?_))
    apply hidden
    have HK3 := hidden HK3L.out.1
    have HLOCV := hidden HK3L.out.2.1
    clear HK3L
    have HK3a : Hid (Sl w3 ko kn kc key) := hidden (HK2a.out.cf HX3.out (HK2a.out.apart HT2.out.rd))
    clear a0 a1 a2 a3 a4 f0 f1 f2 f3 f4 T2 HT2 HS2 HK2a
    obtain ⟨a0, a1, a2, a3, a4⟩ := HS3.out.c3.cells
    obtain ⟨f0, f1, f2, f3, f4⟩ := HS3.out.c3.free
    obtain ⟨b0, b1, b2, b3, b4⟩ := HS3.out.c2.cells
    obtain ⟨d0, d1, d2, d3, d4⟩ := HS3.out.c2.free
    have HT3 := hidden (HS3.out.store hrl 2 (.slice vo vn vc) (HS3.out.c3.set (.slice vo vn vc)).2.2.1)
    have HK3b : Hid (Sl (w3.setCell ⟨k + 1, 2, none⟩ (.slice vo vn vc)) ko kn kc key) := hidden (HK3a.out.cf (Cf.set _ _ _ _) (HK3a.out.apart5 HS3.out.c3))
    have HK3c : Hid (Sl (w3.setCell ⟨k + 1, 2, none⟩ (.slice vo vn vc)) vo vn vc val) := hidden (HK3.out.cf (Cf.set _ _ _ _) (HK3.out.apart5 HS3.out.c3))
    have HV := hidden (ucellV HV1.out HV2.out HV3.out)
    clear HS3 HK3 HK3a HV1 HV2 HV3 HX1 HX2 HX3 HK2
    go_wp2
    refine bodyPost_ret (results_cell_row rfl _ _ k 47 #[.slice ko kn kc, .int .i64 1, .slice vo vn vc, .int .i64 0, .int .i64 0] (0, 0) _ (by rfl) (HT3.out.c2.put _ _ _ _ _) Tryz.underlying47 rfl sizeCell) rfl ?_
    exact HT3.out.fin hrl HK3b.out HK3c.out HLOC.out HLOCV.out HKN.out HV.out
  · have T2 := hidden (HT2.out.unumber hrl)
    go_wp2_with (first | (go_at_call 104; refine T2.out.mono ?_; rintro e w3 ⟨pg, p3, e3, rfl, HS3, HV3, HX3⟩; refine Hid.out ?_))
    apply hidden
    have HK3a : Hid (Sl w3 ko kn kc key) := hidden (HK2a.out.cf HX3.out (HK2a.out.apart HT2.out.rd))
    clear a0 a1 a2 a3 a4 f0 f1 f2 f3 f4 T2 HT2 HS2 HK2a
    obtain ⟨a0, a1, a2, a3, a4⟩ := HS3.out.c3.cells
    obtain ⟨f0, f1, f2, f3, f4⟩ := HS3.out.c3.free
    have HT3 := hidden (HS3.out.store hrl 3 (.int .i64 (wrap64 pg)) (HS3.out.c3.set (.int .i64 (wrap64 pg))).2.2.2.1)
    have HK3b : Hid (Sl (w3.setCell ⟨k + 1, 3, none⟩ (.int .i64 (wrap64 pg))) ko kn kc key) := hidden (HK3a.out.cf (Cf.set _ _ _ _) (HK3a.out.apart5 HS3.out.c3))
    have T3 := hidden (HT3.out.unumber hrl)
    go_wp2_with (first | (go_at_call 104; refine T3.out.mono ?_; rintro e w4 ⟨ct, p4, e4, rfl, HS4, HV4, HX4⟩; refine Hid.out ?_))
    apply hidden
    have HK4a : Hid (Sl w4 ko kn kc key) := hidden (HK3b.out.cf HX4.out (HK3b.out.apart HT3.out.rd))
    clear a0 a1 a2 a3 a4 f0 f1 f2 f3 f4 T3 HT3 HS3 HK3a HK3b
    obtain ⟨a0, a1, a2, a3, a4⟩ := HS4.out.c3.cells
    obtain ⟨f0, f1, f2, f3, f4⟩ := HS4.out.c3.free
    obtain ⟨b0, b1, b2, b3, b4⟩ := HS4.out.c2.cells
    obtain ⟨d0, d1, d2, d3, d4⟩ := HS4.out.c2.free
    have HT4 := hidden (HS4.out.store hrl 4 (.int .i64 (wrap64 ct)) (HS4.out.c3.set (.int .i64 (wrap64 ct))).2.2.2.2)
    have HK4b : Hid (Sl (w4.setCell ⟨k + 1, 4, none⟩ (.int .i64 (wrap64 ct))) ko kn kc key) := hidden (HK4a.out.cf (Cf.set _ _ _ _) (HK4a.out.apart5 HS4.out.c3))
    have HV := hidden (ucellN h1 HV1.out HV2.out HV3.out HV4.out)
    clear HS4 HK4a HV1 HV2 HV3 HV4 HX1 HX2 HX3 HX4 HK2
    go_wp2
    refine bodyPost_ret (results_cell_row rfl _ _ k 47 #[.slice ko kn kc, .int .i64 v1, .slice none 0 0, .int .i64 (wrap64 pg), .int .i64 (wrap64 ct)] (0, 0) _ (by rfl) (HT4.out.c2.put _ _ _ _ _) Tryz.underlying47 rfl sizeCell) rfl ?_
    exact HT4.out.fin hrl HK4b.out (Sl.nil_any _ _ _ fun _ => rfl) HLOC.out (fun q hq => by cases hq) HKN.out HV.out
end Go.Proofs.YtpjgmepafekhkaaGreatDoor
