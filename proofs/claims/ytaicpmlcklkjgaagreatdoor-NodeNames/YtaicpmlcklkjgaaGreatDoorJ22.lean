/- Three cells that may be fit; cells appended to cells. -/
import Derived.Test.YtaicpmlcklkjgaaGreatDoorJ21
import Derived.Test.YtaicpmlcklkjgaaGreatDoorJ03
import Derived.Test.YtaicpmlcklkjgaaGreatDoorJ08
namespace Go.Proofs.YtaicpmlcklkjgaaGreatDoor
open Go.RowKit

/-- Values that are cells. -/
def Row5 (w : World) : List Value → List Cl → Prop
  | vs, [] => vs = []
  | vs, c :: r => ∃ ka kc va vc t, vs = .slice ka c.key.length kc :: .int .i64 c.kd :: .slice va c.val.length vc :: .int .i64 c.pg :: .int .i64 c.ct :: t ∧ Sl w ka c.key.length kc c.key ∧ Sl w va c.val.length vc c.val ∧ Row5 w t r
set_option maxRecDepth 100000 in
theorem Row5.append {w : World} {us : List Value} {ds : List Cl} (g : Row5 w us ds) : ∀ {vs : List Value} {cs : List Cl}, Row5 w vs cs → Row5 w (vs ++ us) (cs ++ ds)
  | vs, [], h => by
    unfold Row5 at h
    subst h
    exact g
  | vs, c :: r, h => by
    obtain ⟨ka, kc, va, vc, t, rfl, h1, h2, h3⟩ := h
    exact ⟨ka, kc, va, vc, t ++ us, rfl, h1, h2, Row5.append g h3⟩
set_option maxRecDepth 100000 in
theorem Row5.len {w : World} : ∀ {vs : List Value} {cs : List Cl}, Row5 w vs cs → vs.length = cs.length * 5
  | vs, [], h => by
    unfold Row5 at h
    subst h
    rfl
  | vs, c :: r, h => by
    obtain ⟨ka, kc, va, vc, t, rfl, h1, h2, h3⟩ := h
    have := h3.len
    simp only [List.length_cons]
    omega
set_option maxRecDepth 100000 in
theorem Row5.one {w : World} : ∀ {vs : List Value} {cs : List Cl}, Row5 w vs cs → ∀ u ∈ vs, u.oneCell' = true
  | vs, [], h, u, hu => by
    unfold Row5 at h
    subst h
    cases hu
  | vs, c :: r, h, u, hu => by
    obtain ⟨ka, kc, va, vc, t, rfl, h1, h2, h3⟩ := h
    simp only [List.mem_cons] at hu
    rcases hu with rfl | rfl | rfl | rfl | rfl | hu
    · rfl
    · rfl
    · rfl
    · rfl
    · rfl
    · exact h3.one u hu
/-- THE SLICE VALUE v OWNS THE CELLS cs; their keys and values are w0's. -/
def OwnK (w0 w : World) (v : Value) (cs : List Cl) : Prop := ∃ vs, w.ownsRow w0.heap.size 43 5 v cs.length vs ∧ Row5 w0 vs cs
set_option maxRecDepth 100000 in
theorem OwnK.nil (w0 w : World) : OwnK w0 w (.slice none 0 0) [] := ⟨[], World.ownsRow_nil _ _ _ _, rfl⟩
set_option maxRecDepth 100000 in
theorem OwnK.go {w0 w w' : World} {v : Value} {cs : List Cl} (h : OwnK w0 w v cs) (hb : Below w.heap.size w w') : OwnK w0 w' v cs := by
  obtain ⟨vs, h1, h2⟩ := h
  refine ⟨vs, World.ownsRow.kept (row := none) h1 ⟨hb.os, hb.tape, hb.output, hb.size, fun k hk _ => hb.block k hk⟩ ?_, h2⟩
  cases hv : v.ownBlock with
  | none => exact .inl rfl
  | some k => exact .inr (by simp)
end Go.Proofs.YtaicpmlcklkjgaaGreatDoor

/- What ReadUint reads is what Uint writes. -/

namespace Go.Proofs.YtaicpmlcklkjgaaGreatDoor

set_option maxRecDepth 100000 in
theorem rU_spec (l : List Int) : ∀ (p : Int) (i : Nat) (n : Int), Wf l → 0 ≤ n → n < 128 ^ i → i ≤ 9 →
    ((rU p l i n).2.2 ≠ 0 ∧ (rU p l i n).1 = 0 ∧ (rU p l i n).2.1 = 0) ∨
    ((rU p l i n).2.2 = 0 ∧ ∃ (k : Nat) (M : Int), 1 ≤ k ∧ k ≤ l.length ∧ (rU p l i n).2.1 = p + i + k ∧ 0 ≤ M ∧ (rU p l i n).1 = n + M * 128 ^ i ∧ (rU p l i n).1 < 18446744073709551616 ∧ l.take k = uB M ∧ (0 < i → 0 < M)) := by
  induction l with
  | nil => intro p i n _ _ _ _; left; simp [rU]
  | cons c r ih =>
    intro p i n hw h0 hn hi
    have hc := hw c (by simp)
    have hr : Wf r := fun x hx => hw x (by simp [hx])
    have hpos : (0 : Int) < 128 ^ i := Int.pow_pos (by omega)
    rw [rU]
    by_cases h9 : i = 9 ∧ 1 < c
    · left; rw [if_pos h9]; simp
    · rw [if_neg h9]
      by_cases h128 : 128 ≤ c
      · rw [if_pos h128]
        have hi8 : i < 9 := by omega
        have hup := or_up n (c - 128) i h0 hn (by omega) (by omega) (.inl hi8)
        have hnn : 0 ≤ n + (c - 128) * 128 ^ i := by
          have : 0 ≤ (c - 128) * 128 ^ i := Int.mul_nonneg (by omega) (Int.le_of_lt hpos)
          omega
        rcases ih p (i + 1) (n + (c - 128) * 128 ^ i) hr hnn hup.2.1 (by omega) with h | ⟨he, k, M, hk1, hk2, ht, hM0, hN, hlt, htk, hMp⟩
        · exact .inl h
        · right
          have hMp' := hMp (by omega)
          refine ⟨he, k + 1, (c - 128) + 128 * M, by omega, by simp; omega, by rw [ht]; push_cast; omega, by omega, ?_, hlt, ?_, fun _ => by omega⟩
          · rw [hN, Int.pow_succ, Int.add_mul, Int.mul_comm (128 ^ i) 128, ← Int.mul_assoc, Int.mul_comm M 128]
            omega
          · have hMlt : (c - 128) + 128 * M < 18446744073709551616 := by
              have h1 : (c - 128) + 128 * M ≤ ((c - 128) + 128 * M) * 128 ^ i := by
                have := Int.mul_le_mul_of_nonneg_left (show (1 : Int) ≤ 128 ^ i by omega) (show 0 ≤ (c - 128) + 128 * M by omega)
                omega
              have h2 : (rU p r (i + 1) (n + (c - 128) * 128 ^ i)).1 = n + ((c - 128) + 128 * M) * 128 ^ i := by
                rw [hN, Int.pow_succ, Int.add_mul, Int.mul_comm (128 ^ i) 128, ← Int.mul_assoc, Int.mul_comm M 128]
                omega
              omega
            rw [uB_step (by omega) hMlt, List.take_succ_cons, htk]
            congr 1
            · omega
            · congr 1
              omega
      · rw [if_neg h128]
        by_cases hz : c = 0 ∧ 0 < i
        · left; rw [if_pos hz]; simp
        · right
          rw [if_neg hz]
          have hup := or_up n c i h0 hn (by omega) (by omega) (by omega)
          have hlt : n + c * 128 ^ i < 18446744073709551616 := by
            rcases hup.2.2 with h | h
            · have h2 : i = 0 ∨ i = 1 ∨ i = 2 ∨ i = 3 ∨ i = 4 ∨ i = 5 ∨ i = 6 ∨ i = 7 ∨ i = 8 := by omega
              have h3 := hup.2.1
              rcases h2 with rfl | rfl | rfl | rfl | rfl | rfl | rfl | rfl | rfl <;> simp at h3 ⊢ <;> omega
            · exact h
          exact ⟨rfl, 1, c, by omega, by simp, by simp, by omega, rfl, hlt, by rw [uB_small (by omega)]; rfl, fun h => by omega⟩
end Go.Proofs.YtaicpmlcklkjgaaGreatDoor

/- Cells of the packed kind: plain mathematics: a cell's bytes with a prefix left out, and how they are read. -/

namespace Go.Proofs.YtaicpmlcklkjgaaGreatDoor

/-- The number at the bytes' beginning, in groups of seven bits. -/
def pU (l : List Int) : Option (Int × List Int) := if (rU 0 l 0 0).2.2 = 0 then some ((rU 0 l 0 0).1, l.drop (rU 0 l 0 0).2.1.toNat) else none
set_option maxRecDepth 100000 in
theorem pU_mid (n : Int) (r : List Int) (h0 : 0 ≤ n) (h : n < 18446744073709551616) : pU (uB n ++ r) = some (n, r) := by
  unfold pU
  rw [rU_uB 0 n r h0 h]
  simp
set_option maxRecDepth 100000 in
theorem pU_inv {l r : List Int} {n : Int} (hw : Wf l) (h : pU l = some (n, r)) : l = uB n ++ r ∧ 0 ≤ n ∧ n < 18446744073709551616 ∧ Wf r := by
  unfold pU at h
  split at h
  · next he =>
    simp only [Option.some.injEq, Prod.mk.injEq] at h
    obtain ⟨h1, h2⟩ := h
    rcases rU_spec l 0 0 0 hw (by omega) (by omega) (by omega) with ⟨g, _⟩ | ⟨_, k, M, g1, g2, g3, g4, g5, g6, g7, _⟩
    · exact absurd he g
    · have e1 : n = M := by rw [← h1, g5]; simp
      have e2 : (rU 0 l 0 0).2.1.toNat = k := by rw [g3]; omega
      rw [e2] at h2
      subst e1
      refine ⟨?_, g4, by rw [← h1]; exact g6, by rw [← h2]; exact hw.drop _⟩
      rw [← h2, ← g7, List.take_append_drop]
  · cases h
/-- The text there. -/
def pT (l : List Int) : Option (List Int × List Int) :=
  match pU l with
  | none => none
  | some (n, r) => if (r.length : Int) < n then none else some (r.take n.toNat, r.drop n.toNat)
/-- The cell there: the rest of its key as its key. -/
def pC (l : List Int) : Option (Cl × List Int) :=
  match pNum 1 l with
  | none => none
  | some (k, r) =>
    match pT r with
    | none => none
    | some (key, r) =>
      if k = 1 then
        match pT r with
        | none => none
        | some (val, r) => some (⟨key, k, val, 0, 0⟩, r)
      else
        match pU r with
        | none => none
        | some (p, r) =>
          match pU r with
          | none => none
          | some (c, r) => some (⟨key, k, [], RowKit.wrap64 p, RowKit.wrap64 c⟩, r)
/-- A cell's bytes, the first m of its key left out. -/
def qB (m : Nat) (c : Cl) : List Int := [c.kd % 256] ++ (uB ((c.key.length - m : Nat) : Int) ++ (c.key.drop m ++ (if c.kd = 1 then uB c.val.length ++ c.val else uB (c.pg % 18446744073709551616) ++ uB (c.ct % 18446744073709551616))))
/-- How many bytes a text of n bytes takes. -/
def tL (n : Nat) : Nat := (uB (n : Int)).length + n
/-- How many a cell takes with its slot. -/
def qtk (m : Nat) (c : Cl) : Nat := 3 + tL (c.key.length - m) + (if c.kd = 1 then tL c.val.length else (uB (c.pg % 18446744073709551616)).length + (uB (c.ct % 18446744073709551616)).length)
set_option maxRecDepth 100000 in
theorem qB_length (m : Nat) (c : Cl) : (qB m c).length + 2 = qtk m c := by
  unfold qB qtk tL
  split <;> simp only [List.length_append, List.length_cons, List.length_nil, List.length_drop] <;> omega
/-- A cell with the rest of its key alone. -/
def Cl.cut (c : Cl) (m : Nat) : Cl := ⟨c.key.drop m, c.kd, c.val, c.pg, c.ct⟩
/-- A cell with more ahead of its key. -/
def Cl.pre (c : Cl) (P : List Int) : Cl := ⟨P ++ c.key, c.kd, c.val, c.pg, c.ct⟩
set_option maxRecDepth 100000 in
theorem Cl.cut_pre (c : Cl) (m : Nat) (P : List Int) (h : c.key.take m = P) : (c.cut m).pre P = c := by
  subst h
  obtain ⟨key, kd, val, pg, ct⟩ := c
  simp [Cl.cut, Cl.pre, List.take_append_drop]
set_option maxRecDepth 100000 in
theorem pT_mid (t r : List Int) (h : t.length < 18446744073709551616) : pT (uB t.length ++ (t ++ r)) = some (t, r) := by
  unfold pT
  rw [pU_mid _ _ (by omega) (by omega)]
  simp only
  rw [if_neg (by rw [List.length_append]; omega), Int.toNat_natCast, List.take_left, List.drop_left]
set_option maxRecDepth 100000 in
theorem pC_mid (m : Nat) (c : Cl) (r : List Int) (h : c.fit) : pC (qB m c ++ r) = some (c.cut m, r) := by
  obtain ⟨key, kd, val, pg, ct⟩ := c
  obtain ⟨h1, h2, h3, h4, h5, h6, h7⟩ := h
  simp only at h1 h2 h3 h4 h5 h6 h7
  unfold qB pC Cl.cut
  simp only
  rw [List.append_assoc, show ([kd % 256] : List Int) = fB 1 kd from by simp [fB], pNum_mid 1 kd _ h1.1 (by omega)]
  simp only
  rw [List.append_assoc, List.append_assoc, show key.length - m = (key.drop m).length from by rw [List.length_drop], pT_mid _ _ (by rw [List.length_drop]; omega)]
  simp only
  by_cases e : kd = 1
  · rw [if_pos e, if_pos e, List.append_assoc, pT_mid _ _ (by omega)]
    simp only
    obtain ⟨rfl, rfl⟩ := h6 e
    rfl
  · have e4 : pg % 18446744073709551616 = pg := by omega
    have e5 : ct % 18446744073709551616 = ct := by omega
    rw [if_neg e, if_neg e, List.append_assoc, e4, e5, pU_mid pg _ h4.1 (by omega)]
    simp only
    rw [pU_mid ct _ h5.1 (by omega)]
    simp only
    have e6 : RowKit.wrap64 pg = pg := by unfold RowKit.wrap64; omega
    have e7 : RowKit.wrap64 ct = ct := by unfold RowKit.wrap64; omega
    rw [h7 e, e6, e7]
set_option maxRecDepth 100000 in
theorem pT_inv {l r t : List Int} (hw : Wf l) (h : pT l = some (t, r)) : l = uB t.length ++ (t ++ r) ∧ Wf t ∧ Wf r := by
  unfold pT at h
  split at h
  · cases h
  · next n r' e =>
    obtain ⟨h1, h2, h3, h4⟩ := pU_inv hw e
    split at h
    · cases h
    · next hl =>
      simp only [Option.some.injEq, Prod.mk.injEq] at h
      obtain ⟨rfl, rfl⟩ := h
      have ht : (r'.take n.toNat).length = n.toNat := by rw [List.length_take]; omega
      refine ⟨?_, h4.take _, h4.drop _⟩
      rw [ht, Int.toNat_of_nonneg h2, List.take_append_drop]
      exact h1
set_option maxRecDepth 100000 in
/-- What is read was written so, with nothing left out. -/
theorem pC_inv {l r : List Int} {c : Cl} (hw : Wf l) (h : pC l = some (c, r)) : l = qB 0 c ++ r ∧ c.Wf ∧ Wf r ∧ (0 ≤ c.kd ∧ c.kd ≤ 255) := by
  unfold pC at h
  split at h
  · cases h
  · next k r1 e1 =>
    obtain ⟨h1, h2, h3, h4⟩ := pNum_inv hw e1
    split at h
    · cases h
    · next key r2 e2 =>
      obtain ⟨g1, g3, g4⟩ := pT_inv h4 e2
      split at h
      · next hk =>
        split at h
        · cases h
        · next val r3 e3 =>
          obtain ⟨f1, f3, f4⟩ := pT_inv g4 e3
          simp only [Option.some.injEq, Prod.mk.injEq] at h
          obtain ⟨rfl, rfl⟩ := h
          refine ⟨?_, ⟨g3, f3⟩, f4, by simp only; omega⟩
          rw [h1, g1, f1]
          simp [qB, hk, fB]
      · next hk =>
        split at h
        · cases h
        · next p r3 e3 =>
          obtain ⟨f1, f2, f3, f4⟩ := pU_inv g4 e3
          split at h
          · cases h
          · next ct r4 e4 =>
            obtain ⟨d1, d2, d3, d4⟩ := pU_inv f4 e4
            simp only [Option.some.injEq, Prod.mk.injEq] at h
            obtain ⟨rfl, rfl⟩ := h
            have e5 : RowKit.wrap64 p % 18446744073709551616 = p := by unfold RowKit.wrap64; omega
            have e6 : RowKit.wrap64 ct % 18446744073709551616 = ct := by unfold RowKit.wrap64; omega
            refine ⟨?_, ⟨g3, Wf.nil⟩, d4, by simp only; omega⟩
            rw [h1, g1, f1, d1]
            simp [qB, hk, fB, e5, e6]
end Go.Proofs.YtaicpmlcklkjgaaGreatDoor
