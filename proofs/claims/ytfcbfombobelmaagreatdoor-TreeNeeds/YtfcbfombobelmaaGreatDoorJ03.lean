/- Cells and pages of the plain kind: plain mathematics: a cell's bytes, a page's, and how both are read. -/
import Derived.Test.YtfcbfombobelmaaGreatDoorJ02
import Derived.Test.YtfcbfombobelmaaGreatDoorJ00
import Derived.Test.YtfcbfombobelmaaGreatDoorJ01
namespace Go.Proofs.YtfcbfombobelmaaGreatDoor

/-- A cell. -/
structure Cl where
  key : List Int
  kd : Int
  val : List Int
  pg : Int
  ct : Int
deriving DecidableEq, Inhabited

/-- Its key and its value are bytes. -/
def Cl.Wf (c : Cl) : Prop := Go.Proofs.YtfcbfombobelmaaGreatDoor.Wf c.key ∧ Go.Proofs.YtfcbfombobelmaaGreatDoor.Wf c.val
def nowhere (c : Cl) : Prop := c.pg = 0 ∧ c.ct = 0
def leadsP (c : Cl) (lo hi : Int) : Prop := (2 ≤ c.pg ∧ c.pg ≤ 65535) ∧ (lo ≤ c.ct ∧ c.ct ≤ hi)
/-- What a cell may be. -/
def mayP (kind page : Int) (c : Cl) : Prop :=
  (c.key.length : Int) ≤ page / 8 ∧
  ((kind = 3 ∧ c.kd = 3 ∧ c.val = [] ∧ leadsP c 1 1073741824) ∨
   (kind ≠ 3 ∧ 0 < c.key.length ∧
     ((c.kd = 1 ∧ (c.val.length : Int) ≤ page / 16 * 3 ∧ nowhere c) ∨ (c.kd = 2 ∧ c.val = [] ∧ leadsP c (page / 16 * 3 + 1) 65536) ∨ (c.kd = 4 ∧ c.val = [] ∧ (nowhere c ∨ leadsP c 1 1073741824)))))
instance (c : Cl) : Decidable (nowhere c) := by unfold nowhere; infer_instance
instance (c : Cl) (a b : Int) : Decidable (leadsP c a b) := by unfold leadsP; infer_instance
instance (k p : Int) (c : Cl) : Decidable (mayP k p c) := by unfold mayP; infer_instance
/-- How many bytes it takes, with its slot. -/
def ctk (c : Cl) : Nat := if c.kd = 1 then 7 + c.key.length + c.val.length else 13 + c.key.length
/-- Its bytes. -/
def cB (c : Cl) : List Int := [c.kd % 256] ++ (fB 2 c.key.length ++ (c.key ++ (if c.kd = 1 then fB 2 c.val.length ++ c.val else fB 4 c.pg ++ fB 4 c.ct)))
set_option maxRecDepth 100000 in
theorem cB_length (c : Cl) : (cB c).length + 2 = ctk c := by
  unfold cB ctk
  split <;> simp [fB_length] <;> omega
set_option maxRecDepth 100000 in
theorem cB_wf {c : Cl} (h : c.Wf) : Wf (cB c) := by
  unfold cB
  refine Wf.append (Wf.cons (by omega) Wf.nil) (Wf.append (fB_wf _ _) (Wf.append h.1 ?_))
  split
  · exact Wf.append (fB_wf _ _) h.2
  · exact Wf.append (fB_wf _ _) (fB_wf _ _)
/-- The number at the bytes' beginning. -/
def pNum (w : Nat) (l : List Int) : Option (Int × List Int) := if l.length < w then none else some (rdB (l.take w), l.drop w)
/-- The text there. -/
def pText (l : List Int) : Option (List Int × List Int) :=
  match pNum 2 l with
  | none => none
  | some (n, r) => if (r.length : Int) < n then none else some (r.take n.toNat, r.drop n.toNat)
/-- The cell there. -/
def pCell (l : List Int) : Option (Cl × List Int) :=
  match pNum 1 l with
  | none => none
  | some (k, r) =>
    match pText r with
    | none => none
    | some (key, r) =>
      if k = 1 then
        match pText r with
        | none => none
        | some (val, r) => some (⟨key, k, val, 0, 0⟩, r)
      else
        match pNum 4 r with
        | none => none
        | some (p, r) =>
          match pNum 4 r with
          | none => none
          | some (c, r) => some (⟨key, k, [], p, c⟩, r)
/-- What is written comes out: of cells whose numbers fit. -/
structure Cl.fit (c : Cl) : Prop where
  kd : 0 ≤ c.kd ∧ c.kd < 256
  key : c.key.length < 65536
  val : c.val.length < 65536
  pg : 0 ≤ c.pg ∧ c.pg < 4294967296
  ct : 0 ≤ c.ct ∧ c.ct < 4294967296
  one : c.kd = 1 → c.pg = 0 ∧ c.ct = 0
  oth : c.kd ≠ 1 → c.val = []
set_option maxRecDepth 100000 in
theorem mayP.fit {k p : Int} {c : Cl} (h : mayP k p c) (hp : p ≤ 65536) : c.fit := by
  obtain ⟨h1, h2⟩ := h
  unfold leadsP nowhere at h2
  rcases h2 with ⟨e, h3, h4, h5⟩ | ⟨e, h3, ⟨h4, h5, h6⟩ | ⟨h4, h5, h6⟩ | ⟨h4, h5, h6⟩⟩
  · exact ⟨by omega, by omega, by rw [h4]; decide, by omega, by omega, by omega, fun _ => h4⟩
  · exact ⟨by omega, by omega, by omega, by omega, by omega, fun _ => h6, fun h => absurd h4 h⟩
  · exact ⟨by omega, by omega, by rw [h5]; decide, by omega, by omega, by omega, fun _ => h5⟩
  · exact ⟨by omega, by omega, by rw [h5]; decide, by omega, by omega, by omega, fun _ => h5⟩
set_option maxRecDepth 100000 in
theorem pNum_mid (w : Nat) (n : Int) (r : List Int) (h0 : 0 ≤ n) (h : n < 256 ^ w) : pNum w (fB w n ++ r) = some (n, r) := by
  unfold pNum
  rw [if_neg (by simp [fB_length]), List.take_left' (fB_length w n), List.drop_left' (fB_length w n), fB_read w n h0 h]
set_option maxRecDepth 100000 in
theorem pText_mid (t r : List Int) (h : t.length < 65536) : pText (fB 2 t.length ++ (t ++ r)) = some (t, r) := by
  unfold pText
  rw [pNum_mid 2 _ _ (by omega) (by omega)]
  simp only
  rw [if_neg (by rw [List.length_append]; omega), Int.toNat_natCast, List.take_left, List.drop_left]
set_option maxRecDepth 100000 in
theorem pCell_mid (c : Cl) (r : List Int) (h : c.fit) : pCell (cB c ++ r) = some (c, r) := by
  obtain ⟨key, kd, val, pg, ct⟩ := c
  obtain ⟨h1, h2, h3, h4, h5, h6, h7⟩ := h
  simp only at h1 h2 h3 h4 h5 h6 h7
  unfold cB pCell
  simp only
  rw [List.append_assoc, show ([kd % 256] : List Int) = fB 1 kd from by simp [fB], pNum_mid 1 kd _ h1.1 (by omega)]
  simp only
  rw [List.append_assoc, List.append_assoc, pText_mid _ _ h2]
  simp only
  by_cases e : kd = 1
  · rw [if_pos e, if_pos e, List.append_assoc, pText_mid _ _ h3]
    simp only
    obtain ⟨rfl, rfl⟩ := h6 e
    rfl
  · rw [if_neg e, if_neg e, List.append_assoc, pNum_mid 4 pg _ h4.1 (by omega)]
    simp only
    rw [pNum_mid 4 ct _ h5.1 (by omega)]
    simp only
    rw [h7 e]
set_option maxRecDepth 100000 in
/-- A number's bytes, read and written, are those bytes. -/
theorem fB_rdB : ∀ (l : List Int), Wf l → fB l.length (rdB l) = l
  | [], _ => rfl
  | c :: l, h => by
    have hc := h c (by simp)
    have hl : Wf l := fun x hx => h x (by simp [hx])
    have hb := rdB_bound l hl
    have ih := fB_rdB l hl
    have e : ∀ (j : Nat) (m : Int), fB j (c * 256 ^ l.length + m) = fB j m ∨ l.length < j := by
      intro j m
      by_cases hj : l.length < j
      · exact .inr hj
      · left
        induction j with
        | zero => rfl
        | succ j ihj =>
          rw [fB, fB, ihj (by omega)]
          congr 1
          obtain ⟨d, hd⟩ : ∃ d, l.length = j + 1 + d := ⟨l.length - (j + 1), by omega⟩
          rw [hd, show (256 : Int) ^ (j + 1 + d) = 256 ^ j * (256 * 256 ^ d) from by rw [Int.pow_add, Int.pow_succ, Int.mul_assoc],
            show c * (256 ^ j * (256 * 256 ^ d)) + m = m + (256 ^ j) * (256 * (c * 256 ^ d)) from by
              rw [Int.add_comm, ← Int.mul_assoc, Int.mul_comm c (256 ^ j), Int.mul_assoc, ← Int.mul_assoc c, Int.mul_comm c 256, Int.mul_assoc]]
          rw [Int.add_mul_ediv_left _ _ (by have : (0 : Int) < 256 ^ j := Int.pow_pos (by omega)
                                            omega)]
          omega
    rw [rdB_cons, List.length_cons, fB]
    rcases e l.length (rdB l) with e | e
    · rw [e, ih]
      congr 1
      have hp : (0 : Int) < 256 ^ l.length := Int.pow_pos (by omega)
      rw [Int.add_comm, Int.add_mul_ediv_right _ _ (by omega), Int.ediv_eq_zero_of_lt hb.1 hb.2]
      omega
    · omega
set_option maxRecDepth 100000 in
theorem pNum_inv {w : Nat} {l r : List Int} {n : Int} (hw : Wf l) (h : pNum w l = some (n, r)) : l = fB w n ++ r ∧ 0 ≤ n ∧ n < 256 ^ w ∧ Wf r := by
  unfold pNum at h
  split at h
  · cases h
  · next hl =>
    simp only [Option.some.injEq, Prod.mk.injEq] at h
    obtain ⟨rfl, rfl⟩ := h
    have ht : (l.take w).length = w := by rw [List.length_take]; omega
    have := fB_rdB (l.take w) (hw.take w)
    rw [ht] at this
    have hb := rdB_bound (l.take w) (hw.take w)
    rw [ht] at hb
    exact ⟨by rw [this, List.take_append_drop], hb.1, hb.2, hw.drop w⟩
set_option maxRecDepth 100000 in
theorem pText_inv {l r t : List Int} (hw : Wf l) (h : pText l = some (t, r)) : l = fB 2 t.length ++ (t ++ r) ∧ t.length < 65536 ∧ Wf t ∧ Wf r := by
  unfold pText at h
  split at h
  · cases h
  · next n r' e =>
    obtain ⟨h1, h2, h3, h4⟩ := pNum_inv hw e
    split at h
    · cases h
    · next hl =>
      simp only [Option.some.injEq, Prod.mk.injEq] at h
      obtain ⟨rfl, rfl⟩ := h
      have ht : (r'.take n.toNat).length = n.toNat := by rw [List.length_take]; omega
      refine ⟨?_, by rw [ht]; omega, h4.take _, h4.drop _⟩
      rw [ht, Int.toNat_of_nonneg h2, List.take_append_drop]
      exact h1
set_option maxRecDepth 100000 in
theorem pCell_inv {l r : List Int} {c : Cl} (hw : Wf l) (h : pCell l = some (c, r)) : l = cB c ++ r ∧ c.fit ∧ c.Wf ∧ Wf r := by
  unfold pCell at h
  split at h
  · cases h
  · next k r1 e1 =>
    obtain ⟨h1, h2, h3, h4⟩ := pNum_inv hw e1
    split at h
    · cases h
    · next key r2 e2 =>
      obtain ⟨g1, g2, g3, g4⟩ := pText_inv h4 e2
      split at h
      · next hk =>
        split at h
        · cases h
        · next val r3 e3 =>
          obtain ⟨f1, f2, f3, f4⟩ := pText_inv g4 e3
          simp only [Option.some.injEq, Prod.mk.injEq] at h
          obtain ⟨rfl, rfl⟩ := h
          refine ⟨?_, ⟨by simp only; omega, g2, f2, by simp, by simp, fun _ => ⟨rfl, rfl⟩, fun h => absurd hk h⟩, ⟨g3, f3⟩, f4⟩
          rw [h1, g1, f1]
          simp [cB, hk, fB]
      · next hk =>
        split at h
        · cases h
        · next p r3 e3 =>
          obtain ⟨f1, f2, f3, f4⟩ := pNum_inv g4 e3
          split at h
          · cases h
          · next ct r4 e4 =>
            obtain ⟨d1, d2, d3, d4⟩ := pNum_inv f4 e4
            simp only [Option.some.injEq, Prod.mk.injEq] at h
            obtain ⟨rfl, rfl⟩ := h
            refine ⟨?_, ⟨by simp only; omega, g2, by simp, ⟨f2, by simp only; omega⟩, ⟨d2, by simp only; omega⟩, fun h => absurd h hk, fun _ => rfl⟩, ⟨g3, Wf.nil⟩, d4⟩
            rw [h1, g1, f1, d1]
            simp [cB, hk, fB]
end Go.Proofs.YtfcbfombobelmaaGreatDoor

/- Bytes as strings: Same answers whether two slices hold the same bytes. -/

namespace Go.Proofs.YtfcbfombobelmaaGreatDoor
open Go.RowKit

set_option maxRecDepth 100000 in
theorem conv_sl {w : World} {ao : Option Addr} {n cap : Nat} {l : List Int} (hs : Sl w ao n cap l) :
    (convert 27 9 (.slice ao n cap)).run Tryz.prog w = .ok (.string (strOfNums l)) w := by
  obtain ⟨hlen, hcap, hroom, hwf, hnil, hat⟩ := hs
  rcases hat with rfl | ⟨b, off, rfl, hb, hc⟩
  · obtain rfl : l = [] := List.eq_nil_of_length_eq_zero hlen
    rw [run_convert_bytes_string w 27 9 5 ao 0 cap Tryz.underlying27 Tryz.underlying5 Tryz.underlying9]
    cases ao with
    | none => simp [Conv.bytesToString, Sem.run_pure, strOfNums]; rfl
    | some a =>
      rw [run_bytesToString w a 0 cap [] (by simpa using run_loadCells_list (P := Tryz.prog) w a [] (fun j v h => by cases h))]
      rfl
  · exact run_convert_bytes_arg w 27 5 Tryz.underlying27 Tryz.underlying5 b off n cap l hlen hc 9 Tryz.underlying9
set_option maxRecDepth 100000 in
theorem byte_inj {x y : Int} (hx : 0 ≤ x ∧ x ≤ 255) (hy : 0 ≤ y ∧ y ≤ 255) (h : UInt8.ofNat x.toNat = UInt8.ofNat y.toNat) : x = y := by
  have h1 := congrArg UInt8.toNat h
  simp only [UInt8.toNat_ofNat'] at h1
  omega
set_option maxRecDepth 100000 in
theorem bytes_inj : ∀ (a b : List Int), Wf a → Wf b → (a.map fun n => UInt8.ofNat n.toNat) = (b.map fun n => UInt8.ofNat n.toNat) → a = b
  | [], [], _, _, _ => rfl
  | [], _ :: _, _, _, h => by simp at h
  | _ :: _, [], _, _, h => by simp at h
  | x :: a, y :: b, ha, hb, h => by
    simp only [List.map_cons, List.cons.injEq] at h
    rw [byte_inj (ha x (by simp)) (hb y (by simp)) h.1, bytes_inj a b (fun z hz => ha z (by simp [hz])) (fun z hz => hb z (by simp [hz])) h.2]
set_option maxRecDepth 100000 in
theorem str_beq {a b : List Int} (ha : Wf a) (hb : Wf b) : ((strOfNums a).toList == (strOfNums b).toList) = decide (a = b) := by
  rw [Bool.eq_iff_iff, beq_iff_eq, decide_eq_true_iff, ByteArray.toList_eq, ByteArray.toList_eq, strOfNums_data, strOfNums_data]
  constructor
  · exact bytes_inj a b ha hb
  · rintro rfl; rfl
end Go.Proofs.YtfcbfombobelmaaGreatDoor

/- Order tells how two texts stand; both lays bytes and more behind them into memory of its own. -/

namespace Go.Proofs.YtfcbfombobelmaaGreatDoor
open Go.RowKit

/-- How two texts stand. -/
def ordL : List Int → List Int → Int
  | [], [] => 0
  | [], _ :: _ => -1
  | _ :: _, [] => 1
  | x :: a, y :: b => if x < y then -1 else if y < x then 1 else ordL a b
set_option maxRecDepth 100000 in
theorem ordL_self : ∀ (a : List Int), ordL a a = 0
  | [] => rfl
  | x :: a => by simp [ordL, ordL_self a]
set_option maxRecDepth 100000 in
theorem ordL_eq : ∀ (a b : List Int), ordL a b = 0 → a = b
  | [], [], _ => rfl
  | [], _ :: _, h => by simp [ordL] at h
  | _ :: _, [], h => by simp [ordL] at h
  | x :: a, y :: b, h => by
    simp only [ordL] at h
    split at h
    · simp at h
    · split at h
      · simp at h
      · rw [ordL_eq a b h, show x = y by omega]
set_option maxRecDepth 100000 in
theorem ordL_three (a b : List Int) : ordL a b = 0 ∨ ordL a b = -1 ∨ ordL a b = 1 := by
  induction a generalizing b with
  | nil => cases b <;> simp [ordL]
  | cons x a ih =>
    cases b with
    | nil => simp [ordL]
    | cons y b =>
      simp only [ordL]
      split
      · simp
      · split
        · simp
        · exact ih b
end Go.Proofs.YtfcbfombobelmaaGreatDoor
