/- Cells and pages of the plain kind: plain mathematics: a cell's bytes, a page's, and how both are read. -/
import Derived.Test.YtddjepdgigeelabDoorJb
import Derived.Test.YtddjepdgigeelabDoorJa
import Derived.Lib.BytesEntry
import Derived.Laws.Externs
namespace Go.Proofs.YtddjepdgigeelabDoor

/-- A cell. -/
structure Cl where
  key : List Int
  kd : Int
  val : List Int
  pg : Int
  ct : Int
deriving DecidableEq, Inhabited

/-- Its key and its value are bytes. -/
def Cl.Wf (c : Cl) : Prop := Go.Proofs.YtddjepdgigeelabDoor.Wf c.key ∧ Go.Proofs.YtddjepdgigeelabDoor.Wf c.val
def nowhere (c : Cl) : Prop := c.pg = 0 ∧ c.ct = 0
def leadsP (c : Cl) (lo hi : Int) : Prop := (2 ≤ c.pg ∧ c.pg ≤ 65535) ∧ (lo ≤ c.ct ∧ c.ct ≤ hi)
/-- What a cell may be. -/
def mayP (kind page : Int) (c : Cl) : Prop :=
  (c.key.length : Int) ≤ page / 8 ∧
  ((kind = 3 ∧ c.kd = 3 ∧ c.val = [] ∧ leadsP c 1 1073741824) ∨
   (kind ≠ 3 ∧ 0 < c.key.length ∧
     ((c.kd = 1 ∧ (c.val.length : Int) ≤ page / 16 * 3 ∧ nowhere c) ∨ (c.kd = 2 ∧ c.val = [] ∧ leadsP c (page / 16 * 3 + 1) 65536) ∨ (c.kd = 4 ∧ c.val = [] ∧ (nowhere c ∨ leadsP c 1 1073741824)))))
instance (c : Cl) : Decidable (nowhere c) := by unfold nowhere; infer_instance
instance (c : Cl) (a b : Int) : Decidable (leadsP c a b) := by unfold leadsP; infer_instance
instance (k p : Int) (c : Cl) : Decidable (mayP k p c) := by unfold mayP; infer_instance

/-- How many bytes it takes, with its slot. -/
def ctk (c : Cl) : Nat := if c.kd = 1 then 7 + c.key.length + c.val.length else 13 + c.key.length
/-- Its bytes. -/
def cB (c : Cl) : List Int := [c.kd % 256] ++ (fB 2 c.key.length ++ (c.key ++ (if c.kd = 1 then fB 2 c.val.length ++ c.val else fB 4 c.pg ++ fB 4 c.ct)))
set_option maxRecDepth 100000 in
theorem cB_length (c : Cl) : (cB c).length + 2 = ctk c := by
  unfold cB ctk
  split <;> simp [fB_length] <;> omega
set_option maxRecDepth 100000 in
theorem cB_wf {c : Cl} (h : c.Wf) : Wf (cB c) := by
  unfold cB
  refine Wf.append (Wf.cons (by omega) Wf.nil) (Wf.append (fB_wf _ _) (Wf.append h.1 ?_))
  split
  · exact Wf.append (fB_wf _ _) h.2
  · exact Wf.append (fB_wf _ _) (fB_wf _ _)

/-- The number at the bytes' beginning. -/
def pNum (w : Nat) (l : List Int) : Option (Int × List Int) := if l.length < w then none else some (rdB (l.take w), l.drop w)
/-- The text there. -/
def pText (l : List Int) : Option (List Int × List Int) :=
  match pNum 2 l with
  | none => none
  | some (n, r) => if (r.length : Int) < n then none else some (r.take n.toNat, r.drop n.toNat)
/-- The cell there. -/
def pCell (l : List Int) : Option (Cl × List Int) :=
  match pNum 1 l with
  | none => none
  | some (k, r) =>
    match pText r with
    | none => none
    | some (key, r) =>
      if k = 1 then
        match pText r with
        | none => none
        | some (val, r) => some (⟨key, k, val, 0, 0⟩, r)
      else
        match pNum 4 r with
        | none => none
        | some (p, r) =>
          match pNum 4 r with
          | none => none
          | some (c, r) => some (⟨key, k, [], p, c⟩, r)

/-- What is written comes out: of cells whose numbers fit. -/
structure Cl.fit (c : Cl) : Prop where
  kd : 0 ≤ c.kd ∧ c.kd < 256
  key : c.key.length < 65536
  val : c.val.length < 65536
  pg : 0 ≤ c.pg ∧ c.pg < 4294967296
  ct : 0 ≤ c.ct ∧ c.ct < 4294967296
  one : c.kd = 1 → c.pg = 0 ∧ c.ct = 0
  oth : c.kd ≠ 1 → c.val = []
set_option maxRecDepth 100000 in
theorem mayP.fit {k p : Int} {c : Cl} (h : mayP k p c) (hp : p ≤ 65536) : c.fit := by
  obtain ⟨h1, h2⟩ := h
  unfold leadsP nowhere at h2
  rcases h2 with ⟨e, h3, h4, h5⟩ | ⟨e, h3, ⟨h4, h5, h6⟩ | ⟨h4, h5, h6⟩ | ⟨h4, h5, h6⟩⟩
  · exact ⟨by omega, by omega, by rw [h4]; decide, by omega, by omega, by omega, fun _ => h4⟩
  · exact ⟨by omega, by omega, by omega, by omega, by omega, fun _ => h6, fun h => absurd h4 h⟩
  · exact ⟨by omega, by omega, by rw [h5]; decide, by omega, by omega, by omega, fun _ => h5⟩
  · exact ⟨by omega, by omega, by rw [h5]; decide, by omega, by omega, by omega, fun _ => h5⟩

set_option maxRecDepth 100000 in
theorem pNum_mid (w : Nat) (n : Int) (r : List Int) (h0 : 0 ≤ n) (h : n < 256 ^ w) : pNum w (fB w n ++ r) = some (n, r) := by
  unfold pNum
  rw [if_neg (by simp [fB_length]), List.take_left' (fB_length w n), List.drop_left' (fB_length w n), fB_read w n h0 h]
set_option maxRecDepth 100000 in
theorem pText_mid (t r : List Int) (h : t.length < 65536) : pText (fB 2 t.length ++ (t ++ r)) = some (t, r) := by
  unfold pText
  rw [pNum_mid 2 _ _ (by omega) (by omega)]
  simp only
  rw [if_neg (by rw [List.length_append]; omega), Int.toNat_natCast, List.take_left, List.drop_left]
set_option maxRecDepth 100000 in
theorem pCell_mid (c : Cl) (r : List Int) (h : c.fit) : pCell (cB c ++ r) = some (c, r) := by
  obtain ⟨key, kd, val, pg, ct⟩ := c
  obtain ⟨h1, h2, h3, h4, h5, h6, h7⟩ := h
  simp only at h1 h2 h3 h4 h5 h6 h7
  unfold cB pCell
  simp only
  rw [List.append_assoc, show ([kd % 256] : List Int) = fB 1 kd from by simp [fB], pNum_mid 1 kd _ h1.1 (by omega)]
  simp only
  rw [List.append_assoc, List.append_assoc, pText_mid _ _ h2]
  simp only
  by_cases e : kd = 1
  · rw [if_pos e, if_pos e, List.append_assoc, pText_mid _ _ h3]
    simp only
    obtain ⟨rfl, rfl⟩ := h6 e
    rfl
  · rw [if_neg e, if_neg e, List.append_assoc, pNum_mid 4 pg _ h4.1 (by omega)]
    simp only
    rw [pNum_mid 4 ct _ h5.1 (by omega)]
    simp only
    rw [h7 e]

set_option maxRecDepth 100000 in
theorem rdB_nil : rdB [] = 0 := rfl
set_option maxRecDepth 100000 in
/-- A number's bytes, read and written, are those bytes. -/
theorem fB_rdB : ∀ (l : List Int), Wf l → fB l.length (rdB l) = l
  | [], _ => rfl
  | c :: l, h => by
    have hc := h c (by simp)
    have hl : Wf l := fun x hx => h x (by simp [hx])
    have hb := rdB_bound l hl
    have ih := fB_rdB l hl
    have e : ∀ (j : Nat) (m : Int), fB j (c * 256 ^ l.length + m) = fB j m ∨ l.length < j := by
      intro j m
      by_cases hj : l.length < j
      · exact .inr hj
      · left
        induction j with
        | zero => rfl
        | succ j ihj =>
          rw [fB, fB, ihj (by omega)]
          congr 1
          obtain ⟨d, hd⟩ : ∃ d, l.length = j + 1 + d := ⟨l.length - (j + 1), by omega⟩
          rw [hd, show (256 : Int) ^ (j + 1 + d) = 256 ^ j * (256 * 256 ^ d) from by rw [Int.pow_add, Int.pow_succ, Int.mul_assoc],
            show c * (256 ^ j * (256 * 256 ^ d)) + m = m + (256 ^ j) * (256 * (c * 256 ^ d)) from by
              rw [Int.add_comm, ← Int.mul_assoc, Int.mul_comm c (256 ^ j), Int.mul_assoc, ← Int.mul_assoc c, Int.mul_comm c 256, Int.mul_assoc]]
          rw [Int.add_mul_ediv_left _ _ (by have : (0 : Int) < 256 ^ j := Int.pow_pos (by omega)
                                            omega)]
          omega
    rw [rdB_cons, List.length_cons, fB]
    rcases e l.length (rdB l) with e | e
    · rw [e, ih]
      congr 1
      have hp : (0 : Int) < 256 ^ l.length := Int.pow_pos (by omega)
      rw [Int.add_comm, Int.add_mul_ediv_right _ _ (by omega), Int.ediv_eq_zero_of_lt hb.1 hb.2]
      omega
    · omega
set_option maxRecDepth 100000 in
theorem pNum_inv {w : Nat} {l r : List Int} {n : Int} (hw : Wf l) (h : pNum w l = some (n, r)) : l = fB w n ++ r ∧ 0 ≤ n ∧ n < 256 ^ w ∧ Wf r := by
  unfold pNum at h
  split at h
  · cases h
  · next hl =>
    simp only [Option.some.injEq, Prod.mk.injEq] at h
    obtain ⟨rfl, rfl⟩ := h
    have ht : (l.take w).length = w := by rw [List.length_take]; omega
    have := fB_rdB (l.take w) (hw.take w)
    rw [ht] at this
    have hb := rdB_bound (l.take w) (hw.take w)
    rw [ht] at hb
    exact ⟨by rw [this, List.take_append_drop], hb.1, hb.2, hw.drop w⟩
set_option maxRecDepth 100000 in
theorem pText_inv {l r t : List Int} (hw : Wf l) (h : pText l = some (t, r)) : l = fB 2 t.length ++ (t ++ r) ∧ t.length < 65536 ∧ Wf t ∧ Wf r := by
  unfold pText at h
  split at h
  · cases h
  · next n r' e =>
    obtain ⟨h1, h2, h3, h4⟩ := pNum_inv hw e
    split at h
    · cases h
    · next hl =>
      simp only [Option.some.injEq, Prod.mk.injEq] at h
      obtain ⟨rfl, rfl⟩ := h
      have ht : (r'.take n.toNat).length = n.toNat := by rw [List.length_take]; omega
      refine ⟨?_, by rw [ht]; omega, h4.take _, h4.drop _⟩
      rw [ht, Int.toNat_of_nonneg h2, List.take_append_drop]
      exact h1
set_option maxRecDepth 100000 in
theorem pCell_inv {l r : List Int} {c : Cl} (hw : Wf l) (h : pCell l = some (c, r)) : l = cB c ++ r ∧ c.fit ∧ c.Wf ∧ Wf r := by
  unfold pCell at h
  split at h
  · cases h
  · next k r1 e1 =>
    obtain ⟨h1, h2, h3, h4⟩ := pNum_inv hw e1
    split at h
    · cases h
    · next key r2 e2 =>
      obtain ⟨g1, g2, g3, g4⟩ := pText_inv h4 e2
      split at h
      · next hk =>
        split at h
        · cases h
        · next val r3 e3 =>
          obtain ⟨f1, f2, f3, f4⟩ := pText_inv g4 e3
          simp only [Option.some.injEq, Prod.mk.injEq] at h
          obtain ⟨rfl, rfl⟩ := h
          refine ⟨?_, ⟨by simp only; omega, g2, f2, by simp, by simp, fun _ => ⟨rfl, rfl⟩, fun h => absurd hk h⟩, ⟨g3, f3⟩, f4⟩
          rw [h1, g1, f1]
          simp [cB, hk, fB]
      · next hk =>
        split at h
        · cases h
        · next p r3 e3 =>
          obtain ⟨f1, f2, f3, f4⟩ := pNum_inv g4 e3
          split at h
          · cases h
          · next ct r4 e4 =>
            obtain ⟨d1, d2, d3, d4⟩ := pNum_inv f4 e4
            simp only [Option.some.injEq, Prod.mk.injEq] at h
            obtain ⟨rfl, rfl⟩ := h
            refine ⟨?_, ⟨by simp only; omega, g2, by simp, ⟨f2, by simp only; omega⟩, ⟨d2, by simp only; omega⟩, fun h => absurd h hk, fun _ => rfl⟩, ⟨g3, Wf.nil⟩, d4⟩
            rw [h1, g1, f1, d1]
            simp [cB, hk, fB]
end Go.Proofs.YtddjepdgigeelabDoor

/- Pages of the plain kind: plain mathematics. -/

namespace Go.Proofs.YtddjepdgigeelabDoor

/-- a stands ahead of b. -/
def kl (a b : List Int) : Prop := ordL a b = -1
instance (a b : List Int) : Decidable (kl a b) := by unfold kl; infer_instance
/-- The key ahead is none, or stands ahead. -/
def ahead : Option (List Int) → List Int → Prop
  | none, _ => True
  | some p, k => kl p k
instance (p : Option (List Int)) (k : List Int) : Decidable (ahead p k) := by cases p <;> (unfold ahead; infer_instance)
/-- What is wrong with cells, the first fault; 0: nothing. -/
def chk (k p : Int) : Option (List Int) → List Cl → Int
  | _, [] => 0
  | pr, c :: r => if mayP k p c then (if ahead pr c.key then chk k p (some c.key) r else 63) else 62
set_option maxRecDepth 100000 in
theorem chk_vals (k p : Int) : ∀ (pr : Option (List Int)) (cs : List Cl), chk k p pr cs = 0 ∨ chk k p pr cs = 62 ∨ chk k p pr cs = 63
  | _, [] => .inl rfl
  | pr, c :: r => by
    unfold chk
    split
    · split
      · exact chk_vals k p _ r
      · simp
    · simp
set_option maxRecDepth 100000 in
theorem chk_may {k p : Int} : ∀ {pr : Option (List Int)} {cs : List Cl}, chk k p pr cs = 0 → ∀ c ∈ cs, mayP k p c
  | _, [], _, c, hc => by cases hc
  | pr, d :: r, h, c, hc => by
    unfold chk at h
    split at h
    · next h1 =>
      split at h
      · rcases List.mem_cons.1 hc with e | e
        · rw [e]; exact h1
        · exact chk_may h c e
      · simp at h
    · simp at h

/-- The cells' bytes. -/
def bdy (cs : List Cl) : List Int := cs.flatMap cB
/-- Where they begin, from b on. -/
def sts : Nat → List Cl → List Nat
  | _, [] => []
  | b, c :: r => b :: sts (b + (cB c).length) r
set_option maxRecDepth 100000 in
theorem bdy_cons (c : Cl) (cs : List Cl) : bdy (c :: cs) = cB c ++ bdy cs := by simp [bdy]
set_option maxRecDepth 100000 in
theorem bdy_append (a b : List Cl) : bdy (a ++ b) = bdy a ++ bdy b := by simp [bdy]
set_option maxRecDepth 100000 in
theorem sts_length : ∀ (b : Nat) (cs : List Cl), (sts b cs).length = cs.length
  | _, [] => rfl
  | b, c :: r => by simp [sts, sts_length _ r]
set_option maxRecDepth 100000 in
theorem sts_shift : ∀ (a b : Nat) (cs : List Cl), sts (a + b) cs = (sts b cs).map (a + ·)
  | _, _, [] => rfl
  | a, b, c :: r => by
    simp only [sts, List.map_cons, List.cons.injEq, true_and]
    rw [Nat.add_assoc]
    exact sts_shift a _ r
set_option maxRecDepth 100000 in
theorem sts_append : ∀ (b : Nat) (x y : List Cl), sts b (x ++ y) = sts b x ++ sts (b + (bdy x).length) y
  | _, [], _ => rfl
  | b, c :: r, y => by
    simp only [List.cons_append, sts, bdy_cons, List.length_append, List.cons.injEq, true_and]
    rw [sts_append, Nat.add_assoc]
set_option maxRecDepth 100000 in
theorem sts_get : ∀ (b i : Nat) (cs : List Cl), i < cs.length → (sts b cs).getD i 0 = b + (bdy (cs.take i)).length
  | _, _, [], h => by simp at h
  | b, 0, c :: r, _ => by simp [sts, bdy]
  | b, i + 1, c :: r, h => by
    have := sts_get (b + (cB c).length) i r (by simpa using h)
    simp only [sts, List.getD_cons_succ, List.take_succ_cons, bdy_cons, List.length_append]
    rw [this]
    omega
set_option maxRecDepth 100000 in
theorem bdy_wf : ∀ {cs : List Cl}, (∀ c ∈ cs, c.Wf) → Wf (bdy cs)
  | [], _ => Wf.nil
  | c :: r, h => by
    rw [bdy_cons]
    exact (cB_wf (h c (by simp))).append (bdy_wf fun d hd => h d (by simp [hd]))
/-- How many bytes they take. -/
def szN (cs : List Cl) : Nat := 8 + (cs.map ctk).sum
set_option maxRecDepth 100000 in
theorem szN_eq (cs : List Cl) : szN cs = 8 + 2 * cs.length + (bdy cs).length := by
  unfold szN
  induction cs with
  | nil => rfl
  | cons c r ih =>
    have := cB_length c
    simp only [List.map_cons, List.sum_cons, List.length_cons, bdy_cons, List.length_append]
    omega

/-- The slots. -/
def sloB (l : List Nat) : List Int := l.flatMap fun (s : Nat) => fB 2 (s : Int)
set_option maxRecDepth 100000 in
theorem sloB_length (l : List Nat) : (sloB l).length = 2 * l.length := by
  induction l with
  | nil => rfl
  | cons x r ih => simp only [sloB, List.flatMap_cons, List.length_append, fB_length, List.length_cons] at ih ⊢; omega
set_option maxRecDepth 100000 in
theorem sloB_wf (l : List Nat) : Wf (sloB l) := by
  induction l with
  | nil => exact Wf.nil
  | cons x r ih => simp only [sloB, List.flatMap_cons]; exact (fB_wf _ _).append ih
/-- The page behind i slots. -/
def layP (k : Int) (n : Nat) (cs : List Cl) (i : Nat) : List Int := [k, 1] ++ (fB 2 cs.length ++ (sloB ((sts (n - 4 - (bdy cs).length) cs).take i) ++ zs (n - 4 - 2 * i)))
/-- The page ahead of its sum. -/
def pgH (k : Int) (n : Nat) (cs : List Cl) : List Int := [k, 1] ++ (fB 2 cs.length ++ (sloB (sts (n - 4 - (bdy cs).length) cs) ++ (zs (n - szN cs) ++ bdy cs)))
/-- The page. -/
def pgB (k : Int) (n : Nat) (cs : List Cl) : List Int := sealB (pgH k n cs)
set_option maxRecDepth 100000 in
theorem pgH_length (k : Int) (n : Nat) (cs : List Cl) (h : szN cs ≤ n) : (pgH k n cs).length = n - 4 := by
  have := szN_eq cs
  simp only [pgH, List.length_append, List.length_cons, List.length_nil, fB_length, sloB_length, sts_length, zs_length]
  omega
set_option maxRecDepth 100000 in
theorem pgB_length (k : Int) (n : Nat) (cs : List Cl) (h : szN cs ≤ n) : (pgB k n cs).length = n := by
  have := szN_eq cs
  rw [pgB, sealB_length, pgH_length k n cs h]
  omega
set_option maxRecDepth 100000 in
theorem pgH_wf {k : Int} {n : Nat} {cs : List Cl} (hk : 0 ≤ k ∧ k ≤ 255) (h : ∀ c ∈ cs, c.Wf) : Wf (pgH k n cs) :=
  Wf.append (Wf.cons hk (Wf.cons (by omega) Wf.nil)) (Wf.append (fB_wf _ _) (Wf.append (sloB_wf _) (Wf.append (zs_wf _) (bdy_wf h))))
set_option maxRecDepth 100000 in
theorem pgB_wf {k : Int} {n : Nat} {cs : List Cl} (hk : 0 ≤ k ∧ k ≤ 255) (h : ∀ c ∈ cs, c.Wf) : Wf (pgB k n cs) := sealB_wf (pgH_wf hk h)

/-- Bytes as n cells that may be, with rising keys, and no more. -/
def part (k p : Int) : Nat → Option (List Int) → List Int → Option (List Cl)
  | 0, _, l => if l = [] then some [] else none
  | n + 1, pr, l =>
    match pCell l with
    | none => none
    | some (c, r) => if mayP k p c ∧ ahead pr c.key then (part k p n (some c.key) r).map (c :: ·) else none
set_option maxRecDepth 100000 in
theorem part_of {k p : Int} (hp : p ≤ 65536) : ∀ (cs : List Cl) (pr : Option (List Int)), chk k p pr cs = 0 → part k p cs.length pr (bdy cs) = some cs
  | [], _, _ => rfl
  | c :: r, pr, h => by
    unfold chk at h
    split at h
    · next h1 =>
      split at h
      · next h2 =>
        simp only [List.length_cons, part, bdy_cons]
        rw [pCell_mid c _ (h1.fit hp)]
        simp only [h1, h2, and_self, if_true]
        rw [part_of hp r _ h]
        rfl
      · simp at h
    · simp at h
set_option maxRecDepth 100000 in
theorem part_inv {k p : Int} : ∀ (n : Nat) (pr : Option (List Int)) (l : List Int) (cs : List Cl), Wf l → part k p n pr l = some cs → cs.length = n ∧ l = bdy cs ∧ chk k p pr cs = 0 ∧ ∀ c ∈ cs, c.Wf
  | 0, pr, l, cs, hw, h => by
    unfold part at h
    split at h
    · next e =>
      cases h
      exact ⟨rfl, e, rfl, fun c hc => by cases hc⟩
    · cases h
  | n + 1, pr, l, cs, hw, h => by
    unfold part at h
    split at h
    · cases h
    · next c r e =>
      split at h
      · next hm =>
        obtain ⟨e1, _, e3, e4⟩ := pCell_inv hw e
        cases hq : part k p n (some c.key) r with
        | none => rw [hq] at h; cases h
        | some ds =>
          rw [hq] at h
          simp only [Option.map_some, Option.some.injEq] at h
          subst h
          obtain ⟨f1, f2, f3, f4⟩ := part_inv n _ r ds e4 hq
          refine ⟨by simp [f1], by rw [bdy_cons, ← f2]; exact e1, ?_, ?_⟩
          · rw [chk, if_pos hm.1, if_pos hm.2]; exact f3
          · intro d hd
            rcases List.mem_cons.1 hd with e | e
            · rw [e]; exact e3
            · exact f4 d e
      · cases h

/-- A page's kind. -/
def isKd (k : Int) : Prop := k = 2 ∨ k = 3
instance (k : Int) : Decidable (isKd k) := by unfold isKd; infer_instance
instance (k : Int) : Decidable (pw k) := by unfold pw; infer_instance
/-- What the bytes b are, of cells. -/
structure Is (k : Int) (n : Nat) (cs : List Cl) (b : List Int) : Prop where
  kd : isKd k
  sz : pw n
  ok : chk k n none cs = 0
  fit : szN cs ≤ n
  eq : pgB k n cs = b
/-- Where the first cell begins. -/
def frst (b : List Int) : Int := if 0 < rdN b 2 2 then rdN b 4 2 else (b.length : Int) - 4
/-- How bytes are read. -/
def readM (b : List Int) : Option (List Cl) :=
  if pw b.length ∧ isKd (b.getD 0 0) then
    (if frst b < 4 + rdN b 2 2 * 2 ∨ (b.length : Int) - 4 < frst b then none else part (b.getD 0 0) b.length (rdN b 2 2).toNat none ((b.drop (frst b).toNat).take (b.length - 4 - (frst b).toNat)))
  else none
set_option maxRecDepth 100000 in
theorem pw_nat {n : Nat} (h : pw n) : 512 ≤ n ∧ n ≤ 65536 := by
  have := pw_le h
  omega
set_option maxRecDepth 100000 in
theorem readM_inv {b : List Int} {cs : List Cl} (hw : Wf b) (h : readM b = some cs) : isKd (b.getD 0 0) ∧ pw b.length ∧ chk (b.getD 0 0) b.length none cs = 0 ∧ szN cs ≤ b.length ∧ (∀ c ∈ cs, c.Wf) ∧ (cs.length : Int) = rdN b 2 2 ∧ bdy cs = (b.drop (frst b).toNat).take (b.length - 4 - (frst b).toNat) ∧ frst b = (b.length : Int) - 4 - (bdy cs).length ∧ 4 + rdN b 2 2 * 2 ≤ frst b := by
  unfold readM at h
  split at h
  · next h1 =>
    split at h
    · cases h
    · next h2 =>
      have hn := (rdN_bound b hw 2 2).1
      have hp := pw_nat h1.1
      obtain ⟨e1, e2, e3, e4⟩ := part_inv _ _ _ _ ((hw.drop _).take _) h
      have hl := congrArg List.length e2
      rw [List.length_take, List.length_drop] at hl
      have hz := szN_eq cs
      refine ⟨h1.2, h1.1, e3, ?_, e4, ?_, e2.symm, ?_, ?_⟩ <;> omega
  · cases h
set_option maxRecDepth 100000 in
theorem pgB_split (k : Int) (n : Nat) (cs : List Cl) : ∃ U : List Int, U.length = 4 ∧ pgB k n cs = [k, 1] ++ (fB 2 cs.length ++ (sloB (sts (n - 4 - (bdy cs).length) cs) ++ (zs (n - szN cs) ++ (bdy cs ++ U)))) :=
  ⟨fB 4 (sumN [pgH k n cs]), fB_length _ _, by rw [pgB, sealB]; conv => lhs; arg 1; rw [pgH]
                                               simp only [List.append_assoc]⟩
set_option maxRecDepth 100000 in
theorem readM_of {k : Int} {n : Nat} {cs : List Cl} {b : List Int} (h : Is k n cs b) : readM b = some cs ∧ b.length = n ∧ b.getD 0 0 = k := by
  obtain ⟨h1, h2, h3, h4, h5⟩ := h
  have hp := pw_nat h2
  have hz := szN_eq cs
  have hlen : b.length = n := by rw [← h5, pgB_length k n cs h4]
  have hg : b.getD 0 0 = k := by rw [← h5]; rfl
  obtain ⟨U, hU, hsp⟩ := pgB_split k n cs
  rw [h5] at hsp
  obtain ⟨F, hF⟩ : ∃ F, n - 4 - (bdy cs).length = F := ⟨_, rfl⟩
  rw [hF] at hsp
  have hr : rdN b 2 2 = (cs.length : Int) := by
    rw [hsp, rdN_mid _ _ _ 2 2 rfl (fB_length _ _), fB_read 2 _ (by omega) (by omega)]
  have hf : frst b = (F : Int) := by
    unfold frst
    rw [hr, hlen]
    cases cs with
    | nil =>
      simp [bdy] at hF
      simp
      omega
    | cons c r =>
      have e : b = ([k, 1] ++ fB 2 ((c :: r).length : Nat)) ++ (fB 2 (F : Int) ++ (sloB (sts (F + (cB c).length) r) ++ (zs (n - szN (c :: r)) ++ (bdy (c :: r) ++ U)))) := by
        rw [hsp, show sloB (sts F (c :: r)) = fB 2 (F : Int) ++ sloB (sts (F + (cB c).length) r) from by simp [sloB, sts]]
        simp only [List.append_assoc]
      rw [if_pos (by simp only [List.length_cons]; omega), e, rdN_mid _ _ _ 4 2 (by simp [fB_length]) (fB_length _ _), fB_read 2 _ (by omega) (by omega)]
  have hb : (b.drop F).take (n - 4 - F) = bdy cs := by
    have e : b = ([k, 1] ++ (fB 2 cs.length ++ (sloB (sts F cs) ++ zs (n - szN cs)))) ++ (bdy cs ++ U) := by
      rw [hsp]
      simp only [List.append_assoc]
    have hA : ([k, 1] ++ (fB 2 cs.length ++ (sloB (sts F cs) ++ zs (n - szN cs)))).length = F := by
      simp only [List.length_append, List.length_cons, List.length_nil, fB_length, sloB_length, sts_length, zs_length]
      omega
    rw [e, List.drop_left' hA, List.take_left' (by omega)]
  refine ⟨?_, hlen, hg⟩
  unfold readM
  rw [hg, hlen, hr, hf, if_pos ⟨h2, h1⟩, if_neg (by omega), Int.toNat_natCast, Int.toNat_natCast, hb]
  exact part_of (by omega) cs none h3
set_option maxRecDepth 100000 in
/-- What reading gives is the page, if the page is written so. -/
theorem is_iff {b : List Int} (hw : Wf b) (cs : List Cl) : Is (b.getD 0 0) b.length cs b ↔ readM b = some cs ∧ pgB (b.getD 0 0) b.length cs = b := by
  constructor
  · intro h
    exact ⟨(readM_of h).1, h.eq⟩
  · rintro ⟨h1, h2⟩
    obtain ⟨a1, a2, a3, a4, _⟩ := readM_inv hw h1
    exact ⟨a1, a2, a3, a4, h2⟩
set_option maxRecDepth 100000 in
theorem Is.at {k : Int} {n : Nat} {cs : List Cl} {b : List Int} (h : Is k n cs b) : Is (b.getD 0 0) b.length cs b := by
  obtain ⟨_, h2, h3⟩ := readM_of h
  rw [h2, h3]
  exact h
set_option maxRecDepth 100000 in
theorem Is.one {k j : Int} {n m : Nat} {cs ds : List Cl} {b : List Int} (h : Is k n cs b) (g : Is j m ds b) : k = j ∧ n = m ∧ cs = ds := by
  obtain ⟨h1, h2, h3⟩ := readM_of h
  obtain ⟨g1, g2, g3⟩ := readM_of g
  exact ⟨h3.symm.trans g3, h2.symm.trans g2, Option.some.inj (h1.symm.trans g1)⟩

set_option maxRecDepth 100000 in
theorem set_two (A Z : List Int) (x y : Int) (p : Nat) (hp : A.length = p) : ((A ++ ([0, 0] ++ Z)).set p x).set (p + 1) y = A ++ ([x, y] ++ Z) := by
  subst hp
  rw [List.set_append_right _ _ (Nat.le_refl _), List.set_append_right _ _ (by omega)]
  simp
set_option maxRecDepth 100000 in
/-- The page grows slot by slot. -/
theorem layP_set (k : Int) (n : Nat) (cs : List Cl) (i : Nat) (hi : i < cs.length) (hf : szN cs ≤ n) (x y : Int) (hxy : [x, y] = fB 2 ((n : Int) - 4 - (bdy cs).length + (sts 0 cs).getD i 0)) :
    ((layP k n cs i).set (4 + i * 2) x).set (4 + i * 2 + 1) y = layP k n cs (i + 1) := by
  have hz := szN_eq cs
  obtain ⟨F, hF⟩ : ∃ F, n - 4 - (bdy cs).length = F := ⟨_, rfl⟩
  have hFs : sts F cs = (sts 0 cs).map (F + ·) := by
    have := sts_shift F 0 cs
    rwa [Nat.add_zero] at this
  have hg : (sts F cs).take (i + 1) = (sts F cs).take i ++ [F + (sts 0 cs).getD i 0] := by
    rw [List.take_add_one, hFs]
    congr 1
    have hl : i < (sts 0 cs).length := by rw [sts_length]; exact hi
    simp [List.getElem?_map, List.getD, List.getElem?_eq_getElem hl]
  have hs : sloB ((sts F cs).take (i + 1)) = sloB ((sts F cs).take i) ++ [x, y] := by
    rw [hg, hxy, show (n : Int) - 4 - (bdy cs).length + (((sts 0 cs).getD i 0 : Nat) : Int) = ((F + (sts 0 cs).getD i 0 : Nat) : Int) by omega]
    simp [sloB]
  unfold layP
  rw [hF, hs, show n - 4 - 2 * i = 2 + (n - 4 - 2 * (i + 1)) by omega, zs_add]
  obtain ⟨A, hA⟩ : ∃ A, [k, 1] ++ (fB 2 cs.length ++ sloB ((sts F cs).take i)) = A := ⟨_, rfl⟩
  have hAl : A.length = 4 + i * 2 := by
    rw [← hA]
    simp only [List.length_append, List.length_cons, List.length_nil, fB_length, sloB_length, List.length_take, sts_length]
    omega
  generalize zs (n - 4 - 2 * (i + 1)) = Z
  have h2 := set_two A Z x y (4 + i * 2) hAl
  rw [← hA] at h2
  simpa [List.append_assoc, zs] using h2
end Go.Proofs.YtddjepdgigeelabDoor

/- Package cell: what its functions answer; cells in memory. -/

namespace Go.Proofs.YtddjepdgigeelabDoor
open Go.RowKit

/-- What a cell may be, by its numbers. -/
def leadsN (pg ct lo hi : Int) : Prop := (2 ≤ pg ∧ pg ≤ 65535) ∧ (lo ≤ ct ∧ ct ≤ hi)
def leafN (page : Int) (kd : Int) (vn : Nat) (pg ct : Int) : Prop :=
  (kd = 1 ∧ (vn : Int) ≤ page / 16 * 3 ∧ (pg = 0 ∧ ct = 0)) ∨ (kd = 2 ∧ vn = 0 ∧ leadsN pg ct (page / 16 * 3 + 1) 65536) ∨ (kd = 4 ∧ vn = 0 ∧ ((pg = 0 ∧ ct = 0) ∨ leadsN pg ct 1 1073741824))
def mayN (kind page : Int) (kn : Nat) (kd : Int) (vn : Nat) (pg ct : Int) : Prop :=
  (kn : Int) ≤ page / 8 ∧ ((kind = 3 ∧ kd = 3 ∧ vn = 0 ∧ leadsN pg ct 1 1073741824) ∨ (kind ≠ 3 ∧ 0 < kn ∧ leafN page kd vn pg ct))
set_option maxRecDepth 100000 in
theorem mayP_iff (k p : Int) (c : Cl) : mayN k p c.key.length c.kd c.val.length c.pg c.ct ↔ mayP k p c := by
  simp only [mayN, mayP, leafN, leadsN, leadsP, nowhere, List.length_eq_zero_iff]

set_option maxRecDepth 100000 in
theorem ret_bool {b c : Bool} (h : b = c) : Ending.returned (.bool b) = .returned (.bool c) := by rw [h]
set_option maxRecDepth 100000 in
theorem within_any (n lo hi : Int) (w : World) : Calls Tryd.prog 44 #[.int .i64 n, .int .i64 lo, .int .i64 hi] w fun e w' => e = .returned (.bool (decide (lo ≤ n ∧ n ≤ hi))) ∧ w' = w := by
  go_enter Tryd.func44, Tryd.ntmps44
  go_wp2
  all_goals go_ret
  all_goals refine ⟨ret_bool ?_, rfl⟩
  all_goals (rw [Bool.eq_iff_iff]; first | (simp; done) | (simp; omega) | (simp_all; done) | (simp_all; omega))
set_option maxRecDepth 100000 in
theorem isKind_any (k : Int) (w : World) : Calls Tryd.prog 22 #[.int .i64 k] w fun e w' => e = .returned (.bool (decide (isKd k))) ∧ w' = w := by
  go_enter Tryd.func22, Tryd.ntmps22
  go_wp2
  all_goals go_ret
  all_goals refine ⟨ret_bool ?_, rfl⟩
  all_goals (rw [Bool.eq_iff_iff]; first | (simp [isKd]; done) | (simp [isKd]; omega) | (simp_all [isKd]; done) | (simp_all [isKd]; omega))
set_option maxRecDepth 100000 in
theorem mostKey_any (p : Int) (w : World) (h0 : 0 ≤ p) (h1 : p ≤ 65536) : Calls Tryd.prog 30 #[.int .i64 p] w fun e w' => e = .returned (.int .i64 (p / 8)) ∧ w' = w := by
  go_enter Tryd.func30, Tryd.ntmps30
  go_wp2
  go_ret
  exact ⟨rfl, rfl⟩
set_option maxRecDepth 100000 in
theorem mostValue_any (p : Int) (w : World) (h0 : 0 ≤ p) (h1 : p ≤ 65536) : Calls Tryd.prog 48 #[.int .i64 p] w fun e w' => e = .returned (.int .i64 (p / 16 * 3)) ∧ w' = w := by
  go_enter Tryd.func48, Tryd.ntmps48
  go_wp2
  go_ret
  exact ⟨rfl, rfl⟩
set_option maxRecDepth 100000 in
theorem isSize_any (p : Int) (w : World) : Calls Tryd.prog 23 #[.int .i64 p] w fun e w' => e = .returned (.bool (decide (pw p))) ∧ w' = w := by
  by_cases h : 512 ≤ p ∧ p ≤ 65536
  · have hp := pow_iff p h.1 h.2
    have h1 := h.1
    have h2 := h.2
    have e : decide (512 ≤ p ∧ p ≤ 65536) = true := by simpa using h
    obtain ⟨z, hz⟩ : ∃ z, bits .and .i64 p (p - 1) = z := ⟨_, rfl⟩
    rw [hz] at hp
    rw [show decide (pw p) = decide (z = 0) from by simp [hp]]
    clear hp
    go_enter Tryd.func23, Tryd.ntmps23
    go_wp2_with (go_at_call 44; refine same_call (within_any _ _ _ _) ?_; rw [e])
    all_goals go_ret
    all_goals refine ⟨?_, rfl⟩
    all_goals (congr 2 <;> simp)
  · have e : decide (512 ≤ p ∧ p ≤ 65536) = false := by simpa using h
    have e2 : decide (pw p) = false := by
      rw [decide_eq_false_iff_not]
      exact fun hq => h (pw_le hq)
    rw [e2]
    go_enter Tryd.func23, Tryd.ntmps23
    go_wp2_with (go_at_call 44; refine same_call (within_any _ _ _ _) ?_; rw [e])
    go_ret
    exact ⟨rfl, rfl⟩

/-- A cell as a value. -/
def cV (ka : Option Addr) (kn kc : Nat) (kd : Int) (va : Option Addr) (vn vc : Nat) (pg ct : Int) : Value := .agg #[.slice ka kn kc, .int .i64 kd, .slice va vn vc, .int .i64 pg, .int .i64 ct]
def cC (ka : Option Addr) (kn kc : Nat) (kd : Int) (va : Option Addr) (vn vc : Nat) (pg ct : Int) : Array Value := #[.slice ka kn kc, .int .i64 kd, .slice va vn vc, .int .i64 pg, .int .i64 ct]

set_option maxRecDepth 100000 in
theorem leadsNowhere_any (ka : Option Addr) (kn kc : Nat) (kd : Int) (va : Option Addr) (vn vc : Nat) (pg ct : Int) (w : World) :
    Calls Tryd.prog 49 #[.agg #[.slice ka kn kc, .int .i64 kd, .slice va vn vc, .int .i64 pg, .int .i64 ct]] w fun e w' => e = .returned (.bool (decide (pg = 0 ∧ ct = 0))) ∧ Below w.heap.size w w' := by
  go_enter Tryd.func49, Tryd.ntmps49
  go_wp2
  all_goals go_ret
  all_goals refine ⟨ret_bool ?_, (Below.refl _ _).alloc (Nat.le_refl _) _⟩
  all_goals (rw [Bool.eq_iff_iff]; first | (simp; done) | (simp; omega) | (simp_all; done) | (simp_all; omega))
instance (a b c d : Int) : Decidable (leadsN a b c d) := by unfold leadsN; infer_instance
set_option maxRecDepth 100000 in
theorem leads_any (ka : Option Addr) (kn kc : Nat) (kd : Int) (va : Option Addr) (vn vc : Nat) (pg ct lo hi : Int) (w : World) :
    Calls Tryd.prog 31 #[.agg #[.slice ka kn kc, .int .i64 kd, .slice va vn vc, .int .i64 pg, .int .i64 ct], .int .i64 lo, .int .i64 hi] w fun e w' => e = .returned (.bool (decide (leadsN pg ct lo hi))) ∧ Below w.heap.size w w' := by
  have hq : decide (leadsN pg ct lo hi) = (decide (2 ≤ pg ∧ pg ≤ 65535) && decide (lo ≤ ct ∧ ct ≤ hi)) := by rw [Bool.eq_iff_iff, decide_eq_true_iff]; simp [leadsN]
  rw [hq]
  cases h1 : decide (2 ≤ pg ∧ pg ≤ 65535)
  · go_enter Tryd.func31, Tryd.ntmps31
    go_wp2_with (go_at_call 44; refine same_call (within_any _ _ _ _) ?_; rw [h1])
    go_ret
    exact ⟨rfl, (Below.refl _ _).alloc (Nat.le_refl _) _⟩
  · have W2 := fun u => within_any ct lo hi u
    cases h2 : decide (lo ≤ ct ∧ ct ≤ hi)
    all_goals
      go_enter Tryd.func31, Tryd.ntmps31
      go_wp2_with (go_at_call 44; refine same_call (within_any _ _ _ _) ?_; first | rw [h1] | rw [h2])
      go_ret
      exact ⟨rfl, (Below.refl _ _).alloc (Nat.le_refl _) _⟩
end Go.Proofs.YtddjepdgigeelabDoor

/- cell.MayBe: what it answers. -/

namespace Go.Proofs.YtddjepdgigeelabDoor
open Go.RowKit

set_option maxRecDepth 100000 in
/-- The five cells of a boxed cell, behind a call. -/
theorem box5 {w w1 : World} {x0 x1 x2 x3 x4 : Value} {t : TypeId} (hb : Below (w.alloc (.cells #[x0, x1, x2, x3, x4] t)).heap.size (w.alloc (.cells #[x0, x1, x2, x3, x4] t)) w1) :
    w1.cell? ⟨w.heap.size, 0, none⟩ = some x0 ∧ w1.cell? ⟨w.heap.size, 1, none⟩ = some x1 ∧ w1.cell? ⟨w.heap.size, 2, none⟩ = some x2 ∧ w1.cell? ⟨w.heap.size, 3, none⟩ = some x3 ∧ w1.cell? ⟨w.heap.size, 4, none⟩ = some x4 := by
  have hl : w.heap.size < (w.alloc (.cells #[x0, x1, x2, x3, x4] t)).heap.size := by simp
  refine ⟨(hb.cell (p := ⟨w.heap.size, 0, none⟩) hl).trans (by simp), (hb.cell (p := ⟨w.heap.size, 1, none⟩) hl).trans (by simp), (hb.cell (p := ⟨w.heap.size, 2, none⟩) hl).trans (by simp), (hb.cell (p := ⟨w.heap.size, 3, none⟩) hl).trans (by simp), (hb.cell (p := ⟨w.heap.size, 4, none⟩) hl).trans (by simp)⟩
set_option maxRecDepth 100000 in
theorem al5 {w w1 : World} {o : Obj} (hb : Below (w.alloc o).heap.size (w.alloc o) w1) : Below w.heap.size w w1 := bl_go (bl_al (Below.refl _ w) (Nat.le_refl _) _) (Nat.le_refl _) hb

instance (p k : Int) (v : Nat) (a b : Int) : Decidable (leafN p k v a b) := by unfold leafN; infer_instance
instance (k p : Int) (n : Nat) (kd : Int) (v : Nat) (a b : Int) : Decidable (mayN k p n kd v a b) := by unfold mayN; infer_instance

set_option maxRecDepth 100000 in
theorem gv5 {w : World} {x0 x1 x2 x3 x4 : Value} {t : TypeId} {u : World} (hb : Below (w.heap.size + 1) (w.alloc (.cells #[x0, x1, x2, x3, x4] t)) u) :
    u.cell? ⟨w.heap.size, 0, none⟩ = some x0 ∧ u.cell? ⟨w.heap.size, 1, none⟩ = some x1 ∧ u.cell? ⟨w.heap.size, 2, none⟩ = some x2 ∧ u.cell? ⟨w.heap.size, 3, none⟩ = some x3 ∧ u.cell? ⟨w.heap.size, 4, none⟩ = some x4 :=
  box5 (by simpa using hb)
set_option maxRecDepth 100000 in
set_option maxHeartbeats 1000000 in
theorem inLeaf_any (page : Int) (ka : Option Addr) (kn kc : Nat) (kd : Int) (va : Option Addr) (vn vc : Nat) (pg ct : Int) (w : World) (h0 : 0 ≤ page) (h1 : page ≤ 65536) (hv : vn ≤ 140737488355328) :
    Calls Tryd.prog 32 #[.int .i64 page, .agg #[.slice ka kn kc, .int .i64 kd, .slice va vn vc, .int .i64 pg, .int .i64 ct]] w fun e w' => e = .returned (.bool (decide (leafN page kd vn pg ct))) ∧ Below w.heap.size w w' := by
  have hm : 0 ≤ page / 16 * 3 ∧ page / 16 * 3 ≤ 65535 := by omega
  have hal := (Below.refl w.heap.size w).alloc (Nat.le_refl _) (.cells #[.slice ka kn kc, .int .i64 kd, .slice va vn vc, .int .i64 pg, .int .i64 ct] 30)
  by_cases k1 : kd = 1
  · have hq : decide (leafN page kd vn pg ct) = (decide ((vn : Int) ≤ page / 16 * 3) && decide (pg = 0 ∧ ct = 0)) := by rw [Bool.eq_iff_iff, decide_eq_true_iff]; simp [leafN, k1]
    rw [hq]
    subst k1
    clear hq
    by_cases h : (vn : Int) ≤ page / 16 * 3
    · rw [decide_eq_true h, Bool.true_and]
      have d1 : decide ((vn : Int) ≤ page / 16 * 3) = true := decide_eq_true h
      cases hr : decide (pg = 0 ∧ ct = 0)
      all_goals
        go_enter Tryd.func32, Tryd.ntmps32
        go_wp2_with fail
        go_region_with (first | (go_at_call 48; refine same_call (mostValue_any _ _ h0 h1) ?_) | (go_at_call 49; refine (leadsNowhere_any _ _ _ _ _ _ _ _ _ _).mono ?_; rintro e w1 ⟨rfl, hb1⟩; have hbw := bl_go (show Below w.heap.size w _ from by first | exact hal | exact hal.drew | exact bl_dr hal _ | exact (bl_dr hal _).drew | go_grown) (Nat.le_refl _) hb1; rw [hr]))
        all_goals (try go_wp2); all_goals (go_ret; exact ⟨rfl, by first | exact hbw | exact hbw.drew | exact bl_dr hbw _⟩)
    · rw [decide_eq_false h, Bool.false_and]
      have d1 : decide ((vn : Int) ≤ page / 16 * 3) = false := decide_eq_false h
      go_enter Tryd.func32, Tryd.ntmps32
      go_wp2_with fail
      go_quiet (first | (go_at_call 48; exact Calls.quiet_of_same (mostValue_any _ _ h0 h1)))
      go_wp2
      go_ret
      exact ⟨rfl, by first | exact hal | exact bl_dr hal _⟩
  · by_cases hz : vn = 0
    · subst hz
      by_cases k2 : kd = 2
      · have hq : decide (leafN page kd 0 pg ct) = decide (leadsN pg ct (page / 16 * 3 + 1) 65536) := by rw [Bool.eq_iff_iff, decide_eq_true_iff]; simp [leafN, k2]
        rw [hq]
        subst k2
        clear hq
        have hw1 : IntKind.i64.wrap (page / 16 * 3 + 1) = page / 16 * 3 + 1 := by rw [IntKind.wrap_i64]; omega
        have hw2 : wrap64 (page / 16 * 3 + 1) = page / 16 * 3 + 1 := by simp [wrap64]; omega
        generalize hr : decide (leadsN pg ct (page / 16 * 3 + 1) 65536) = r
        go_enter Tryd.func32, Tryd.ntmps32
        go_wp2_with fail
        go_region_with (first | (go_at_call 48; refine same_call (mostValue_any _ _ h0 h1) ?_) | (go_at_call 31; refine (leads_any _ _ _ _ _ _ _ _ _ _ _ _).mono ?_; rintro e w1 ⟨rfl, hb1⟩; have hbw := bl_go (show Below w.heap.size w _ from by first | exact hal | exact hal.drew | exact bl_dr hal _ | exact (bl_dr hal _).drew | go_grown) (Nat.le_refl _) hb1; first | rw [hr] | rw [hw1, hr] | rw [hw2, hr]))
        all_goals (try go_wp2); all_goals (go_ret; exact ⟨rfl, by first | exact hbw | exact hbw.drew | exact bl_dr hbw _⟩)
      · by_cases k4 : kd = 4
        · have hq : decide (leafN page kd 0 pg ct) = (decide (pg = 0 ∧ ct = 0) || decide (leadsN pg ct 1 1073741824)) := by rw [Bool.eq_iff_iff, decide_eq_true_iff]; simp [leafN, k4]
          rw [hq]
          subst k4
          clear hq
          cases hr : decide (pg = 0 ∧ ct = 0)
          · cases hs : decide (leadsN pg ct 1 1073741824)
            all_goals
              go_enter Tryd.func32, Tryd.ntmps32
              go_wp2_with (first | (go_at_call 49; refine (leadsNowhere_any _ _ _ _ _ _ _ _ _ _).mono ?_; rintro e w1 ⟨rfl, hb1⟩; rw [hr]; obtain ⟨c0, c1, c2, c3, c4⟩ := box5 hb1) | (go_at_call 31; refine (leads_any _ _ _ _ _ _ _ _ _ _ _ _).mono ?_; rintro e w2 ⟨rfl, hb2⟩; rw [hs]))
              go_ret
              exact ⟨rfl, bl_go (al5 hb1) (Nat.le_refl _) hb2⟩
          · go_enter Tryd.func32, Tryd.ntmps32
            go_wp2_with (go_at_call 49; refine (leadsNowhere_any _ _ _ _ _ _ _ _ _ _).mono ?_; rintro e w1 ⟨rfl, hb1⟩; rw [hr])
            go_ret
            exact ⟨rfl, al5 hb1⟩
        · have hq : decide (leafN page kd 0 pg ct) = false := by rw [decide_eq_false_iff_not]; simp [leafN, k1, k2, k4]
          rw [hq]
          clear hq
          go_enter Tryd.func32, Tryd.ntmps32
          go_wp2
          go_ret
          exact ⟨rfl, hal⟩
    · have hq : decide (leafN page kd vn pg ct) = false := by rw [decide_eq_false_iff_not]; simp [leafN, k1, hz]
      rw [hq]
      clear hq
      have hz' : 0 < (vn : Int) := by omega
      go_enter Tryd.func32, Tryd.ntmps32
      go_wp2
      go_ret
      exact ⟨rfl, hal⟩

set_option maxRecDepth 100000 in
set_option maxHeartbeats 1000000 in
theorem mayBe_any (kind page : Int) (ka : Option Addr) (kn kc : Nat) (kd : Int) (va : Option Addr) (vn vc : Nat) (pg ct : Int) (w : World) (h0 : 0 ≤ page) (h1 : page ≤ 65536) (hk : kn ≤ 140737488355328) (hv : vn ≤ 140737488355328) :
    Calls Tryd.prog 14 #[.int .i64 kind, .int .i64 page, .agg #[.slice ka kn kc, .int .i64 kd, .slice va vn vc, .int .i64 pg, .int .i64 ct]] w fun e w' => e = .returned (.bool (decide (mayN kind page kn kd vn pg ct))) ∧ Below w.heap.size w w' := by
  have hm : 0 ≤ page / 8 ∧ page / 8 ≤ 65535 := by omega
  have hal := (Below.refl w.heap.size w).alloc (Nat.le_refl _) (.cells #[.slice ka kn kc, .int .i64 kd, .slice va vn vc, .int .i64 pg, .int .i64 ct] 30)
  by_cases h : (kn : Int) ≤ page / 8
  · have d1 : decide (page / 8 < (kn : Int)) = false := decide_eq_false (by omega)
    by_cases k3 : kind = 3
    · have hq : decide (mayN kind page kn kd vn pg ct) = (decide (kd = 3) && (decide (vn = 0) && decide (leadsN pg ct 1 1073741824))) := by rw [Bool.eq_iff_iff, decide_eq_true_iff]; simp [mayN, h, k3]
      rw [hq]
      subst k3
      clear hq
      by_cases d3 : kd = 3
      · subst d3
        by_cases hz : vn = 0
        · subst hz
          cases hs : decide (leadsN pg ct 1 1073741824)
          all_goals
            go_enter Tryd.func14, Tryd.ntmps14
            go_wp2_with fail
            go_quiet (first | (go_at_call 48; exact Calls.quiet_of_same (mostValue_any _ _ h0 h1)) | (go_at_call 30; exact Calls.quiet_of_same (mostKey_any _ _ h0 h1)))
            go_wp2_with (first | (go_at_call 31; refine (leads_any _ _ _ _ _ _ _ _ _ _ _ _).mono ?_; rintro e w1 ⟨rfl, hb1⟩; have hbw := bl_go (show Below w.heap.size w _ from by first | exact hal | exact hal.drew | exact bl_dr hal _ | exact (bl_dr hal _).drew | go_grown) (Nat.le_refl _) hb1; rw [hs]))
            all_goals (try go_wp2); all_goals (go_ret; exact ⟨rfl, by first | exact hbw | exact hbw.drew | exact bl_dr hbw _⟩)
        · have hz' : 0 < (vn : Int) := by omega
          have hz2 : ¬ (vn : Int) = 0 := by omega
          rw [decide_eq_false hz]
          go_enter Tryd.func14, Tryd.ntmps14
          go_wp2_with fail
          go_quiet (first | (go_at_call 48; exact Calls.quiet_of_same (mostValue_any _ _ h0 h1)) | (go_at_call 30; exact Calls.quiet_of_same (mostKey_any _ _ h0 h1)))
          go_wp2
          go_ret
          exact ⟨rfl, by first | exact hal | exact bl_dr hal _⟩
      · rw [decide_eq_false d3]
        go_enter Tryd.func14, Tryd.ntmps14
        go_wp2_with fail
        go_quiet (first | (go_at_call 48; exact Calls.quiet_of_same (mostValue_any _ _ h0 h1)) | (go_at_call 30; exact Calls.quiet_of_same (mostKey_any _ _ h0 h1)))
        go_wp2
        go_ret
        exact ⟨rfl, by first | exact hal | exact bl_dr hal _⟩
    · have hq : decide (mayN kind page kn kd vn pg ct) = (decide (0 < kn) && decide (leafN page kd vn pg ct)) := by rw [Bool.eq_iff_iff, decide_eq_true_iff]; simp [mayN, h, k3]
      rw [hq]
      clear hq
      by_cases hz : 0 < kn
      · have hz' : 0 < (kn : Int) := by omega
        rw [decide_eq_true hz]
        cases hs : decide (leafN page kd vn pg ct)
        all_goals
          go_enter Tryd.func14, Tryd.ntmps14
          go_wp2_with fail
          go_quiet (first | (go_at_call 48; exact Calls.quiet_of_same (mostValue_any _ _ h0 h1)) | (go_at_call 30; exact Calls.quiet_of_same (mostKey_any _ _ h0 h1)))
          go_wp2_with (first | (go_at_call 32; refine (inLeaf_any _ _ _ _ _ _ _ _ _ _ _ h0 h1 hv).mono ?_; rintro e w1 ⟨rfl, hb1⟩; have hbw := bl_go (show Below w.heap.size w _ from by first | exact hal | exact hal.drew | exact bl_dr hal _ | exact (bl_dr hal _).drew | go_grown) (Nat.le_refl _) hb1; rw [hs]))
          all_goals (try go_wp2); all_goals (go_ret; exact ⟨rfl, by first | exact hbw | exact hbw.drew | exact bl_dr hbw _⟩)
      · obtain rfl : kn = 0 := by omega
        go_enter Tryd.func14, Tryd.ntmps14
        go_wp2_with fail
        go_quiet (first | (go_at_call 48; exact Calls.quiet_of_same (mostValue_any _ _ h0 h1)) | (go_at_call 30; exact Calls.quiet_of_same (mostKey_any _ _ h0 h1)))
        go_wp2
        go_ret
        exact ⟨rfl, by first | exact hal | exact bl_dr hal _⟩
  · have d1 : decide (page / 8 < (kn : Int)) = true := decide_eq_true (by omega)
    have hq : decide (mayN kind page kn kd vn pg ct) = false := by rw [decide_eq_false_iff_not]; simp [mayN, h]
    rw [hq]
    clear hq
    go_enter Tryd.func14, Tryd.ntmps14
    go_wp2_with fail
    go_quiet (first | (go_at_call 48; exact Calls.quiet_of_same (mostValue_any _ _ h0 h1)) | (go_at_call 30; exact Calls.quiet_of_same (mostKey_any _ _ h0 h1)))
    go_wp2
    go_ret
    exact ⟨rfl, by first | exact hal | exact bl_dr hal _⟩
end Go.Proofs.YtddjepdgigeelabDoor

/- How keys stand: bytes.Compare, plain.rise, and strings. -/

namespace Go.Proofs.YtddjepdgigeelabDoor
open Go.RowKit

set_option maxRecDepth 100000 in
theorem u8_lt (x y : Int) (hx : 0 ≤ x ∧ x ≤ 255) (hy : 0 ≤ y ∧ y ≤ 255) : UInt8.ofNat x.toNat < UInt8.ofNat y.toNat ↔ x < y := by
  rw [UInt8.lt_iff_toNat_lt, UInt8.toNat_ofNat', UInt8.toNat_ofNat']
  omega
set_option maxRecDepth 100000 in
theorem cmp_ord : ∀ (a b : List Int), Wf a → Wf b → Lib.compareBytes (Lib.bytesOf a) (Lib.bytesOf b) = ordL a b
  | [], [], _, _ => rfl
  | [], _ :: _, _, _ => rfl
  | _ :: _, [], _, _ => rfl
  | x :: a, y :: b, ha, hb => by
    have hx := ha x (by simp)
    have hy := hb y (by simp)
    have ih := cmp_ord a b (fun z hz => ha z (by simp [hz])) (fun z hz => hb z (by simp [hz]))
    unfold Lib.bytesOf at ih ⊢
    simp only [List.map_cons, Lib.compareBytes, ordL, u8_lt x y hx hy, u8_lt y x hy hx, ih]
set_option maxRecDepth 100000 in
theorem less_ord : ∀ (a b : List Int), Wf a → Wf b → Op.bytesLess (Lib.bytesOf a) (Lib.bytesOf b) = decide (kl a b)
  | [], [], _, _ => rfl
  | [], _ :: _, _, _ => rfl
  | _ :: _, [], _, _ => rfl
  | x :: a, y :: b, ha, hb => by
    have hx := ha x (by simp)
    have hy := hb y (by simp)
    have ih := less_ord a b (fun z hz => ha z (by simp [hz])) (fun z hz => hb z (by simp [hz]))
    unfold Lib.bytesOf at ih ⊢
    unfold kl at ih ⊢
    have heq : UInt8.ofNat x.toNat = UInt8.ofNat y.toNat ↔ x = y := ⟨byte_inj hx hy, fun e => by rw [e]⟩
    simp only [List.map_cons, Op.bytesLess, ordL, u8_lt x y hx hy, ih]
    by_cases h1 : x < y
    · simp [h1]
    · by_cases h2 : y < x
      · have : ¬ x = y := by omega
        simp [h1, h2, heq, this]
      · have : x = y := by omega
        simp [this]
set_option maxRecDepth 100000 in
theorem str_less {a b : List Int} (ha : Wf a) (hb : Wf b) : Op.bytesLess (strOfNums a).toList (strOfNums b).toList = decide (kl a b) := by
  rw [Lib.strOfNums_toList, Lib.strOfNums_toList, less_ord a b ha hb]

set_option maxRecDepth 100000 in
theorem run_bytes {w : World} {ao : Option Addr} {n cap : Nat} {l : List Int} (h : Sl w ao n cap l) : (Extern.Bytes.bytesOf (.slice ao n cap)).run Tryd.prog w = .ok ⟨(Lib.bytesOf l).toArray⟩ w := by
  obtain ⟨hlen, hcap, hroom, hwf, hnil, hat⟩ := h
  have he : (⟨ByteArray.empty.data ++ (Lib.bytesOf l).toArray⟩ : ByteArray) = ⟨(Lib.bytesOf l).toArray⟩ := by
    apply ByteArray.ext
    show (#[] : Array UInt8) ++ (Lib.bytesOf l).toArray = (Lib.bytesOf l).toArray
    simp
  cases ao with
  | none =>
    have : n = 0 := by have := hnil rfl; omega
    obtain rfl : l = [] := List.eq_nil_of_length_eq_zero (by omega)
    rfl
  | some a =>
    have hl := Lib.run_loadBytesX (P := Tryd.prog) w l a .empty (fun j x hj => by
      have hjl : j < l.length := (List.getElem?_eq_some_iff.1 hj).1
      rcases hat with h0 | ⟨b, off, e, hb, hc⟩
      · omega
      · injection e with e
        subst e
        rw [Addr.add_lit, hc j (by omega), List.getD_eq_getElem?_getD, hj]
        rfl)
    rw [hlen, he] at hl
    simpa [Extern.Bytes.bytesOf] using hl
set_option maxRecDepth 100000 in
theorem run_cmp {w : World} {ao bo : Option Addr} {n m c d : Nat} {la lb : List Int} (ha : Sl w ao n c la) (hb : Sl w bo m d lb) :
    (Extern.BytealgCompare.compare #[.slice ao n c, .slice bo m d]).run Tryd.prog w = .ok (.int .i64 (ordL la lb)) w := by
  change Sem.run Tryd.prog (do pure (goInt (Extern.BytealgCompare.cmp (← Extern.Bytes.bytesOf (.slice ao n c)) (← Extern.Bytes.bytesOf (.slice bo m d))))) w = _
  simp only [Sem.run_bind, run_bytes ha, run_bytes hb, Sem.run_pure, Result.andThen]
  rw [Lib.cmp_eq, show (⟨(Lib.bytesOf la).toArray⟩ : ByteArray).data.toList = Lib.bytesOf la from rfl, show (⟨(Lib.bytesOf lb).toArray⟩ : ByteArray).data.toList = Lib.bytesOf lb from rfl, cmp_ord la lb ha.wf hb.wf]
  rfl

set_option maxRecDepth 100000 in
theorem compare_any (ao bo : Option Addr) (n m c d : Nat) (la lb : List Int) (w : World) (ha : Sl w ao n c la) (hb : Sl w bo m d lb) :
    Calls Tryd.prog 28 #[.slice ao n c, .slice bo m d] w fun e w' => e = .returned (.int .i64 (ordL la lb)) ∧ w' = w := by
  have hr := run_cmp ha hb
  clear ha hb
  go_enter Tryd.func28, Tryd.ntmps28
  go_wp2
  rw [run_callFunc_extern Tryd.func46 (by kernel_rfl) (by kernel_rfl) (by kernel_rfl) (e := Extern.BytealgCompare.compare) (by kernel_rfl), hr]
  simp only [Result.andThen]
  rw [Oper.upon_value]
  go_wp2
  go_ret
  exact ⟨rfl, rfl⟩
set_option maxRecDepth 100000 in
theorem rise_any (ao bo : Option Addr) (n m c d : Nat) (la lb : List Int) (w : World) (ha : Sl w ao n c la) (hb : Sl w bo m d lb) :
    Calls Tryd.prog 15 #[.slice ao n c, .slice bo m d] w fun e w' => e = .returned (.bool (decide (kl la lb))) ∧ w' = w := by
  have hr := compare_any ao bo n m c d la lb w ha hb
  have hq : decide (kl la lb) = decide (ordL la lb < 0) := by
    have := ordL_three la lb
    refine decide_eq_decide.2 ?_
    unfold kl
    omega
  rw [hq]
  clear ha hb hq
  generalize ordL la lb = x at *
  go_enter Tryd.func15, Tryd.ntmps15
  go_wp2_with (go_at_call 28; refine same_call hr ?_)
  go_ret
  exact ⟨rfl, rfl⟩
end Go.Proofs.YtddjepdgigeelabDoor
