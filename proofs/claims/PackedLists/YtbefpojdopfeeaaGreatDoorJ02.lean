/- A meta's numbers, its page, and what a page says: plain mathematics. -/
import Derived.Test.YtbefpojdopfeeaaGreatDoorJ01
import Derived.Test.YtbefpojdopfeeaaGreatDoorJ00
namespace Go.Proofs.YtbefpojdopfeeaaGreatDoor

/-- A meta's numbers. -/
structure Mt where
  en : Int
  pg : Int
  tx : Int
  ro : Int
  co : Int
  fr : Int
  li : Int
  hi : Int
/-- A power of two that a page's size may be. -/
def pw (n : Int) : Prop := n = 512 ∨ n = 1024 ∨ n = 2048 ∨ n = 4096 ∨ n = 8192 ∨ n = 16384 ∨ n = 32768 ∨ n = 65536
/-- The numbers are a meta's. -/
structure Mt.ok (m : Mt) : Prop where
  en : m.en = 1 ∨ m.en = 2
  pg : pw m.pg
  tx : 0 ≤ m.tx ∧ m.tx ≤ 1099511627776
  hi : 2 ≤ m.hi ∧ m.hi ≤ 65536
  ro : m.ro = 0 ∨ 2 ≤ m.ro ∧ m.ro < m.hi
  fr : m.fr = 0 ∨ 2 ≤ m.fr ∧ m.fr < m.hi
  co : 0 ≤ m.co ∧ m.co ≤ 256
  cr : m.co = 0 ↔ m.ro = 0
  li : 0 ≤ m.li ∧ m.li ≤ m.hi - 2
  lf : m.li = 0 ∨ m.fr ≠ 0
  rf : ¬ (m.ro = m.fr ∧ m.ro ≠ 0)
set_option maxRecDepth 100000 in
theorem pw_le {n : Int} (h : pw n) : 512 ≤ n ∧ n ≤ 65536 := by
  unfold pw at h
  omega
/-- k zeros. -/
def zs (k : Nat) : List Int := List.replicate k 0
set_option maxRecDepth 100000 in
theorem zs_length (k : Nat) : (zs k).length = k := by simp [zs]
set_option maxRecDepth 100000 in
theorem zs_wf (k : Nat) : Wf (zs k) := by
  intro x hx
  simp only [zs, List.mem_replicate] at hx
  omega
set_option maxRecDepth 100000 in
theorem zs_add (a b : Nat) : zs (a + b) = zs a ++ zs b := by
  unfold zs
  exact (List.replicate_append_replicate (n := a) (m := b)).symm
/-- The first 40 bytes of a meta page. -/
def hdB (m : Mt) : List Int := [1] ++ (fB 1 m.en ++ ([0, 0, 69, 83, 80, 76] ++ (fB 4 m.pg ++ (fB 8 m.tx ++ (fB 4 m.ro ++ (fB 4 m.co ++ (fB 4 m.fr ++ (fB 4 m.li ++ fB 4 m.hi))))))))
set_option maxRecDepth 100000 in
theorem hdB_length (m : Mt) : (hdB m).length = 40 := by simp [hdB, fB_length]
/-- All ahead of the sum. -/
def bodyB (m : Mt) : List Int := hdB m ++ zs (m.pg.toNat - 44)
set_option maxRecDepth 100000 in
theorem bodyB_length (m : Mt) (h : m.ok) : (bodyB m).length = m.pg.toNat - 4 := by
  have := pw_le h.pg
  simp only [bodyB, List.length_append, hdB_length, zs_length]
  omega
/-- Bytes and their sum. -/
def sealB (l : List Int) : List Int := l ++ fB 4 (sumN [l])
set_option maxRecDepth 100000 in
theorem sealB_length (l : List Int) : (sealB l).length = l.length + 4 := by simp [sealB, fB_length]
set_option maxRecDepth 100000 in
theorem sealB_wf {l : List Int} (h : Wf l) : Wf (sealB l) := h.append (fB_wf _ _)
/-- THE META'S PAGE. -/
def pageB (m : Mt) : List Int := sealB (bodyB m)
set_option maxRecDepth 100000 in
theorem pageB_length (m : Mt) (h : m.ok) : (pageB m).length = m.pg.toNat := by
  have := pw_le h.pg
  rw [pageB, sealB_length, bodyB_length m h]
  omega
/-- The bytes l are just the page of m. -/
def Says (l : List Int) (m : Mt) : Prop := m.ok ∧ pageB m = l
/-- The number that stands at a place. -/
def rdN (l : List Int) (p w : Nat) : Int := rdB ((l.drop p).take w)
set_option maxRecDepth 100000 in
theorem rdN_mid (A F C : List Int) (p w : Nat) (hp : A.length = p) (hw : F.length = w) : rdN (A ++ (F ++ C)) p w = rdB F := by
  subst hp hw
  unfold rdN
  rw [List.drop_left, List.take_left]
set_option maxRecDepth 100000 in
theorem rdN_bound (l : List Int) (h : Wf l) (p w : Nat) : 0 ≤ rdN l p w ∧ rdN l p w < 256 ^ w := by
  have h1 := rdB_bound ((l.drop p).take w) ((h.drop p).take w)
  refine ⟨h1.1, Int.lt_of_lt_of_le h1.2 ?_⟩
  have h2 : ((l.drop p).take w).length ≤ w := by simp; omega
  have h3 : (256 : Nat) ^ ((l.drop p).take w).length ≤ 256 ^ w := Nat.pow_le_pow_right (by omega) h2
  exact_mod_cast h3
/-- What the bytes would say. -/
def rdM (l : List Int) : Mt := ⟨rdN l 1 1, rdN l 8 4, IntKind.i64.wrap (rdN l 12 8), rdN l 20 4, rdN l 24 4, rdN l 28 4, rdN l 32 4, rdN l 36 4⟩
set_option maxRecDepth 100000 in
theorem fB_read (w : Nat) (n : Int) (h0 : 0 ≤ n) (h : n < 256 ^ w) : rdB (fB w n) = n := by
  rw [rdB_fB w n h0]
  exact Int.emod_eq_of_lt h0 h
set_option maxRecDepth 100000 in
theorem wrap_small (n : Int) (h0 : 0 ≤ n) (h : n < 9223372036854775808) : IntKind.i64.wrap n = n := by
  rw [IntKind.wrap_i64]
  omega
set_option maxRecDepth 100000 in
theorem rdM_page (m : Mt) (h : m.ok) : rdM (pageB m) = m := by
  obtain ⟨en, pg, tx, hi, ro, fr, co, cr, li, lf, rf⟩ := h
  have hpg := pw_le pg
  obtain ⟨Z, hZ⟩ : ∃ Z, Z = zs (m.pg.toNat - 44) ++ fB 4 (sumN [bodyB m]) := ⟨_, rfl⟩
  have e : pageB m = [1] ++ (fB 1 m.en ++ ([0, 0, 69, 83, 80, 76] ++ (fB 4 m.pg ++ (fB 8 m.tx ++ (fB 4 m.ro ++ (fB 4 m.co ++ (fB 4 m.fr ++ (fB 4 m.li ++ (fB 4 m.hi ++ Z))))))))) := by
    rw [hZ]
    simp only [pageB, sealB, bodyB, hdB, List.append_assoc]
  have e1 : rdN (pageB m) 1 1 = m.en := by
    rw [e, rdN_mid [1] (fB 1 m.en) _ 1 1 rfl (fB_length _ _), fB_read 1 _ (by omega) (by simp; omega)]
  have e2 : rdN (pageB m) 8 4 = m.pg := by
    rw [e, show [1] ++ (fB 1 m.en ++ ([0, 0, 69, 83, 80, 76] ++ (fB 4 m.pg ++ (fB 8 m.tx ++ (fB 4 m.ro ++ (fB 4 m.co ++ (fB 4 m.fr ++ (fB 4 m.li ++ (fB 4 m.hi ++ Z))))))))) = ([1] ++ fB 1 m.en ++ [0, 0, 69, 83, 80, 76]) ++ (fB 4 m.pg ++ (fB 8 m.tx ++ (fB 4 m.ro ++ (fB 4 m.co ++ (fB 4 m.fr ++ (fB 4 m.li ++ (fB 4 m.hi ++ Z))))))) from by simp only [List.append_assoc],
      rdN_mid _ (fB 4 m.pg) _ 8 4 (by simp [fB_length]) (fB_length _ _), fB_read 4 _ (by omega) (by simp; omega)]
  have e3 : rdN (pageB m) 12 8 = m.tx := by
    rw [e, show [1] ++ (fB 1 m.en ++ ([0, 0, 69, 83, 80, 76] ++ (fB 4 m.pg ++ (fB 8 m.tx ++ (fB 4 m.ro ++ (fB 4 m.co ++ (fB 4 m.fr ++ (fB 4 m.li ++ (fB 4 m.hi ++ Z))))))))) = ([1] ++ fB 1 m.en ++ [0, 0, 69, 83, 80, 76] ++ fB 4 m.pg) ++ (fB 8 m.tx ++ (fB 4 m.ro ++ (fB 4 m.co ++ (fB 4 m.fr ++ (fB 4 m.li ++ (fB 4 m.hi ++ Z)))))) from by simp only [List.append_assoc],
      rdN_mid _ (fB 8 m.tx) _ 12 8 (by simp [fB_length]) (fB_length _ _), fB_read 8 _ (by omega) (by simp; omega)]
  have e4 : rdN (pageB m) 20 4 = m.ro := by
    rw [e, show [1] ++ (fB 1 m.en ++ ([0, 0, 69, 83, 80, 76] ++ (fB 4 m.pg ++ (fB 8 m.tx ++ (fB 4 m.ro ++ (fB 4 m.co ++ (fB 4 m.fr ++ (fB 4 m.li ++ (fB 4 m.hi ++ Z))))))))) = ([1] ++ fB 1 m.en ++ [0, 0, 69, 83, 80, 76] ++ fB 4 m.pg ++ fB 8 m.tx) ++ (fB 4 m.ro ++ (fB 4 m.co ++ (fB 4 m.fr ++ (fB 4 m.li ++ (fB 4 m.hi ++ Z))))) from by simp only [List.append_assoc],
      rdN_mid _ (fB 4 m.ro) _ 20 4 (by simp [fB_length]) (fB_length _ _), fB_read 4 _ (by omega) (by simp; omega)]
  have e5 : rdN (pageB m) 24 4 = m.co := by
    rw [e, show [1] ++ (fB 1 m.en ++ ([0, 0, 69, 83, 80, 76] ++ (fB 4 m.pg ++ (fB 8 m.tx ++ (fB 4 m.ro ++ (fB 4 m.co ++ (fB 4 m.fr ++ (fB 4 m.li ++ (fB 4 m.hi ++ Z))))))))) = ([1] ++ fB 1 m.en ++ [0, 0, 69, 83, 80, 76] ++ fB 4 m.pg ++ fB 8 m.tx ++ fB 4 m.ro) ++ (fB 4 m.co ++ (fB 4 m.fr ++ (fB 4 m.li ++ (fB 4 m.hi ++ Z)))) from by simp only [List.append_assoc],
      rdN_mid _ (fB 4 m.co) _ 24 4 (by simp [fB_length]) (fB_length _ _), fB_read 4 _ (by omega) (by simp; omega)]
  have e6 : rdN (pageB m) 28 4 = m.fr := by
    rw [e, show [1] ++ (fB 1 m.en ++ ([0, 0, 69, 83, 80, 76] ++ (fB 4 m.pg ++ (fB 8 m.tx ++ (fB 4 m.ro ++ (fB 4 m.co ++ (fB 4 m.fr ++ (fB 4 m.li ++ (fB 4 m.hi ++ Z))))))))) = ([1] ++ fB 1 m.en ++ [0, 0, 69, 83, 80, 76] ++ fB 4 m.pg ++ fB 8 m.tx ++ fB 4 m.ro ++ fB 4 m.co) ++ (fB 4 m.fr ++ (fB 4 m.li ++ (fB 4 m.hi ++ Z))) from by simp only [List.append_assoc],
      rdN_mid _ (fB 4 m.fr) _ 28 4 (by simp [fB_length]) (fB_length _ _), fB_read 4 _ (by omega) (by simp; omega)]
  have e7 : rdN (pageB m) 32 4 = m.li := by
    rw [e, show [1] ++ (fB 1 m.en ++ ([0, 0, 69, 83, 80, 76] ++ (fB 4 m.pg ++ (fB 8 m.tx ++ (fB 4 m.ro ++ (fB 4 m.co ++ (fB 4 m.fr ++ (fB 4 m.li ++ (fB 4 m.hi ++ Z))))))))) = ([1] ++ fB 1 m.en ++ [0, 0, 69, 83, 80, 76] ++ fB 4 m.pg ++ fB 8 m.tx ++ fB 4 m.ro ++ fB 4 m.co ++ fB 4 m.fr) ++ (fB 4 m.li ++ (fB 4 m.hi ++ Z)) from by simp only [List.append_assoc],
      rdN_mid _ (fB 4 m.li) _ 32 4 (by simp [fB_length]) (fB_length _ _), fB_read 4 _ (by omega) (by simp; omega)]
  have e8 : rdN (pageB m) 36 4 = m.hi := by
    rw [e, show [1] ++ (fB 1 m.en ++ ([0, 0, 69, 83, 80, 76] ++ (fB 4 m.pg ++ (fB 8 m.tx ++ (fB 4 m.ro ++ (fB 4 m.co ++ (fB 4 m.fr ++ (fB 4 m.li ++ (fB 4 m.hi ++ Z))))))))) = ([1] ++ fB 1 m.en ++ [0, 0, 69, 83, 80, 76] ++ fB 4 m.pg ++ fB 8 m.tx ++ fB 4 m.ro ++ fB 4 m.co ++ fB 4 m.fr ++ fB 4 m.li) ++ (fB 4 m.hi ++ Z) from by simp only [List.append_assoc],
      rdN_mid _ (fB 4 m.hi) _ 36 4 (by simp [fB_length]) (fB_length _ _), fB_read 4 _ (by omega) (by simp; omega)]
  unfold rdM
  rw [e1, e2, e3, e4, e5, e6, e7, e8, wrap_small m.tx (by omega) (by omega)]
set_option maxRecDepth 100000 in
/-- A page says one meta at most, the one that stands in it. -/
theorem Says.eq {l : List Int} {m : Mt} (h : Says l m) : m = rdM l := by
  obtain ⟨h1, rfl⟩ := h
  exact (rdM_page m h1).symm
set_option maxRecDepth 100000 in
theorem Says.one {l : List Int} {m n : Mt} (h : Says l m) (k : Says l n) : m = n := h.eq.trans k.eq.symm
set_option maxRecDepth 100000 in
theorem Says.length {l : List Int} {m : Mt} (h : Says l m) : (l.length : Int) = m.pg ∧ 512 ≤ l.length := by
  obtain ⟨h1, rfl⟩ := h
  have := pw_le h1.pg
  rw [pageB_length m h1]
  omega
set_option maxRecDepth 100000 in
theorem sumN_lt (l : List Int) (h : Wf l) : sumN [l] < 4294967296 := by
  have := tk_lt (l.map Int.toNat) 4294967295 (by omega) (nat_lt l h)
  exact xor32 (by omega) this
end Go.Proofs.YtbefpojdopfeeaaGreatDoor

/- Cells and pages of the plain kind: plain mathematics: a cell's bytes, a page's, and how both are read. -/

namespace Go.Proofs.YtbefpojdopfeeaaGreatDoor

/-- A cell. -/
structure Cl where
  key : List Int
  kd : Int
  val : List Int
  pg : Int
  ct : Int
deriving DecidableEq, Inhabited

/-- Its key and its value are bytes. -/
def Cl.Wf (c : Cl) : Prop := Go.Proofs.YtbefpojdopfeeaaGreatDoor.Wf c.key ∧ Go.Proofs.YtbefpojdopfeeaaGreatDoor.Wf c.val
def nowhere (c : Cl) : Prop := c.pg = 0 ∧ c.ct = 0
def leadsP (c : Cl) (lo hi : Int) : Prop := (2 ≤ c.pg ∧ c.pg ≤ 65535) ∧ (lo ≤ c.ct ∧ c.ct ≤ hi)
/-- What a cell may be. -/
def mayP (kind page : Int) (c : Cl) : Prop :=
  (c.key.length : Int) ≤ page / 8 ∧
  ((kind = 3 ∧ c.kd = 3 ∧ c.val = [] ∧ leadsP c 1 1073741824) ∨
   (kind ≠ 3 ∧ 0 < c.key.length ∧
     ((c.kd = 1 ∧ (c.val.length : Int) ≤ page / 16 * 3 ∧ nowhere c) ∨ (c.kd = 2 ∧ c.val = [] ∧ leadsP c (page / 16 * 3 + 1) 65536) ∨ (c.kd = 4 ∧ c.val = [] ∧ (nowhere c ∨ leadsP c 1 1073741824)))))
instance (c : Cl) : Decidable (nowhere c) := by unfold nowhere; infer_instance
instance (c : Cl) (a b : Int) : Decidable (leadsP c a b) := by unfold leadsP; infer_instance
instance (k p : Int) (c : Cl) : Decidable (mayP k p c) := by unfold mayP; infer_instance
/-- How many bytes it takes, with its slot. -/
def ctk (c : Cl) : Nat := if c.kd = 1 then 7 + c.key.length + c.val.length else 13 + c.key.length
/-- Its bytes. -/
def cB (c : Cl) : List Int := [c.kd % 256] ++ (fB 2 c.key.length ++ (c.key ++ (if c.kd = 1 then fB 2 c.val.length ++ c.val else fB 4 c.pg ++ fB 4 c.ct)))
set_option maxRecDepth 100000 in
theorem cB_length (c : Cl) : (cB c).length + 2 = ctk c := by
  unfold cB ctk
  split <;> simp [fB_length] <;> omega
/-- The number at the bytes' beginning. -/
def pNum (w : Nat) (l : List Int) : Option (Int × List Int) := if l.length < w then none else some (rdB (l.take w), l.drop w)
/-- The text there. -/
def pText (l : List Int) : Option (List Int × List Int) :=
  match pNum 2 l with
  | none => none
  | some (n, r) => if (r.length : Int) < n then none else some (r.take n.toNat, r.drop n.toNat)
/-- The cell there. -/
def pCell (l : List Int) : Option (Cl × List Int) :=
  match pNum 1 l with
  | none => none
  | some (k, r) =>
    match pText r with
    | none => none
    | some (key, r) =>
      if k = 1 then
        match pText r with
        | none => none
        | some (val, r) => some (⟨key, k, val, 0, 0⟩, r)
      else
        match pNum 4 r with
        | none => none
        | some (p, r) =>
          match pNum 4 r with
          | none => none
          | some (c, r) => some (⟨key, k, [], p, c⟩, r)
/-- What is written comes out: of cells whose numbers fit. -/
structure Cl.fit (c : Cl) : Prop where
  kd : 0 ≤ c.kd ∧ c.kd < 256
  key : c.key.length < 65536
  val : c.val.length < 65536
  pg : 0 ≤ c.pg ∧ c.pg < 4294967296
  ct : 0 ≤ c.ct ∧ c.ct < 4294967296
  one : c.kd = 1 → c.pg = 0 ∧ c.ct = 0
  oth : c.kd ≠ 1 → c.val = []
set_option maxRecDepth 100000 in
theorem mayP.fit {k p : Int} {c : Cl} (h : mayP k p c) (hp : p ≤ 65536) : c.fit := by
  obtain ⟨h1, h2⟩ := h
  unfold leadsP nowhere at h2
  rcases h2 with ⟨e, h3, h4, h5⟩ | ⟨e, h3, ⟨h4, h5, h6⟩ | ⟨h4, h5, h6⟩ | ⟨h4, h5, h6⟩⟩
  · exact ⟨by omega, by omega, by rw [h4]; decide, by omega, by omega, by omega, fun _ => h4⟩
  · exact ⟨by omega, by omega, by omega, by omega, by omega, fun _ => h6, fun h => absurd h4 h⟩
  · exact ⟨by omega, by omega, by rw [h5]; decide, by omega, by omega, by omega, fun _ => h5⟩
  · exact ⟨by omega, by omega, by rw [h5]; decide, by omega, by omega, by omega, fun _ => h5⟩
set_option maxRecDepth 100000 in
theorem pNum_mid (w : Nat) (n : Int) (r : List Int) (h0 : 0 ≤ n) (h : n < 256 ^ w) : pNum w (fB w n ++ r) = some (n, r) := by
  unfold pNum
  rw [if_neg (by simp [fB_length]), List.take_left' (fB_length w n), List.drop_left' (fB_length w n), fB_read w n h0 h]
set_option maxRecDepth 100000 in
theorem pText_mid (t r : List Int) (h : t.length < 65536) : pText (fB 2 t.length ++ (t ++ r)) = some (t, r) := by
  unfold pText
  rw [pNum_mid 2 _ _ (by omega) (by omega)]
  simp only
  rw [if_neg (by rw [List.length_append]; omega), Int.toNat_natCast, List.take_left, List.drop_left]
set_option maxRecDepth 100000 in
theorem pCell_mid (c : Cl) (r : List Int) (h : c.fit) : pCell (cB c ++ r) = some (c, r) := by
  obtain ⟨key, kd, val, pg, ct⟩ := c
  obtain ⟨h1, h2, h3, h4, h5, h6, h7⟩ := h
  simp only at h1 h2 h3 h4 h5 h6 h7
  unfold cB pCell
  simp only
  rw [List.append_assoc, show ([kd % 256] : List Int) = fB 1 kd from by simp [fB], pNum_mid 1 kd _ h1.1 (by omega)]
  simp only
  rw [List.append_assoc, List.append_assoc, pText_mid _ _ h2]
  simp only
  by_cases e : kd = 1
  · rw [if_pos e, if_pos e, List.append_assoc, pText_mid _ _ h3]
    simp only
    obtain ⟨rfl, rfl⟩ := h6 e
    rfl
  · rw [if_neg e, if_neg e, List.append_assoc, pNum_mid 4 pg _ h4.1 (by omega)]
    simp only
    rw [pNum_mid 4 ct _ h5.1 (by omega)]
    simp only
    rw [h7 e]
set_option maxRecDepth 100000 in
/-- A number's bytes, read and written, are those bytes. -/
theorem fB_rdB : ∀ (l : List Int), Wf l → fB l.length (rdB l) = l
  | [], _ => rfl
  | c :: l, h => by
    have hc := h c (by simp)
    have hl : Wf l := fun x hx => h x (by simp [hx])
    have hb := rdB_bound l hl
    have ih := fB_rdB l hl
    have e : ∀ (j : Nat) (m : Int), fB j (c * 256 ^ l.length + m) = fB j m ∨ l.length < j := by
      intro j m
      by_cases hj : l.length < j
      · exact .inr hj
      · left
        induction j with
        | zero => rfl
        | succ j ihj =>
          rw [fB, fB, ihj (by omega)]
          congr 1
          obtain ⟨d, hd⟩ : ∃ d, l.length = j + 1 + d := ⟨l.length - (j + 1), by omega⟩
          rw [hd, show (256 : Int) ^ (j + 1 + d) = 256 ^ j * (256 * 256 ^ d) from by rw [Int.pow_add, Int.pow_succ, Int.mul_assoc],
            show c * (256 ^ j * (256 * 256 ^ d)) + m = m + (256 ^ j) * (256 * (c * 256 ^ d)) from by
              rw [Int.add_comm, ← Int.mul_assoc, Int.mul_comm c (256 ^ j), Int.mul_assoc, ← Int.mul_assoc c, Int.mul_comm c 256, Int.mul_assoc]]
          rw [Int.add_mul_ediv_left _ _ (by have : (0 : Int) < 256 ^ j := Int.pow_pos (by omega)
                                            omega)]
          omega
    rw [rdB_cons, List.length_cons, fB]
    rcases e l.length (rdB l) with e | e
    · rw [e, ih]
      congr 1
      have hp : (0 : Int) < 256 ^ l.length := Int.pow_pos (by omega)
      rw [Int.add_comm, Int.add_mul_ediv_right _ _ (by omega), Int.ediv_eq_zero_of_lt hb.1 hb.2]
      omega
    · omega
set_option maxRecDepth 100000 in
theorem pNum_inv {w : Nat} {l r : List Int} {n : Int} (hw : Wf l) (h : pNum w l = some (n, r)) : l = fB w n ++ r ∧ 0 ≤ n ∧ n < 256 ^ w ∧ Wf r := by
  unfold pNum at h
  split at h
  · cases h
  · next hl =>
    simp only [Option.some.injEq, Prod.mk.injEq] at h
    obtain ⟨rfl, rfl⟩ := h
    have ht : (l.take w).length = w := by rw [List.length_take]; omega
    have := fB_rdB (l.take w) (hw.take w)
    rw [ht] at this
    have hb := rdB_bound (l.take w) (hw.take w)
    rw [ht] at hb
    exact ⟨by rw [this, List.take_append_drop], hb.1, hb.2, hw.drop w⟩
end Go.Proofs.YtbefpojdopfeeaaGreatDoor

/- Bytes as strings: Same answers whether two slices hold the same bytes. -/

namespace Go.Proofs.YtbefpojdopfeeaaGreatDoor
open Go.RowKit

set_option maxRecDepth 100000 in
theorem conv_sl {w : World} {ao : Option Addr} {n cap : Nat} {l : List Int} (hs : Sl w ao n cap l) :
    (convert 37 9 (.slice ao n cap)).run Tryz.prog w = .ok (.string (strOfNums l)) w := by
  obtain ⟨hlen, hcap, hroom, hwf, hnil, hat⟩ := hs
  rcases hat with rfl | ⟨b, off, rfl, hb, hc⟩
  · obtain rfl : l = [] := List.eq_nil_of_length_eq_zero hlen
    rw [run_convert_bytes_string w 37 9 5 ao 0 cap Tryz.underlying37 Tryz.underlying5 Tryz.underlying9]
    cases ao with
    | none => simp [Conv.bytesToString, Sem.run_pure, strOfNums]; rfl
    | some a =>
      rw [run_bytesToString w a 0 cap [] (by simpa using run_loadCells_list (P := Tryz.prog) w a [] (fun j v h => by cases h))]
      rfl
  · exact run_convert_bytes_arg w 37 5 Tryz.underlying37 Tryz.underlying5 b off n cap l hlen hc 9 Tryz.underlying9
set_option maxRecDepth 100000 in
theorem byte_inj {x y : Int} (hx : 0 ≤ x ∧ x ≤ 255) (hy : 0 ≤ y ∧ y ≤ 255) (h : UInt8.ofNat x.toNat = UInt8.ofNat y.toNat) : x = y := by
  have h1 := congrArg UInt8.toNat h
  simp only [UInt8.toNat_ofNat'] at h1
  omega
set_option maxRecDepth 100000 in
theorem bytes_inj : ∀ (a b : List Int), Wf a → Wf b → (a.map fun n => UInt8.ofNat n.toNat) = (b.map fun n => UInt8.ofNat n.toNat) → a = b
  | [], [], _, _, _ => rfl
  | [], _ :: _, _, _, h => by simp at h
  | _ :: _, [], _, _, h => by simp at h
  | x :: a, y :: b, ha, hb, h => by
    simp only [List.map_cons, List.cons.injEq] at h
    rw [byte_inj (ha x (by simp)) (hb y (by simp)) h.1, bytes_inj a b (fun z hz => ha z (by simp [hz])) (fun z hz => hb z (by simp [hz])) h.2]
set_option maxRecDepth 100000 in
theorem str_beq {a b : List Int} (ha : Wf a) (hb : Wf b) : ((strOfNums a).toList == (strOfNums b).toList) = decide (a = b) := by
  rw [Bool.eq_iff_iff, beq_iff_eq, decide_eq_true_iff, ByteArray.toList_eq, ByteArray.toList_eq, strOfNums_data, strOfNums_data]
  constructor
  · exact bytes_inj a b ha hb
  · rintro rfl; rfl
end Go.Proofs.YtbefpojdopfeeaaGreatDoor

/- Order tells how two texts stand; both lays bytes and more behind them into memory of its own. -/

namespace Go.Proofs.YtbefpojdopfeeaaGreatDoor
open Go.RowKit

/-- How two texts stand. -/
def ordL : List Int → List Int → Int
  | [], [] => 0
  | [], _ :: _ => -1
  | _ :: _, [] => 1
  | x :: a, y :: b => if x < y then -1 else if y < x then 1 else ordL a b
set_option maxRecDepth 100000 in
theorem ordL_self : ∀ (a : List Int), ordL a a = 0
  | [] => rfl
  | x :: a => by simp [ordL, ordL_self a]
set_option maxRecDepth 100000 in
theorem ordL_eq : ∀ (a b : List Int), ordL a b = 0 → a = b
  | [], [], _ => rfl
  | [], _ :: _, h => by simp [ordL] at h
  | _ :: _, [], h => by simp [ordL] at h
  | x :: a, y :: b, h => by
    simp only [ordL] at h
    split at h
    · simp at h
    · split at h
      · simp at h
      · rw [ordL_eq a b h, show x = y by omega]
set_option maxRecDepth 100000 in
theorem ordL_three (a b : List Int) : ordL a b = 0 ∨ ordL a b = -1 ∨ ordL a b = 1 := by
  induction a generalizing b with
  | nil => cases b <;> simp [ordL]
  | cons x a ih =>
    cases b with
    | nil => simp [ordL]
    | cons y b =>
      simp only [ordL]
      split
      · simp
      · split
        · simp
        · exact ih b
end Go.Proofs.YtbefpojdopfeeaaGreatDoor
