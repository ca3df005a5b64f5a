import Derived.Test.YtjpmfgoodcldcaaGreatDoorJ02
import Derived.Test.YtjpmfgoodcldcaaGreatDoorJ00
namespace Go.Proofs.YtjpmfgoodcldcaaGreatDoor
set_option maxRecDepth 100000
def pw (n : Int) : Prop := n = 512 ∨ n = 1024 ∨ n = 2048 ∨ n = 4096 ∨ n = 8192 ∨ n = 16384 ∨ n = 32768 ∨ n = 65536
theorem pw_le {n : Int} (h : pw n) : 512 ≤ n ∧ n ≤ 65536 := by
 unfold pw at h
 omega
def zs (k : Nat) : List Int := List.replicate k 0
theorem zs_length (k : Nat) : (zs k).length = k := by simp [zs]
theorem zs_wf (k : Nat) : Wf (zs k) := by
 intro x hx
 simp only [zs, List.mem_replicate] at hx
 omega
theorem zs_add (a b : Nat) : zs (a + b) = zs a ++ zs b := by
 unfold zs
 exact (List.replicate_append_replicate (n := a) (m := b)).symm
def sealB (l : List Int) : List Int := l ++ fB 4 (sumN [l])
theorem sealB_length (l : List Int) : (sealB l).length = l.length + 4 := by simp [sealB, fB_length]
theorem sealB_wf {l : List Int} (h : Wf l) : Wf (sealB l) := h.append (fB_wf _ _)
def rdN (l : List Int) (p w : Nat) : Int := rdB ((l.drop p).take w)
theorem rdN_mid (A F C : List Int) (p w : Nat) (hp : A.length = p) (hw : F.length = w) : rdN (A ++ (F ++ C)) p w = rdB F := by
 subst hp hw
 unfold rdN
 rw [List.drop_left, List.take_left]
theorem rdN_bound (l : List Int) (h : Wf l) (p w : Nat) : 0 ≤ rdN l p w ∧ rdN l p w < 256 ^ w := by
 have h1 := rdB_bound ((l.drop p).take w) ((h.drop p).take w)
 refine ⟨h1.1, Int.lt_of_lt_of_le h1.2 ?_⟩
 have h2 : ((l.drop p).take w).length ≤ w := by simp; omega
 have h3 : (256 : Nat) ^ ((l.drop p).take w).length ≤ 256 ^ w := Nat.pow_le_pow_right (by omega) h2
 exact_mod_cast h3
theorem fB_read (w : Nat) (n : Int) (h0 : 0 ≤ n) (h : n < 256 ^ w) : rdB (fB w n) = n := by
 rw [rdB_fB w n h0]
 exact Int.emod_eq_of_lt h0 h
theorem sumN_lt (l : List Int) (h : Wf l) : sumN [l] < 4294967296 := by
 have := tk_lt (l.map Int.toNat) 4294967295 (by omega) (nat_lt l h)
 exact xor32 (by omega) this
end Go.Proofs.YtjpmfgoodcldcaaGreatDoor

namespace Go.Proofs.YtjpmfgoodcldcaaGreatDoor
set_option maxRecDepth 100000
structure Cl where
 key : List Int
 kd : Int
 val : List Int
 pg : Int
 ct : Int
deriving DecidableEq, Inhabited
def Cl.Wf (c : Cl) : Prop := Go.Proofs.YtjpmfgoodcldcaaGreatDoor.Wf c.key ∧ Go.Proofs.YtjpmfgoodcldcaaGreatDoor.Wf c.val
def nowhere (c : Cl) : Prop := c.pg = 0 ∧ c.ct = 0
def leadsP (c : Cl) (lo hi : Int) : Prop := (2 ≤ c.pg ∧ c.pg ≤ 65535) ∧ (lo ≤ c.ct ∧ c.ct ≤ hi)
def mayP (kind page : Int) (c : Cl) : Prop :=
 (c.key.length : Int) ≤ page / 8 ∧
 ((kind = 3 ∧ c.kd = 3 ∧ c.val = [] ∧ leadsP c 1 1073741824) ∨
  (kind ≠ 3 ∧ 0 < c.key.length ∧
   ((c.kd = 1 ∧ (c.val.length : Int) ≤ page / 16 * 3 ∧ nowhere c) ∨ (c.kd = 2 ∧ c.val = [] ∧ leadsP c (page / 16 * 3 + 1) 65536) ∨ (c.kd = 4 ∧ c.val = [] ∧ (nowhere c ∨ leadsP c 1 1073741824)))))
instance (c : Cl) : Decidable (nowhere c) := by unfold nowhere; infer_instance
instance (c : Cl) (a b : Int) : Decidable (leadsP c a b) := by unfold leadsP; infer_instance
instance (k p : Int) (c : Cl) : Decidable (mayP k p c) := by unfold mayP; infer_instance
def ctk (c : Cl) : Nat := if c.kd = 1 then 7 + c.key.length + c.val.length else 13 + c.key.length
def cB (c : Cl) : List Int := [c.kd % 256] ++ (fB 2 c.key.length ++ (c.key ++ (if c.kd = 1 then fB 2 c.val.length ++ c.val else fB 4 c.pg ++ fB 4 c.ct)))
theorem cB_length (c : Cl) : (cB c).length + 2 = ctk c := by
 unfold cB ctk
 split <;> simp [fB_length] <;> omega
theorem cB_wf {c : Cl} (h : c.Wf) : Wf (cB c) := by
 unfold cB
 refine Wf.append (Wf.cons (by omega) Wf.nil) (Wf.append (fB_wf _ _) (Wf.append h.1 ?_))
 split
 ·exact Wf.append (fB_wf _ _) h.2
 ·exact Wf.append (fB_wf _ _) (fB_wf _ _)
def pNum (w : Nat) (l : List Int) : Option (Int × List Int) := if l.length < w then none else some (rdB (l.take w), l.drop w)
def pText (l : List Int) : Option (List Int × List Int) :=
 match pNum 2 l with
 | none => none
 | some (n, r) => if (r.length : Int) < n then none else some (r.take n.toNat, r.drop n.toNat)
def pCell (l : List Int) : Option (Cl × List Int) :=
 match pNum 1 l with
 | none => none
 | some (k, r) =>
  match pText r with
  | none => none
  | some (key, r) =>
   if k = 1 then
    match pText r with
    | none => none
    | some (val, r) => some (⟨key, k, val, 0, 0⟩, r)
   else
    match pNum 4 r with
    | none => none
    | some (p, r) =>
     match pNum 4 r with
     | none => none
     | some (c, r) => some (⟨key, k, [], p, c⟩, r)
structure Cl.fit (c : Cl) : Prop where
 kd : 0 ≤ c.kd ∧ c.kd < 256
 key : c.key.length < 65536
 val : c.val.length < 65536
 pg : 0 ≤ c.pg ∧ c.pg < 4294967296
 ct : 0 ≤ c.ct ∧ c.ct < 4294967296
 one : c.kd = 1 → c.pg = 0 ∧ c.ct = 0
 oth : c.kd ≠ 1 → c.val = []
theorem mayP.fit {k p : Int} {c : Cl} (h : mayP k p c) (hp : p ≤ 65536) : c.fit := by
 obtain ⟨h1, h2⟩ := h
 unfold leadsP nowhere at h2
 rcases h2 with ⟨e, h3, h4, h5⟩ | ⟨e, h3, ⟨h4, h5, h6⟩ | ⟨h4, h5, h6⟩ | ⟨h4, h5, h6⟩⟩
 ·exact ⟨by omega, by omega, by rw [h4]; decide, by omega, by omega, by omega, fun _ => h4⟩
 ·exact ⟨by omega, by omega, by omega, by omega, by omega, fun _ => h6, fun h => absurd h4 h⟩
 ·exact ⟨by omega, by omega, by rw [h5]; decide, by omega, by omega, by omega, fun _ => h5⟩
 ·exact ⟨by omega, by omega, by rw [h5]; decide, by omega, by omega, by omega, fun _ => h5⟩
theorem pNum_mid (w : Nat) (n : Int) (r : List Int) (h0 : 0 ≤ n) (h : n < 256 ^ w) : pNum w (fB w n ++ r) = some (n, r) := by
 unfold pNum
 rw [if_neg (by simp [fB_length]), List.take_left' (fB_length w n), List.drop_left' (fB_length w n), fB_read w n h0 h]
theorem pText_mid (t r : List Int) (h : t.length < 65536) : pText (fB 2 t.length ++ (t ++ r)) = some (t, r) := by
 unfold pText
 rw [pNum_mid 2 _ _ (by omega) (by omega)]
 simp only
 rw [if_neg (by rw [List.length_append]; omega), Int.toNat_natCast, List.take_left, List.drop_left]
theorem pCell_mid (c : Cl) (r : List Int) (h : c.fit) : pCell (cB c ++ r) = some (c, r) := by
 obtain ⟨key, kd, val, pg, ct⟩ := c
 obtain ⟨h1, h2, h3, h4, h5, h6, h7⟩ := h
 simp only at h1 h2 h3 h4 h5 h6 h7
 unfold cB pCell
 simp only
 rw [List.append_assoc, show ([kd % 256] : List Int) = fB 1 kd from by simp [fB], pNum_mid 1 kd _ h1.1 (by omega)]
 simp only
 rw [List.append_assoc, List.append_assoc, pText_mid _ _ h2]
 simp only
 by_cases e : kd = 1
 ·rw [if_pos e, if_pos e, List.append_assoc, pText_mid _ _ h3]
  simp only
  obtain ⟨rfl, rfl⟩ := h6 e
  rfl
 ·rw [if_neg e, if_neg e, List.append_assoc, pNum_mid 4 pg _ h4.1 (by omega)]
  simp only
  rw [pNum_mid 4 ct _ h5.1 (by omega)]
  simp only
  rw [h7 e]
theorem fB_rdB : ∀ (l : List Int), Wf l → fB l.length (rdB l) = l
 | [], _ => rfl
 | c :: l, h => by
  have hc := h c (by simp)
  have hl : Wf l := fun x hx => h x (by simp [hx])
  have hb := rdB_bound l hl
  have ih := fB_rdB l hl
  have e : ∀ (j : Nat) (m : Int), fB j (c * 256 ^ l.length + m) = fB j m ∨ l.length < j := by
   intro j m
   by_cases hj : l.length < j
   ·exact .inr hj
   ·left
    induction j with
    | zero => rfl
    | succ j ihj =>
     rw [fB, fB, ihj (by omega)]
     congr 1
     obtain ⟨d, hd⟩ : ∃ d, l.length = j + 1 + d := ⟨l.length - (j + 1), by omega⟩
     rw [hd, show (256 : Int) ^ (j + 1 + d) = 256 ^ j * (256 * 256 ^ d) from by rw [Int.pow_add, Int.pow_succ, Int.mul_assoc],
      show c * (256 ^ j * (256 * 256 ^ d)) + m = m + (256 ^ j) * (256 * (c * 256 ^ d)) from by
       rw [Int.add_comm, ← Int.mul_assoc, Int.mul_comm c (256 ^ j), Int.mul_assoc, ← Int.mul_assoc c, Int.mul_comm c 256, Int.mul_assoc]]
     rw [Int.add_mul_ediv_left _ _ (by have : (0 : Int) < 256 ^ j := Int.pow_pos (by omega)
                                       omega)]
     omega
  rw [rdB_cons, List.length_cons, fB]
  rcases e l.length (rdB l) with e | e
  ·rw [e, ih]
   congr 1
   have hp : (0 : Int) < 256 ^ l.length := Int.pow_pos (by omega)
   rw [Int.add_comm, Int.add_mul_ediv_right _ _ (by omega), Int.ediv_eq_zero_of_lt hb.1 hb.2]
   omega
  ·omega
theorem pNum_inv {w : Nat} {l r : List Int} {n : Int} (hw : Wf l) (h : pNum w l = some (n, r)) : l = fB w n ++ r ∧ 0 ≤ n ∧ n < 256 ^ w ∧ Wf r := by
 unfold pNum at h
 split at h
 ·cases h
 ·next hl =>
  simp only [Option.some.injEq, Prod.mk.injEq] at h
  obtain ⟨rfl, rfl⟩ := h
  have ht : (l.take w).length = w := by rw [List.length_take]; omega
  have := fB_rdB (l.take w) (hw.take w)
  rw [ht] at this
  have hb := rdB_bound (l.take w) (hw.take w)
  rw [ht] at hb
  exact ⟨by rw [this, List.take_append_drop], hb.1, hb.2, hw.drop w⟩
theorem pText_inv {l r t : List Int} (hw : Wf l) (h : pText l = some (t, r)) : l = fB 2 t.length ++ (t ++ r) ∧ t.length < 65536 ∧ Wf t ∧ Wf r := by
 unfold pText at h
 split at h
 ·cases h
 ·next n r' e =>
  obtain ⟨h1, h2, h3, h4⟩ := pNum_inv hw e
  split at h
  ·cases h
  ·next hl =>
   simp only [Option.some.injEq, Prod.mk.injEq] at h
   obtain ⟨rfl, rfl⟩ := h
   have ht : (r'.take n.toNat).length = n.toNat := by rw [List.length_take]; omega
   refine ⟨?_, by rw [ht]; omega, h4.take _, h4.drop _⟩
   rw [ht, Int.toNat_of_nonneg h2, List.take_append_drop]
   exact h1
theorem pCell_inv {l r : List Int} {c : Cl} (hw : Wf l) (h : pCell l = some (c, r)) : l = cB c ++ r ∧ c.fit ∧ c.Wf ∧ Wf r := by
 unfold pCell at h
 split at h
 ·cases h
 ·next k r1 e1 =>
  obtain ⟨h1, h2, h3, h4⟩ := pNum_inv hw e1
  split at h
  ·cases h
  ·next key r2 e2 =>
   obtain ⟨g1, g2, g3, g4⟩ := pText_inv h4 e2
   split at h
   ·next hk =>
    split at h
    ·cases h
    ·next val r3 e3 =>
     obtain ⟨f1, f2, f3, f4⟩ := pText_inv g4 e3
     simp only [Option.some.injEq, Prod.mk.injEq] at h
     obtain ⟨rfl, rfl⟩ := h
     refine ⟨?_, ⟨by simp only; omega, g2, f2, by simp, by simp, fun _ => ⟨rfl, rfl⟩, fun h => absurd hk h⟩, ⟨g3, f3⟩, f4⟩
     rw [h1, g1, f1]
     simp [cB, hk, fB]
   ·next hk =>
    split at h
    ·cases h
    ·next p r3 e3 =>
     obtain ⟨f1, f2, f3, f4⟩ := pNum_inv g4 e3
     split at h
     ·cases h
     ·next ct r4 e4 =>
      obtain ⟨d1, d2, d3, d4⟩ := pNum_inv f4 e4
      simp only [Option.some.injEq, Prod.mk.injEq] at h
      obtain ⟨rfl, rfl⟩ := h
      refine ⟨?_, ⟨by simp only; omega, g2, by simp, ⟨f2, by simp only; omega⟩, ⟨d2, by simp only; omega⟩, fun h => absurd h hk, fun _ => rfl⟩, ⟨g3, Wf.nil⟩, d4⟩
      rw [h1, g1, f1, d1]
      simp [cB, hk, fB]
end Go.Proofs.YtjpmfgoodcldcaaGreatDoor

namespace Go.Proofs.YtjpmfgoodcldcaaGreatDoor
set_option maxRecDepth 100000
open Go.RowKit
theorem conv_sl {w : World} {ao : Option Addr} {n cap : Nat} {l : List Int} (hs : Sl w ao n cap l) :
  (convert 30 9 (.slice ao n cap)).run Tryz.prog w = .ok (.string (strOfNums l)) w := by
 obtain ⟨hlen, hcap, hroom, hwf, hnil, hat⟩ := hs
 rcases hat with rfl | ⟨b, off, rfl, hb, hc⟩
 ·obtain rfl : l = [] := List.eq_nil_of_length_eq_zero hlen
  rw [run_convert_bytes_string w 30 9 5 ao 0 cap Tryz.underlying30 Tryz.underlying5 Tryz.underlying9]
  cases ao with
  | none => simp [Conv.bytesToString, Sem.run_pure, strOfNums]; rfl
  | some a =>
   rw [run_bytesToString w a 0 cap [] (by simpa using run_loadCells_list (P := Tryz.prog) w a [] (fun j v h => by cases h))]
   rfl
 ·exact run_convert_bytes_arg w 30 5 Tryz.underlying30 Tryz.underlying5 b off n cap l hlen hc 9 Tryz.underlying9
theorem byte_inj {x y : Int} (hx : 0 ≤ x ∧ x ≤ 255) (hy : 0 ≤ y ∧ y ≤ 255) (h : UInt8.ofNat x.toNat = UInt8.ofNat y.toNat) : x = y := by
 have h1 := congrArg UInt8.toNat h
 simp only [UInt8.toNat_ofNat'] at h1
 omega
theorem bytes_inj : ∀ (a b : List Int), Wf a → Wf b → (a.map fun n => UInt8.ofNat n.toNat) = (b.map fun n => UInt8.ofNat n.toNat) → a = b
 | [], [], _, _, _ => rfl
 | [], _ :: _, _, _, h => by simp at h
 | _ :: _, [], _, _, h => by simp at h
 | x :: a, y :: b, ha, hb, h => by
  simp only [List.map_cons, List.cons.injEq] at h
  rw [byte_inj (ha x (by simp)) (hb y (by simp)) h.1, bytes_inj a b (fun z hz => ha z (by simp [hz])) (fun z hz => hb z (by simp [hz])) h.2]
theorem str_beq {a b : List Int} (ha : Wf a) (hb : Wf b) : ((strOfNums a).toList == (strOfNums b).toList) = decide (a = b) := by
 rw [Bool.eq_iff_iff, beq_iff_eq, decide_eq_true_iff, ByteArray.toList_eq, ByteArray.toList_eq, strOfNums_data, strOfNums_data]
 constructor
 ·exact bytes_inj a b ha hb
 ·rintro rfl; rfl
end Go.Proofs.YtjpmfgoodcldcaaGreatDoor

namespace Go.Proofs.YtjpmfgoodcldcaaGreatDoor
set_option maxRecDepth 100000
open Go.RowKit
def ordL : List Int → List Int → Int
 | [], [] => 0
 | [], _ :: _ => -1
 | _ :: _, [] => 1
 | x :: a, y :: b => if x < y then -1 else if y < x then 1 else ordL a b
theorem ordL_self : ∀ (a : List Int), ordL a a = 0
 | [] => rfl
 | x :: a => by simp [ordL, ordL_self a]
theorem ordL_eq : ∀ (a b : List Int), ordL a b = 0 → a = b
 | [], [], _ => rfl
 | [], _ :: _, h => by simp [ordL] at h
 | _ :: _, [], h => by simp [ordL] at h
 | x :: a, y :: b, h => by
  simp only [ordL] at h
  split at h
  ·simp at h
  ·split at h
   ·simp at h
   ·rw [ordL_eq a b h, show x = y by omega]
theorem ordL_three (a b : List Int) : ordL a b = 0 ∨ ordL a b = -1 ∨ ordL a b = 1 := by
 induction a generalizing b with
 | nil => cases b <;> simp [ordL]
 | cons x a ih =>
  cases b with
  | nil => simp [ordL]
  | cons y b =>
   simp only [ordL]
   split
   ·simp
   ·split
    ·simp
    ·exact ih b
end Go.Proofs.YtjpmfgoodcldcaaGreatDoor
