import Derived.Test.YtofafbmpbkjhnaaGreatDoorJ03
import Derived.Test.YtofafbmpbkjhnaaGreatDoorJ10
import Derived.Test.YtofafbmpbkjhnaaGreatDoorJ07
import Derived.Deep.QuietTactic
import Derived.BigQuiet
import Derived.Handy
import Derived.Laws.BitsAllLaws
import Derived.Deep.WholeRow
import Derived.Lib.SlBuf
import Derived.Lib.BufferWrite
import Derived.Laws.CopyOwn
import Derived.Deep.RegionLaw
import Derived.Lib.BytesEntry
import Derived.Laws.Externs
import Derived.Test.YtofafbmpbkjhnaaGreatDoorJ11
namespace Go.Proofs.YtofafbmpbkjhnaaGreatDoor
set_option maxRecDepth 100000
set_option maxHeartbeats 1000000
def pw (n : Int) : Prop := n = 512 ∨ n = 1024 ∨ n = 2048 ∨ n = 4096 ∨ n = 8192 ∨ n = 16384 ∨ n = 32768 ∨ n = 65536
theorem pw_le {n : Int} (h : pw n) : 512 ≤ n ∧ n ≤ 65536 := by
 unfold pw at h
 omega
def zs (k : Nat) : List Int := List.replicate k 0
theorem zbd (k : Nat) : (zs k).length = k := by simp [zs]
theorem zs_wf (k : Nat) : Wf (zs k) := by
 intro x hx
 simp only [zs, List.mem_replicate] at hx
 omega
theorem zs_add (a b : Nat) : zs (a + b) = zs a ++ zs b := by
 unfold zs
 exact (List.replicate_append_replicate (n := a) (m := b)).symm
def sealB (l : List Int) : List Int := l ++ fB 4 (sumN [l])
theorem sealB_length (l : List Int) : (sealB l).length = l.length + 4 := by simp [sealB, zal]
theorem sealB_wf {l : List Int} (h : Wf l) : Wf (sealB l) := h.append (fB_wf _ _)
def rdN (l : List Int) (p w : Nat) : Int := rdB ((l.drop p).take w)
theorem rdN_mid (A F C : List Int) (p w : Nat) (hp : A.length = p) (hw : F.length = w) : rdN (A ++ (F ++ C)) p w = rdB F := by
 subst hp hw
 unfold rdN
 rw [List.drop_left, List.take_left]
theorem rdN_bound (l : List Int) (h : Wf l) (p w : Nat) : 0 ≤ rdN l p w ∧ rdN l p w < 256 ^ w := by
 have h1 := zdb ((l.drop p).take w) ((h.drop p).take w)
 refine ⟨h1.1, Int.lt_of_lt_of_le h1.2 ?_⟩
 have h2 : ((l.drop p).take w).length ≤ w := by simp; omega
 have h3 : (256 : Nat) ^ ((l.drop p).take w).length ≤ 256 ^ w := Nat.pow_le_pow_right (by omega) h2
 exact_mod_cast h3
theorem fB_read (w : Nat) (n : Int) (h0 : 0 ≤ n) (h : n < 256 ^ w) : rdB (fB w n) = n := by
 rw [rdB_fB w n h0]
 exact Int.emod_eq_of_lt h0 h
theorem sumN_lt (l : List Int) (h : Wf l) : sumN [l] < 4294967296 := by
 have := tk_lt (l.map Int.toNat) 4294967295 (by omega) (nat_lt l h)
 exact zao (by omega) this
end Go.Proofs.YtofafbmpbkjhnaaGreatDoor
namespace Go.Proofs.YtofafbmpbkjhnaaGreatDoor
set_option maxRecDepth 100000
set_option maxHeartbeats 1000000
open Go.RowKit
theorem i64_and_nat (a b : Nat) (ha : a < 9223372036854775808) (hb : b < 9223372036854775808) : bits .and .i64 (a : Int) (b : Int) = ((a &&& b : Nat) : Int) := by
 show IntKind.i64.wrap ((BitVec.ofInt 64 a &&& BitVec.ofInt 64 b).toNat : Nat) = _
 have hle : a &&& b < 9223372036854775808 := Nat.and_lt_two_pow (n := 63) a (by omega)
 have h1 : (BitVec.ofInt 64 (a : Int)).toNat = a := by rw [BitVec.toNat_ofInt]; omega
 have h2 : (BitVec.ofInt 64 (b : Int)).toNat = b := by rw [BitVec.toNat_ofInt]; omega
 rw [BitVec.toNat_and, h1, h2, IntKind.wrap_i64]
 omega
theorem top_bit (n k : Nat) (h1 : 2 ^ k < n) (h2 : n < 2 * 2 ^ k) : n &&& (n - 1) ≠ 0 := by
 intro h
 have hb := congrArg (fun x => Nat.testBit x k) h
 simp only [Nat.testBit_and, Nat.zero_testBit] at hb
 have e1 : n.testBit k = true := by
  rw [Nat.testBit_eq_decide_div_mod_eq]
  have : n / 2 ^ k = 1 := Nat.div_eq_of_lt_le (by omega) (by omega)
  simp [this]
 have e2 : (n - 1).testBit k = true := by
  rw [Nat.testBit_eq_decide_div_mod_eq]
  have : (n - 1) / 2 ^ k = 1 := Nat.div_eq_of_lt_le (by omega) (by omega)
  simp [this]
 rw [e1, e2] at hb
 cases hb
theorem pow_iff (x : Int) (h0 : 512 ≤ x) (h1 : x ≤ 65536) : bits .and .i64 x (x - 1) = 0 ↔ pw x := by
 obtain ⟨n, rfl⟩ := Int.eq_ofNat_of_zero_le (show 0 ≤ x by omega)
 have e : ((n : Int) - 1) = ((n - 1 : Nat) : Int) := by omega
 rw [e, i64_and_nat n (n - 1) (by omega) (by omega)]
 constructor
 ·intro h
  have h' : n &&& (n - 1) = 0 := by omega
  unfold pw
  have k9 : ¬ (512 < n ∧ n < 1024) := fun a => top_bit n 9 (by simpa using a.1) (by simpa using a.2) h'
  have k10 : ¬ (1024 < n ∧ n < 2048) := fun a => top_bit n 10 (by simpa using a.1) (by simpa using a.2) h'
  have k11 : ¬ (2048 < n ∧ n < 4096) := fun a => top_bit n 11 (by simpa using a.1) (by simpa using a.2) h'
  have k12 : ¬ (4096 < n ∧ n < 8192) := fun a => top_bit n 12 (by simpa using a.1) (by simpa using a.2) h'
  have k13 : ¬ (8192 < n ∧ n < 16384) := fun a => top_bit n 13 (by simpa using a.1) (by simpa using a.2) h'
  have k14 : ¬ (16384 < n ∧ n < 32768) := fun a => top_bit n 14 (by simpa using a.1) (by simpa using a.2) h'
  have k15 : ¬ (32768 < n ∧ n < 65536) := fun a => top_bit n 15 (by simpa using a.1) (by simpa using a.2) h'
  omega
 ·intro h
  have h2 : n = 512 ∨ n = 1024 ∨ n = 2048 ∨ n = 4096 ∨ n = 8192 ∨ n = 16384 ∨ n = 32768 ∨ n = 65536 := by unfold pw at h; omega
  rcases h2 with rfl | rfl | rfl | rfl | rfl | rfl | rfl | rfl <;> decide
theorem zac {B : Nat} {a w : World} (h : Below B a w) (hB : B ≤ a.heap.size) (o : Obj) : Below B a (w.alloc o) := h.alloc (zN hB h.size) o
theorem zab {B : Nat} {a w w' : World} (h : Below B a w) (hB : B ≤ a.heap.size) (k : Below w.heap.size w w') : Below B a w' := h.trans (k.mono (zN hB h.size))
theorem zad {B : Nat} {a w : World} (h : Below B a w) (q : Nat) : Below B a (w.drewN q) := h.trans ⟨rfl, rfl, rfl, Lr, fun _ _ => rfl⟩
theorem zah {w : World} {g : Nat} {o : Obj} (h : w.heap[g]? = some o) : g < w.heap.size := by
 rcases Nat.lt_or_ge g w.heap.size with hx | hx
 ·exact hx
 ·rw [Array.getElem?_eq_none hx] at h; cases h
theorem eight {k : Nat} (h : k < 8) : k = 0 ∨ k = 1 ∨ k = 2 ∨ k = 3 ∨ k = 4 ∨ k = 5 ∨ k = 6 ∨ k = 7 := by omega
theorem zaf {w1 w2 : World} {g : Nat} {o : Obj} (h : w1.heap[g]? = some o) (hb : Below w1.heap.size w1 w2) : w2.heap[g]? = some o := (hb.block _ (zah h)).trans h
end Go.Proofs.YtofafbmpbkjhnaaGreatDoor
namespace Go.Proofs.YtofafbmpbkjhnaaGreatDoor
set_option maxRecDepth 100000
set_option maxHeartbeats 1000000
structure Cl where
 key : List Int
 kd : Int
 val : List Int
 pg : Int
 ct : Int
deriving DecidableEq, Inhabited
def Cl.Wf (c : Cl) : Prop := Go.Proofs.YtofafbmpbkjhnaaGreatDoor.Wf c.key ∧ Go.Proofs.YtofafbmpbkjhnaaGreatDoor.Wf c.val
def nowhere (c : Cl) : Prop := c.pg = 0 ∧ c.ct = 0
def leadsP (c : Cl) (lo hi : Int) : Prop := (2 ≤ c.pg ∧ c.pg ≤ 65535) ∧ (lo ≤ c.ct ∧ c.ct ≤ hi)
def mayP (kind page : Int) (c : Cl) : Prop :=
 (c.key.length : Int) ≤ page / 8 ∧
 ((kind = 3 ∧ c.kd = 3 ∧ c.val = [] ∧ leadsP c 1 1073741824) ∨
  (kind ≠ 3 ∧ 0 < c.key.length ∧
   ((c.kd = 1 ∧ (c.val.length : Int) ≤ page / 16 * 3 ∧ nowhere c) ∨ (c.kd = 2 ∧ c.val = [] ∧ leadsP c (page / 16 * 3 + 1) 65536) ∨ (c.kd = 4 ∧ c.val = [] ∧ (nowhere c ∨ leadsP c 1 1073741824)))))
instance (c : Cl) : Decidable (nowhere c) := by unfold nowhere; infer_instance
instance (c : Cl) (a b : Int) : Decidable (leadsP c a b) := by unfold leadsP; infer_instance
instance (k p : Int) (c : Cl) : Decidable (mayP k p c) := by unfold mayP; infer_instance
def ctk (c : Cl) : Nat := if c.kd = 1 then 7 + c.key.length + c.val.length else 13 + c.key.length
def cB (c : Cl) : List Int := [c.kd % 256] ++ (fB 2 c.key.length ++ (c.key ++ (if c.kd = 1 then fB 2 c.val.length ++ c.val else fB 4 c.pg ++ fB 4 c.ct)))
theorem cB_length (c : Cl) : (cB c).length + 2 = ctk c := by
 unfold cB ctk
 split <;> simp [zal] <;> omega
theorem cB_wf {c : Cl} (h : c.Wf) : Wf (cB c) := by
 unfold cB
 refine Wf.append (Wf.cons (by omega) Wf.nil) (Wf.append (fB_wf _ _) (Wf.append h.1 ?_))
 split
 ·exact Wf.append (fB_wf _ _) h.2
 ·exact Wf.append (fB_wf _ _) (fB_wf _ _)
def pNum (w : Nat) (l : List Int) : Option (Int × List Int) := if l.length < w then none else some (rdB (l.take w), l.drop w)
def zar (l : List Int) : Option (List Int × List Int) :=
 match pNum 2 l with
 | none => none
 | some (n, r) => if (r.length : Int) < n then none else some (r.take n.toNat, r.drop n.toNat)
def zav (l : List Int) : Option (Cl × List Int) :=
 match pNum 1 l with
 | none => none
 | some (k, r) =>
  match zar r with
  | none => none
  | some (key, r) =>
   if k = 1 then
    match zar r with
    | none => none
    | some (val, r) => some (⟨key, k, val, 0, 0⟩, r)
   else
    match pNum 4 r with
    | none => none
    | some (p, r) =>
     match pNum 4 r with
     | none => none
     | some (c, r) => some (⟨key, k, [], p, c⟩, r)
structure Cl.fit (c : Cl) : Prop where
 kd : 0 ≤ c.kd ∧ c.kd < 256
 key : c.key.length < 65536
 val : c.val.length < 65536
 pg : 0 ≤ c.pg ∧ c.pg < 4294967296
 ct : 0 ≤ c.ct ∧ c.ct < 4294967296
 one : c.kd = 1 → c.pg = 0 ∧ c.ct = 0
 oth : c.kd ≠ 1 → c.val = []
theorem mayP.fit {k p : Int} {c : Cl} (h : mayP k p c) (hp : p ≤ 65536) : c.fit := by
 obtain ⟨h1, h2⟩ := h
 unfold leadsP nowhere at h2
 rcases h2 with ⟨e, h3, h4, h5⟩ | ⟨e, h3, ⟨h4, h5, h6⟩ | ⟨h4, h5, h6⟩ | ⟨h4, h5, h6⟩⟩
 ·exact ⟨by omega, by omega, by rw [h4]; decide, by omega, by omega, by omega, fun _ => h4⟩
 ·exact ⟨by omega, by omega, by omega, by omega, by omega, fun _ => h6, fun h => absurd h4 h⟩
 ·exact ⟨by omega, by omega, by rw [h5]; decide, by omega, by omega, by omega, fun _ => h5⟩
 ·exact ⟨by omega, by omega, by rw [h5]; decide, by omega, by omega, by omega, fun _ => h5⟩
theorem pNum_mid (w : Nat) (n : Int) (r : List Int) (h0 : 0 ≤ n) (h : n < 256 ^ w) : pNum w (fB w n ++ r) = some (n, r) := by
 unfold pNum
 rw [if_neg (by simp [zal]), List.take_left' (zal w n), List.drop_left' (zal w n), fB_read w n h0 h]
theorem pText_mid (t r : List Int) (h : t.length < 65536) : zar (fB 2 t.length ++ (t ++ r)) = some (t, r) := by
 unfold zar
 rw [pNum_mid 2 _ _ (by omega) (by omega)]
 simp only
 rw [if_neg (by rw [zG]; omega), Int.toNat_natCast, List.take_left, List.drop_left]
theorem pCell_mid (c : Cl) (r : List Int) (h : c.fit) : zav (cB c ++ r) = some (c, r) := by
 obtain ⟨key, kd, val, pg, ct⟩ := c
 obtain ⟨h1, h2, h3, h4, h5, h6, h7⟩ := h
 simp only at h1 h2 h3 h4 h5 h6 h7
 unfold cB zav
 simp only
 rw [zM, show ([kd % 256] : List Int) = fB 1 kd from by simp [fB], pNum_mid 1 kd _ h1.1 (by omega)]
 simp only
 rw [zM, zM, pText_mid _ _ h2]
 simp only
 by_cases e : kd = 1
 ·rw [if_pos e, if_pos e, zM, pText_mid _ _ h3]
  simp only
  obtain ⟨rfl, rfl⟩ := h6 e
  rfl
 ·rw [if_neg e, if_neg e, zM, pNum_mid 4 pg _ h4.1 (by omega)]
  simp only
  rw [pNum_mid 4 ct _ h5.1 (by omega)]
  simp only
  rw [h7 e]
theorem fB_rdB : ∀ (l : List Int), Wf l → fB l.length (rdB l) = l
 | [], _ => rfl
 | c :: l, h => by
  have hc := h c (by simp)
  have hl : Wf l := fun x hx => h x (by simp [hx])
  have hb := zdb l hl
  have ih := fB_rdB l hl
  have e : ∀ (j : Nat) (m : Int), fB j (c * 256 ^ l.length + m) = fB j m ∨ l.length < j := by
   intro j m
   by_cases hj : l.length < j
   ·exact .inr hj
   ·left
    induction j with
    | zero => rfl
    | succ j ihj =>
     rw [fB, fB, ihj (by omega)]
     congr 1
     obtain ⟨d, hd⟩ : ∃ d, l.length = j + 1 + d := ⟨l.length - (j + 1), by omega⟩
     rw [hd, show (256 : Int) ^ (j + 1 + d) = 256 ^ j * (256 * 256 ^ d) from by rw [Int.pow_add, Int.pow_succ, Int.mul_assoc],
      show c * (256 ^ j * (256 * 256 ^ d)) + m = m + (256 ^ j) * (256 * (c * 256 ^ d)) from by
       rw [Int.add_comm, ← Int.mul_assoc, Int.mul_comm c (256 ^ j), Int.mul_assoc, ← Int.mul_assoc c, Int.mul_comm c 256, Int.mul_assoc]]
     rw [Int.add_mul_ediv_left _ _ (by have : (0 : Int) < 256 ^ j := Int.pow_pos (by omega)
                                       omega)]
     omega
  rw [rdB_cons, List.length_cons, fB]
  rcases e l.length (rdB l) with e | e
  ·rw [e, ih]
   congr 1
   have hp : (0 : Int) < 256 ^ l.length := Int.pow_pos (by omega)
   rw [Int.add_comm, Int.add_mul_ediv_right _ _ (by omega), Int.ediv_eq_zero_of_lt hb.1 hb.2]
   omega
  ·omega
theorem pNum_inv {w : Nat} {l r : List Int} {n : Int} (hw : Wf l) (h : pNum w l = some (n, r)) : l = fB w n ++ r ∧ 0 ≤ n ∧ n < 256 ^ w ∧ Wf r := by
 unfold pNum at h
 split at h
 ·cases h
 ·next hl =>
  simp only [Option.some.injEq, Prod.mk.injEq] at h
  obtain ⟨rfl, rfl⟩ := h
  have ht : (l.take w).length = w := by rw [zJ]; omega
  have := fB_rdB (l.take w) (hw.take w)
  rw [ht] at this
  have hb := zdb (l.take w) (hw.take w)
  rw [ht] at hb
  exact ⟨by rw [this, List.take_append_drop], hb.1, hb.2, hw.drop w⟩
theorem pText_inv {l r t : List Int} (hw : Wf l) (h : zar l = some (t, r)) : l = fB 2 t.length ++ (t ++ r) ∧ t.length < 65536 ∧ Wf t ∧ Wf r := by
 unfold zar at h
 split at h
 ·cases h
 ·next n r' e =>
  obtain ⟨h1, h2, h3, h4⟩ := pNum_inv hw e
  split at h
  ·cases h
  ·next hl =>
   simp only [Option.some.injEq, Prod.mk.injEq] at h
   obtain ⟨rfl, rfl⟩ := h
   have ht : (r'.take n.toNat).length = n.toNat := by rw [zJ]; omega
   refine ⟨?_, by rw [ht]; omega, h4.take _, h4.drop _⟩
   rw [ht, Int.toNat_of_nonneg h2, List.take_append_drop]
   exact h1
theorem pCell_inv {l r : List Int} {c : Cl} (hw : Wf l) (h : zav l = some (c, r)) : l = cB c ++ r ∧ c.fit ∧ c.Wf ∧ Wf r := by
 unfold zav at h
 split at h
 ·cases h
 ·next k r1 e1 =>
  obtain ⟨h1, h2, h3, h4⟩ := pNum_inv hw e1
  split at h
  ·cases h
  ·next key r2 e2 =>
   obtain ⟨g1, g2, g3, g4⟩ := pText_inv h4 e2
   split at h
   ·next hk =>
    split at h
    ·cases h
    ·next val r3 e3 =>
     obtain ⟨f1, f2, f3, f4⟩ := pText_inv g4 e3
     simp only [Option.some.injEq, Prod.mk.injEq] at h
     obtain ⟨rfl, rfl⟩ := h
     refine ⟨?_, ⟨by simp only; omega, g2, f2, by simp, by simp, fun _ => ⟨rfl, rfl⟩, fun h => absurd hk h⟩, ⟨g3, f3⟩, f4⟩
     rw [h1, g1, f1]
     simp [cB, hk, fB]
   ·next hk =>
    split at h
    ·cases h
    ·next p r3 e3 =>
     obtain ⟨f1, f2, f3, f4⟩ := pNum_inv g4 e3
     split at h
     ·cases h
     ·next ct r4 e4 =>
      obtain ⟨d1, d2, d3, d4⟩ := pNum_inv f4 e4
      simp only [Option.some.injEq, Prod.mk.injEq] at h
      obtain ⟨rfl, rfl⟩ := h
      refine ⟨?_, ⟨by simp only; omega, g2, by simp, ⟨f2, by simp only; omega⟩, ⟨d2, by simp only; omega⟩, fun h => absurd h hk, fun _ => rfl⟩, ⟨g3, Wf.nil⟩, d4⟩
      rw [h1, g1, f1, d1]
      simp [cB, hk, fB]
end Go.Proofs.YtofafbmpbkjhnaaGreatDoor
namespace Go.Proofs.YtofafbmpbkjhnaaGreatDoor
set_option maxRecDepth 100000
set_option maxHeartbeats 1000000
def kl (a b : List Int) : Prop := ordL a b = -1
instance (a b : List Int) : Decidable (kl a b) := by unfold kl; infer_instance
def zat : Option (List Int) → List Int → Prop
 | none, _ => True
 | some p, k => kl p k
instance (p : Option (List Int)) (k : List Int) : Decidable (zat p k) := by cases p <;> (unfold zat; infer_instance)
def chk (k p : Int) : Option (List Int) → List Cl → Int
 | _, [] => 0
 | pr, c :: r => if mayP k p c then (if zat pr c.key then chk k p (some c.key) r else 63) else 62
theorem chk_may {k p : Int} : ∀ {pr : Option (List Int)} {cs : List Cl}, chk k p pr cs = 0 → ∀ c ∈ cs, mayP k p c
 | _, [], _, c, hc => by cases hc
 | pr, d :: r, h, c, hc => by
  unfold chk at h
  split at h
  ·next h1 =>
   split at h
   ·rcases List.mem_cons.1 hc with e | e
    ·rw [e]; exact h1
    ·exact chk_may h c e
   ·simp at h
  ·simp at h
def bdy (cs : List Cl) : List Int := cs.flatMap cB
def sts : Nat → List Cl → List Nat
 | _, [] => []
 | b, c :: r => b :: sts (b + (cB c).length) r
theorem zbu (c : Cl) (cs : List Cl) : bdy (c :: cs) = cB c ++ bdy cs := by simp [bdy]
theorem zbe (a b : List Cl) : bdy (a ++ b) = bdy a ++ bdy b := by simp [bdy]
theorem zai : ∀ (b : Nat) (cs : List Cl), (sts b cs).length = cs.length
 | _, [] => rfl
 | b, c :: r => by simp [sts, zai _ r]
theorem sts_shift : ∀ (a b : Nat) (cs : List Cl), sts (a + b) cs = (sts b cs).map (a + ·)
 | _, _, [] => rfl
 | a, b, c :: r => by
  simp only [sts, List.map_cons, List.cons.injEq, true_and]
  rw [Nat.add_assoc]
  exact sts_shift a _ r
theorem zcs : ∀ (b : Nat) (x y : List Cl), sts b (x ++ y) = sts b x ++ sts (b + (bdy x).length) y
 | _, [], _ => rfl
 | b, c :: r, y => by
  simp only [List.cons_append, sts, zbu, zG, List.cons.injEq, true_and]
  rw [zcs, Nat.add_assoc]
theorem zcd : ∀ (b i : Nat) (cs : List Cl), i < cs.length → (sts b cs).getD i 0 = b + (bdy (cs.take i)).length
 | _, _, [], h => by simp at h
 | b, 0, c :: r, _ => by simp [sts, bdy]
 | b, i + 1, c :: r, h => by
  have := zcd (b + (cB c).length) i r (by simpa using h)
  simp only [sts, List.getD_cons_succ, List.take_succ_cons, zbu, zG]
  rw [this]
  omega
theorem bdy_wf : ∀ {cs : List Cl}, (∀ c ∈ cs, c.Wf) → Wf (bdy cs)
 | [], _ => Wf.nil
 | c :: r, h => by
  rw [zbu]
  exact (cB_wf (h c (by simp))).append (bdy_wf fun d hd => h d (by simp [hd]))
def szN (cs : List Cl) : Nat := 8 + (cs.map ctk).sum
theorem zaq (cs : List Cl) : szN cs = 8 + 2 * cs.length + (bdy cs).length := by
 unfold szN
 induction cs with
 | nil => rfl
 | cons c r ih =>
  have := cB_length c
  simp only [List.map_cons, List.sum_cons, List.length_cons, zbu, zG]
  omega
def sloB (l : List Nat) : List Int := l.flatMap fun (s : Nat) => fB 2 (s : Int)
theorem zdc (l : List Nat) : (sloB l).length = 2 * l.length := by
 induction l with
 | nil => rfl
 | cons x r ih => simp only [sloB, List.flatMap_cons, zG, zal, List.length_cons] at ih ⊢; omega
theorem sloB_wf (l : List Nat) : Wf (sloB l) := by
 induction l with
 | nil => exact Wf.nil
 | cons x r ih => simp only [sloB, List.flatMap_cons]; exact (fB_wf _ _).append ih
def layP (k : Int) (n : Nat) (cs : List Cl) (i : Nat) : List Int := [k, 1] ++ (fB 2 cs.length ++ (sloB ((sts (n - 4 - (bdy cs).length) cs).take i) ++ zs (n - 4 - 2 * i)))
def pgH (k : Int) (n : Nat) (cs : List Cl) : List Int := [k, 1] ++ (fB 2 cs.length ++ (sloB (sts (n - 4 - (bdy cs).length) cs) ++ (zs (n - szN cs) ++ bdy cs)))
def pgB (k : Int) (n : Nat) (cs : List Cl) : List Int := sealB (pgH k n cs)
theorem pgH_length (k : Int) (n : Nat) (cs : List Cl) (h : szN cs ≤ n) : (pgH k n cs).length = n - 4 := by
 have := zaq cs
 simp only [pgH, zG, List.length_cons, List.length_nil, zal, zdc, zai, zbd]
 omega
theorem pgB_length (k : Int) (n : Nat) (cs : List Cl) (h : szN cs ≤ n) : (pgB k n cs).length = n := by
 have := zaq cs
 rw [pgB, sealB_length, pgH_length k n cs h]
 omega
theorem pgH_wf {k : Int} {n : Nat} {cs : List Cl} (hk : 0 ≤ k ∧ k ≤ 255) (h : ∀ c ∈ cs, c.Wf) : Wf (pgH k n cs) :=
 Wf.append (Wf.cons hk (Wf.cons (by omega) Wf.nil)) (Wf.append (fB_wf _ _) (Wf.append (sloB_wf _) (Wf.append (zs_wf _) (bdy_wf h))))
theorem pgB_wf {k : Int} {n : Nat} {cs : List Cl} (hk : 0 ≤ k ∧ k ≤ 255) (h : ∀ c ∈ cs, c.Wf) : Wf (pgB k n cs) := sealB_wf (pgH_wf hk h)
def part (k p : Int) : Nat → Option (List Int) → List Int → Option (List Cl)
 | 0, _, l => if l = [] then some [] else none
 | n + 1, pr, l =>
  match zav l with
  | none => none
  | some (c, r) => if mayP k p c ∧ zat pr c.key then (part k p n (some c.key) r).map (c :: ·) else none
theorem part_of {k p : Int} (hp : p ≤ 65536) : ∀ (cs : List Cl) (pr : Option (List Int)), chk k p pr cs = 0 → part k p cs.length pr (bdy cs) = some cs
 | [], _, _ => rfl
 | c :: r, pr, h => by
  unfold chk at h
  split at h
  ·next h1 =>
   split at h
   ·next h2 =>
    simp only [List.length_cons, part, zbu]
    rw [pCell_mid c _ (h1.fit hp)]
    simp only [h1, h2, and_self, if_true]
    rw [part_of hp r _ h]
    rfl
   ·simp at h
  ·simp at h
theorem part_inv {k p : Int} : ∀ (n : Nat) (pr : Option (List Int)) (l : List Int) (cs : List Cl), Wf l → part k p n pr l = some cs → cs.length = n ∧ l = bdy cs ∧ chk k p pr cs = 0 ∧ ∀ c ∈ cs, c.Wf
 | 0, pr, l, cs, hw, h => by
  unfold part at h
  split at h
  ·next e =>
   cases h
   exact ⟨rfl, e, rfl, fun c hc => by cases hc⟩
  ·cases h
 | n + 1, pr, l, cs, hw, h => by
  unfold part at h
  split at h
  ·cases h
  ·next c r e =>
   split at h
   ·next hm =>
    obtain ⟨e1, _, e3, e4⟩ := pCell_inv hw e
    cases hq : part k p n (some c.key) r with
    | none => rw [hq] at h; cases h
    | some ds =>
     rw [hq] at h
     simp only [Option.map_some, Option.some.injEq] at h
     subst h
     obtain ⟨f1, f2, f3, f4⟩ := part_inv n _ r ds e4 hq
     refine ⟨by simp [f1], by rw [zbu, ← f2]; exact e1, ?_, ?_⟩
     ·rw [chk, if_pos hm.1, if_pos hm.2]; exact f3
     ·intro d hd
      rcases List.mem_cons.1 hd with e | e
      ·rw [e]; exact e3
      ·exact f4 d e
   ·cases h
def isKd (k : Int) : Prop := k = 2 ∨ k = 3
instance (k : Int) : Decidable (isKd k) := by unfold isKd; infer_instance
instance (k : Int) : Decidable (pw k) := by unfold pw; infer_instance
structure Is (k : Int) (n : Nat) (cs : List Cl) (b : List Int) : Prop where
 kd : isKd k
 sz : pw n
 ok : chk k n none cs = 0
 fit : szN cs ≤ n
 eq : pgB k n cs = b
def frst (b : List Int) : Int := if 0 < rdN b 2 2 then rdN b 4 2 else (b.length : Int) - 4
def zay (b : List Int) : Option (List Cl) :=
 if pw b.length ∧ isKd (b.getD 0 0) then
  (if frst b < 4 + rdN b 2 2 * 2 ∨ (b.length : Int) - 4 < frst b then none else part (b.getD 0 0) b.length (rdN b 2 2).toNat none ((b.drop (frst b).toNat).take (b.length - 4 - (frst b).toNat)))
 else none
theorem zak {n : Nat} (h : pw n) : 512 ≤ n ∧ n ≤ 65536 := by
 have := pw_le h
 omega
theorem readM_inv {b : List Int} {cs : List Cl} (hw : Wf b) (h : zay b = some cs) : isKd (b.getD 0 0) ∧ pw b.length ∧ chk (b.getD 0 0) b.length none cs = 0 ∧ szN cs ≤ b.length ∧ (∀ c ∈ cs, c.Wf) ∧ (cs.length : Int) = rdN b 2 2 ∧ bdy cs = (b.drop (frst b).toNat).take (b.length - 4 - (frst b).toNat) ∧ frst b = (b.length : Int) - 4 - (bdy cs).length ∧ 4 + rdN b 2 2 * 2 ≤ frst b := by
 unfold zay at h
 split at h
 ·next h1 =>
  split at h
  ·cases h
  ·next h2 =>
   have hn := (rdN_bound b hw 2 2).1
   have hp := zak h1.1
   obtain ⟨e1, e2, e3, e4⟩ := part_inv _ _ _ _ ((hw.drop _).take _) h
   have hl := congrArg List.length e2
   rw [zJ, zK] at hl
   have hz := zaq cs
   refine ⟨h1.2, h1.1, e3, ?_, e4, ?_, e2.symm, ?_, ?_⟩ <;> omega
 ·cases h
theorem pgB_split (k : Int) (n : Nat) (cs : List Cl) : ∃ U : List Int, U.length = 4 ∧ pgB k n cs = [k, 1] ++ (fB 2 cs.length ++ (sloB (sts (n - 4 - (bdy cs).length) cs) ++ (zs (n - szN cs) ++ (bdy cs ++ U)))) :=
 ⟨fB 4 (sumN [pgH k n cs]), zal _ _, by rw [pgB, sealB]; conv => lhs; arg 1; rw [pgH]
                                        simp only [zM]⟩
theorem readM_of {k : Int} {n : Nat} {cs : List Cl} {b : List Int} (h : Is k n cs b) : zay b = some cs ∧ b.length = n ∧ b.getD 0 0 = k := by
 obtain ⟨h1, h2, h3, h4, h5⟩ := h
 have hp := zak h2
 have hz := zaq cs
 have hlen : b.length = n := by rw [← h5, pgB_length k n cs h4]
 have hg : b.getD 0 0 = k := by rw [← h5]; rfl
 obtain ⟨U, hU, hsp⟩ := pgB_split k n cs
 rw [h5] at hsp
 obtain ⟨F, hF⟩ : ∃ F, n - 4 - (bdy cs).length = F := ⟨_, rfl⟩
 rw [hF] at hsp
 have hr : rdN b 2 2 = (cs.length : Int) := by
  rw [hsp, rdN_mid _ _ _ 2 2 rfl (zal _ _), fB_read 2 _ (by omega) (by omega)]
 have hf : frst b = (F : Int) := by
  unfold frst
  rw [hr, hlen]
  cases cs with
  | nil =>
   simp [bdy] at hF
   simp
   omega
  | cons c r =>
   have e : b = ([k, 1] ++ fB 2 ((c :: r).length : Nat)) ++ (fB 2 (F : Int) ++ (sloB (sts (F + (cB c).length) r) ++ (zs (n - szN (c :: r)) ++ (bdy (c :: r) ++ U)))) := by
    rw [hsp, show sloB (sts F (c :: r)) = fB 2 (F : Int) ++ sloB (sts (F + (cB c).length) r) from by simp [sloB, sts]]
    simp only [zM]
   rw [if_pos (by simp only [List.length_cons]; omega), e, rdN_mid _ _ _ 4 2 (by simp [zal]) (zal _ _), fB_read 2 _ (by omega) (by omega)]
 have hb : (b.drop F).take (n - 4 - F) = bdy cs := by
  have e : b = ([k, 1] ++ (fB 2 cs.length ++ (sloB (sts F cs) ++ zs (n - szN cs)))) ++ (bdy cs ++ U) := by
   rw [hsp]
   simp only [zM]
  have hA : ([k, 1] ++ (fB 2 cs.length ++ (sloB (sts F cs) ++ zs (n - szN cs)))).length = F := by
   simp only [zG, List.length_cons, List.length_nil, zal, zdc, zai, zbd]
   omega
  rw [e, List.drop_left' hA, List.take_left' (by omega)]
 refine ⟨?_, hlen, hg⟩
 unfold zay
 rw [hg, hlen, hr, hf, if_pos ⟨h2, h1⟩, if_neg (by omega), Int.toNat_natCast, Int.toNat_natCast, hb]
 exact part_of (by omega) cs none h3
theorem is_iff {b : List Int} (hw : Wf b) (cs : List Cl) : Is (b.getD 0 0) b.length cs b ↔ zay b = some cs ∧ pgB (b.getD 0 0) b.length cs = b := by
 constructor
 ·intro h
  exact ⟨(readM_of h).1, h.eq⟩
 ·rintro ⟨h1, h2⟩
  obtain ⟨a1, a2, a3, a4, _⟩ := readM_inv hw h1
  exact ⟨a1, a2, a3, a4, h2⟩
theorem Is.one {k j : Int} {n m : Nat} {cs ds : List Cl} {b : List Int} (h : Is k n cs b) (g : Is j m ds b) : k = j ∧ n = m ∧ cs = ds := by
 obtain ⟨h1, h2, h3⟩ := readM_of h
 obtain ⟨g1, g2, g3⟩ := readM_of g
 exact ⟨h3.symm.trans g3, h2.symm.trans g2, Option.some.inj (h1.symm.trans g1)⟩
theorem set_two (A Z : List Int) (x y : Int) (p : Nat) (hp : A.length = p) : ((A ++ ([0, 0] ++ Z)).set p x).set (p + 1) y = A ++ ([x, y] ++ Z) := by
 subst hp
 rw [List.set_append_right _ _ Lr, List.set_append_right _ _ (by omega)]
 simp
theorem layP_set (k : Int) (n : Nat) (cs : List Cl) (i : Nat) (hi : i < cs.length) (hf : szN cs ≤ n) (x y : Int) (hxy : [x, y] = fB 2 ((n : Int) - 4 - (bdy cs).length + (sts 0 cs).getD i 0)) :
  ((layP k n cs i).set (4 + i * 2) x).set (4 + i * 2 + 1) y = layP k n cs (i + 1) := by
 have hz := zaq cs
 obtain ⟨F, hF⟩ : ∃ F, n - 4 - (bdy cs).length = F := ⟨_, rfl⟩
 have hFs : sts F cs = (sts 0 cs).map (F + ·) := by
  have := sts_shift F 0 cs
  rwa [Nat.add_zero] at this
 have hg : (sts F cs).take (i + 1) = (sts F cs).take i ++ [F + (sts 0 cs).getD i 0] := by
  rw [List.take_add_one, hFs]
  congr 1
  have hl : i < (sts 0 cs).length := by rw [zai]; exact hi
  simp [List.getElem?_map, List.getD, zI hl]
 have hs : sloB ((sts F cs).take (i + 1)) = sloB ((sts F cs).take i) ++ [x, y] := by
  rw [hg, hxy, show (n : Int) - 4 - (bdy cs).length + (((sts 0 cs).getD i 0 : Nat) : Int) = ((F + (sts 0 cs).getD i 0 : Nat) : Int) by omega]
  simp [sloB]
 unfold layP
 rw [hF, hs, show n - 4 - 2 * i = 2 + (n - 4 - 2 * (i + 1)) by omega, zs_add]
 obtain ⟨A, hA⟩ : ∃ A, [k, 1] ++ (fB 2 cs.length ++ sloB ((sts F cs).take i)) = A := ⟨_, rfl⟩
 have hAl : A.length = 4 + i * 2 := by
  rw [← hA]
  simp only [zG, List.length_cons, List.length_nil, zal, zdc, zJ, zai]
  omega
 generalize zs (n - 4 - 2 * (i + 1)) = Z
 have h2 := set_two A Z x y (4 + i * 2) hAl
 rw [← hA] at h2
 simpa [zM, zs] using h2
end Go.Proofs.YtofafbmpbkjhnaaGreatDoor
namespace Go.Proofs.YtofafbmpbkjhnaaGreatDoor
set_option maxRecDepth 100000
set_option maxHeartbeats 1000000
open Go.RowKit
theorem splice_mid (A X N C : List Int) (a : Nat) (hA : A.length = a) (hX : X.length = N.length) : splice (A ++ (X ++ C)) a N = A ++ (N ++ C) := by
 subst hA
 unfold splice
 have e : (A ++ (X ++ C)).drop (A.length + N.length) = C := by
  rw [← zM]
  exact List.drop_left' (by rw [zG, hX])
 rw [List.take_left, e]
theorem By_splice5 (l cs : List Int) (off : Nat) : splice (By l) off (By cs) = By (splice l off cs) := by simp [splice, By, List.map_take, List.map_drop]
theorem step_copy_rw {P : Program} {ops : Array Oper} {o : Oper} {a : Act} {w : World} {K : Act → World → Prop} {Q : Exit → Act → World → Prop} {E : Prop} (hgd : o.guard = none) (d s : Operand) (dT sT : TypeId)
  (ho : o.op = .call { callee := .builtin .copy, args := #[d, s], argTypes := #[dT, sT] }) (elem : TypeId) (hu : P.underlying dT = some (.slice elem)) (hsz : (P.info? elem).map (·.size) = some 1)
  (g off dLen dCap : Nat) (ad : Addr) (sLen sCap : Nat) (hd : a.eval d = .slice (some ⟨g, off, none⟩) dLen dCap) (hs : a.eval s = .slice (some ad) sLen sCap)
  (cur : List Value) (t : TypeId) (hg : w.heap[g]? = some (.cells cur.toArray t (0, 0))) (cs : List Value) (hn : cs.length = Nat.min sLen dLen)
  (hsrc : ∀ j v, cs[j]? = some v → w.cell? (ad.add j) = some v) (hfit : off + cs.length ≤ cur.length) (h1 : ∀ v ∈ cs, v.oneCell' = true)
  (h : ∀ u, Hid (u = w.setRow g (splice cur off cs).toArray) → K (a.put o.dst (goInt cs.length)) u) : if Region.wanted o (yielded ops a.tmps) = true then Oper.wp P o a w K Q else E := by
 have hw : Region.wanted o (yielded ops a.tmps) = true := by simp [Region.wanted, hgd]
 rw [if_pos hw]
 have hrun := run_copy_row (P := P) w dT sT o.type elem g off dLen dCap ad sLen sCap cur.toArray t cs hu hsz hg hn hsrc (by simpa using hfit) h1
 unfold Oper.wp
 simp [execOp, ho, resolve, invoke, builtin, hd, hs, hrun, Result.andThen]
 exact h _ (zaa (by simp [splice]))
theorem fixed_row (n x : Int) (w : World) (h0 : 0 ≤ n) (h1 : 1 ≤ x) (h2 : x ≤ 8) :
  Calls Tryz.prog 189 #[.int .u64 n, .int .i64 x] w fun e w' => ∃ b off c, e = .returned (.slice (some ⟨b, off, none⟩) x.toNat c) ∧ Hid (Sl w' (some ⟨b, off, none⟩) x.toNat c (fB x.toNat n)) ∧ Hid (Below w.heap.size w w') := by
 refine (fixed_yes n x w h0 h1 h2).mono ?_
 rintro e w' ⟨v, rfl, ho, hb⟩
 obtain ⟨ao, cap, rfl, hs, _⟩ := ho.sl (fB_wf _ _) (by rw [zal]; omega)
 rw [zal] at hs ⊢
 rcases hs.hat with h | ⟨b, off, rfl, hlt, hc⟩
 ·omega
 ·exact ⟨b, off, cap, rfl, hs, hb⟩
theorem sl_src5 {w : World} {b off n c : Nat} {l : List Int} (h : Sl w (some ⟨b, off, none⟩) n c l) : ∀ j v, (By l)[j]? = some v → w.cell? ((⟨b, off, none⟩ : Addr).add j) = some v := by
 intro j v hv
 obtain ⟨h1, rfl⟩ := getElem?_By l j v hv
 rw [Addr.add_lit]
 rcases h.hat with h0 | ⟨b', off', e, hlt, hc⟩
 ·have := h.hlen; omega
 ·injection e with e
  injection e with e1 e2
  subst e1 e2
  exact hc j (by have := h.hlen; omega)
def Bk (w : World) (g : Nat) (l : List Int) : Prop := w.heap[g]? = some (.cells (By l).toArray 5 (0, 0))
theorem Bk.on {w w' : World} {g : Nat} {l : List Int} (h : Bk w g l) (hb : Below w.heap.size w w') : Bk w' g l := (hb.block _ (zah h)).trans h
theorem zam {w : World} {a i : Nat} {cs : List Value} {t : TypeId} {u : Value} (h : w.heap[a]? = some (.cells cs.toArray t (0, 0))) : (w.setCell ⟨a, i, none⟩ u).heap[a]? = some (.cells (cs.set i u).toArray t (0, 0)) := by
 have := setCell_eq_setRow w a i cs.toArray t (0, 0) u h
 rw [this, setRow_heap w a _ _ t _ h]
 simp
theorem Bk.cell {w : World} {g : Nat} {l : List Int} (h : Bk w g l) (k : Nat) (hk : k < l.length) : w.cell? ⟨g, k, none⟩ = some (.int .u8 (l.getD k 0)) := by
 rw [cell_of_row _ _ k _ _ _ h]
 simp [By, zI hk, List.getD]
theorem Bk.free {w : World} {g : Nat} {l : List Int} (h : Bk w g l) (k : Nat) : w.frozen? ⟨g, k, none⟩ = false := by
 unfold Bk at h
 simp [World.frozen?, h]
theorem Bk.sl {w : World} {g n : Nat} {l : List Int} (h : Bk w g l) (hl : l.length = n) (hw : Wf l) (hn : n ≤ 140737488355328) : Sl w (some ⟨g, 0, none⟩) n n l :=
 ⟨hl, Lr, hn, hw, (by intro h; cases h), .inr ⟨g, 0, rfl, zah h, fun i hi => by rw [Nat.zero_add]; exact h.cell i (by omega)⟩⟩
theorem Sl.alloc5 {w : World} {ao : Option Addr} {n cap : Nat} {l : List Int} (h : Sl w ao n cap l) (o : Obj) : Sl (w.alloc o) ao n cap l := h.on Lr (Br.alloc Lr o)
theorem lit_cell5 (w : World) (cs : Array Value) (t : TypeId) (f : Nat × Nat) (i B : Nat) (hB : w.heap.size = B) : (w.alloc (.cells cs t f)).cell? ⟨B, i, none⟩ = cs[i]? := by
 subst hB
 unfold World.cell?
 rw [show (w.alloc (.cells cs t f)).heap[w.heap.size]? = some (.cells cs t f) from heap_alloc_new w _]
 rfl
theorem sls_one5 (w : World) (a : Option Addr) (n c : Nat) (la : List Int) (ha : Sl w a n c la) (B : Nat) (hB : w.heap.size = B) : SlS (w.alloc (.cells #[.slice a n c] 41)) (some ⟨B, 0, none⟩) 1 1 [la] := by
 refine ⟨rfl, Lr, by omega, (by intro h; cases h), .inr ⟨B, 0, rfl, by simp; omega, fun i hi => ?_⟩⟩
 obtain rfl : i = 0 := by omega
 exact ⟨a, n, c, lit_cell5 _ _ _ _ _ _ hB, ha.alloc5 _⟩
theorem SlS.drew5 {w : World} {ao : Option Addr} {n cap : Nat} {ls : List (List Int)} (h : SlS w ao n cap ls) : SlS w.drew ao n cap ls := by
 refine ⟨h.hlen, h.hcap, h.hroom, h.hnil, ?_⟩
 rcases h.hat with h0 | ⟨b, off, e, hb, hc⟩
 ·exact .inl h0
 ·refine .inr ⟨b, off, e, hb, fun i hi => ?_⟩
  obtain ⟨a, m, c, h1, h2⟩ := hc i hi
  exact ⟨a, m, c, h1, h2.on Lr Br.drew⟩
def zbf (pg ct lo hi : Int) : Prop := (2 ≤ pg ∧ pg ≤ 65535) ∧ (lo ≤ ct ∧ ct ≤ hi)
def zaz (page : Int) (kd : Int) (vn : Nat) (pg ct : Int) : Prop :=
 (kd = 1 ∧ (vn : Int) ≤ page / 16 * 3 ∧ (pg = 0 ∧ ct = 0)) ∨ (kd = 2 ∧ vn = 0 ∧ zbf pg ct (page / 16 * 3 + 1) 65536) ∨ (kd = 4 ∧ vn = 0 ∧ ((pg = 0 ∧ ct = 0) ∨ zbf pg ct 1 1073741824))
def mayN (kind page : Int) (kn : Nat) (kd : Int) (vn : Nat) (pg ct : Int) : Prop :=
 (kn : Int) ≤ page / 8 ∧ ((kind = 3 ∧ kd = 3 ∧ vn = 0 ∧ zbf pg ct 1 1073741824) ∨ (kind ≠ 3 ∧ 0 < kn ∧ zaz page kd vn pg ct))
theorem zch (k p : Int) (c : Cl) : mayN k p c.key.length c.kd c.val.length c.pg c.ct ↔ mayP k p c := by
 simp only [mayN, mayP, zaz, zbf, leadsP, nowhere, List.length_eq_zero_iff]
theorem ret_bool {b c : Bool} (h : b = c) : Ending.returned (.bool b) = .returned (.bool c) := by rw [h]
theorem zdi (n lo hi : Int) (w : World) : Calls Tryz.prog 126 #[.int .i64 n, .int .i64 lo, .int .i64 hi] w fun e w' => e = .returned (.bool (decide (lo ≤ n ∧ n ≤ hi))) ∧ w' = w := by
 go_enter Tryz.func126, Tryz.ntmps126
 go_wp2
 all_goals go_ret
 all_goals refine ⟨ret_bool ?_, rfl⟩
 all_goals (rw [Bool.eq_iff_iff]; first | (simp; done) | (simp; omega) | (simp_all; done) | (simp_all; omega))
theorem zbj (k : Int) (w : World) : Calls Tryz.prog 63 #[.int .i64 k] w fun e w' => e = .returned (.bool (decide (isKd k))) ∧ w' = w := by
 go_enter Tryz.func63, Tryz.ntmps63
 go_wp2
 all_goals go_ret
 all_goals refine ⟨ret_bool ?_, rfl⟩
 all_goals (rw [Bool.eq_iff_iff]; first | (simp [isKd]; done) | (simp [isKd]; omega) | (simp_all [isKd]; done) | (simp_all [isKd]; omega))
theorem zct (p : Int) (w : World) (h0 : 0 ≤ p) (h1 : p ≤ 65536) : Calls Tryz.prog 78 #[.int .i64 p] w fun e w' => e = .returned (.int .i64 (p / 8)) ∧ w' = w := by
 go_enter Tryz.func78, Tryz.ntmps78
 go_wp2
 go_ret
 exact ⟨rfl, rfl⟩
theorem zbx (p : Int) (w : World) (h0 : 0 ≤ p) (h1 : p ≤ 65536) : Calls Tryz.prog 79 #[.int .i64 p] w fun e w' => e = .returned (.int .i64 (p / 16 * 3)) ∧ w' = w := by
 go_enter Tryz.func79, Tryz.ntmps79
 go_wp2
 go_ret
 exact ⟨rfl, rfl⟩
theorem zbg (p : Int) (w : World) : Calls Tryz.prog 62 #[.int .i64 p] w fun e w' => e = .returned (.bool (decide (pw p))) ∧ w' = w := by
 by_cases h : 512 ≤ p ∧ p ≤ 65536
 ·have hp := pow_iff p h.1 h.2
  have h1 := h.1
  have h2 := h.2
  have e : decide (512 ≤ p ∧ p ≤ 65536) = true := by simpa using h
  obtain ⟨z, hz⟩ : ∃ z, bits .and .i64 p (p - 1) = z := ⟨_, rfl⟩
  rw [hz] at hp
  rw [show decide (pw p) = decide (z = 0) from by simp [hp]]
  clear hp
  go_enter Tryz.func62, Tryz.ntmps62
  go_wp2_with (go_at_call 126; refine zae (zdi _ _ _ _) ?_; rw [e])
  all_goals go_ret
  all_goals refine ⟨?_, rfl⟩
  all_goals (congr 2 <;> simp)
 ·have e : decide (512 ≤ p ∧ p ≤ 65536) = false := by simpa using h
  have e2 : decide (pw p) = false := by
   rw [zP]
   exact fun hq => h (pw_le hq)
  rw [e2]
  go_enter Tryz.func62, Tryz.ntmps62
  go_wp2_with (go_at_call 126; refine zae (zdi _ _ _ _) ?_; rw [e])
  go_ret
  exact ⟨rfl, rfl⟩
theorem zdq (ka : Option Addr) (kn kc : Nat) (kd : Int) (va : Option Addr) (vn vc : Nat) (pg ct : Int) (w : World) :
  Calls Tryz.prog 209 #[.agg #[.slice ka kn kc, .int .i64 kd, .slice va vn vc, .int .i64 pg, .int .i64 ct]] w fun e w' => e = .returned (.bool (decide (pg = 0 ∧ ct = 0))) ∧ Below w.heap.size w w' := by
 go_enter Tryz.func209, Tryz.ntmps209
 go_wp2
 all_goals go_ret
 all_goals refine ⟨ret_bool ?_, Br.alloc Lr _⟩
 all_goals (rw [Bool.eq_iff_iff]; first | (simp; done) | (simp; omega) | (simp_all; done) | (simp_all; omega))
instance (a b c d : Int) : Decidable (zbf a b c d) := by unfold zbf; infer_instance
theorem leads_any (ka : Option Addr) (kn kc : Nat) (kd : Int) (va : Option Addr) (vn vc : Nat) (pg ct lo hi : Int) (w : World) :
  Calls Tryz.prog 181 #[.agg #[.slice ka kn kc, .int .i64 kd, .slice va vn vc, .int .i64 pg, .int .i64 ct], .int .i64 lo, .int .i64 hi] w fun e w' => e = .returned (.bool (decide (zbf pg ct lo hi))) ∧ Below w.heap.size w w' := by
 have hq : decide (zbf pg ct lo hi) = (decide (2 ≤ pg ∧ pg ≤ 65535) && decide (lo ≤ ct ∧ ct ≤ hi)) := by rw [Bool.eq_iff_iff, zQ]; simp [zbf]
 rw [hq]
 cases h1 : decide (2 ≤ pg ∧ pg ≤ 65535)
 ·go_enter Tryz.func181, Tryz.ntmps181
  go_wp2_with (go_at_call 126; refine zae (zdi _ _ _ _) ?_; rw [h1])
  go_ret
  exact ⟨rfl, Br.alloc Lr _⟩
 ·have W2 := fun u => zdi ct lo hi u
  cases h2 : decide (lo ≤ ct ∧ ct ≤ hi)
  all_goals
   go_enter Tryz.func181, Tryz.ntmps181
   go_wp2_with (go_at_call 126; refine zae (zdi _ _ _ _) ?_; first | rw [h1] | rw [h2])
   go_ret
   exact ⟨rfl, Br.alloc Lr _⟩
theorem box5 {w w1 : World} {x0 x1 x2 x3 x4 : Value} {t : TypeId} (hb : Below (w.alloc (.cells #[x0, x1, x2, x3, x4] t)).heap.size (w.alloc (.cells #[x0, x1, x2, x3, x4] t)) w1) :
  w1.cell? ⟨w.heap.size, 0, none⟩ = some x0 ∧ w1.cell? ⟨w.heap.size, 1, none⟩ = some x1 ∧ w1.cell? ⟨w.heap.size, 2, none⟩ = some x2 ∧ w1.cell? ⟨w.heap.size, 3, none⟩ = some x3 ∧ w1.cell? ⟨w.heap.size, 4, none⟩ = some x4 := by
 have hl : w.heap.size < (w.alloc (.cells #[x0, x1, x2, x3, x4] t)).heap.size := by simp
 refine ⟨(hb.cell (p := ⟨w.heap.size, 0, none⟩) hl).trans (by simp), (hb.cell (p := ⟨w.heap.size, 1, none⟩) hl).trans (by simp), (hb.cell (p := ⟨w.heap.size, 2, none⟩) hl).trans (by simp), (hb.cell (p := ⟨w.heap.size, 3, none⟩) hl).trans (by simp), (hb.cell (p := ⟨w.heap.size, 4, none⟩) hl).trans (by simp)⟩
theorem al5 {w w1 : World} {o : Obj} (hb : Below (w.alloc o).heap.size (w.alloc o) w1) : Below w.heap.size w w1 := zab (zac (Below.refl _ w) Lr _) Lr hb
instance (p k : Int) (v : Nat) (a b : Int) : Decidable (zaz p k v a b) := by unfold zaz; infer_instance
instance (k p : Int) (n : Nat) (kd : Int) (v : Nat) (a b : Int) : Decidable (mayN k p n kd v a b) := by unfold mayN; infer_instance
theorem inLeaf_any (page : Int) (ka : Option Addr) (kn kc : Nat) (kd : Int) (va : Option Addr) (vn vc : Nat) (pg ct : Int) (w : World) (h0 : 0 ≤ page) (h1 : page ≤ 65536) (hv : vn ≤ 140737488355328) :
  Calls Tryz.prog 182 #[.int .i64 page, .agg #[.slice ka kn kc, .int .i64 kd, .slice va vn vc, .int .i64 pg, .int .i64 ct]] w fun e w' => e = .returned (.bool (decide (zaz page kd vn pg ct))) ∧ Below w.heap.size w w' := by
 have hm : 0 ≤ page / 16 * 3 ∧ page / 16 * 3 ≤ 65535 := by omega
 have hal := (Below.refl w.heap.size w).alloc Lr (.cells #[.slice ka kn kc, .int .i64 kd, .slice va vn vc, .int .i64 pg, .int .i64 ct] 43)
 by_cases k1 : kd = 1
 ·have hq : decide (zaz page kd vn pg ct) = (decide ((vn : Int) ≤ page / 16 * 3) && decide (pg = 0 ∧ ct = 0)) := by rw [Bool.eq_iff_iff, zQ]; simp [zaz, k1]
  rw [hq]
  subst k1
  clear hq
  by_cases h : (vn : Int) ≤ page / 16 * 3
  ·rw [decide_eq_true h, Bool.true_and]
   have d1 : decide ((vn : Int) ≤ page / 16 * 3) = true := decide_eq_true h
   cases hr : decide (pg = 0 ∧ ct = 0)
   all_goals
    go_enter Tryz.func182, Tryz.ntmps182
    go_wp2_with fail
    go_region_with (first | (go_at_call 79; refine zae (zbx _ _ h0 h1) ?_) | (go_at_call 209; refine (zdq _ _ _ _ _ _ _ _ _ _).mono ?_; rintro e w1 ⟨rfl, hb1⟩; have hbw := zab (show Below w.heap.size w _ from by first | exact hal | exact hal.drew | exact zad hal _ | exact (zad hal _).drew | go_grown) Lr hb1; rw [hr]))
    all_goals (try go_wp2); all_goals (go_ret; exact ⟨rfl, by first | exact hbw | exact hbw.drew | exact zad hbw _⟩)
  ·rw [decide_eq_false h, Bool.false_and]
   have d1 : decide ((vn : Int) ≤ page / 16 * 3) = false := decide_eq_false h
   go_enter Tryz.func182, Tryz.ntmps182
   go_wp2_with fail
   go_quiet (first | (go_at_call 79; exact Calls.quiet_of_same (zbx _ _ h0 h1)))
   go_wp2
   go_ret
   exact ⟨rfl, by first | exact hal | exact zad hal _⟩
 ·by_cases hz : vn = 0
  ·subst hz
   by_cases k2 : kd = 2
   ·have hq : decide (zaz page kd 0 pg ct) = decide (zbf pg ct (page / 16 * 3 + 1) 65536) := by rw [Bool.eq_iff_iff, zQ]; simp [zaz, k2]
    rw [hq]
    subst k2
    clear hq
    have hw1 : IntKind.i64.wrap (page / 16 * 3 + 1) = page / 16 * 3 + 1 := by rw [IntKind.wrap_i64]; omega
    have hw2 : wrap64 (page / 16 * 3 + 1) = page / 16 * 3 + 1 := by simp [wrap64]; omega
    generalize hr : decide (zbf pg ct (page / 16 * 3 + 1) 65536) = r
    go_enter Tryz.func182, Tryz.ntmps182
    go_wp2_with fail
    go_region_with (first | (go_at_call 79; refine zae (zbx _ _ h0 h1) ?_) | (go_at_call 181; refine (leads_any _ _ _ _ _ _ _ _ _ _ _ _).mono ?_; rintro e w1 ⟨rfl, hb1⟩; have hbw := zab (show Below w.heap.size w _ from by first | exact hal | exact hal.drew | exact zad hal _ | exact (zad hal _).drew | go_grown) Lr hb1; first | rw [hr] | rw [hw1, hr] | rw [hw2, hr]))
    all_goals (try go_wp2); all_goals (go_ret; exact ⟨rfl, by first | exact hbw | exact hbw.drew | exact zad hbw _⟩)
   ·by_cases k4 : kd = 4
    ·have hq : decide (zaz page kd 0 pg ct) = (decide (pg = 0 ∧ ct = 0) || decide (zbf pg ct 1 1073741824)) := by rw [Bool.eq_iff_iff, zQ]; simp [zaz, k4]
     rw [hq]
     subst k4
     clear hq
     cases hr : decide (pg = 0 ∧ ct = 0)
     ·cases hs : decide (zbf pg ct 1 1073741824)
      all_goals
       go_enter Tryz.func182, Tryz.ntmps182
       go_wp2_with (first | (go_at_call 209; refine (zdq _ _ _ _ _ _ _ _ _ _).mono ?_; rintro e w1 ⟨rfl, hb1⟩; rw [hr]; obtain ⟨c0, c1, c2, c3, c4⟩ := box5 hb1) | (go_at_call 181; refine (leads_any _ _ _ _ _ _ _ _ _ _ _ _).mono ?_; rintro e w2 ⟨rfl, hb2⟩; rw [hs]))
       go_ret
       exact ⟨rfl, zab (al5 hb1) Lr hb2⟩
     ·go_enter Tryz.func182, Tryz.ntmps182
      go_wp2_with (go_at_call 209; refine (zdq _ _ _ _ _ _ _ _ _ _).mono ?_; rintro e w1 ⟨rfl, hb1⟩; rw [hr])
      go_ret
      exact ⟨rfl, al5 hb1⟩
    ·have hq : decide (zaz page kd 0 pg ct) = false := by rw [zP]; simp [zaz, k1, k2, k4]
     rw [hq]
     clear hq
     go_enter Tryz.func182, Tryz.ntmps182
     go_wp2
     go_ret
     exact ⟨rfl, hal⟩
  ·have hq : decide (zaz page kd vn pg ct) = false := by rw [zP]; simp [zaz, k1, hz]
   rw [hq]
   clear hq
   have hz' : 0 < (vn : Int) := by omega
   go_enter Tryz.func182, Tryz.ntmps182
   go_wp2
   go_ret
   exact ⟨rfl, hal⟩
theorem zcu (kind page : Int) (ka : Option Addr) (kn kc : Nat) (kd : Int) (va : Option Addr) (vn vc : Nat) (pg ct : Int) (w : World) (h0 : 0 ≤ page) (h1 : page ≤ 65536) (hk : kn ≤ 140737488355328) (hv : vn ≤ 140737488355328) :
  Calls Tryz.prog 143 #[.int .i64 kind, .int .i64 page, .agg #[.slice ka kn kc, .int .i64 kd, .slice va vn vc, .int .i64 pg, .int .i64 ct]] w fun e w' => e = .returned (.bool (decide (mayN kind page kn kd vn pg ct))) ∧ Below w.heap.size w w' := by
 have hm : 0 ≤ page / 8 ∧ page / 8 ≤ 65535 := by omega
 have hal := (Below.refl w.heap.size w).alloc Lr (.cells #[.slice ka kn kc, .int .i64 kd, .slice va vn vc, .int .i64 pg, .int .i64 ct] 43)
 by_cases h : (kn : Int) ≤ page / 8
 ·have d1 : decide (page / 8 < (kn : Int)) = false := decide_eq_false (by omega)
  by_cases k3 : kind = 3
  ·have hq : decide (mayN kind page kn kd vn pg ct) = (decide (kd = 3) && (decide (vn = 0) && decide (zbf pg ct 1 1073741824))) := by rw [Bool.eq_iff_iff, zQ]; simp [mayN, h, k3]
   rw [hq]
   subst k3
   clear hq
   by_cases d3 : kd = 3
   ·subst d3
    by_cases hz : vn = 0
    ·subst hz
     cases hs : decide (zbf pg ct 1 1073741824)
     all_goals
      go_enter Tryz.func143, Tryz.ntmps143
      go_wp2_with fail
      go_quiet (first | (go_at_call 79; exact Calls.quiet_of_same (zbx _ _ h0 h1)) | (go_at_call 78; exact Calls.quiet_of_same (zct _ _ h0 h1)))
      go_wp2_with (go_at_call 181; refine (leads_any _ _ _ _ _ _ _ _ _ _ _ _).mono ?_; rintro e w1 ⟨rfl, hb1⟩; have hbw := zab (show Below w.heap.size w _ from by first | exact hal | exact hal.drew | exact zad hal _ | exact (zad hal _).drew | go_grown) Lr hb1; rw [hs])
      all_goals (try go_wp2); all_goals (go_ret; exact ⟨rfl, by first | exact hbw | exact hbw.drew | exact zad hbw _⟩)
    ·have hz' : 0 < (vn : Int) := by omega
     have hz2 : ¬ (vn : Int) = 0 := by omega
     rw [decide_eq_false hz]
     go_enter Tryz.func143, Tryz.ntmps143
     go_wp2_with fail
     go_quiet (first | (go_at_call 79; exact Calls.quiet_of_same (zbx _ _ h0 h1)) | (go_at_call 78; exact Calls.quiet_of_same (zct _ _ h0 h1)))
     go_wp2
     go_ret
     exact ⟨rfl, by first | exact hal | exact zad hal _⟩
   ·rw [decide_eq_false d3]
    go_enter Tryz.func143, Tryz.ntmps143
    go_wp2_with fail
    go_quiet (first | (go_at_call 79; exact Calls.quiet_of_same (zbx _ _ h0 h1)) | (go_at_call 78; exact Calls.quiet_of_same (zct _ _ h0 h1)))
    go_wp2
    go_ret
    exact ⟨rfl, by first | exact hal | exact zad hal _⟩
  ·have hq : decide (mayN kind page kn kd vn pg ct) = (decide (0 < kn) && decide (zaz page kd vn pg ct)) := by rw [Bool.eq_iff_iff, zQ]; simp [mayN, h, k3]
   rw [hq]
   clear hq
   by_cases hz : 0 < kn
   ·have hz' : 0 < (kn : Int) := by omega
    rw [decide_eq_true hz]
    cases hs : decide (zaz page kd vn pg ct)
    all_goals
     go_enter Tryz.func143, Tryz.ntmps143
     go_wp2_with fail
     go_quiet (first | (go_at_call 79; exact Calls.quiet_of_same (zbx _ _ h0 h1)) | (go_at_call 78; exact Calls.quiet_of_same (zct _ _ h0 h1)))
     go_wp2_with (go_at_call 182; refine (inLeaf_any _ _ _ _ _ _ _ _ _ _ _ h0 h1 hv).mono ?_; rintro e w1 ⟨rfl, hb1⟩; have hbw := zab (show Below w.heap.size w _ from by first | exact hal | exact hal.drew | exact zad hal _ | exact (zad hal _).drew | go_grown) Lr hb1; rw [hs])
     all_goals (try go_wp2); all_goals (go_ret; exact ⟨rfl, by first | exact hbw | exact hbw.drew | exact zad hbw _⟩)
   ·obtain rfl : kn = 0 := by omega
    go_enter Tryz.func143, Tryz.ntmps143
    go_wp2_with fail
    go_quiet (first | (go_at_call 79; exact Calls.quiet_of_same (zbx _ _ h0 h1)) | (go_at_call 78; exact Calls.quiet_of_same (zct _ _ h0 h1)))
    go_wp2
    go_ret
    exact ⟨rfl, by first | exact hal | exact zad hal _⟩
 ·have d1 : decide (page / 8 < (kn : Int)) = true := decide_eq_true (by omega)
  have hq : decide (mayN kind page kn kd vn pg ct) = false := by rw [zP]; simp [mayN, h]
  rw [hq]
  clear hq
  go_enter Tryz.func143, Tryz.ntmps143
  go_wp2_with fail
  go_quiet (first | (go_at_call 79; exact Calls.quiet_of_same (zbx _ _ h0 h1)) | (go_at_call 78; exact Calls.quiet_of_same (zct _ _ h0 h1)))
  go_wp2
  go_ret
  exact ⟨rfl, by first | exact hal | exact zad hal _⟩
theorem u8_lt (x y : Int) (hx : 0 ≤ x ∧ x ≤ 255) (hy : 0 ≤ y ∧ y ≤ 255) : UInt8.ofNat x.toNat < UInt8.ofNat y.toNat ↔ x < y := by
 rw [UInt8.lt_iff_toNat_lt, UInt8.toNat_ofNat', UInt8.toNat_ofNat']
 omega
theorem cmp_ord : ∀ (a b : List Int), Wf a → Wf b → Lib.compareBytes (Lib.bytesOf a) (Lib.bytesOf b) = ordL a b
 | [], [], _, _ => rfl
 | [], _ :: _, _, _ => rfl
 | _ :: _, [], _, _ => rfl
 | x :: a, y :: b, ha, hb => by
  have hx := ha x (by simp)
  have hy := hb y (by simp)
  have ih := cmp_ord a b (fun z hz => ha z (by simp [hz])) (fun z hz => hb z (by simp [hz]))
  unfold Lib.bytesOf at ih ⊢
  simp only [List.map_cons, Lib.compareBytes, ordL, u8_lt x y hx hy, u8_lt y x hy hx, ih]
theorem run_bytes {w : World} {ao : Option Addr} {n cap : Nat} {l : List Int} (h : Sl w ao n cap l) : (Extern.Bytes.bytesOf (.slice ao n cap)).run Tryz.prog w = .ok ⟨(Lib.bytesOf l).toArray⟩ w := by
 obtain ⟨hlen, hcap, hroom, hwf, hnil, hat⟩ := h
 have he : (⟨ByteArray.empty.data ++ (Lib.bytesOf l).toArray⟩ : ByteArray) = ⟨(Lib.bytesOf l).toArray⟩ := by
  apply ByteArray.ext
  show (#[] : Array UInt8) ++ (Lib.bytesOf l).toArray = (Lib.bytesOf l).toArray
  simp
 cases ao with
 | none =>
  have : n = 0 := by have := hnil rfl; omega
  obtain rfl : l = [] := List.eq_nil_of_length_eq_zero (by omega)
  rfl
 | some a =>
  have hl := Lib.run_loadBytesX (P := Tryz.prog) w l a .empty (fun j x hj => by
   have hjl : j < l.length := (zH.1 hj).1
   rcases hat with h0 | ⟨b, off, e, hb, hc⟩
   ·omega
   ·injection e with e
    subst e
    rw [Addr.add_lit, hc j (by omega), List.getD_eq_getElem?_getD, hj]
    rfl)
  rw [hlen, he] at hl
  simpa [Extern.Bytes.bytesOf] using hl
theorem run_cmp {w : World} {ao bo : Option Addr} {n m c d : Nat} {la lb : List Int} (ha : Sl w ao n c la) (hb : Sl w bo m d lb) :
  (Extern.BytealgCompare.compare #[.slice ao n c, .slice bo m d]).run Tryz.prog w = .ok (.int .i64 (ordL la lb)) w := by
 change Sem.run Tryz.prog (do pure (goInt (Extern.BytealgCompare.cmp (← Extern.Bytes.bytesOf (.slice ao n c)) (← Extern.Bytes.bytesOf (.slice bo m d))))) w = _
 simp only [Sem.run_bind, run_bytes ha, run_bytes hb, Sem.run_pure, Result.andThen]
 rw [Lib.cmp_eq, show (⟨(Lib.bytesOf la).toArray⟩ : ByteArray).data.toList = Lib.bytesOf la from rfl, show (⟨(Lib.bytesOf lb).toArray⟩ : ByteArray).data.toList = Lib.bytesOf lb from rfl, cmp_ord la lb ha.wf hb.wf]
 rfl
theorem zdd (ao bo : Option Addr) (n m c d : Nat) (la lb : List Int) (w : World) (ha : Sl w ao n c la) (hb : Sl w bo m d lb) :
  Calls Tryz.prog 183 #[.slice ao n c, .slice bo m d] w fun e w' => e = .returned (.int .i64 (ordL la lb)) ∧ w' = w := by
 have hr := run_cmp ha hb
 clear ha hb
 go_enter Tryz.func183, Tryz.ntmps183
 go_wp2
 rw [run_callFunc_extern Tryz.func210 (by kernel_rfl) (by kernel_rfl) (by kernel_rfl) (e := Extern.BytealgCompare.compare) (by kernel_rfl), hr]
 simp only [Result.andThen]
 rw [Oper.upon_value]
 go_wp2
 go_ret
 exact ⟨rfl, rfl⟩
theorem zci (ao bo : Option Addr) (n m c d : Nat) (la lb : List Int) (w : World) (ha : Sl w ao n c la) (hb : Sl w bo m d lb) :
  Calls Tryz.prog 144 #[.slice ao n c, .slice bo m d] w fun e w' => e = .returned (.bool (decide (kl la lb))) ∧ w' = w := by
 have hr := zdd ao bo n m c d la lb w ha hb
 have hq : decide (kl la lb) = decide (ordL la lb < 0) := by
  have := zcg la lb
  refine decide_eq_decide.2 ?_
  unfold kl
  omega
 rw [hq]
 clear ha hb hq
 generalize ordL la lb = x at *
 go_enter Tryz.func144, Tryz.ntmps144
 go_wp2_with (go_at_call 183; refine zae hr ?_)
 go_ret
 exact ⟨rfl, rfl⟩
structure Cf (F : Nat → Prop) (w w' : World) : Prop where
 os : w'.os = w.os
 tape : w'.tape = w.tape
 output : w'.output = w.output
 size : w.heap.size ≤ w'.heap.size
 block : ∀ k, k < w.heap.size → ¬ F k → w'.heap[k]? = w.heap[k]?
theorem Cf.refl (F : Nat → Prop) (w : World) : Cf F w w := ⟨rfl, rfl, rfl, Lr, fun _ _ _ => rfl⟩
theorem Cf.trans {F G : Nat → Prop} {a b c : World} (h : Cf F a b) (k : Cf G b c) (hG : ∀ i, i < a.heap.size → G i → F i) : Cf F a c :=
 ⟨k.os.trans h.os, k.tape.trans h.tape, k.output.trans h.output, zN h.size k.size, fun i hi hf => (k.block i (zO hi h.size) fun g => hf (hG i hi g)).trans (h.block i hi hf)⟩
theorem Cf.go {F : Nat → Prop} {a b c : World} (h : Cf F a b) (k : Cf F b c) : Cf F a c := h.trans k fun _ _ g => g
theorem Cf.of_below {F : Nat → Prop} {a b : World} (h : Below a.heap.size a b) : Cf F a b := ⟨h.os, h.tape, h.output, h.size, fun k hk _ => h.block k hk⟩
theorem Cf.below {F : Nat → Prop} {a b : World} {B : Nat} (h : Cf F a b) (hB : B ≤ a.heap.size) (hF : ∀ k, k < B → ¬ F k) : Below B a b := ⟨h.os, h.tape, h.output, h.size, fun k hk => h.block k (by omega) (hF k hk)⟩
theorem Cf.alloc (F : Nat → Prop) (w : World) (o : Obj) : Cf F w (w.alloc o) := ⟨rfl, rfl, rfl, by simp, fun k hk _ => Below.heap_alloc _ _ _ hk⟩
theorem Cf.setCell {F : Nat → Prop} (w : World) {p : Addr} (hp : F p.block) (u : Value) : Cf F w (w.setCell p u) :=
 ⟨rfl, rfl, rfl, by simp [World.setCell], fun k _ hk => Below.heap_setCell _ _ _ _ fun e => hk (e ▸ hp)⟩
theorem Cf.set (w : World) (r k : Nat) (u : Value) : Cf (· = r) w (w.setCell ⟨r, k, none⟩ u) := Cf.setCell (F := (· = r)) w (p := ⟨r, k, none⟩) rfl u
theorem Cf.drew (F : Nat → Prop) (w : World) (n : Nat) : Cf F w (w.drewN n) := ⟨rfl, rfl, rfl, Lr, fun _ _ _ => rfl⟩
def Rd (w : World) (r : Nat) (ao : Option Addr) (n cap at_ : Nat) (en : Bool) : Prop := w.heap[r]? = some (.cells #[.slice ao n cap, .int .i64 (at_ : Int), .bool en] 186 (0, 0))
theorem Rd.c0 {w : World} {r : Nat} {ao : Option Addr} {n cap at_ : Nat} {en : Bool} (h : Rd w r ao n cap at_ en) : w.cell? ⟨r, 0, none⟩ = some (.slice ao n cap) := by rw [cell_of_row _ _ 0 _ _ _ h]; rfl
theorem Rd.c1 {w : World} {r : Nat} {ao : Option Addr} {n cap at_ : Nat} {en : Bool} (h : Rd w r ao n cap at_ en) : w.cell? ⟨r, 1, none⟩ = some (.int .i64 (at_ : Int)) := by rw [cell_of_row _ _ 1 _ _ _ h]; rfl
theorem Rd.c2 {w : World} {r : Nat} {ao : Option Addr} {n cap at_ : Nat} {en : Bool} (h : Rd w r ao n cap at_ en) : w.cell? ⟨r, 2, none⟩ = some (.bool en) := by rw [cell_of_row _ _ 2 _ _ _ h]; rfl
theorem Rd.free {w : World} {r : Nat} {ao : Option Addr} {n cap at_ : Nat} {en : Bool} (h : Rd w r ao n cap at_ en) (k : Nat) : w.frozen? ⟨r, k, none⟩ = false := by
 unfold Rd at h
 simp [World.frozen?, h]
theorem Rd.drewN {w : World} {r : Nat} {ao : Option Addr} {n cap at_ : Nat} {en : Bool} (h : Rd w r ao n cap at_ en) (q : Nat) : Rd (w.drewN q) r ao n cap at_ en := h
theorem Rd.lt {w : World} {r : Nat} {ao : Option Addr} {n cap at_ : Nat} {en : Bool} (h : Rd w r ao n cap at_ en) : r < w.heap.size := zah h
theorem Rd.set1 {w : World} {r : Nat} {ao : Option Addr} {n cap at_ : Nat} {en : Bool} (h : Rd w r ao n cap at_ en) (x : Nat) : Rd (w.setCell ⟨r, 1, none⟩ (.int .i64 (x : Int))) r ao n cap x en := by
 unfold Rd at *
 have := zam (w := w) (a := r) (cs := [.slice ao n cap, .int .i64 (at_ : Int), .bool en]) (i := 1) (u := .int .i64 (x : Int)) h
 simpa using this
theorem Rd.set2 {w : World} {r : Nat} {ao : Option Addr} {n cap at_ : Nat} {en : Bool} (h : Rd w r ao n cap at_ en) (x : Bool) : Rd (w.setCell ⟨r, 2, none⟩ (.bool x)) r ao n cap at_ x := by
 unfold Rd at *
 have := zam (w := w) (a := r) (cs := [.slice ao n cap, .int .i64 (at_ : Int), .bool en]) (i := 2) (u := .bool x) h
 simpa using this
theorem Sl.apart {w : World} {ao : Option Addr} {n cap : Nat} {l : List Int} (h : Sl w ao n cap l) {r : Nat} {a : Option Addr} {b c d : Nat} {en : Bool} (hr : Rd w r a b c d en) : n = 0 ∨ ∀ p, ao = some p → p.block ≠ r := by
 rcases h.hat with h0 | ⟨g, off, rfl, hg, hc⟩
 ·exact .inl h0
 ·rcases Nat.eq_zero_or_pos n with h0 | h0
  ·exact .inl h0
  ·right
   rintro p hp rfl
   injection hp with hp
   subst hp
   have h1 := hc 0 h0
   rw [cell_of_row _ _ _ _ _ _ hr] at h1
   rcases Nat.lt_or_ge (off + 0) 3 with h3 | h3
   ·have h4 : off + 0 = 0 ∨ off + 0 = 1 ∨ off + 0 = 2 := by omega
    rcases h4 with h4 | h4 | h4 <;> (rw [h4] at h1; simp at h1)
   ·rw [Array.getElem?_eq_none (by simpa using h3)] at h1
    cases h1
theorem Sl.cf {w w' : World} {ao : Option Addr} {n cap : Nat} {l : List Int} {F : Nat → Prop} (h : Sl w ao n cap l) (hc : Cf F w w') (hf : n = 0 ∨ ∀ p, ao = some p → ¬ F p.block) : Sl w' ao n cap l := by
 refine ⟨h.hlen, h.hcap, h.hroom, h.wf, h.hnil, ?_⟩
 rcases h.hat with h0 | ⟨b, off, e, hlt, hcl⟩
 ·exact .inl h0
 ·rcases hf with h0 | hf
  ·exact .inl h0
  ·refine .inr ⟨b, off, e, zO hlt hc.size, fun i hi => ?_⟩
   have := hc.block b hlt (hf _ e)
   rw [← hcl i hi]
   simp only [World.cell?, this]
def NumTo (x : Nat) (l : List Int) (w : World) (r : Nat) (ao : Option Addr) (n cap at_ : Nat) (en : Bool) (e : Ending) (w' : World) : Prop :=
 ∃ (v : Int) (p : Nat) (en' : Bool), e = .returned (.int .i64 v) ∧ Hid (Rd w' r ao n cap p en') ∧ Hid (Cf (· = r) w w') ∧ Hid ((0 ≤ v ∧ v < 256 ^ x) ∧ p ≤ n ∧ ((pNum x (l.drop at_) = some (v, l.drop p) ∧ en' = en) ∨ (pNum x (l.drop at_) = none ∧ en' = true ∧ v = 0 ∧ p = at_)))
theorem number_any (x : Nat) (l : List Int) (w : World) (r : Nat) (ao : Option Addr) (n cap at_ : Nat) (en : Bool) (hx : x = 1 ∨ x = 2 ∨ x = 4) (hr : Rd w r ao n cap at_ en) (hs : Sl w ao n cap l) (ha : at_ ≤ n) :
  Calls Tryz.prog 222 #[.pointer (some ⟨r, 0, none⟩), .int .i64 (x : Int)] w fun e w' => NumTo x l w r ao n cap at_ en e w' := by
 have c0 := hr.c0
 have c1 := hr.c1
 have c2 := hr.c2
 have f1 := hr.free 1
 have f2 := hr.free 2
 have hn := hs.hroom
 have HR := zaa hr
 have hlen := hs.hlen
 have hx0 : 1 ≤ (x : Int) ∧ (x : Int) ≤ 8 := by omega
 by_cases h : x ≤ n - at_
 ·have HF : Hid (∀ q, Calls Tryz.prog 235 #[.slice ao n cap, .int .i64 (at_ : Int), .int .i64 (x : Int)] (w.drewN q) fun e w' => e = .returned (.tuple #[.int .u64 (rdB ((l.drop at_).take x)), .int .i64 0]) ∧ w' = w.drewN q) :=
   zaa fun q => by simpa using readFixed_ok ao n cap l (at_ : Int) (x : Int) (w.drewN q) (hs.drewN q) hx0.1 hx0.2 (by omega) (by omega)
  have hp : pNum x (l.drop at_) = some (rdB ((l.drop at_).take x), l.drop (at_ + x)) := by
   unfold pNum
   rw [if_neg (by rw [zK]; omega), List.drop_drop]
  have hb := zdb ((l.drop at_).take x) ((hs.wf.drop at_).take x)
  rw [show ((l.drop at_).take x).length = x from by rw [zJ, zK]; omega] at hb
  have HB := zaa hb
  have hb8 : rdB ((l.drop at_).take x) < 4294967296 := by rcases hx with rfl | rfl | rfl <;> omega
  generalize rdB ((l.drop at_).take x) = v at *
  have hv0 := hb.1
  have HP := zaa hp
  clear hp hb hs
  have hw : wrap64 v = v := by simp [wrap64]; omega
  have HS : ∀ q, Hid (Rd ((w.drewN q).setCell ⟨r, 1, none⟩ (.int .i64 ((at_ + x : Nat) : Int))) r ao n cap (at_ + x) en) := fun q => zaa (Rd.set1 (HR.out.drewN q) (at_ + x))
  go_enter Tryz.func222, Tryz.ntmps222
  go_wp2_with fail
  go_quiet (first | (go_at_call 235; exact Calls.quiet_of_same (HF.out _)))
  go_wp2
  go_ret
  exact ⟨v, at_ + x, en, rfl, by simpa using HS _, zaa ((Cf.drew _ _ _).go (Cf.set _ _ _ _)), zaa ⟨HB.out, by omega, .inl ⟨HP.out, rfl⟩⟩⟩
 ·have HF : Hid (∀ q, Calls Tryz.prog 235 #[.slice ao n cap, .int .i64 (at_ : Int), .int .i64 (x : Int)] (w.drewN q) fun e w' => e = .returned (.tuple #[.int .u64 0, .int .i64 10]) ∧ w' = w.drewN q) :=
   zaa fun q => by simpa using zds ao n cap (at_ : Int) (x : Int) (w.drewN q) hx0.1 hx0.2 (by omega) (by omega) (by omega)
  have hp : pNum x (l.drop at_) = none := by
   unfold pNum
   rw [if_pos (by rw [zK]; omega)]
  have HP := zaa hp
  clear hp hs
  go_enter Tryz.func222, Tryz.ntmps222
  go_wp2_with fail
  go_quiet (first | (go_at_call 235; exact Calls.quiet_of_same (HF.out _)))
  go_wp2
  go_ret
  exact ⟨0, at_, true, rfl, zaa (Rd.set2 (HR.out.drewN _) true), zaa ((Cf.drew _ _ _).go (Cf.set _ _ _ _)), zaa ⟨⟨by omega, Int.pow_pos (by omega)⟩, ha, .inr ⟨HP.out, rfl, rfl, rfl⟩⟩⟩
theorem Sl.piece {w : World} {g off n cap : Nat} {l : List Int} (h : Sl w (some ⟨g, off, none⟩) n cap l) (a k c : Nat) (hk : a + k ≤ n) (hc : k ≤ c) : Sl w (some ⟨g, off + a, none⟩) k c ((l.drop a).take k) := by
 have hl := h.hlen
 refine ⟨by rw [zJ, zK]; omega, hc, zN (by omega) h.hroom, (h.wf.drop a).take k, (by intro e; cases e), ?_⟩
 rcases h.hat with h0 | ⟨b, o, e, hlt, hcl⟩
 ·exact .inl (by omega)
 ·injection e with e
  injection e with e1 e2
  subst e1 e2
  refine .inr ⟨g, off + a, rfl, hlt, fun i hi => ?_⟩
  rw [Nat.add_assoc, hcl (a + i) (by omega)]
  simp [List.getD, hi]
theorem Sl.nil_any (w : World) (ao : Option Addr) (c : Nat) (h : ao = none → c = 0) : Sl w ao 0 c [] := ⟨rfl, Nat.zero_le _, by omega, Wf.nil, h, .inl rfl⟩
def TextTo (l : List Int) (w : World) (r : Nat) (ao : Option Addr) (n cap at_ : Nat) (en : Bool) (e : Ending) (w' : World) : Prop :=
 ∃ (ko : Option Addr) (kn kc p : Nat) (en' : Bool) (t : List Int), e = .returned (.slice ko kn kc) ∧ Hid (Rd w' r ao n cap p en') ∧ Hid (Cf (· = r) w w') ∧ Hid (Sl w' ko kn kc t ∧ (∀ q, ko = some q → ∀ o, ao = some o → q.block = o.block) ∧ p ≤ n ∧ ((zar (l.drop at_) = some (t, l.drop p) ∧ en' = en) ∨ (zar (l.drop at_) = none ∧ en' = true)))
theorem text_any (l : List Int) (w : World) (r g off n cap at_ : Nat) (en : Bool) (hr : Rd w r (some ⟨g, off, none⟩) n cap at_ en) (hs : Sl w (some ⟨g, off, none⟩) n cap l) (ha : at_ ≤ n) :
  Calls Tryz.prog 223 #[.pointer (some ⟨r, 0, none⟩)] w fun e w' => TextTo l w r (some ⟨g, off, none⟩) n cap at_ en e w' := by
 have HN := zaa (number_any 2 l w r (some ⟨g, off, none⟩) n cap at_ en (.inr (.inl rfl)) hr hs ha)
 have HS := zaa hs
 have HAP := zaa (hs.apart hr)
 have hn := hs.hroom
 have hcap := hs.hcap
 clear hr hs
 go_enter Tryz.func223, Tryz.ntmps223
 go_wp2_with (go_at_call 222; refine HN.out.mono ?_; rintro e w1 ⟨v, p, en', rfl, HR, HC, HV⟩; refine Hid.out ?_)
 apply zaa
 clear HN
 obtain ⟨⟨hv0, hv1⟩, hp, hcase⟩ := HV.out
 clear HV
 have HCASE := zaa hcase
 clear hcase
 obtain ⟨m, rfl⟩ := Int.eq_ofNat_of_zero_le hv0
 have hm : m < 65536 := by omega
 clear hv0 hv1
 have HS1 : Hid (Sl w1 (some ⟨g, off, none⟩) n cap l) := zaa (HS.out.cf HC.out HAP.out)
 have c0 := HR.out.c0
 have c1 := HR.out.c1
 have c2 := HR.out.c2
 have f1 := HR.out.free 1
 have f2 := HR.out.free 2
 have HLEN := zaa HS.out.hlen
 by_cases h : (n : Int) - (p : Int) < (m : Int)
 ·have d1 : decide ((n : Int) - (p : Int) < (m : Int)) = true := decide_eq_true h
  have HQ : Hid (zar (l.drop at_) = none) := by
   rcases HCASE.out with ⟨h1, h2⟩ | ⟨h1, h2, h3, h4⟩
   ·refine zaa ?_
    unfold zar
    rw [h1]
    simp only
    rw [if_pos (by rw [zK, HLEN.out]; omega)]
   ·omega
  go_wp2_with fail
  go_quiet (fail)
  go_wp2
  go_ret
  exact ⟨none, 0, 0, p, true, [], rfl, zaa (Rd.set2 (HR.out.drewN _) true), zaa ((HC.out.go (Cf.drew _ _ _)).go (Cf.set _ _ _ _)), zaa ⟨Sl.nil_any _ _ _ (fun _ => rfl), (by intro q hq; cases hq), hp, .inr ⟨HQ.out, rfl⟩⟩⟩
 ·have d1 : decide ((n : Int) - (p : Int) < (m : Int)) = false := decide_eq_false h
  have HCASE2 : Hid (∃ tx, tx = (l.drop p).take m ∧ ((zar (l.drop at_) = some (tx, l.drop (p + m)) ∧ en' = en) ∨ (zar (l.drop at_) = none ∧ en' = true))) := by
   refine zaa ⟨(l.drop p).take m, rfl, ?_⟩
   rcases HCASE.out with ⟨h1, h2⟩ | ⟨h1, h2, h3, h4⟩
   ·left
    refine ⟨?_, h2⟩
    unfold zar
    rw [h1]
    simp only
    rw [if_neg (by rw [zK, HLEN.out]; omega), Int.toNat_natCast, List.drop_drop]
   ·right
    refine ⟨?_, h2⟩
    unfold zar
    rw [h1]
  have HAP2 : Hid (m = 0 ∨ ∀ q : Addr, some (⟨g, off + p, none⟩ : Addr) = some q → ¬ q.block = r) := by
   refine zaa ?_
   rcases HAP.out with h0 | h0
   ·exact .inl (by omega)
   ·exact .inr fun q hq => by injection hq with hq; subst hq; exact h0 ⟨g, off, none⟩ rfl
  by_cases hm0 : m = 0
  ·subst hm0
   have p2 : p ≤ cap := by omega
   have p3 : (p : Int) ≤ (cap : Int) := by omega
   have HS2 : ∀ q, Hid (Rd ((w1.drewN q).setCell ⟨r, 1, none⟩ (.int .i64 (p : Int))) r (some ⟨g, off, none⟩) n cap p en') := fun q => zaa (Rd.set1 (HR.out.drewN q) p)
   have x0 := fun q => (HS2 q).out.c0
   have x1 := fun q => (HS2 q).out.c1
   have HCF : Hid (∀ q q' : Nat, Cf (· = r) w (((w1.drewN q).setCell ⟨r, 1, none⟩ (.int .i64 (p : Int))).drewN q')) := zaa fun q q' => ((HC.out.go (Cf.drew _ _ _)).go (Cf.set _ _ _ _)).go (Cf.drew _ _ _)
   clear h HAP2 HCASE
   go_wp2_with fail
   go_quiet (fail)
   go_wp2_with fail
   go_quiet (fail)
   go_wp2
   go_ret
   obtain ⟨tx, htx, hcx⟩ := HCASE2.out
   rw [List.take_zero] at htx
   subst htx
   exact ⟨_, _, _, p, en', [], rfl, zaa ((HS2 _).out.drewN _), zaa (HCF.out _ _), zaa ⟨Sl.nil_any _ _ _ (by intro h; cases h), (fun q hq o ho => by injection hq with hq; injection ho with ho; subst hq ho; rfl), hp, hcx⟩⟩
  ·obtain ⟨t, ht⟩ : ∃ t, p + m = t := ⟨_, rfl⟩
   have htI : (p : Int) + (m : Int) = (t : Int) := by omega
   have t1 : p ≤ t := by omega
   have t2 : t ≤ n := by omega
   have t3 : t ≤ cap := by omega
   have t4 : (p : Int) ≤ (t : Int) := by omega
   have t5 : (t : Int) ≤ (cap : Int) := by omega
   have t6 : t - p = m := by omega
   have t7 : ¬ t = p := by omega
   have HS2 : ∀ q, Hid (Rd ((w1.drewN q).setCell ⟨r, 1, none⟩ (.int .i64 (t : Int))) r (some ⟨g, off, none⟩) n cap t en') := fun q => zaa (Rd.set1 (HR.out.drewN q) t)
   have x0 := fun q => (HS2 q).out.c0
   have x1 := fun q => (HS2 q).out.c1
   have HCF : Hid (∀ q q' : Nat, Cf (· = r) w (((w1.drewN q).setCell ⟨r, 1, none⟩ (.int .i64 (t : Int))).drewN q')) := zaa fun q q' => ((HC.out.go (Cf.drew _ _ _)).go (Cf.set _ _ _ _)).go (Cf.drew _ _ _)
   have HCF1 : Hid (∀ q q' : Nat, Cf (· = r) w1 (((w1.drewN q).setCell ⟨r, 1, none⟩ (.int .i64 (t : Int))).drewN q')) := zaa fun q q' => ((Cf.drew _ _ _).go (Cf.set _ _ _ _)).go (Cf.drew _ _ _)
   have HSX := zaa (HS1.out.piece p m m (by omega) Lr)
   rw [ht] at HCASE2
   clear h HCASE ht
   go_wp2_with fail
   go_quiet (fail)
   go_wp2_with fail
   go_quiet (fail)
   go_wp2
   go_ret
   obtain ⟨tx, htx, hcx⟩ := HCASE2.out
   subst htx
   exact ⟨_, _, _, t, en', _, rfl, zaa ((HS2 _).out.drewN _), zaa (HCF.out _ _), zaa ⟨HSX.out.cf (HCF1.out _ _) HAP2.out, (fun q hq o ho => by injection hq with hq; injection ho with ho; subst hq ho; rfl), t2, hcx⟩⟩
end Go.Proofs.YtofafbmpbkjhnaaGreatDoor
namespace Go.Proofs.YtofafbmpbkjhnaaGreatDoor
set_option maxRecDepth 100000
set_option maxHeartbeats 1000000
def pU (l : List Int) : Option (Int × List Int) := if (rU 0 l 0 0).2.2 = 0 then some ((rU 0 l 0 0).1, l.drop (rU 0 l 0 0).2.1.toNat) else none
theorem pU_mid (n : Int) (r : List Int) (h0 : 0 ≤ n) (h : n < 18446744073709551616) : pU (uB n ++ r) = some (n, r) := by
 unfold pU
 rw [rU_uB 0 n r h0 h]
 simp
def pT (l : List Int) : Option (List Int × List Int) :=
 match pU l with
 | none => none
 | some (n, r) => if (r.length : Int) < n then none else some (r.take n.toNat, r.drop n.toNat)
def pC (l : List Int) : Option (Cl × List Int) :=
 match pNum 1 l with
 | none => none
 | some (k, r) =>
  match pT r with
  | none => none
  | some (key, r) =>
   if k = 1 then
    match pT r with
    | none => none
    | some (val, r) => some (⟨key, k, val, 0, 0⟩, r)
   else
    match pU r with
    | none => none
    | some (p, r) =>
     match pU r with
     | none => none
     | some (c, r) => some (⟨key, k, [], RowKit.wrap64 p, RowKit.wrap64 c⟩, r)
def qB (m : Nat) (c : Cl) : List Int := [c.kd % 256] ++ (uB ((c.key.length - m : Nat) : Int) ++ (c.key.drop m ++ (if c.kd = 1 then uB c.val.length ++ c.val else uB (c.pg % 18446744073709551616) ++ uB (c.ct % 18446744073709551616))))
def tL (n : Nat) : Nat := (uB (n : Int)).length + n
def qtk (m : Nat) (c : Cl) : Nat := 3 + tL (c.key.length - m) + (if c.kd = 1 then tL c.val.length else (uB (c.pg % 18446744073709551616)).length + (uB (c.ct % 18446744073709551616)).length)
theorem qB_length (m : Nat) (c : Cl) : (qB m c).length + 2 = qtk m c := by
 unfold qB qtk tL
 split <;> simp only [zG, List.length_cons, List.length_nil, zK] <;> omega
theorem qB_wf {m : Nat} {c : Cl} (h : c.Wf) (h1 : c.key.length < 18446744073709551616) (h2 : c.val.length < 18446744073709551616) : Wf (qB m c) := by
 unfold qB
 refine Wf.append (Wf.cons (by omega) Wf.nil) (Wf.append (uB_wf (by omega) (by omega)) (Wf.append (h.1.drop m) ?_))
 split
 ·exact Wf.append (uB_wf (by omega) (by omega)) h.2
 ·exact Wf.append (uB_wf (by omega) (by omega)) (uB_wf (by omega) (by omega))
def Cl.cut (c : Cl) (m : Nat) : Cl := ⟨c.key.drop m, c.kd, c.val, c.pg, c.ct⟩
theorem pT_mid (t r : List Int) (h : t.length < 18446744073709551616) : pT (uB t.length ++ (t ++ r)) = some (t, r) := by
 unfold pT
 rw [pU_mid _ _ (by omega) (by omega)]
 simp only
 rw [if_neg (by rw [zG]; omega), Int.toNat_natCast, List.take_left, List.drop_left]
theorem pC_mid (m : Nat) (c : Cl) (r : List Int) (h : c.fit) : pC (qB m c ++ r) = some (c.cut m, r) := by
 obtain ⟨key, kd, val, pg, ct⟩ := c
 obtain ⟨h1, h2, h3, h4, h5, h6, h7⟩ := h
 simp only at h1 h2 h3 h4 h5 h6 h7
 unfold qB pC Cl.cut
 simp only
 rw [zM, show ([kd % 256] : List Int) = fB 1 kd from by simp [fB], pNum_mid 1 kd _ h1.1 (by omega)]
 simp only
 rw [zM, zM, show key.length - m = (key.drop m).length from by rw [zK], pT_mid _ _ (by rw [zK]; omega)]
 simp only
 by_cases e : kd = 1
 ·rw [if_pos e, if_pos e, zM, pT_mid _ _ (by omega)]
  simp only
  obtain ⟨rfl, rfl⟩ := h6 e
  rfl
 ·have e4 : pg % 18446744073709551616 = pg := by omega
  have e5 : ct % 18446744073709551616 = ct := by omega
  rw [if_neg e, if_neg e, zM, e4, e5, pU_mid pg _ h4.1 (by omega)]
  simp only
  rw [pU_mid ct _ h5.1 (by omega)]
  simp only
  have e6 : RowKit.wrap64 pg = pg := by unfold RowKit.wrap64; omega
  have e7 : RowKit.wrap64 ct = ct := by unfold RowKit.wrap64; omega
  rw [h7 e, e6, e7]
end Go.Proofs.YtofafbmpbkjhnaaGreatDoor
