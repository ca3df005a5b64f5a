/- Pages of the packed kind: plain mathematics: what keys share, and what it saves. -/
import Derived.Test.YtaicpmlcklkjgaaGreatDoorJ22
import Derived.Test.YtaicpmlcklkjgaaGreatDoorJ20
import Derived.Test.YtaicpmlcklkjgaaGreatDoorJ08
import Derived.Test.YtaicpmlcklkjgaaGreatDoorJ28
import Derived.Shelf.Strconv.Itoa0
import Derived.Shelf.Bytes.SlSearch0
import Derived.Shelf.Bytes.Small
import Derived.Test.YtaicpmlcklkjgaaGreatDoorProg
import Derived.Test.YtaicpmlcklkjgaaGreatDoorJ19
import Derived.Test.YtaicpmlcklkjgaaGreatDoorJ21
import Derived.Test.YtaicpmlcklkjgaaGreatDoorJ09
import Derived.Deep.MidRow
import Derived.Deep.Upon
import Derived.Laws.IdiomCopy
import Derived.Lib.SlBytesConst
namespace Go.Proofs.YtaicpmlcklkjgaaGreatDoor

set_option maxRecDepth 100000 in
theorem lcp_take_eq : ∀ (a b : List Int), a.take (lcp a b) = b.take (lcp a b)
  | [], _ => by simp [lcp]
  | _ :: _, [] => by simp [lcp]
  | x :: a, y :: b => by
    simp only [lcp]
    split
    · next h => subst h; simp [lcp_take_eq a b]
    · simp
/-- How much of a all the keys begin with. -/
def shn (a : List Int) : List Cl → Nat
  | [] => a.length
  | d :: r => min (lcp a d.key) (shn a r)
set_option maxRecDepth 100000 in
theorem shn_le (a : List Int) : ∀ (r : List Cl), shn a r ≤ a.length
  | [] => Nat.le_refl _
  | d :: r => by have := shn_le a r; unfold shn; omega
set_option maxRecDepth 100000 in
theorem shn_key (a : List Int) : ∀ (r : List Cl) (d : Cl), d ∈ r → shn a r ≤ d.key.length ∧ d.key.take (shn a r) = a.take (shn a r)
  | [], d, h => by cases h
  | e :: r, d, h => by
    have h1 := lcp_le a e.key
    have h2 := lcp_take_eq a e.key
    unfold shn
    rcases List.mem_cons.1 h with rfl | h
    · refine ⟨by omega, ?_⟩
      have e1 := congrArg (List.take (min (lcp a d.key) (shn a r))) h2
      rw [List.take_take, List.take_take, Nat.min_eq_left (by omega)] at e1
      exact e1.symm
    · have ih := shn_key a r d h
      refine ⟨by omega, ?_⟩
      have e1 := congrArg (List.take (min (lcp a e.key) (shn a r))) ih.2
      rw [List.take_take, List.take_take, Nat.min_eq_left (by omega)] at e1
      exact e1
/-- The cells whose keys share a prefix. -/
def ktl (k : Int) (cs : List Cl) : List Cl := if k = 3 then cs.tail else cs
def shr : List Cl → List Int
  | [] => []
  | c :: r => c.key.take (shn c.key r)
/-- What cells share. -/
def shP (k : Int) (cs : List Cl) : List Int := shr (ktl k cs)
/-- All of them begin so. -/
def Beg (k : Int) (P : List Int) (cs : List Cl) : Prop := ∀ c ∈ ktl k cs, c.key.take P.length = P
set_option maxRecDepth 100000 in
theorem shr_beg : ∀ (l : List Cl), ∀ c ∈ l, c.key.take (shr l).length = shr l
  | [], c, h => by cases h
  | d :: r, c, h => by
    have hl : (shr (d :: r)).length = shn d.key r := by
      have := shn_le d.key r
      unfold shr
      rw [List.length_take]
      omega
    rw [hl]
    rcases List.mem_cons.1 h with rfl | h
    · rfl
    · exact (shn_key d.key r c h).2
set_option maxRecDepth 100000 in
theorem shP_beg (k : Int) (cs : List Cl) : Beg k (shP k cs) cs := fun c hc => shr_beg _ c hc
/-- The cells' bytes; f: the first one's key stands whole. -/
def qbd (m : Nat) : Bool → List Cl → List Int
  | _, [] => []
  | f, c :: r => qB (if f then 0 else m) c ++ qbd m false r
/-- Where they begin, from b on. -/
def qst (m : Nat) : Bool → Nat → List Cl → List Nat
  | _, _, [] => []
  | f, b, c :: r => b :: qst m false (b + (qB (if f then 0 else m) c).length) r
/-- How many bytes they take with their slots. -/
def qsm (m : Nat) : Bool → List Cl → Nat
  | _, [] => 0
  | f, c :: r => qtk (if f then 0 else m) c + qsm m false r
/-- A branch's first key stands whole. -/
def whl (k : Int) : Bool := decide (k = 3)
/-- What a page of these cells takes with a prefix of m bytes. -/
def szQ (k : Int) (m : Nat) (cs : List Cl) : Nat := 10 + m + qsm m (whl k) cs
set_option maxRecDepth 100000 in
theorem qsm_eq (m : Nat) : ∀ (f : Bool) (cs : List Cl), qsm m f cs = 2 * cs.length + (qbd m f cs).length
  | _, [] => rfl
  | f, c :: r => by
    have h1 := qB_length (if f then 0 else m) c
    have h2 := qsm_eq m false r
    simp only [qsm, qbd, List.length_cons, List.length_append]
    omega
set_option maxRecDepth 100000 in
theorem qst_length (m : Nat) : ∀ (f : Bool) (b : Nat) (cs : List Cl), (qst m f b cs).length = cs.length
  | _, _, [] => rfl
  | f, b, c :: r => by simp [qst, qst_length m false _ r]
end Go.Proofs.YtaicpmlcklkjgaaGreatDoor

/- Pages of the packed kind: plain mathematics: the page's bytes, and how they are read. -/

namespace Go.Proofs.YtaicpmlcklkjgaaGreatDoor

/-- The page ahead of its sum, with the prefix P. -/
def pkL (k : Int) (n : Nat) (P : List Int) (cs : List Cl) : List Int := [k, 2] ++ (fB 2 cs.length ++ (fB 2 P.length ++ (P ++ (sloB (qst P.length (whl k) (6 + P.length + 2 * cs.length) cs) ++ (qbd P.length (whl k) cs ++ zs (n - szQ k P.length cs))))))
def pkH (k : Int) (n : Nat) (cs : List Cl) : List Int := pkL k n (shP k cs) cs
/-- The page. -/
def pkB (k : Int) (n : Nat) (cs : List Cl) : List Int := sealB (pkH k n cs)
set_option maxRecDepth 100000 in
theorem szQ_eq (k : Int) (m : Nat) (cs : List Cl) : szQ k m cs = 10 + m + 2 * cs.length + (qbd m (whl k) cs).length := by
  unfold szQ
  rw [qsm_eq]
  omega
set_option maxRecDepth 100000 in
theorem pkL_length (k : Int) (n : Nat) (P : List Int) (cs : List Cl) (h : szQ k P.length cs ≤ n) : (pkL k n P cs).length = n - 4 := by
  have := szQ_eq k P.length cs
  simp only [pkL, List.length_append, List.length_cons, List.length_nil, fB_length, sloB_length, qst_length, zs_length]
  omega
set_option maxRecDepth 100000 in
theorem pkB_length (k : Int) (n : Nat) (cs : List Cl) (h : szQ k (shP k cs).length cs ≤ n) : (pkB k n cs).length = n := by
  have := szQ_eq k (shP k cs).length cs
  rw [pkB, sealB_length, pkH, pkL_length k n _ cs h]
  omega
/-- Bytes as n cells that may be, with rising keys; what is left. -/
def partQ (k p : Int) (P : List Int) : Nat → Bool → Option (List Int) → List Int → Option (List Cl × List Int)
  | 0, _, _, l => some ([], l)
  | n + 1, f, pr, l =>
    match pC l with
    | none => none
    | some (d, r) =>
      if mayP k p (d.pre (if f then [] else P)) ∧ ahead pr (d.pre (if f then [] else P)).key then
        (partQ k p P n false (some (d.pre (if f then [] else P)).key) r).map fun x => (d.pre (if f then [] else P) :: x.1, x.2)
      else none
/-- All but the first begin with P; that one too, if f is not. -/
def BegF (P : List Int) : Bool → List Cl → Prop
  | _, [] => True
  | f, c :: r => (f = false → c.key.take P.length = P) ∧ BegF P false r
set_option maxRecDepth 100000 in
theorem begF_false (P : List Int) : ∀ (cs : List Cl), BegF P false cs ↔ ∀ c ∈ cs, c.key.take P.length = P
  | [] => by simp [BegF]
  | c :: r => by simp [BegF, begF_false P r]
set_option maxRecDepth 100000 in
theorem begF_iff (k : Int) (P : List Int) (cs : List Cl) : BegF P (whl k) cs ↔ Beg k P cs := by
  unfold Beg ktl whl
  by_cases hk : k = 3
  · simp only [hk, decide_true, if_true]
    cases cs with
    | nil => simp [BegF]
    | cons c r => simp [BegF, begF_false P r]
  · simp only [hk, decide_false, if_false]
    exact begF_false P cs
set_option maxRecDepth 100000 in
theorem Cl.cut_zero (c : Cl) : (c.cut 0).pre [] = c := by
  obtain ⟨key, kd, val, pg, ct⟩ := c
  simp [Cl.cut, Cl.pre]
set_option maxRecDepth 100000 in
theorem partQ_of {k p : Int} (hp : p ≤ 65536) (P z : List Int) : ∀ (cs : List Cl) (f : Bool) (pr : Option (List Int)), chk k p pr cs = 0 → BegF P f cs → partQ k p P cs.length f pr (qbd P.length f cs ++ z) = some (cs, z)
  | [], _, _, _, _ => rfl
  | c :: r, f, pr, h, hb => by
    unfold chk at h
    split at h
    · next h1 =>
      split at h
      · next h2 =>
        simp only [List.length_cons, partQ, qbd, List.append_assoc]
        rw [pC_mid _ c _ (h1.fit hp)]
        have e : (c.cut (if f then 0 else P.length)).pre (if f then [] else P) = c := by
          cases f with
          | true => exact c.cut_zero
          | false => exact c.cut_pre _ _ (hb.1 rfl)
        simp only [e, h1, h2, and_self, if_true]
        rw [partQ_of hp P z r false _ h hb.2]
        rfl
      · simp at h
    · simp at h
set_option maxRecDepth 100000 in
theorem qB_pre (P : List Int) (d : Cl) : qB P.length (d.pre P) = qB 0 d := by
  obtain ⟨key, kd, val, pg, ct⟩ := d
  unfold qB Cl.pre
  simp
/-- What the bytes b are, of cells. -/
structure IsQ (k : Int) (n : Nat) (cs : List Cl) (b : List Int) : Prop where
  kd : isKd k
  sz : pw n
  ok : chk k n none cs = 0
  fit : szQ k (shP k cs).length cs ≤ n
  eq : pkB k n cs = b
/-- Where the cells begin. -/
def frsQ (b : List Int) : Int := 6 + rdN b 4 2 + rdN b 2 2 * 2
/-- How bytes are read: the prefix, the cells. -/
def readQ (b : List Int) : Option (List Int × List Cl) :=
  if pw b.length ∧ isKd (b.getD 0 0) then
    (if (b.length : Int) - 4 < frsQ b then none else (partQ (b.getD 0 0) b.length ((b.drop 6).take (rdN b 4 2).toNat) (rdN b 2 2).toNat (whl (b.getD 0 0)) none ((b.drop (frsQ b).toNat).take (b.length - 4 - (frsQ b).toNat))).map fun x => ((b.drop 6).take (rdN b 4 2).toNat, x.1))
  else none
set_option maxRecDepth 100000 in
theorem pkB_split (k : Int) (n : Nat) (cs : List Cl) : ∃ U : List Int, U.length = 4 ∧ pkB k n cs = pkL k n (shP k cs) cs ++ U := ⟨_, fB_length 4 _, rfl⟩
set_option maxRecDepth 100000 in
theorem readQ_of {k : Int} {n : Nat} {cs : List Cl} {b : List Int} (h : IsQ k n cs b) : readQ b = some (shP k cs, cs) ∧ b.length = n ∧ b.getD 0 0 = k := by
  obtain ⟨h1, h2, h3, h4, h5⟩ := h
  have hp := pw_nat h2
  have hz := szQ_eq k (shP k cs).length cs
  have hlen : b.length = n := by rw [← h5, pkB_length k n cs h4]
  have hg : b.getD 0 0 = k := by rw [← h5]; rfl
  obtain ⟨U, hU, hsp⟩ := pkB_split k n cs
  rw [h5] at hsp
  have hbeg := shP_beg k cs
  generalize shP k cs = P at *
  obtain ⟨Z, hZ⟩ : ∃ Z, zs (n - szQ k P.length cs) = Z := ⟨_, rfl⟩
  obtain ⟨S, hS⟩ : ∃ S, sloB (qst P.length (whl k) (6 + P.length + 2 * cs.length) cs) = S := ⟨_, rfl⟩
  have hSl : S.length = 2 * cs.length := by rw [← hS, sloB_length, qst_length]
  unfold pkL at hsp
  rw [hZ, hS] at hsp
  simp only [List.append_assoc] at hsp
  have hZl : Z.length = n - szQ k P.length cs := by rw [← hZ, zs_length]
  have hr2 : rdN b 2 2 = (cs.length : Int) := by
    rw [hsp, rdN_mid [k, 2] (fB 2 cs.length) _ 2 2 rfl (fB_length _ _), fB_read 2 _ (by omega) (by omega)]
  have hr4 : rdN b 4 2 = (P.length : Int) := by
    rw [hsp, ← List.append_assoc [k, 2], rdN_mid ([k, 2] ++ fB 2 cs.length) (fB 2 P.length) _ 4 2 (by simp [fB_length]) (fB_length _ _), fB_read 2 _ (by omega) (by omega)]
  have hf : frsQ b = ((6 + P.length + 2 * cs.length : Nat) : Int) := by
    unfold frsQ
    rw [hr2, hr4]
    omega
  have hP6 : (b.drop 6).take P.length = P := by
    rw [hsp, ← List.append_assoc (fB 2 cs.length), ← List.append_assoc [k, 2], List.drop_left' (by simp [fB_length]), List.take_left]
  have hbody : (b.drop (6 + P.length + 2 * cs.length)).take (n - 4 - (6 + P.length + 2 * cs.length)) = qbd P.length (whl k) cs ++ Z := by
    have e : b = ([k, 2] ++ (fB 2 cs.length ++ (fB 2 P.length ++ (P ++ S)))) ++ ((qbd P.length (whl k) cs ++ Z) ++ U) := by
      rw [hsp]
      simp only [List.append_assoc]
    rw [e, List.drop_left' (by simp only [List.length_append, List.length_cons, List.length_nil, fB_length, hSl]; omega), List.take_left' (by rw [List.length_append, hZl]; omega)]
  refine ⟨?_, hlen, hg⟩
  unfold readQ
  rw [hg, hlen, hf, hr2, hr4, if_pos ⟨h2, h1⟩, if_neg (by omega)]
  simp only [Int.toNat_natCast]
  rw [hP6, hbody, partQ_of (by omega) P Z cs (whl k) none h3 ((begF_iff k P cs).2 hbeg)]
  rfl
set_option maxRecDepth 100000 in
theorem IsQ.at {k : Int} {n : Nat} {cs : List Cl} {b : List Int} (h : IsQ k n cs b) : IsQ (b.getD 0 0) b.length cs b := by
  obtain ⟨_, h2, h3⟩ := readQ_of h
  rw [h2, h3]
  exact h
set_option maxRecDepth 100000 in
theorem IsQ.one {k j : Int} {n m : Nat} {cs ds : List Cl} {b : List Int} (h : IsQ k n cs b) (g : IsQ j m ds b) : k = j ∧ n = m ∧ cs = ds := by
  obtain ⟨h1, h2, h3⟩ := readQ_of h
  obtain ⟨g1, g2, g3⟩ := readQ_of g
  have := Option.some.inj (h1.symm.trans g1)
  exact ⟨h3.symm.trans g3, h2.symm.trans g2, congrArg Prod.snd this⟩
end Go.Proofs.YtaicpmlcklkjgaaGreatDoor

/- packed: standsWhole, uintLen, textLen, tailLen. -/

namespace Go.Proofs.YtaicpmlcklkjgaaGreatDoor
open Go.RowKit

set_option maxRecDepth 100000 in
theorem standsWhole_any (k i : Int) (w : World) : Calls Tryz.prog 154 #[.int .i64 k, .int .i64 i] w fun e w' => e = .returned (.bool (decide (k = 3 ∧ i = 0))) ∧ w' = w := by
  by_cases h1 : k = 3
  · by_cases h2 : i = 0
    · subst h1 h2
      go_enter Tryz.func154, Tryz.ntmps154
      go_wp2
      go_ret
      exact ⟨rfl, rfl⟩
    · have d2 : (i == 0) = false := by simpa using h2
      subst h1
      go_enter Tryz.func154, Tryz.ntmps154
      go_wp2
      go_ret
      simp [h2]
  · have d1 : (k == 3) = false := by simpa using h1
    go_enter Tryz.func154, Tryz.ntmps154
    go_wp2
    go_ret
    simp [h1]
end Go.Proofs.YtaicpmlcklkjgaaGreatDoor

/- Rows of cells in memory (package packed). -/

namespace Go.Proofs.YtaicpmlcklkjgaaGreatDoor
open Go.RowKit

set_option maxRecDepth 100000 in
/-- A piece of a slice of cells. -/
theorem SlC.piece {w : World} {b off n cap : Nat} {cs : List Cl} (h : SlC w (some ⟨b, off, none⟩) n cap cs) (i k c : Nat) (hk : i + k ≤ n) (hc : k ≤ c) : SlC w (some ⟨b, off + i * 5, none⟩) k c ((cs.drop i).take k) := by
  have hl := h.hlen
  refine ⟨by rw [List.length_take, List.length_drop]; omega, hc, by have := h.hroom; omega, (by intro h; cases h), ?_⟩
  rcases h.hat with h0 | ⟨b', off', e, hb, hcs⟩
  · exact .inl (by omega)
  · injection e with e
    injection e with e1 e2
    subst e1 e2
    refine .inr ⟨b, off + i * 5, rfl, hb, fun j c hj => ?_⟩
    have hjl := (List.getElem?_eq_some_iff.1 hj).1
    rw [List.length_take, List.length_drop] at hjl
    rw [List.getElem?_take_of_lt (by omega), List.getElem?_drop] at hj
    have := hcs (i + j) c hj
    rwa [show off + (i + j) * 5 = off + i * 5 + j * 5 by omega] at this
end Go.Proofs.YtaicpmlcklkjgaaGreatDoor
