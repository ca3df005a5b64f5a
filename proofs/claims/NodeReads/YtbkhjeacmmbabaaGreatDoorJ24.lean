import Derived.Test.YtbkhjeacmmbabaaGreatDoorJ23
import Derived.Shelf.Strconv.Itoa0
import Derived.Shelf.Bytes.SlSearch0
import Derived.Shelf.Bytes.Small
import Derived.Test.YtbkhjeacmmbabaaGreatDoorProg
import Derived.Deep.MidRow
import Derived.Deep.Upon
import Derived.Laws.IdiomCopy
import Derived.Lib.SlBytesConst
namespace Go.Proofs.YtbkhjeacmmbabaaGreatDoor
set_option maxRecDepth 100000
theorem lcp_self : ∀ (a : List Int), lcp a a = a.length
 | [] => rfl
 | x :: a => by simp [lcp, lcp_self a]
theorem lcp_take_eq : ∀ (a b : List Int), a.take (lcp a b) = b.take (lcp a b)
 | [], _ => by simp [lcp]
 | _ :: _, [] => by simp [lcp]
 | x :: a, y :: b => by
  simp only [lcp]
  split
  ·next h => subst h; simp [lcp_take_eq a b]
  ·simp
theorem lcp_between : ∀ (a b c : List Int), kl a b → kl b c → lcp a c ≤ lcp a b
 | [], _, _, _, _ => by simp [lcp]
 | _ :: _, [], _, h, _ => by simp [kl, ordL] at h
 | _ :: _, _ :: _, [], _, h => by simp [kl, ordL] at h
 | x :: a, y :: b, z :: c, h, g => by
  have ih := lcp_between a b c
  unfold kl at *
  simp only [ordL, lcp] at *
  by_cases e : x = z
  ·subst e
   by_cases h1 : x < y
   ·have : ¬ y < x := zq
    rw [if_neg this, if_pos h1] at g
    cases g
   ·rw [if_neg h1] at h
    by_cases h2 : y < x
    ·rw [if_pos h2] at h
     cases h
    ·obtain rfl : x = y := zq
     simp only [if_true]
     rw [if_neg h1, if_neg h2] at g
     rw [if_neg h2] at h
     have := ih h g
     omega
  ·rw [if_neg e]
   omega
def shn (a : List Int) : List Cl → Nat
 | [] => a.length
 | d :: r => min (lcp a d.key) (shn a r)
theorem shn_le (a : List Int) : ∀ (r : List Cl), shn a r ≤ a.length
 | [] => Lr
 | d :: r => by have := shn_le a r; unfold shn; omega
theorem shn_key (a : List Int) : ∀ (r : List Cl) (d : Cl), d ∈ r → shn a r ≤ d.key.length ∧ d.key.take (shn a r) = a.take (shn a r)
 | [], d, h => by cases h
 | e :: r, d, h => by
  have h1 := lcp_le a e.key
  have h2 := lcp_take_eq a e.key
  unfold shn
  rcases List.mem_cons.1 h with rfl | h
  ·refine ⟨zq, ?_⟩
   have e1 := congrArg (List.take (min (lcp a d.key) (shn a r))) h2
   rw [List.take_take, List.take_take, Nat.min_eq_left zq] at e1
   exact e1.symm
  ·have ih := shn_key a r d h
   refine ⟨zq, ?_⟩
   have e1 := congrArg (List.take (min (lcp a e.key) (shn a r))) ih.2
   rw [List.take_take, List.take_take, Nat.min_eq_left zq] at e1
   exact e1
theorem shn_most (a P : List Int) (ha : a.take P.length = P) : ∀ (r : List Cl), (∀ d ∈ r, d.key.take P.length = P) → P.length ≤ shn a r
 | [], _ => by
  unfold shn
  have := congrArg List.length ha
  rw [zJ] at this
  omega
 | d :: r, h => by
  have ih := shn_most a P ha r fun e he => h e (by simp [he])
  have hd := h d zv
  unfold shn
  have l1 := congrArg List.length ha
  have l2 := congrArg List.length hd
  rw [zJ] at l1 l2
  have key : P.length ≤ lcp a d.key := by
   rcases Nat.lt_or_ge (lcp a d.key) P.length with A | B
   ·exfalso
    have hn := lcp_next a d.key zq zq
    apply hn
    have e : a.take P.length = d.key.take P.length := by rw [ha, hd]
    have e2 := congrArg (fun l => List.getD l (lcp a d.key) 0) e
    simp only [List.getD_eq_getElem?_getD] at e2 ⊢
    rwa [List.getElem?_take_of_lt A, List.getElem?_take_of_lt A] at e2
   ·exact B
  omega
theorem shn_last (a : List Int) : ∀ (r : List Cl) (z : Cl), r.getLast? = some z → (∀ d ∈ r, kl a d.key) → Rs r → shn a r = lcp a z.key
 | [], z, h, _, _ => by simp at h
 | [d], z, h, _, _ => by
  simp at h
  subst h
  have := (lcp_le a d.key).1
  unfold shn shn
  omega
 | d :: e :: r, z, h, ha, hr => by
  unfold Rs at hr
  rw [List.pairwise_cons] at hr
  have hz : (e :: r).getLast? = some z := by simpa using h
  have ih := shn_last a (e :: r) z hz (fun x hx => ha x (by simp [List.mem_cons.1 hx])) hr.2
  have A : z ∈ e :: r := List.mem_of_getLast? hz
  have := lcp_between a d.key z.key (ha d zv) (hr.1 z A)
  rw [shn, ih]
  omega
def ktl (k : Int) (cs : List Cl) : List Cl := if k = 3 then cs.tail else cs
def shr : List Cl → List Int
 | [] => []
 | c :: r => c.key.take (shn c.key r)
def shP (k : Int) (cs : List Cl) : List Int := shr (ktl k cs)
def Beg (k : Int) (P : List Int) (cs : List Cl) : Prop := ∀ c ∈ ktl k cs, c.key.take P.length = P
theorem shr_beg : ∀ (l : List Cl), ∀ c ∈ l, c.key.take (shr l).length = shr l
 | [], c, h => by cases h
 | d :: r, c, h => by
  have hl : (shr (d :: r)).length = shn d.key r := by
   have := shn_le d.key r
   unfold shr
   rw [zJ]
   omega
  rw [hl]
  rcases List.mem_cons.1 h with rfl | h
  ·rfl
  ·exact (shn_key d.key r c h).2
theorem zby (k : Int) (cs : List Cl) : Beg k (shP k cs) cs := fun c hc => shr_beg _ c hc
theorem shP_most {k : Int} {P : List Int} {cs : List Cl} (h : Beg k P cs) (hn : ktl k cs ≠ []) : P.length ≤ (shP k cs).length := by
 unfold Beg at h
 unfold shP
 cases hk : ktl k cs with
 | nil => exact absurd hk hn
 | cons c r =>
  rw [hk] at h
  have := shn_most c.key P (h c zv) r fun d hd => h d (by simp [hd])
  have h2 := shn_le c.key r
  unfold shr
  rw [zJ]
  omega
theorem shP_nil {k : Int} {cs : List Cl} (h : ktl k cs = []) : shP k cs = [] := by unfold shP; rw [h]; rfl
theorem uBf_mono (f : Nat) : ∀ a b : Int, 0 ≤ a → a ≤ b → (uBf f a).length ≤ (uBf f b).length := by
 induction f with
 | zero => intro a b _ _; simp [uBf]
 | succ f ih =>
  intro a b h0 h
  rw [uBf, uBf]
  by_cases h1 : a < 128
  ·rw [if_pos h1]
   split
   ·simp
   ·have := (uBf_length f (b / 128)).2
    simp only [List.length_cons, List.length_nil]
    omega
  ·rw [if_neg h1, if_neg zq]
   have := ih (a / 128) (b / 128) zq zq
   simp only [List.length_cons]
   omega
theorem tL_less (x d : Nat) (h : d ≤ x) : tL (x - d) + d ≤ tL x := by
 unfold tL
 have := uBf_mono 9 ((x - d : Nat) : Int) (x : Int) zq zq
 unfold uB
 omega
theorem qtk_less (m m' : Nat) (c : Cl) (h : m ≤ m') (hm : m' ≤ c.key.length) : qtk m' c + (m' - m) ≤ qtk m c := by
 have := tL_less (c.key.length - m) (m' - m) zq
 rw [show c.key.length - m - (m' - m) = c.key.length - m' by omega] at this
 unfold qtk
 omega
def qbd (m : Nat) : Bool → List Cl → List Int
 | _, [] => []
 | f, c :: r => qB (if f then 0 else m) c ++ qbd m false r
def qst (m : Nat) : Bool → Nat → List Cl → List Nat
 | _, _, [] => []
 | f, b, c :: r => b :: qst m false (b + (qB (if f then 0 else m) c).length) r
def qsm (m : Nat) : Bool → List Cl → Nat
 | _, [] => 0
 | f, c :: r => qtk (if f then 0 else m) c + qsm m false r
def whl (k : Int) : Bool := decide (k = 3)
def szQ (k : Int) (m : Nat) (cs : List Cl) : Nat := 10 + m + qsm m (whl k) cs
theorem qsm_eq (m : Nat) : ∀ (f : Bool) (cs : List Cl), qsm m f cs = 2 * cs.length + (qbd m f cs).length
 | _, [] => rfl
 | f, c :: r => by
  have h1 := qB_length (if f then 0 else m) c
  have h2 := qsm_eq m false r
  simp only [qsm, qbd, List.length_cons, zG]
  omega
theorem zbi (m : Nat) : ∀ (f : Bool) (b : Nat) (cs : List Cl), (qst m f b cs).length = cs.length
 | _, _, [] => rfl
 | f, b, c :: r => by simp [qst, zbi m false _ r]
theorem qst_shift (m : Nat) : ∀ (f : Bool) (a b : Nat) (cs : List Cl), qst m f (a + b) cs = (qst m f b cs).map (a + ·)
 | _, _, _, [] => rfl
 | f, a, b, c :: r => by
  simp only [qst, List.map_cons, List.cons.injEq, true_and]
  rw [Nat.add_assoc]
  exact qst_shift m false a _ r
theorem qsm_less (m m' : Nat) (h : m ≤ m') : ∀ (cs : List Cl), (∀ c ∈ cs, m' ≤ c.key.length) → qsm m' false cs + (m' - m) * cs.length ≤ qsm m false cs
 | [], _ => by simp [qsm]
 | c :: r, hc => by
  have h1 := qsm_less m m' h r fun d hd => hc d (by simp [hd])
  have h2 := qtk_less m m' c h (hc c zv)
  simp only [qsm, List.length_cons, Nat.mul_add, Nat.mul_one]
  simp only [Bool.false_eq_true, if_false]
  omega
theorem beg_len {P : List Int} {c : Cl} (h : c.key.take P.length = P) : P.length ≤ c.key.length := by
 have := congrArg List.length h
 rw [zJ] at this
 omega
theorem szQ_less {k : Int} {P : List Int} {cs : List Cl} (h : Beg k P cs) : szQ k (shP k cs).length cs ≤ szQ k P.length cs := by
 have hs := zby k cs
 by_cases hn : ktl k cs = []
 ·rw [shP_nil hn]
  unfold szQ ktl at *
  by_cases hk : k = 3
  ·rw [if_pos hk] at hn
   match cs, hn with
   | [], _ => simp [qsm]
   | [c], _ => simp [qsm, whl, hk]
  ·rw [if_neg hk] at hn
   subst hn
   simp [qsm]
 ·have hm := shP_most h hn
  have hc : ∀ c ∈ ktl k cs, (shP k cs).length ≤ c.key.length := fun c hc => beg_len (hs c hc)
  generalize (shP k cs).length = m' at *
  have hq := qsm_less P.length m' hm (ktl k cs) hc
  have h1 : 1 ≤ (ktl k cs).length := List.length_pos_iff.2 hn
  have h2 : m' - P.length ≤ (m' - P.length) * (ktl k cs).length := Nat.le_mul_of_pos_right _ h1
  unfold szQ ktl at *
  by_cases hk : k = 3
  ·rw [if_pos hk] at *
   match cs, hn with
   | c :: r, _ =>
    simp only [List.tail_cons] at hq h2
    simp only [qsm, whl, hk, decide_true, if_true]
    omega
  ·rw [if_neg hk] at *
   simp only [whl, hk, decide_false]
   omega
end Go.Proofs.YtbkhjeacmmbabaaGreatDoor
namespace Go.Proofs.YtbkhjeacmmbabaaGreatDoor
set_option maxRecDepth 100000
def pkL (k : Int) (n : Nat) (P : List Int) (cs : List Cl) : List Int := [k, 2] ++ (fB 2 cs.length ++ (fB 2 P.length ++ (P ++ (sloB (qst P.length (whl k) (6 + P.length + 2 * cs.length) cs) ++ (qbd P.length (whl k) cs ++ zs (n - szQ k P.length cs))))))
def pkH (k : Int) (n : Nat) (cs : List Cl) : List Int := pkL k n (shP k cs) cs
def pkB (k : Int) (n : Nat) (cs : List Cl) : List Int := sealB (pkH k n cs)
theorem zbj (k : Int) (m : Nat) (cs : List Cl) : szQ k m cs = 10 + m + 2 * cs.length + (qbd m (whl k) cs).length := by
 unfold szQ
 rw [qsm_eq]
 omega
theorem pkL_length (k : Int) (n : Nat) (P : List Int) (cs : List Cl) (h : szQ k P.length cs ≤ n) : (pkL k n P cs).length = n - 4 := by
 have := zbj k P.length cs
 simp only [pkL, zG, List.length_cons, List.length_nil, zah, zbl, zbi, zbc]
 omega
theorem pkB_length (k : Int) (n : Nat) (cs : List Cl) (h : szQ k (shP k cs).length cs ≤ n) : (pkB k n cs).length = n := by
 have := zbj k (shP k cs).length cs
 rw [pkB, sealB_length, pkH, pkL_length k n _ cs h]
 omega
theorem qbd_wf (m : Nat) : ∀ (f : Bool) (cs : List Cl), (∀ c ∈ cs, c.Wf ∧ c.fit) → Wf (qbd m f cs)
 | _, [], _ => Wf.nil
 | f, c :: r, h => by
  have hc := h c zv
  have h1 := hc.2.key
  have h2 := hc.2.val
  exact (qB_wf hc.1 zq zq).append (qbd_wf m false r fun d hd => h d (by simp [hd]))
theorem shr_wf : ∀ (l : List Cl), (∀ c ∈ l, c.Wf) → Wf (shr l)
 | [], _ => Wf.nil
 | c :: r, h => (h c zv).1.take _
theorem ktl_mem {k : Int} {cs : List Cl} {c : Cl} (h : c ∈ ktl k cs) : c ∈ cs := by
 unfold ktl at h
 split at h
 ·exact List.mem_of_mem_tail h
 ·exact h
theorem shP_wf {k : Int} {cs : List Cl} (h : ∀ c ∈ cs, c.Wf) : Wf (shP k cs) := shr_wf _ fun c hc => h c (ktl_mem hc)
theorem pkL_wf {k : Int} {n : Nat} {P : List Int} {cs : List Cl} (hk : 0 ≤ k ∧ k ≤ 255) (hP : Wf P) (h : ∀ c ∈ cs, c.Wf ∧ c.fit) : Wf (pkL k n P cs) :=
 Wf.append (Wf.cons hk (Wf.cons zq Wf.nil)) (Wf.append (zbb _ _) (Wf.append (zbb _ _) (Wf.append hP (Wf.append (sloB_wf _) (Wf.append (qbd_wf _ _ _ h) (zs_wf _))))))
theorem pkB_wf {k : Int} {n : Nat} {cs : List Cl} (hk : 0 ≤ k ∧ k ≤ 255) (h : ∀ c ∈ cs, c.Wf ∧ c.fit) : Wf (pkB k n cs) := sealB_wf (pkL_wf hk (shP_wf fun c hc => (h c hc).1) h)
def zay (k p : Int) (P : List Int) : Nat → Bool → Option (List Int) → List Int → Option (List Cl × List Int)
 | 0, _, _, l => some ([], l)
 | n + 1, f, pr, l =>
  match pC l with
  | none => none
  | some (d, r) =>
   if mayP k p (d.pre (if f then [] else P)) ∧ zap pr (d.pre (if f then [] else P)).key then
    (zay k p P n false (some (d.pre (if f then [] else P)).key) r).map fun x => (d.pre (if f then [] else P) :: x.1, x.2)
   else none
def BegF (P : List Int) : Bool → List Cl → Prop
 | _, [] => True
 | f, c :: r => (f = false → c.key.take P.length = P) ∧ BegF P false r
theorem begF_false (P : List Int) : ∀ (cs : List Cl), BegF P false cs ↔ ∀ c ∈ cs, c.key.take P.length = P
 | [] => by simp [BegF]
 | c :: r => by simp [BegF, begF_false P r]
theorem begF_iff (k : Int) (P : List Int) (cs : List Cl) : BegF P (whl k) cs ↔ Beg k P cs := by
 unfold Beg ktl whl
 by_cases hk : k = 3
 ·simp only [hk, decide_true, if_true]
  cases cs with
  | nil => simp [BegF]
  | cons c r => simp [BegF, begF_false P r]
 ·simp only [hk, decide_false, if_false]
  exact begF_false P cs
theorem Cl.cut_zero (c : Cl) : (c.cut 0).pre [] = c := by
 obtain ⟨key, kd, val, pg, ct⟩ := c
 simp [Cl.cut, Cl.pre]
theorem partQ_of {k p : Int} (hp : p ≤ 65536) (P z : List Int) : ∀ (cs : List Cl) (f : Bool) (pr : Option (List Int)), chk k p pr cs = 0 → BegF P f cs → zay k p P cs.length f pr (qbd P.length f cs ++ z) = some (cs, z)
 | [], _, _, _, _ => rfl
 | c :: r, f, pr, h, hb => by
  unfold chk at h
  split at h
  ·next h1 =>
   split at h
   ·next h2 =>
    simp only [List.length_cons, zay, qbd, zM]
    rw [pC_mid _ c _ (h1.fit hp)]
    have e : (c.cut (if f then 0 else P.length)).pre (if f then [] else P) = c := by
     cases f with
     | true => exact c.cut_zero
     | false => exact c.cut_pre _ _ (hb.1 rfl)
    simp only [e, h1, h2, and_self, if_true]
    rw [partQ_of hp P z r false _ h hb.2]
    rfl
   ·simp at h
  ·simp at h
theorem qB_pre (P : List Int) (d : Cl) : qB P.length (d.pre P) = qB 0 d := by
 obtain ⟨key, kd, val, pg, ct⟩ := d
 unfold qB Cl.pre
 simp
theorem partQ_inv {k p : Int} (P : List Int) (hP : Wf P) : ∀ (n : Nat) (f : Bool) (pr : Option (List Int)) (l r : List Int) (cs : List Cl), Wf l → zay k p P n f pr l = some (cs, r) → cs.length = n ∧ l = qbd P.length f cs ++ r ∧ chk k p pr cs = 0 ∧ (∀ c ∈ cs, c.Wf) ∧ BegF P f cs
 | 0, f, pr, l, r, cs, hw, h => by
  simp only [zay, Option.some.injEq, Prod.mk.injEq] at h
  obtain ⟨rfl, rfl⟩ := h
  exact ⟨rfl, rfl, rfl, (fun c hc => by cases hc), trivial⟩
 | n + 1, f, pr, l, r, cs, hw, h => by
  unfold zay at h
  split at h
  ·cases h
  ·next d r1 e =>
   obtain ⟨c, hc⟩ : ∃ c, d.pre (if f then [] else P) = c := ⟨_, rfl⟩
   rw [hc] at h
   split at h
   ·next hm =>
    obtain ⟨e1, e3, e4, _⟩ := pC_inv hw e
    cases hq : zay k p P n false (some c.key) r1 with
    | none => rw [hq] at h; cases h
    | some x =>
     obtain ⟨ds, r2⟩ := x
     rw [hq] at h
     simp only [Option.map_some, Option.some.injEq, Prod.mk.injEq] at h
     obtain ⟨rfl, rfl⟩ := h
     obtain ⟨f1, f2, f3, f4, f5⟩ := partQ_inv P hP n _ _ r1 _ ds e4 hq
     have A : qB (if f then 0 else P.length) c = qB 0 d := by
      rw [← hc]
      cases f with
      | true =>
       obtain ⟨key, kd, val, pg, ct⟩ := d
       simp [Cl.pre]
      | false => exact qB_pre P d
     have B : c.Wf := by
      rw [← hc]
      cases f with
      | true => exact e3
      | false => exact ⟨hP.append e3.1, e3.2⟩
     refine ⟨by simp [f1], ?_, ?_, ?_, ?_, f5⟩
     ·rw [qbd, A, zM, ← f2]
      exact e1
     ·rw [chk, if_pos hm.1, if_pos hm.2]; exact f3
     ·intro x hx
      rcases List.mem_cons.1 hx with e | e
      ·rw [e]; exact B
      ·exact f4 x e
     ·intro hf
      subst hf
      rw [← hc]
      simp [Cl.pre]
   ·cases h
structure IsQ (k : Int) (n : Nat) (cs : List Cl) (b : List Int) : Prop where
 kd : isKd k
 sz : pw n
 ok : chk k n none cs = 0
 fit : szQ k (shP k cs).length cs ≤ n
 eq : pkB k n cs = b
def frsQ (b : List Int) : Int := 6 + rdN b 4 2 + rdN b 2 2 * 2
def readQ (b : List Int) : Option (List Int × List Cl) :=
 if pw b.length ∧ isKd (b.getD 0 0) then
  (if (b.length : Int) - 4 < frsQ b then none else (zay (b.getD 0 0) b.length ((b.drop 6).take (rdN b 4 2).toNat) (rdN b 2 2).toNat (whl (b.getD 0 0)) none ((b.drop (frsQ b).toNat).take (b.length - 4 - (frsQ b).toNat))).map fun x => ((b.drop 6).take (rdN b 4 2).toNat, x.1))
 else none
theorem readQ_inv {b P : List Int} {cs : List Cl} (hw : Wf b) (h : readQ b = some (P, cs)) : isKd (b.getD 0 0) ∧ pw b.length ∧ chk (b.getD 0 0) b.length none cs = 0 ∧ szQ (b.getD 0 0) P.length cs ≤ b.length ∧ (∀ c ∈ cs, c.Wf) ∧ Beg (b.getD 0 0) P cs ∧ Wf P := by
 unfold readQ at h
 split at h
 ·next h1 =>
  split at h
  ·cases h
  ·next h2 =>
   have hn := (zbk b hw 2 2).1
   have hm := (zbk b hw 4 2).1
   have hp := zas h1.1
   cases hq : zay (b.getD 0 0) b.length ((b.drop 6).take (rdN b 4 2).toNat) (rdN b 2 2).toNat (whl (b.getD 0 0)) none ((b.drop (frsQ b).toNat).take (b.length - 4 - (frsQ b).toNat)) with
   | none => rw [hq] at h; cases h
   | some x =>
    obtain ⟨ds, r⟩ := x
    rw [hq] at h
    simp only [Option.map_some, Option.some.injEq, Prod.mk.injEq] at h
    obtain ⟨rfl, rfl⟩ := h
    have A : Wf ((b.drop 6).take (rdN b 4 2).toNat) := (hw.drop _).take _
    obtain ⟨e1, e2, e3, e4, e5⟩ := partQ_inv _ A _ _ _ _ _ _ ((hw.drop _).take _) hq
    have hl := congrArg List.length e2
    rw [zJ, zK, zG] at hl
    have B : ((b.drop 6).take (rdN b 4 2).toNat).length = (rdN b 4 2).toNat := by
     rw [zJ, zK]
     unfold frsQ at h2
     omega
    refine ⟨h1.2, h1.1, e3, ?_, e4, (begF_iff _ _ _).1 e5, A⟩
    rw [zbj]
    rw [B] at hl ⊢
    unfold frsQ at hl h2
    omega
 ·cases h
theorem pkB_split (k : Int) (n : Nat) (cs : List Cl) : ∃ U : List Int, U.length = 4 ∧ pkB k n cs = pkL k n (shP k cs) cs ++ U := ⟨_, zah 4 _, rfl⟩
theorem readQ_of {k : Int} {n : Nat} {cs : List Cl} {b : List Int} (h : IsQ k n cs b) : readQ b = some (shP k cs, cs) ∧ b.length = n ∧ b.getD 0 0 = k := by
 obtain ⟨h1, h2, h3, h4, h5⟩ := h
 have hp := zas h2
 have hz := zbj k (shP k cs).length cs
 have B : b.length = n := by rw [← h5, pkB_length k n cs h4]
 have hg : b.getD 0 0 = k := by rw [← h5]; rfl
 obtain ⟨U, hU, A⟩ := pkB_split k n cs
 rw [h5] at A
 have F := zby k cs
 generalize shP k cs = P at *
 obtain ⟨Z, hZ⟩ : ∃ Z, zs (n - szQ k P.length cs) = Z := ⟨_, rfl⟩
 obtain ⟨S, hS⟩ : ∃ S, sloB (qst P.length (whl k) (6 + P.length + 2 * cs.length) cs) = S := ⟨_, rfl⟩
 have G : S.length = 2 * cs.length := by rw [← hS, zbl, zbi]
 unfold pkL at A
 rw [hZ, hS] at A
 simp only [zM] at A
 have H : Z.length = n - szQ k P.length cs := by rw [← hZ, zbc]
 have D : rdN b 2 2 = (cs.length : Int) := by
  rw [A, zco [k, 2] (fB 2 cs.length) _ 2 2 rfl (zah _ _), zci 2 _ zq zq]
 have E : rdN b 4 2 = (P.length : Int) := by
  rw [A, ← zM [k, 2], zco ([k, 2] ++ fB 2 cs.length) (fB 2 P.length) _ 4 2 (by simp [zah]) (zah _ _), zci 2 _ zq zq]
 have hf : frsQ b = ((6 + P.length + 2 * cs.length : Nat) : Int) := by
  unfold frsQ
  rw [D, E]
  omega
 have I : (b.drop 6).take P.length = P := by
  rw [A, ← zM (fB 2 cs.length), ← zM [k, 2], List.drop_left' (by simp [zah]), List.take_left]
 have C : (b.drop (6 + P.length + 2 * cs.length)).take (n - 4 - (6 + P.length + 2 * cs.length)) = qbd P.length (whl k) cs ++ Z := by
  have e : b = ([k, 2] ++ (fB 2 cs.length ++ (fB 2 P.length ++ (P ++ S)))) ++ ((qbd P.length (whl k) cs ++ Z) ++ U) := by
   rw [A]
   simp only [zM]
  rw [e, List.drop_left' (by simp only [zG, List.length_cons, List.length_nil, zah, G]; omega), List.take_left' (by rw [zG, H]; omega)]
 refine ⟨?_, B, hg⟩
 unfold readQ
 rw [hg, B, hf, D, E, if_pos ⟨h2, h1⟩, if_neg zq]
 simp only [Int.toNat_natCast]
 rw [I, C, partQ_of zq P Z cs (whl k) none h3 ((begF_iff k P cs).2 F)]
 rfl
theorem isQ_iff {b : List Int} (hw : Wf b) (cs : List Cl) : IsQ (b.getD 0 0) b.length cs b ↔ (∃ P, readQ b = some (P, cs)) ∧ pkB (b.getD 0 0) b.length cs = b := by
 constructor
 ·intro h
  exact ⟨⟨_, (readQ_of h).1⟩, h.eq⟩
 ·rintro ⟨⟨P, h1⟩, h2⟩
  obtain ⟨a1, a2, a3, a4, _, a6, _⟩ := readQ_inv hw h1
  exact ⟨a1, a2, a3, zN (szQ_less a6) a4, h2⟩
theorem IsQ.one {k j : Int} {n m : Nat} {cs ds : List Cl} {b : List Int} (h : IsQ k n cs b) (g : IsQ j m ds b) : k = j ∧ n = m ∧ cs = ds := by
 obtain ⟨h1, h2, h3⟩ := readQ_of h
 obtain ⟨g1, g2, g3⟩ := readQ_of g
 have := Option.some.inj (h1.symm.trans g1)
 exact ⟨h3.symm.trans g3, h2.symm.trans g2, congrArg Prod.snd this⟩
end Go.Proofs.YtbkhjeacmmbabaaGreatDoor
namespace Go.Proofs.YtbkhjeacmmbabaaGreatDoor
set_option maxRecDepth 100000
open Go.RowKit
theorem zda (k i : Int) (w : World) : Calls Tryz.prog 82 #[.int .i64 k, .int .i64 i] w fun e w' => e = .returned (.bool (decide (k = 3 ∧ i = 0))) ∧ w' = w := by
 by_cases h1 : k = 3
 ·by_cases h2 : i = 0
  ·subst h1 h2
   go_enter Tryz.func82, Tryz.ntmps82
   go_wp2
   go_ret
   exact ⟨rfl, rfl⟩
  ·have d2 : (i == 0) = false := by simpa using h2
   subst h1
   go_enter Tryz.func82, Tryz.ntmps82
   go_wp2
   go_ret
   simp [h2]
 ·have d1 : (k == 3) = false := by simpa using h1
  go_enter Tryz.func82, Tryz.ntmps82
  go_wp2
  go_ret
  simp [h1]
def cmN : List (List Int) → Nat
 | [] => 0
 | t :: r => r.foldl (fun n x => lcp (t.take n) x) t.length
set_option maxHeartbeats 1000000 in
theorem common_any (ao : Option Addr) (n cap : Nat) (t : List Int) (ls : List (List Int)) (w : World) (hs : SlS w ao n cap (t :: ls)) :
  Calls Tryz.prog 123 #[.slice ao n cap] w fun e w' => e = .returned (.int .i64 (cmN (t :: ls))) ∧ ∃ q, w' = w.drewN q := by
 obtain ⟨B, O, L, P, I⟩ := hs
 obtain ⟨N, rfl⟩ : ∃ N, n = N + 1 := ⟨n - 1, by simp at B; omega⟩
 have D : ls.length = N := by simpa using B
 clear B
 rcases I with h | ⟨b, off, rfl, T, hc⟩
 ·omega
 obtain ⟨a0, m0, c0, H, A⟩ := hc 0 zq
 simp only [Nat.add_zero, List.getD_cons_zero] at H A
 have J := A.hlen
 have U := A.hroom
 have Q := A.hcap
 have K := zaa A
 have HC := zaa hc
 clear A hc
 show Calls Tryz.prog 123 #[.slice (some ⟨b, off, none⟩) (N + 1) cap] w fun e w' => e = .returned (.int .i64 ((ls.foldl (fun n x => lcp (t.take n) x) t.length : Nat) : Int)) ∧ ∃ q, w' = w.drewN q
 rw [J]
 generalize hF : ls.foldl (fun n x => lcp (t.take n) x) m0 = F
 have HF := zaa hF
 clear hF
 have V : ((N : Int) + 1 == 0) = false := by simp; omega
 by_cases M : cap = 1
 ·obtain rfl : N = 0 := zq
  obtain rfl : ls = [] := List.eq_nil_of_length_eq_zero D
  have e : m0 = F := HF.out
  subst e
  clear HF HC
  go_enter Tryz.func123, Tryz.ntmps123
  go_wp2_with fail
  refine wp_loop_rounds 1 ?_
  rw [rounds_succ]
  go_wp2
  go_ret
  exact ⟨rfl, 0, rfl⟩
 ·go_enter Tryz.func123, Tryz.ntmps123
  go_wp2_with fail
  go_loopw [3, 16] (fun v i wr => ∃ (k q y : Nat), k ≤ N ∧ y ≤ m0 ∧ i = .int .i64 k ∧ v = .int .i64 y ∧ Hid ((ls.drop k).foldl (fun n x => lcp (t.take n) x) y = F) ∧ wr = w.drewN q) (fun _ i _ => N - (intOf i).toNat)
  case atStart => exact ⟨0, 0, m0, zq, zq, rfl, rfl, HF, rfl⟩
  case round =>
   obtain ⟨k, q, y, hk, hy, rfl, rfl, HK, rfl⟩ := hrel
   clear HF
   by_cases W : k < N
   ·obtain ⟨a, m, c, E, G⟩ := HC.out (k + 1) zq
    have R : w.cell? ⟨b, off + 1 + k, none⟩ = some (.slice a m c) := by rw [show off + 1 + k = off + (k + 1) by omega]; exact E
    rw [show (t :: ls).getD (k + 1) [] = ls.getD k [] by simp [List.getD]] at G
    have e := HK.out
    rw [dropS ls k zq, List.foldl_cons] at e
    have X := (lcp_le (t.take y) (ls.getD k [])).1
    have Y : (t.take y).length ≤ y := by simp; omega
    have C := alike_any a0 a y m c0 c (t.take y) (ls.getD k []) (w.drewN q) ((K.out.take y hy).drewN q) (G.drewN q)
    generalize lcp (t.take y) (ls.getD k []) = y2 at *
    have HE := zaa e
    have HA := zaa C
    clear C e HK E
    go_wp2_with fail
    refine zcm HA.out ?_
    intro q2
    go_wp2
    go_roundw
    case rel => exact ⟨k + 1, _, y2, zq, zq, by go_num, rfl, HE, rfl⟩
    case measure => simp [intOf]; omega
   ·have e : y = F := by rw [← HK.out, List.drop_eq_nil_of_le zq]; rfl
    have HE := zaa e
    clear e HK
    go_wp2
    go_ret
    exact ⟨zbf (by rw [HE.out]), _, rfl⟩
theorem cmN_two (t x : List Int) : cmN [t, x] = lcp t x := by
 unfold cmN
 simp
theorem sls_two {w : World} {g : Nat} {a1 a2 : Option Addr} {n1 c1 n2 c2 : Nat} {l1 l2 : List Int} (hg : w.heap[g]? = some (.cells #[.slice a1 n1 c1, .slice a2 n2 c2] 22 (0, 0))) (h1 : Sl w a1 n1 c1 l1) (h2 : Sl w a2 n2 c2 l2) : SlS w (some ⟨g, 0, none⟩) 2 2 [l1, l2] := by
 refine ⟨rfl, Lr, zq, (by intro h; cases h), .inr ⟨g, 0, rfl, zaf hg, fun i hi => ?_⟩⟩
 have hi' : i = 0 ∨ i = 1 := zq
 rcases hi' with rfl | rfl
 ·exact ⟨a1, n1, c1, by rw [cell_of_row _ _ _ _ _ _ hg]; rfl, h1⟩
 ·exact ⟨a2, n2, c2, by rw [cell_of_row _ _ _ _ _ _ hg]; rfl, h2⟩
theorem qsm_take (m : Nat) : ∀ (cs : List Cl) (f : Bool) (j : Nat) (c : Cl), cs[j]? = some c → qsm m f (cs.take (j + 1)) = qsm m f (cs.take j) + qtk (if f = true ∧ j = 0 then 0 else m) c
 | [], f, j, c, h => by simp at h
 | d :: r, f, 0, c, h => by
  simp at h
  subst h
  simp [qsm]
 | d :: r, f, j + 1, c, h => by
  have ih := qsm_take m r false j c (by simpa using h)
  simp only [List.take_succ_cons, qsm]
  rw [ih]
  simp
  omega
theorem qsm_take_le (m : Nat) : ∀ (cs : List Cl) (f : Bool) (j : Nat), qsm m f (cs.take j) ≤ qsm m f cs
 | [], f, j => by simp
 | d :: r, f, 0 => by simp [qsm]
 | d :: r, f, j + 1 => by
  have ih := qsm_take_le m r false j
  simp only [List.take_succ_cons, qsm]
  omega
theorem mem_ktl {k : Int} {cs : List Cl} {j : Nat} {c : Cl} (h : cs[j]? = some c) (hw : ¬ (k = 3 ∧ j = 0)) : c ∈ ktl k cs := by
 unfold ktl
 by_cases hk : k = 3
 ·rw [if_pos hk]
  obtain ⟨i, rfl⟩ : ∃ i, j = i + 1 := ⟨j - 1, zq⟩
  match cs, h with
  | d :: r, h => exact List.mem_of_getElem? (by simpa using h)
 ·rw [if_neg hk]
  exact List.mem_of_getElem? h
end Go.Proofs.YtbkhjeacmmbabaaGreatDoor
