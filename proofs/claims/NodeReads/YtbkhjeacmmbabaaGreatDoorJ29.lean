import Derived.Test.YtbkhjeacmmbabaaGreatDoorJ28
namespace Go.Proofs.YtbkhjeacmmbabaaGreatDoor
set_option maxRecDepth 100000
open Go.RowKit
def hdP (k : Int) (P : List Int) (j : Nat) : List Int := if k = 3 ∧ j = 0 then [] else P
theorem hdP_len (k : Int) (P : List Int) (j : Nat) : (hdP k P j).length = if k = 3 ∧ j = 0 then 0 else P.length := by
 unfold hdP
 split <;> rfl
theorem hdP_le (k : Int) (P : List Int) (j : Nat) : (hdP k P j).length ≤ P.length := by
 rw [hdP_len]
 split <;> omega
theorem hdP_wf {k : Int} {P : List Int} (h : Wf P) (j : Nat) : Wf (hdP k P j) := by
 unfold hdP
 split
 ·exact Wf.nil
 ·exact h
structure PwQ (k : Int) (n m : Nat) (P body : List Int) (cs : List Cl) (j p : Nat) : Prop where
 len : cs.length = j
 at_ : p = (qbd P.length (whl k) cs).length
 eq : zba k n P m (whl k) none body = (zba k n P (m - j) (whl k && decide (j = 0)) (prv cs) (body.drop p)).map fun x => (cs ++ x.1, x.2)
theorem PwQ.start (k : Int) (n m : Nat) (P body : List Int) : PwQ k n m P body [] 0 0 := ⟨rfl, rfl, by simp [prv]⟩
theorem whl_hd (k : Int) (P : List Int) (j : Nat) : (if (whl k && decide (j = 0)) = true then [] else P) = hdP k P j := by
 unfold hdP whl
 simp
theorem PwQ.fail {k : Int} {n m : Nat} {P body : List Int} {cs : List Cl} {j p : Nat} (h : PwQ k n m P body cs j p) (hj : j < m) (hp : pC (body.drop p) = none) : zba k n P m (whl k) none body = none := by
 rw [h.eq, show m - j = (m - j - 1) + 1 by omega, zba, hp]
 rfl
theorem PwQ.bad {k : Int} {n m : Nat} {P body : List Int} {cs : List Cl} {j p q : Nat} {d : Cl} (h : PwQ k n m P body cs j p) (hj : j < m) (hp : pC (body.drop p) = some (d, body.drop q)) (hc : ¬ (mayP k n (d.pre (hdP k P j)) ∧ zar (prv cs) (d.pre (hdP k P j)).key)) : zba k n P m (whl k) none body = none := by
 rw [h.eq, show m - j = (m - j - 1) + 1 by omega, zba, hp]
 simp only [whl_hd]
 rw [if_neg hc]
 rfl
theorem PwQ.next {k : Int} {n m : Nat} {P body : List Int} {cs : List Cl} {j p q : Nat} {d : Cl} (h : PwQ k n m P body cs j p) (hw : Wf body) (hj : j < m) (hq : q ≤ body.length) (hpl : p ≤ body.length) (hp : pC (body.drop p) = some (d, body.drop q)) (hc : mayP k n (d.pre (hdP k P j)) ∧ zar (prv cs) (d.pre (hdP k P j)).key) :
  PwQ k n m P body (cs ++ [d.pre (hdP k P j)]) (j + 1) q ∧ qst P.length (whl k) 0 (cs ++ [d.pre (hdP k P j)]) = qst P.length (whl k) 0 cs ++ [p] := by
 have hi := (pC_inv (hw.drop p) hp).1
 have hl := congrArg List.length hi
 rw [zG, zK, zK] at hl
 have ha := h.at_
 have hb : qB (cutn P.length (whl k) cs) (d.pre (hdP k P j)) = qB 0 d := by
  have hn : cs = [] ↔ j = 0 := by rw [← h.len]; exact List.length_eq_zero_iff.symm
  unfold cutn hdP whl
  by_cases e : k = 3 ∧ j = 0
  ·rw [if_pos (by simp [hn, e]), if_pos e]
   obtain ⟨key, kd, val, pg, ct⟩ := d
   simp [Cl.pre]
  ·rw [if_neg (by simpa [hn] using e), if_neg e]
   exact qB_pre P d
 refine ⟨⟨by simp [h.len], ?_, ?_⟩, ?_⟩
 ·rw [qbd_snoc, zG, ← ha, hb]
  omega
 ·rw [h.eq, show m - j = (m - (j + 1)) + 1 by omega, zba, hp]
  simp only [whl_hd]
  rw [if_pos hc, show prv (cs ++ [d.pre (hdP k P j)]) = some (d.pre (hdP k P j)).key from by simp [prv]]
  simp only [Nat.add_one_ne_zero, decide_false, Bool.and_false]
  cases zba k (n : Int) P (m - (j + 1)) false (some (d.pre (hdP k P j)).key) (body.drop q) <;> simp
 ·rw [qst_snoc, Nat.zero_add, ← ha]
theorem PwQ.done {k : Int} {n m : Nat} {P body : List Int} {cs : List Cl} {p : Nat} (h : PwQ k n m P body cs m p) : zba k n P m (whl k) none body = some (cs, body.drop p) := by
 have he := h.eq
 rw [Nat.sub_self, zba] at he
 simpa using he
theorem OwnB.take {w : World} {B : Nat} {ao : Option Addr} {n cap : Nat} {l : List Int} (h : OwnB w B (.slice ao n cap) l) (k : Nat) (hk : k ≤ n) : OwnB w B (.slice ao k cap) (l.take k) := by
 unfold OwnB at *
 obtain ⟨h1, h2⟩ := h
 refine ⟨by simp [By], ?_⟩
 rcases h2 with ⟨e, hl⟩ | ⟨g, c, cur, e, hg, hh, hnc, hm, hs, ht⟩
 ·injection e with e1 e2 e3
  subst e1 e2 e3
  obtain rfl : k = 0 := by omega
  exact .inl ⟨rfl, by simp⟩
 ·injection e with e1 e2 e3
  subst e1 e2 e3
  have hkl : (l.take k).length = k := by rw [zJ]; omega
  refine .inr ⟨g, cap, cur, by rw [hkl], hg, hh, by rw [hkl]; omega, hm, hs, ?_⟩
  have := congrArg (List.take k) ht
  rw [hkl]
  simpa [By, List.take_take, List.map_take, Nat.min_eq_left hk] using this
end Go.Proofs.YtbkhjeacmmbabaaGreatDoor
