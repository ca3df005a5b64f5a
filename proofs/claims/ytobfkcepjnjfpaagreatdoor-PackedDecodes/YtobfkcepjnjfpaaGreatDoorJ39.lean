/- Layer 7: how a page is read cell by cell, in plain words. -/
import Derived.Test.YtobfkcepjnjfpaaGreatDoorJ35
import Derived.Test.YtobfkcepjnjfpaaGreatDoorJ10
import Derived.Test.YtobfkcepjnjfpaaGreatDoorJ23
import Derived.Test.YtobfkcepjnjfpaaGreatDoorJ29
namespace Go.Proofs.YtobfkcepjnjfpaaGreatDoor
open Go.RowKit

set_option maxRecDepth 100000 in
theorem mayP.gd {k : Int} {n : Nat} {c : Cl} (h : mayP k n c) (hn : n ≤ 65536) (m : Nat) : Gd7 (c.cut m) := by
  have hk := h.1
  have hd : (c.key.drop m).length ≤ c.key.length := by rw [List.length_drop]; omega
  unfold mayP leadsP nowhere at h
  obtain ⟨h1, h2⟩ := h
  unfold Cl.cut
  rcases h2 with ⟨_, h3, h4, h5, h6⟩ | ⟨_, _, ⟨h3, h4, h5⟩ | ⟨h3, h4, h5⟩ | ⟨h3, h4, h5⟩⟩
  · exact ⟨by simp only; omega, by simp only; omega, fun e => by simp only at e; omega, fun _ => ⟨h4, by simp only; omega, by simp only; omega, by simp only; omega, by simp only; omega⟩, by simp only; omega, by simp only [h4]; simp⟩
  · exact ⟨by simp only; omega, by simp only; omega, fun _ => ⟨by simp only; omega, by simp only; omega⟩, fun e => by simp only at e; omega, by simp only; omega, by simp only; omega⟩
  · exact ⟨by simp only; omega, by simp only; omega, fun e => by simp only at e; omega, fun _ => ⟨h4, by simp only; omega, by simp only; omega, by simp only; omega, by simp only; omega⟩, by simp only; omega, by simp only [h4]; simp⟩
  · exact ⟨by simp only; omega, by simp only; omega, fun e => by simp only at e; omega, fun _ => ⟨h4, by simp only; omega, by simp only; omega, by simp only; omega, by simp only; omega⟩, by simp only; omega, by simp only [h4]; simp⟩
set_option maxRecDepth 100000 in
theorem qB_cut (m : Nat) (c : Cl) : qB m c = qB 0 (c.cut m) := by
  unfold qB Cl.cut
  simp
set_option maxRecDepth 100000 in
theorem qB_inj {c d : Cl} {R S : List Int} (hc : Gd7 c) (hd : Gd7 d) (h : qB 0 c ++ R = qB 0 d ++ S) : c = d ∧ R = S := by
  rw [qB_split, qB_split] at h
  injection h with h0 h1
  have c1 := hc.k0
  have c2 := hc.k1
  have d1 := hd.k0
  have d2 := hd.k1
  have hk : c.kd = d.kd := by omega
  have l1 := hc.l1
  have l2 := hd.l1
  have l3 := hc.l2
  have l4 := hd.l2
  obtain ⟨e1, e2⟩ := uB_inj (by omega) (by omega) (by omega) (by omega) h1
  have hkl : c.key.length = d.key.length := by omega
  obtain ⟨e3, e4⟩ := List.append_inj e2 hkl
  obtain ⟨ck, ckd, cv, cp, cc⟩ := c
  obtain ⟨dk, dkd, dv, dp, dc⟩ := d
  simp only at hk e3 hkl l3 l4
  subst hk
  subst e3
  unfold qtl at e4
  simp only at e4
  by_cases h1 : ckd = 1
  · rw [if_pos h1, if_pos h1, List.append_assoc, List.append_assoc] at e4
    obtain ⟨e5, e6⟩ := uB_inj (by omega) (by omega) (by omega) (by omega) e4
    obtain ⟨e7, e8⟩ := List.append_inj e6 (by omega)
    have g1 := hc.v1 h1
    have g2 := hd.v1 h1
    simp only at g1 g2
    subst e7
    exact ⟨by rw [g1.1, g1.2, g2.1, g2.2], e8⟩
  · rw [if_neg h1, if_neg h1, List.append_assoc, List.append_assoc] at e4
    obtain ⟨e5, e6⟩ := uB_inj (by omega) (by omega) (by omega) (by omega) e4
    obtain ⟨e7, e8⟩ := uB_inj (by omega) (by omega) (by omega) (by omega) e6
    have g1 := hc.v2 h1
    have g2 := hd.v2 h1
    simp only at g1 g2
    obtain ⟨a1, a2, a3, a4, a5⟩ := g1
    obtain ⟨b1, b2, b3, b4, b5⟩ := g2
    subst a1
    subst b1
    have q1 : cp = dp := by omega
    have q2 : cc = dc := by omega
    subst q1
    subst q2
    exact ⟨rfl, e8⟩
set_option maxRecDepth 100000 in
theorem qbd_pre7 (m : Nat) : ∀ (cs : List Cl) (f : Bool) (j : Nat), ∃ X, qbd m f cs = qbd m f (cs.take j) ++ X
  | [], f, j => ⟨[], by simp [qbd]⟩
  | c :: r, f, 0 => ⟨qbd m f (c :: r), by simp [qbd]⟩
  | c :: r, f, j + 1 => by
    obtain ⟨X, hX⟩ := qbd_pre7 m r false j
    exact ⟨X, by simp only [qbd, List.take_succ_cons, List.append_assoc]; rw [hX]⟩
/-- Where the j-th cell begins. -/
def offQ (k : Int) (cs : List Cl) (j : Nat) : Nat := 6 + (shP k cs).length + 2 * cs.length + (qbd (shP k cs).length (whl k) (cs.take j)).length
/-- What of the j-th key stands not in its bytes. -/
def cutQ (k : Int) (cs : List Cl) (j : Nat) : Nat := if whl k = true ∧ j = 0 then 0 else (shP k cs).length
set_option maxRecDepth 100000 in
theorem qtk_six {m : Nat} {c : Cl} (h : c.kd ≠ 1 ∨ m < c.key.length) : 6 ≤ qtk m c := by
  unfold qtk tL
  have h1 := uB_length_pos ((c.key.length - m : Nat) : Int)
  have h2 := uB_length_pos (c.val.length : Int)
  have h3 := uB_length_pos (c.pg % 18446744073709551616)
  have h4 := uB_length_pos (c.ct % 18446744073709551616)
  split
  · rcases h with h | h
    · omega
    · omega
  · omega
set_option maxRecDepth 100000 in
theorem qtk_five (m : Nat) (c : Cl) : 5 ≤ qtk m c := by
  unfold qtk tL
  have h1 := uB_length_pos ((c.key.length - m : Nat) : Int)
  have h2 := uB_length_pos (c.val.length : Int)
  have h3 := uB_length_pos (c.pg % 18446744073709551616)
  have h4 := uB_length_pos (c.ct % 18446744073709551616)
  split <;> omega
set_option maxRecDepth 100000 in
theorem qsm_branch (m : Nat) : ∀ (cs : List Cl) (f : Bool), (∀ c ∈ cs, c.kd ≠ 1) → 6 * cs.length ≤ qsm m f cs
  | [], _, _ => by simp
  | c :: r, f, h => by
    have h1 := qsm_branch m r false (fun d hd => h d (by simp [hd]))
    have h2 := qtk_six (m := if f then 0 else m) (c := c) (.inl (h c (by simp)))
    simp only [qsm, List.length_cons]
    omega
set_option maxRecDepth 100000 in
theorem qsm_far (P : List Int) : ∀ (cs : List Cl), (∀ c ∈ cs, P.length < c.key.length) → 6 * cs.length ≤ qsm P.length false cs
  | [], _ => by simp
  | c :: r, h => by
    have h1 := qsm_far P r (fun d hd => h d (by simp [hd]))
    have h2 := qtk_six (m := P.length) (c := c) (.inr (h c (by simp)))
    simp only [qsm, List.length_cons, Bool.false_eq_true, if_false]
    omega
set_option maxRecDepth 100000 in
theorem kl_irr (a : List Int) : ¬ kl a a := by
  unfold kl
  rw [ordL_self]
  decide
set_option maxRecDepth 100000 in
theorem qsm_leaf (P : List Int) : ∀ (cs : List Cl), Rs cs → (∀ c ∈ cs, c.key.take P.length = P) → 6 * cs.length ≤ qsm P.length false cs + 1
  | [], _, _ => by simp
  | c :: r, hr, hb => by
    unfold Rs at hr
    have hp := List.pairwise_cons.1 hr
    have hl : P.length ≤ c.key.length := beg_len (hb c (by simp))
    by_cases e : P.length < c.key.length
    · have h1 := qsm_leaf P r hp.2 (fun d hd => hb d (by simp [hd]))
      have h2 := qtk_six (m := P.length) (c := c) (.inr e)
      simp only [qsm, List.length_cons, Bool.false_eq_true, if_false]
      omega
    · have hcP : c.key = P := by
        have := hb c (by simp)
        rwa [List.take_of_length_le (by omega)] at this
      have h1 := qsm_far P r (fun d hd => by
        have hdl : P.length ≤ d.key.length := beg_len (hb d (by simp [hd]))
        by_cases e2 : P.length < d.key.length
        · exact e2
        · exfalso
          have hdP : d.key = P := by
            have := hb d (by simp [hd])
            rwa [List.take_of_length_le (by omega)] at this
          have := hp.1 d hd
          rw [hcP, hdP] at this
          exact kl_irr _ this)
      have h2 := qtk_five P.length c
      simp only [qsm, List.length_cons, Bool.false_eq_true, if_false]
      omega
set_option maxRecDepth 100000 in
/-- A page, as it is read. -/
theorem IsQ.lay {k : Int} {n : Nat} {cs : List Cl} {b : List Int} (h : IsQ k n cs b) : b.length = n ∧ b.getD 0 0 = k ∧ rdN b 2 2 = (cs.length : Int) ∧ rdN b 4 2 = ((shP k cs).length : Int) ∧ (b.drop 6).take (shP k cs).length = shP k cs ∧ 6 + (shP k cs).length ≤ n ∧ cs.length ≤ n / 6 ∧ ∃ Z, b.drop (6 + (shP k cs).length + 2 * cs.length) = qbd (shP k cs).length (whl k) cs ++ Z := by
  have hchk := h.ok
  have hkd := h.kd
  obtain ⟨h1, h2, h3, h4, h5⟩ := h
  have hp := pw_nat h2
  have hz := szQ_eq k (shP k cs).length cs
  have hlen : b.length = n := by rw [← h5, pkB_length k n cs h4]
  have hg : b.getD 0 0 = k := by rw [← h5]; rfl
  obtain ⟨U, hU, hsp⟩ := pkB_split k n cs
  rw [h5] at hsp
  have hbeg := shP_beg k cs
  have h6 : cs.length ≤ n / 6 := by
    have hs : 6 * cs.length ≤ qsm (shP k cs).length (whl k) cs + 1 := by
      by_cases hk3 : k = 3
      · have := qsm_branch (shP k cs).length cs (whl k) (fun c hc => by
          have hm := chk_may hchk c hc
          unfold mayP at hm
          rcases hm.2 with ⟨_, h, _⟩ | ⟨h, _⟩
          · omega
          · exact absurd hk3 h)
        omega
      · have hw : whl k = false := by unfold whl; simpa using hk3
        rw [hw]
        refine qsm_leaf _ cs (chk_rs hchk) (fun c hc => hbeg c ?_)
        unfold ktl
        rw [if_neg hk3]
        exact hc
    unfold szQ at h4
    omega
  generalize shP k cs = P at *
  obtain ⟨Z, hZ⟩ : ∃ Z, zs (n - szQ k P.length cs) = Z := ⟨_, rfl⟩
  obtain ⟨S, hS⟩ : ∃ S, sloB (qst P.length (whl k) (6 + P.length + 2 * cs.length) cs) = S := ⟨_, rfl⟩
  have hSl : S.length = 2 * cs.length := by rw [← hS, sloB_length, qst_length]
  unfold pkL at hsp
  rw [hZ, hS] at hsp
  simp only [List.append_assoc] at hsp
  have hr2 : rdN b 2 2 = (cs.length : Int) := by
    rw [hsp, rdN_mid [k, 2] (fB 2 cs.length) _ 2 2 rfl (fB_length _ _), fB_read 2 _ (by omega) (by omega)]
  have hr4 : rdN b 4 2 = (P.length : Int) := by
    rw [hsp, ← List.append_assoc [k, 2], rdN_mid ([k, 2] ++ fB 2 cs.length) (fB 2 P.length) _ 4 2 (by simp [fB_length]) (fB_length _ _), fB_read 2 _ (by omega) (by omega)]
  have hP6 : (b.drop 6).take P.length = P := by
    rw [hsp, ← List.append_assoc (fB 2 cs.length), ← List.append_assoc [k, 2], List.drop_left' (by simp [fB_length]), List.take_left]
  refine ⟨hlen, hg, hr2, hr4, hP6, by omega, h6, Z ++ U, ?_⟩
  have e : b = ([k, 2] ++ (fB 2 cs.length ++ (fB 2 P.length ++ (P ++ S)))) ++ (qbd P.length (whl k) cs ++ (Z ++ U)) := by
    rw [hsp]
    simp only [List.append_assoc]
  rw [e, List.drop_left' (by simp only [List.length_append, List.length_cons, List.length_nil, fB_length, hSl]; omega)]
set_option maxRecDepth 100000 in
/-- The j-th cell of a page, as it is read. -/
theorem IsQ.cell {k : Int} {n : Nat} {cs : List Cl} {b : List Int} (h : IsQ k n cs b) {j : Nat} {c : Cl} (hc : cs[j]? = some c) : b.drop (offQ k cs j) = qB 0 (c.cut (cutQ k cs j)) ++ b.drop (offQ k cs (j + 1)) ∧ Gd7 (c.cut (cutQ k cs j)) ∧ offQ k cs (j + 1) ≤ n ∧ c.key.take (cutQ k cs j) = (if k = 3 ∧ j = 0 then [] else shP k cs) := by
  obtain ⟨hlen, _, _, _, _, _, _, Z, hZ⟩ := h.lay
  have hn := (pw_nat h.sz).2
  have hm := chk_may h.ok c (List.mem_of_getElem? hc)
  obtain ⟨X, hX⟩ := qbd_pre7 (shP k cs).length cs (whl k) j
  obtain ⟨Y, hY⟩ := qbd_pre7 (shP k cs).length cs (whl k) (j + 1)
  have h1 := qbd_take1 (shP k cs).length cs (whl k) j c hc
  have d0 : b.drop (offQ k cs j) = X ++ Z := by
    unfold offQ
    rw [← List.drop_drop, hZ, hX, List.append_assoc, List.drop_left]
  have d1 : b.drop (offQ k cs (j + 1)) = Y ++ Z := by
    unfold offQ
    rw [← List.drop_drop, hZ, hY, List.append_assoc, List.drop_left]
  have hXY : X = qB (cutQ k cs j) c ++ Y := by
    rw [h1, List.append_assoc] at hY
    exact List.append_cancel_left (hX.symm.trans hY)
  refine ⟨?_, hm.gd hn _, ?_, ?_⟩
  · rw [d0, d1, hXY, qB_cut, List.append_assoc]
  · have hz := szQ_eq k (shP k cs).length cs
    have := h.fit
    have := qbd_take_le (shP k cs).length cs (whl k) (j + 1)
    unfold offQ
    omega
  · unfold cutQ
    by_cases hk : k = 3 ∧ j = 0
    · rw [if_pos hk, if_pos ⟨by unfold whl; simpa using hk.1, hk.2⟩, List.take_zero]
    · rw [if_neg hk, if_neg (fun e => hk ⟨by have := e.1; unfold whl at this; simpa using this, e.2⟩)]
      refine shP_beg k cs c ?_
      unfold ktl
      by_cases hk3 : k = 3
      · rw [if_pos hk3]
        have hj : j ≠ 0 := fun e => hk ⟨hk3, e⟩
        obtain ⟨i, rfl⟩ : ∃ i, j = i + 1 := ⟨j - 1, by omega⟩
        cases cs with
        | nil => simp at hc
        | cons d r => exact List.mem_of_getElem? (by simpa using hc)
      · rw [if_neg hk3]
        exact List.mem_of_getElem? hc
end Go.Proofs.YtobfkcepjnjfpaaGreatDoor
