import Derived.Test.YtfgffajgfgifhaaGreatDoorJ33
namespace Go.Proofs.YtfgffajgfgifhaaGreatDoor
set_option maxRecDepth 100000
open Go.RowKit
theorem ordL_flip : ∀ (a b : List Int), ordL a b = - ordL b a
 | [], [] => rfl
 | [], _ :: _ => rfl
 | _ :: _, [] => rfl
 | x :: a, y :: b => by
  have ih := ordL_flip a b
  simp only [ordL]
  by_cases h1 : x < y
  ·have h2 : ¬ y < x := by omega
   rw [if_pos h1, if_neg h2, if_pos h1]
  ·by_cases h2 : y < x
   ·rw [if_neg h1, if_pos h2, if_pos h2]
    rfl
   ·rw [if_neg h1, if_neg h2, if_neg h2, if_neg h1]
    exact ih
def spl {α : Type} (l : List α) (i j : Nat) (x : α) : List α := l.take i ++ [x] ++ l.drop j
theorem zbq {α : Type} (l : List α) (i j : Nat) (x : α) (hi : i ≤ l.length) (q : Nat) : (spl l i j x)[q]? = if q < i then l[q]? else if q = i then some x else l[j + (q - i - 1)]? := by
 have hl : (l.take i).length = i := by rw [zJ]; omega
 unfold spl
 by_cases h1 : q < i
 ·rw [if_pos h1, zM, zL (by omega), List.getElem?_take_of_lt h1]
 ·rw [if_neg h1]
  by_cases h2 : q = i
  ·subst h2
   rw [if_pos rfl, zM, List.getElem?_append_right (by omega), hl, Nat.sub_self]
   rfl
  ·rw [if_neg h2, List.getElem?_append_right (by rw [zG, hl]; simp; omega), zG, hl, List.getElem?_drop]
   congr 1
theorem cut_get {α : Type} (l : List α) (i j : Nat) (hi : i ≤ l.length) (q : Nat) : (l.take i ++ l.drop j)[q]? = if q < i then l[q]? else l[j + (q - i)]? := by
 have hl : (l.take i).length = i := by rw [zJ]; omega
 by_cases h1 : q < i
 ·rw [if_pos h1, zL (by omega), List.getElem?_take_of_lt h1]
 ·rw [if_neg h1, List.getElem?_append_right (by omega), hl, List.getElem?_drop]
theorem zbx {α : Type} (l : List α) (i j : Nat) (x : α) (hi : i ≤ l.length) : (spl l i j x).length = i + 1 + (l.length - j) := by
 unfold spl
 simp
 omega
theorem spl_mem {α : Type} {l : List α} {i j : Nat} {x y : α} (h : y ∈ spl l i j x) : y = x ∨ y ∈ l.take i ∨ y ∈ l.drop j := by
 unfold spl at h
 rcases List.mem_append.1 h with h | h
 ·rcases List.mem_append.1 h with h | h
  ·exact .inr (.inl h)
  ·exact .inl (by simpa using h)
 ·exact .inr (.inr h)
theorem zbr {α : Type} {l : List α} {i j : Nat} {x y : α} (h : y ∈ spl l i j x) : y = x ∨ y ∈ l := by
 rcases spl_mem h with h | h | h
 ·exact .inl h
 ·exact .inr (List.mem_of_mem_take h)
 ·exact .inr (List.mem_of_mem_drop h)
def hdQ (k : Int) (i : Nat) (P : List Int) : List Int := if k = 3 ∧ i = 0 then [] else P
theorem hdQ_len (k : Int) (i : Nat) (P : List Int) : (if k = 3 ∧ i = 0 then 0 else P.length) = (hdQ k i P).length := by unfold hdQ; split <;> rfl
theorem LayQ.lt {k : Int} {P : List Int} {cs : List Cl} {body : List Int} {st : List Nat} (h : LayQ k P cs body st) {i : Nat} {c : Cl} (hi : cs[i]? = some c) : st.getD i 0 < body.length := by
 obtain ⟨r, hr⟩ := h.at_ i c hi
 have h1 := congrArg List.length hr
 rw [zK, zG] at h1
 have := qB_pos (if k = 3 ∧ i = 0 then 0 else P.length) c
 omega
theorem ktl_get {k : Int} {cs : List Cl} {c : Cl} (h : c ∈ ktl k cs) : ∃ j, cs[j]? = some c ∧ ¬ (k = 3 ∧ j = 0) := by
 unfold ktl at h
 by_cases hk : k = 3
 ·rw [if_pos hk] at h
  obtain ⟨j, hj⟩ := List.getElem?_of_mem h
  refine ⟨j + 1, ?_, by omega⟩
  rwa [List.getElem?_tail] at hj
 ·rw [if_neg hk] at h
  obtain ⟨j, hj⟩ := List.getElem?_of_mem h
  exact ⟨j, hj, by omega⟩
theorem beg_of {k : Int} {P : List Int} {cs : List Cl} (h : ∀ j c, cs[j]? = some c → ¬ (k = 3 ∧ j = 0) → c.key.take P.length = P) : Beg k P cs := fun c hc => by
 obtain ⟨j, h1, h2⟩ := ktl_get hc
 exact h j c h1 h2
theorem getD_of {l : List Nat} {i j : Nat} {m : List Nat} (h : l[i]? = m[j]?) : l.getD i 0 = m.getD j 0 := by
 rw [List.getD_eq_getElem?_getD, List.getD_eq_getElem?_getD, h]
theorem LayQ.put {k : Int} {P : List Int} {cs : List Cl} {body : List Int} {st : List Nat} (h : LayQ k P cs body st) {i j : Nat} (hij : j = i ∨ j = i + 1) (hj : j ≤ cs.length) (hk : j = i → ¬ (k = 3 ∧ i = 0)) {c : Cl} (hc : c.fit) (hb : c.key.take (hdQ k i P).length = hdQ k i P) :
  LayQ k P (spl cs i j c) (body ++ qB (hdQ k i P).length c) (spl st i j body.length) := by
 have hl := h.len
 have hi : i ≤ cs.length := by omega
 have hold : ∀ q d, cs[q]? = some d → ∃ r, (body ++ qB (hdQ k i P).length c).drop (st.getD q 0) = qB (if k = 3 ∧ q = 0 then 0 else P.length) d ++ r := by
  intro q d hd
  obtain ⟨r, hr⟩ := h.at_ q d hd
  have := h.lt hd
  refine ⟨r ++ qB (hdQ k i P).length c, ?_⟩
  rw [List.drop_append_of_le_length (by omega), hr, zM]
 refine ⟨?_, ?_, ?_, ?_⟩
 ·rw [zbx _ _ _ _ hi, zbx _ _ _ _ (by omega)]
  omega
 ·refine beg_of fun q d hd hq => ?_
  rw [zbq _ _ _ _ hi] at hd
  split at hd
  ·exact h.beg d (zaw hd hq)
  ·split at hd
   ·injection hd with hd
    subst hd
    unfold hdQ at hb
    rwa [if_neg (by omega)] at hb
   ·exact h.beg d (zaw hd (by omega))
 ·intro d hd
  rcases zbr hd with rfl | hd
  ·exact hc
  ·exact h.fit d hd
 ·intro q d hd
  rw [zbq _ _ _ _ hi] at hd
  have hg := zbq st i j body.length (by omega) q
  split at hd
  ·next h1 =>
   rw [if_pos h1] at hg
   rw [getD_of hg]
   exact hold q d hd
  ·next h1 =>
   rw [if_neg h1] at hg
   split at hd
   ·next h2 =>
    rw [if_pos h2] at hg
    injection hd with hd
    subst hd
    subst h2
    rw [List.getD_eq_getElem?_getD, hg, Option.getD_some, List.drop_left, hdQ_len]
    exact ⟨[], by simp⟩
   ·next h2 =>
    rw [if_neg h2] at hg
    rw [getD_of hg, if_neg (show ¬ (k = 3 ∧ q = 0) by omega)]
    obtain ⟨r, hr⟩ := hold _ d hd
    rw [if_neg (show ¬ (k = 3 ∧ j + (q - i - 1) = 0) by omega)] at hr
    exact ⟨r, hr⟩
theorem LayQ.rem {k : Int} {P : List Int} {cs : List Cl} {body : List Int} {st : List Nat} (h : LayQ k P cs body st) {i j : Nat} (hij : i + 1 = j) (hj : j ≤ cs.length) (hk : ¬ (k = 3 ∧ i = 0)) :
  LayQ k P (cs.take i ++ cs.drop j) body (st.take i ++ st.drop j) := by
 have hl := h.len
 have hi : i ≤ cs.length := by omega
 refine ⟨?_, ?_, ?_, ?_⟩
 ·simp
  omega
 ·refine beg_of fun q d hd hq => ?_
  rw [cut_get _ _ _ hi] at hd
  split at hd
  ·exact h.beg d (zaw hd hq)
  ·exact h.beg d (zaw hd (by omega))
 ·intro d hd
  rcases List.mem_append.1 hd with hd | hd
  ·exact h.fit d (List.mem_of_mem_take hd)
  ·exact h.fit d (List.mem_of_mem_drop hd)
 ·intro q d hd
  rw [cut_get _ _ _ hi] at hd
  have hg := cut_get st i j (by omega) q
  split at hd
  ·next h1 =>
   rw [if_pos h1] at hg
   rw [getD_of hg]
   exact h.at_ q d hd
  ·next h1 =>
   rw [if_neg h1] at hg
   rw [getD_of hg, if_neg (show ¬ (k = 3 ∧ q = 0) by omega)]
   obtain ⟨r, hr⟩ := h.at_ _ d hd
   rw [if_neg (show ¬ (k = 3 ∧ j + (q - i) = 0) by omega)] at hr
   exact ⟨r, hr⟩
def lvQ (k : Int) (P : List Int) (cs : List Cl) : Nat := (qbd P.length (whl k) cs).length
theorem qbd_app (m : Nat) : ∀ (f : Bool) (a b : List Cl), qbd m f (a ++ b) = qbd m f a ++ qbd m (f && a.isEmpty) b
 | f, [], b => by simp [qbd]
 | f, c :: a, b => by
  have ih := qbd_app m false a b
  simp only [Bool.false_and] at ih
  simp only [List.cons_append, qbd, ih, List.isEmpty_cons, Bool.and_false, zM]
theorem whl_at {k : Int} {cs : List Cl} {i : Nat} (hi : i ≤ cs.length) : (whl k && (cs.take i).isEmpty) = decide (k = 3 ∧ i = 0) := by
 unfold whl
 by_cases h : i = 0
 ·subst h
  simp
 ·have : (cs.take i).isEmpty = false := by
   rw [List.isEmpty_eq_false_iff]
   intro e
   have := congrArg List.length e
   rw [zJ, List.length_nil] at this
   omega
  simp [this, h]
theorem cut_dec (k : Int) (i : Nat) (P : List Int) : (if decide (k = 3 ∧ i = 0) = true then 0 else P.length) = (hdQ k i P).length := by
 unfold hdQ
 by_cases h : k = 3 ∧ i = 0
 ·rw [decide_eq_true h, if_pos rfl, if_pos h]; rfl
 ·rw [decide_eq_false h, if_neg (by decide), if_neg h]
theorem lvQ_ins (k : Int) (P : List Int) (cs : List Cl) (i : Nat) (c : Cl) (hi : i ≤ cs.length) (hk : ¬ (k = 3 ∧ i = 0)) : lvQ k P (spl cs i i c) = lvQ k P cs + (qB P.length c).length := by
 have h1 := qbd_app P.length (whl k) (cs.take i) (cs.drop i)
 rw [List.take_append_drop, whl_at hi, decide_eq_false hk] at h1
 unfold lvQ spl
 rw [h1, zM, qbd_app P.length (whl k) (cs.take i), whl_at hi, decide_eq_false hk]
 simp [qbd]
 omega
theorem lvQ_set (k : Int) (P : List Int) (cs : List Cl) (i j : Nat) (c d : Cl) (hij : i + 1 = j) (hd : cs[i]? = some d) : lvQ k P (spl cs i j c) + (qB (hdQ k i P).length d).length = lvQ k P cs + (qB (hdQ k i P).length c).length := by
 obtain ⟨hi, e⟩ := zH.1 hd
 have h1 := qbd_app P.length (whl k) (cs.take i) (cs.drop i)
 rw [List.take_append_drop, whl_at (by omega), List.drop_eq_getElem_cons hi, e, hij] at h1
 unfold lvQ spl
 rw [h1, zM, qbd_app P.length (whl k) (cs.take i), whl_at (by omega)]
 simp only [qbd, cut_dec, List.cons_append, List.nil_append, zG]
 omega
theorem lvQ_rem (k : Int) (P : List Int) (cs : List Cl) (i j : Nat) (d : Cl) (hij : i + 1 = j) (hd : cs[i]? = some d) (hk : ¬ (k = 3 ∧ i = 0)) : lvQ k P (cs.take i ++ cs.drop j) + (qB P.length d).length = lvQ k P cs := by
 obtain ⟨hi, e⟩ := zH.1 hd
 have h1 := qbd_app P.length (whl k) (cs.take i) (cs.drop i)
 rw [List.take_append_drop, whl_at (by omega), decide_eq_false hk, List.drop_eq_getElem_cons hi, e, hij] at h1
 unfold lvQ
 rw [h1, qbd_app P.length (whl k) (cs.take i), whl_at (by omega), decide_eq_false hk]
 simp only [qbd, zG, Bool.false_eq_true, if_false]
 omega
def zau (cs : List Cl) (i j : Nat) (c : Cl) : Prop := (∀ t d, i = t + 1 → cs[t]? = some d → ordL d.key c.key < 0) ∧ (∀ d, cs[j]? = some d → 0 < ordL d.key c.key)
theorem rs_spl {cs : List Cl} {i j : Nat} {c : Cl} (hr : Rs cs) (hij : i ≤ j) (hj : j ≤ cs.length) (ho : zau cs i j c) : Rs (spl cs i j c) := by
 have hlo : ∀ q d, q < i → cs[q]? = some d → kl d.key c.key := by
  intro q d hq hd
  obtain ⟨t, rfl⟩ : ∃ t, i = t + 1 := ⟨i - 1, by omega⟩
  obtain ⟨e, he⟩ : ∃ e, cs[t]? = some e := ⟨_, zI (by omega)⟩
  have h1 : kl e.key c.key := by
   have := ho.1 t e rfl he
   have h3 := zbt e.key c.key
   unfold kl
   omega
  by_cases e2 : q = t
  ·subst e2
   rw [he] at hd
   injection hd with hd
   subst hd
   exact h1
  ·exact zbp _ _ _ (rs_at hr (show q < t by omega) hd he) h1
 have hhi : ∀ q d, j ≤ q → cs[q]? = some d → kl c.key d.key := by
  intro q d hq hd
  have hql := (zH.1 hd).1
  obtain ⟨e, he⟩ : ∃ e, cs[j]? = some e := ⟨_, zI (by omega)⟩
  have h1 : kl c.key e.key := by
   have := ho.2 e he
   have h3 := zbt e.key c.key
   have h4 := ordL_flip c.key e.key
   unfold kl
   omega
  by_cases e2 : q = j
  ·subst e2
   rw [he] at hd
   injection hd with hd
   subst hd
   exact h1
  ·exact zbp _ _ _ h1 (rs_at hr (show j < q by omega) he hd)
 unfold Rs
 rw [List.pairwise_iff_getElem]
 intro p q hp hq hpq
 have gp := zbq cs i j c (by omega) p
 have gq := zbq cs i j c (by omega) q
 rw [zI hp] at gp
 rw [zI hq] at gq
 generalize (spl cs i j c)[p] = x at *
 generalize (spl cs i j c)[q] = y at *
 by_cases h1 : p < i
 ·rw [if_pos h1] at gp
  by_cases h2 : q < i
  ·rw [if_pos h2] at gq
   exact rs_at hr hpq gp.symm gq.symm
  ·rw [if_neg h2] at gq
   by_cases h3 : q = i
   ·rw [if_pos h3] at gq
    injection gq with gq
    subst gq
    exact hlo p x h1 gp.symm
   ·rw [if_neg h3] at gq
    exact rs_at hr (show p < j + (q - i - 1) by omega) gp.symm gq.symm
 ·rw [if_neg h1] at gp
  rw [if_neg (by omega), if_neg (by omega)] at gq
  by_cases h3 : p = i
  ·rw [if_pos h3] at gp
   injection gp with gp
   subst gp
   exact hhi _ y (by omega) gq.symm
  ·rw [if_neg h3] at gp
   exact rs_at hr (show j + (p - i - 1) < j + (q - i - 1) by omega) gp.symm gq.symm
theorem rs_cut {cs : List Cl} (i j : Nat) (hij : i ≤ j) (hr : Rs cs) : Rs (cs.take i ++ cs.drop j) := by
 unfold Rs at *
 refine List.Pairwise.sublist ?_ hr
 have h1 : cs.take i ++ cs.drop j = cs.take i ++ (cs.drop i).drop (j - i) := by rw [List.drop_drop]; congr 2; omega
 rw [h1]
 conv => rhs; rw [← List.take_append_drop i cs]
 exact List.Sublist.append (List.Sublist.refl _) (List.drop_sublist _ _)
structure Qs where
 P : List Int
 cs : List Cl
 ws : Nat
def filQ (k : Int) (s : Qs) : Nat := 10 + s.P.length + 2 * s.cs.length + s.ws + lvQ k s.P s.cs
theorem zca (k : Int) (s : Qs) : filQ k s = szQ k s.P.length s.cs + s.ws := by
 have := zal k s.P.length s.cs
 unfold filQ lvQ
 omega
def LayR (k : Int) (n : Nat) (s : Qs) (cs : List Cl) (code : Int) (t : Qs) : Prop :=
 (szQ k (shP k cs).length cs ≤ n ∧ code = 0 ∧ t = ⟨shP k cs, cs, 0⟩) ∨ (¬ szQ k (shP k cs).length cs ≤ n ∧ code = 61 ∧ t = s)
def inPl (k : Int) (n : Nat) (s : Qs) (i j : Nat) (c : Cl) : Prop := ¬ (j = i ∧ k = 3 ∧ i = 0) ∧ c.key.take (hdQ k i s.P).length = hdQ k i s.P ∧ filQ k s + (qB (hdQ k i s.P).length c).length + 2 * (i + 1 - j) ≤ n
def gone (k : Int) (s : Qs) (i j : Nat) : Nat := if j = i then 0 else match s.cs[i]? with
 | none => 0
 | some d => (qB (hdQ k i s.P).length d).length
def PutR (k : Int) (n : Nat) (s : Qs) (i j : Nat) (c : Cl) (code : Int) (t : Qs) : Prop :=
 (¬ mayP k n c ∧ code = 62 ∧ t = s) ∨ (mayP k n c ∧ ¬ zau s.cs i j c ∧ code = 63 ∧ t = s) ∨
 (mayP k n c ∧ zau s.cs i j c ∧ ((inPl k n s i j c ∧ code = 0 ∧ t = ⟨s.P, spl s.cs i j c, s.ws + gone k s i j⟩) ∨ (¬ inPl k n s i j c ∧ LayR k n s (spl s.cs i j c) code t)))
structure Qok (k : Int) (n : Nat) (s : Qs) : Prop where
 beg : Beg k s.P s.cs
 rs : Rs s.cs
 may : ∀ c ∈ s.cs, mayP k n c
 wf : ∀ c ∈ s.cs, c.Wf
 fit : filQ k s ≤ n
def Zk (K : Nat → Prop) (w w' : World) : Nat → Prop := fun b => K b ∨ (w.heap.size ≤ b ∧ b < w'.heap.size)
def OutK (K : Nat → Prop) (ao : Option Addr) (n : Nat) : Prop := n = 0 ∨ ∀ p, ao = some p → ¬ K p.block
theorem Nw.inz {B : Nat} {w : World} {po : Option Addr} {pn pc : Nat} {P : List Int} (h : Nw B po pn) (hs : Sl w po pn pc P) {K : Nat → Prop} {w0 : World} (hB : w0.heap.size = B := by rfl) : pn = 0 ∨ ∀ p, po = some p → Zk K w0 w p.block := by
 rcases h with h | h
 ·exact .inl h
 ·rcases hs.hat with h0 | ⟨b, off, e, hb, _⟩
  ·exact .inl h0
  ·refine .inr fun p hp => .inr ⟨hB ▸ h p hp, ?_⟩
   rw [e] at hp
   injection hp with hp
   rw [← hp]
   exact hb
structure PkA (w : World) (K : Nat → Prop) (a : Nat) (k : Int) (n : Nat) (s : Qs) (po : Option Addr) (pn pc : Nat) (bo : Option Addr) (bn bc : Nat) (so : Option Addr) (sn sc : Nat) (body : List Int) (st : List Nat) : Prop where
 pg : PO w 0 a k n po pn pc (.slice bo bn bc) (.slice so sn sc) (s.ws : Int) s.P body st
 lay : LayQ k s.P s.cs body st
 wf : Wf body
 far : Far po pn (.slice so sn sc)
 ok : Qok k n s
 sum : bn = s.ws + lvQ k s.P s.cs
 ka : K a
 kb : ∀ g, (Value.slice bo bn bc).ownBlock = some g → K g
 ks : ∀ g, (Value.slice so sn sc).ownBlock = some g → K g
 kp : pn = 0 ∨ ∀ p, po = some p → K p.block
 kl : ∀ b, K b → b < w.heap.size
def Pk (w : World) (K : Nat → Prop) (a : Nat) (k : Int) (n : Nat) (s : Qs) : Prop := ∃ po pn pc bo bn bc so sn sc body st, PkA w K a k n s po pn pc bo bn bc so sn sc body st
section
variable {w w' : World} {K : Nat → Prop} {a : Nat} {k : Int} {n : Nat} {s : Qs} {po : Option Addr} {pn pc : Nat} {bo : Option Addr} {bn bc : Nat} {so : Option Addr} {sn sc : Nat} {body : List Int} {st : List Nat}
theorem PkA.go (h : PkA w K a k n s po pn pc bo bn bc so sn sc body st) (hb : Below w.heap.size w w') : PkA w' K a k n s po pn pc bo bn bc so sn sc body st :=
 ⟨h.pg.go hb, h.lay, h.wf, h.far, h.ok, h.sum, h.ka, h.kb, h.ks, h.kp, fun b e => zO (h.kl b e) hb.size⟩
theorem PkA.wide {G : Nat → Prop} (h : PkA w K a k n s po pn pc bo bn bc so sn sc body st) (hg : ∀ b, K b → G b) (hl : ∀ b, G b → b < w.heap.size) : PkA w G a k n s po pn pc bo bn bc so sn sc body st :=
 ⟨h.pg, h.lay, h.wf, h.far, h.ok, h.sum, hg _ h.ka, fun g e => hg g (h.kb g e), fun g e => hg g (h.ks g e), h.kp.imp id fun f p e => hg _ (f p e), hl⟩
theorem PkA.lens (h : PkA w K a k n s po pn pc bo bn bc so sn sc body st) : s.P.length = pn ∧ body.length = bn ∧ st.length = sn ∧ s.cs.length = sn ∧ filQ k s = 10 + pn + 2 * sn + bn := by
 have h1 := h.pg.pre.hlen
 have h2 := h.pg.ob.len
 have h3 := h.pg.on.len
 have h4 := h.lay.len
 have h5 := h.sum
 unfold filQ
 omega
theorem PkA.pgq (h : PkA w K a k n s po pn pc bo bn bc so sn sc body st) (hn : n ≤ 65536) : PgQ w a k n po pn pc bo bn bc so sn sc (s.ws : Int) s.P body st := by
 have h1 := h.lens
 have h2 := h.ok.fit
 exact h.pg.pgq h.wf (by omega) (by omega)
theorem PkA.cfq (h : PkA w K a k n s po pn pc bo bn bc so sn sc body st) (hc : Cf (QZ a (.slice bo bn bc) (.slice so sn sc)) w w') : Cf K w w' := hc.wideQ (fun b e => by
 rcases e with rfl | e | e
 ·exact h.ka
 ·exact h.kb b e
 ·exact h.ks b e)
theorem PkA.cfa (h : PkA w K a k n s po pn pc bo bn bc so sn sc body st) (hc : Cf (· = a) w w') : Cf K w w' := hc.wideQ (fun _ e => by rw [e]; exact h.ka)
theorem PkA.cfb (h : PkA w K a k n s po pn pc bo bn bc so sn sc body st) (hc : Cf (fun b => (Value.slice bo bn bc).ownBlock = some b) w w') : Cf K w w' := hc.wideQ (fun b e => h.kb b e)
theorem PkA.out (h : PkA w K a k n s po pn pc bo bn bc so sn sc body st) {ao : Option Addr} {m : Nat} (ho : OutK K ao m) : Far ao m (.slice bo bn bc) := by
 rcases ho with h0 | h0
 ·exact .inl h0
 ·exact .inr fun p hp e => h0 p hp (h.kb _ e)
theorem Pk.go (h : Pk w K a k n s) (hb : Below w.heap.size w w') : Pk w' K a k n s := by
 obtain ⟨po, pn, pc, bo, bn, bc, so, sn, sc, body, st, h⟩ := h
 exact ⟨po, pn, pc, bo, bn, bc, so, sn, sc, body, st, h.go hb⟩
theorem Pk.wide {G : Nat → Prop} (h : Pk w K a k n s) (hg : ∀ b, K b → G b) (hl : ∀ b, G b → b < w.heap.size) : Pk w G a k n s := by
 obtain ⟨po, pn, pc, bo, bn, bc, so, sn, sc, body, st, h⟩ := h
 exact ⟨po, pn, pc, bo, bn, bc, so, sn, sc, body, st, h.wide hg hl⟩
theorem Pk.kl (h : Pk w K a k n s) : ∀ b, K b → b < w.heap.size := by
 obtain ⟨po, pn, pc, bo, bn, bc, so, sn, sc, body, st, h⟩ := h
 exact h.kl
theorem Zk.lt {w0 : World} (h : ∀ b, K b → b < w0.heap.size) (hs : w0.heap.size ≤ w'.heap.size) : ∀ b, Zk K w w' b → b < w'.heap.size := by
 rintro b (e | e)
 ·exact zO (h b e) hs
 ·exact e.2
theorem Pk.zk {w0 : World} (h : Pk w K a k n s) : Pk w (Zk K w0 w) a k n s := h.wide (fun _ e => .inl e) (Zk.lt h.kl Lr)
theorem Pk.ok (h : Pk w K a k n s) : Qok k n s := by
 obtain ⟨po, pn, pc, bo, bn, bc, so, sn, sc, body, st, h⟩ := h
 exact h.ok
end
theorem Lo.farN {w : World} {B G : Nat} {v : Value} {l : List Nat} {ao : Option Addr} {n : Nat} (h : Lo G ao n) (ho : OwnN w B v l) (hG : G ≤ B) : Far ao n v := by
 rcases h with h0 | h
 ·exact .inl h0
 ·right
  intro p hp e
  have h1 := h p hp
  unfold OwnN at ho
  have h2 := (ho.lt _ e).1
  omega
theorem LaidTo.po2 {k : Int} {n : Nat} {cs : List Cl} {w w' : World} {e : Ending} (h : LaidTo k n cs w e w') :
  ∃ b po pn pc bo bn bc so sn sc, e = .returned (.pointer (some ⟨b, 0, none⟩)) ∧ Hid (PO w' w.heap.size b k n po pn pc (.slice bo bn bc) (.slice so sn sc) 0 (shP k cs) (qbd (shP k cs).length (whl k) cs) (qst (shP k cs).length (whl k) 0 cs) ∧ Far po pn (.slice so sn sc) ∧ Nw w.heap.size po pn) ∧ Hid (Below w.heap.size w w') ∧ Hid (pn = (shP k cs).length ∧ bn = (qbd (shP k cs).length (whl k) cs).length ∧ sn = cs.length) := by
 obtain ⟨w1, a, po, pn, pc, vb, vs, rfl, HL, HP, HB, HNW⟩ := h
 have hb := HL.out.be
 obtain ⟨bo, bc, rfl⟩ := HL.out.ob.shape
 obtain ⟨so, sc, rfl⟩ := HL.out.on.shape
 have hz := HB.out.size
 refine ⟨a, po, pn, pc, bo, _, bc, so, _, sc, rfl, zaa ⟨⟨HL.out.row, HP.out.on Lr hb, HL.out.ob.low hz, ?_, HP.out.lo.far HL.out.ob Lr, zN hz HL.out.ha⟩, HP.out.lo.farN HL.out.on Lr, HNW.out⟩, zaa (zab HB.out Lr hb), zaa ⟨HP.out.hlen.symm, rfl, zar _ _ _ _⟩⟩
 have h6 := HL.out.on
 unfold OwnN at h6 ⊢
 rcases h6.2 with h8 | ⟨g, c, cur, e, hg, r⟩
 ·exact ⟨h6.1, .inl h8⟩
 ·exact ⟨h6.1, .inr ⟨g, c, cur, e, zN hz hg, r⟩⟩
def LayTo2 (a : Nat) (k : Int) (n : Nat) (cs : List Cl) (w : World) (e : Ending) (w' : World) : Prop :=
 e = .returned (.int .i64 0) ∧ Hid (Cf (· = a) w w') ∧ Hid (∃ po pn pc bo bn bc so sn sc, PO w' 0 a k n po pn pc (.slice bo bn bc) (.slice so sn sc) 0 (shP k cs) (qbd (shP k cs).length (whl k) cs) (qst (shP k cs).length (whl k) 0 cs) ∧ Far po pn (.slice so sn sc) ∧ (∀ g, (Value.slice bo bn bc).ownBlock = some g → w.heap.size ≤ g) ∧ (∀ g, (Value.slice so sn sc).ownBlock = some g → w.heap.size ≤ g) ∧ Nw w.heap.size po pn)
set_option maxHeartbeats 2000000 in
theorem lay_fit2 (w : World) (a : Nat) (k : Int) (n : Nat) (po : Option Addr) (pn pc : Nat) (bo : Option Addr) (bn bc : Nat) (so : Option Addr) (sn sc : Nat) (ws : Int) (h : QR w a k n (.slice po pn pc) (.slice bo bn bc) (.slice so sn sc) ws) (G : Nat) (ao : Option Addr) (m cap : Nat) (cs : List Cl) (hs : SlE w G ao m cap cs) (hG : G ≤ w.heap.size) (hr : Rs cs) (hf : ∀ c ∈ cs, c.fit) (hn : n ≤ 65536) (hfit : szQ k (shP k cs).length cs ≤ n) :
  Calls Tryz.prog 45 #[.pointer (some ⟨a, 0, none⟩), .slice ao m cap] w fun e w' => LayTo2 a k n cs w e w' := by
 have hz := zal k (shP k cs).length cs
 have hm : m ≤ 65536 := by have := hs.hlen; omega
 obtain ⟨Z, hZ⟩ : ∃ Z, szQ k (shP k cs).length cs = Z := ⟨_, rfl⟩
 rw [hZ] at hz hfit
 have haw := zag h
 have E1 : Hid (∀ u, Below w.heap.size w u → Calls Tryz.prog 54 #[.int .i64 k, .int .i64 (n : Int), .slice ao m cap] u fun e w' => ∃ b qo qn qc co cn cc to_ tn tc, e = .returned (.pointer (some ⟨b, 0, none⟩)) ∧ w'.cell? ⟨a, 1, none⟩ = some (.int .i64 (n : Int)) ∧ Hid (PO w' w.heap.size b k n qo qn qc (.slice co cn cc) (.slice to_ tn tc) 0 (shP k cs) (qbd (shP k cs).length (whl k) cs) (qst (shP k cs).length (whl k) 0 cs) ∧ Far qo qn (.slice to_ tn tc) ∧ Nw w.heap.size qo qn) ∧ Hid (Below w.heap.size w w') ∧ Hid (10 + qn + 2 * tn + cn = Z)) := by
  refine zaa fun u hu => (laid_any k n G ao m cap cs u (hs.on hu) (zN hG hu.size) hr hf hm (by omega)).mono ?_
  intro e w' hq
  obtain ⟨b, qo, qn, qc, co, cn, cc, to_, tn, tc, rfl, HPO, HB, HN⟩ := hq.po2
  have hb := zab hu Lr HB.out
  obtain ⟨hpo, hfr⟩ := HPO.out
  obtain ⟨n1, n2, n3⟩ := HN.out
  refine ⟨b, qo, qn, qc, co, cn, cc, to_, tn, tc, rfl, (show QR w' a k n (.slice po pn pc) (.slice bo bn bc) (.slice so sn sc) ws from zaf h hb).cells.2.1, zaa ⟨⟨hpo.row, hpo.pre, hpo.ob.low hu.size, ?_, hpo.far, zN hu.size hpo.ha⟩, hfr.1, hfr.2.low hu.size⟩, zaa hb, zaa (by omega)⟩
  have h6 := hpo.on
  unfold OwnN at h6 ⊢
  rcases h6.2 with h8 | ⟨g, c, cur, e, hg, r⟩
  ·exact ⟨h6.1, .inl h8⟩
  ·exact ⟨h6.1, .inr ⟨g, c, cur, e, zN hu.size hg, r⟩⟩
 have HRA : Hid (∀ u, Below w.heap.size w u → QR u a k n (.slice po pn pc) (.slice bo bn bc) (.slice so sn sc) ws) := zaa fun u hu => zaf h hu
 obtain ⟨c0, c1, c2, c3, c4, c5⟩ := h.cells
 have hfI : (Z : Int) ≤ (n : Int) := by omega
 have hnI : (n : Int) ≤ 65536 := by omega
 clear h hs hr hf hz hZ
 go_enter Tryz.func45, Tryz.ntmps45
 go_upto_region 1 with fail
 go_cut [5] from 6 to 15 (fun v u => ∃ b qo qn qc co cn cc to_ tn tc, v = .pointer (some ⟨b, 0, none⟩) ∧ Hid (PO u w.heap.size b k n qo qn qc (.slice co cn cc) (.slice to_ tn tc) 0 (shP k cs) (qbd (shP k cs).length (whl k) cs) (qst (shP k cs).length (whl k) 0 cs) ∧ Far qo qn (.slice to_ tn tc) ∧ Nw w.heap.size qo qn) ∧ Hid (Below w.heap.size w u) ∧ Hid (10 + qn + 2 * tn + cn = Z))
 case first =>
  go_wp2_with fail
  go_region_with (first | (go_at_call 54; refine (E1.out _ (by first | exact Br | exact Br.drew | exact zad Br _)).mono ?_; rintro e w1 ⟨b, qo, qn, qc, co, cn, cc, to_, tn, tc, rfl, y1, HPO, HB1, HZ1⟩))
  all_goals (try go_wp2_with fail)
  all_goals go_meet
  all_goals exact ⟨b, qo, qn, qc, co, cn, cc, to_, tn, tc, rfl, by first | exact HPO | exact zaa ⟨HPO.out.1.go Br.drew, HPO.out.2⟩ | exact zaa ⟨HPO.out.1.go (zad Br _), HPO.out.2⟩, by first | exact HB1 | exact zaa HB1.out.drew | exact zaa (zad HB1.out _), HZ1⟩
 obtain ⟨b, qo, qn, qc, co, cn, cc, to_, tn, tc, rfl, HPO, HB1, HZ1⟩ := hcut
 obtain ⟨w1, hw1⟩ : ∃ w1, w1 = wc := ⟨_, rfl⟩
 subst hw1
 clear c0 c1 c2 c3 c4 c5 E1
 have hz1 := HZ1.out
 have HUS : Hid (∀ u, Below w1.heap.size w1 u → Calls Tryz.prog 17 #[.pointer (some ⟨b, 0, none⟩)] u fun e w' => e = .returned (.int .i64 (Z : Int)) ∧ w'.cell? ⟨a, 1, none⟩ = some (.int .i64 (n : Int)) ∧ Hid (Below w1.heap.size w1 w')) := by
  refine zaa fun u hu => (usedQ_any u b k n qo qn qc co cn cc to_ tn tc (zaf HPO.out.1.row hu) (by omega) (by omega) (by omega) Z hz1).mono ?_
  rintro e w' ⟨rfl, HB⟩
  have hb := zab hu Lr HB.out
  exact ⟨rfl, (HRA.out w' (zab HB1.out Lr hb)).cells.2.1, zaa hb⟩
 have c1 := (HRA.out w1 HB1.out).cells.2.1
 clear hz1
 go_upto_region 2 with fail
 go_cut [22] from 16 to 22 (fun v u => v = .bool false ∧ Hid (Below w1.heap.size w1 u))
 case first =>
  go_wp2_with fail
  go_region_with (first | (go_at_call 17; refine (HUS.out _ (by first | exact Br | exact Br.drew | exact zad Br _)).mono ?_; rintro e w2 ⟨rfl, y1, HB2⟩))
  all_goals (try go_wp2_with fail)
  all_goals go_meet
  all_goals exact ⟨by simp; omega, by first | exact HB2 | exact zaa HB2.out.drew | exact zaa (zad HB2.out _)⟩
 obtain ⟨rfl, HB2⟩ := hcut
 obtain ⟨w2, hw2⟩ : ∃ w2, w2 = wc := ⟨_, rfl⟩
 subst hw2
 clear c1 HUS
 have HPO2 := zaa (HPO.out.1.go HB2.out)
 have HFR := zaa HPO.out.2.1
 have HNW := zaa HPO.out.2.2
 have HBW : Hid (Below w.heap.size w w2) := zaa (zab HB1.out Lr HB2.out)
 have HR2 := zaa (HRA.out w2 HBW.out)
 obtain ⟨c0, c1, c2, c3, c4, c5⟩ := HR2.out.cells
 obtain ⟨d0, d1, d2, d3, d4, d5⟩ := HPO2.out.row.cells
 have f0 := HR2.out.free 0
 have f1 := HR2.out.free 1
 have f2 := HR2.out.free 2
 have f3 := HR2.out.free 3
 have f4 := HR2.out.free 4
 have f5 := HR2.out.free 5
 have HAW := zaa haw
 clear haw
 go_wp2
 go_ret
 have hcf := put6_cf w2 a (.int .i64 k) (.int .i64 (n : Int)) (.slice qo qn qc) (.slice co cn cc) (.slice to_ tn tc) (.int .i64 0)
 have hr2 := HR2.out
 have hpo := HPO2.out
 have hbw := HBW.out
 have hkb : ∀ g, (Value.slice co cn cc).ownBlock = some g → w.heap.size ≤ g := fun g e => (hpo.ob.ltk7 e).1
 have hks : ∀ g, (Value.slice to_ tn tc).ownBlock = some g → w.heap.size ≤ g := fun g e => by
  have h6 := hpo.on
  unfold OwnN at h6
  exact (h6.lt g e).1
 refine ⟨rfl, zaa ((Cf.of_below hbw).go hcf), zaa ⟨qo, qn, qc, co, cn, cc, to_, tn, tc, ⟨?_, hpo.pre.cf hcf (hpo.pre.apartQ hr2), ?_, ?_, hpo.far, Nat.zero_le _⟩, HFR.out, hkb, hks, HNW.out⟩⟩
 ·exact QV.put (show QV w2 a _ _ _ _ _ _ from hr2) _ _ _ _ _ _
 ·unfold QR at hr2
  exact (hpo.ob.low (Nat.zero_le _)).cf hcf (hpo.ob.apart hr2 (by decide))
 ·unfold QR at hr2
  have h6 := hpo.on.cf hcf (hpo.on.apart hr2 (by decide))
  unfold OwnN at h6 ⊢
  rcases h6.2 with h8 | ⟨g, c, cur, e, hg, r⟩
  ·exact ⟨h6.1, .inl h8⟩
  ·exact ⟨h6.1, .inr ⟨g, c, cur, e, Nat.zero_le _, r⟩⟩
theorem qbd_wf2 {k : Int} {n : Nat} {cs : List Cl} (hn : n ≤ 65536) (hw : ∀ c ∈ cs, c.Wf) (hm : ∀ c ∈ cs, mayP k n c) (m : Nat) (f : Bool) : Wf (qbd m f cs) := qbd_wf m f cs fun c hc => ⟨hw c hc, (hm c hc).fit (by omega)⟩
theorem qbd_big (m : Nat) : ∀ (f : Bool) (cs : List Cl), (∀ c ∈ cs, c.fit) → (qbd m f cs).length ≤ 131103 * cs.length
 | _, [], _ => by simp [qbd]
 | f, c :: r, h => by
  have ih := qbd_big m false r fun d hd => h d (by simp [hd])
  have h1 := qB_most (if f then 0 else m) c
  have h2 := (h c (by simp)).key
  have h3 := (h c (by simp)).val
  simp only [qbd, zG, List.length_cons]
  omega
theorem szQ_big (k : Int) (cs : List Cl) (hf : ∀ c ∈ cs, c.fit) (hl : cs.length ≤ 65536) : szQ k (shP k cs).length cs ≤ 1099511627776 := by
 have h1 := zal k (shP k cs).length cs
 have h2 := qbd_big (shP k cs).length (whl k) cs hf
 have h3 : (shP k cs).length ≤ 65536 := by
  cases hk : ktl k cs with
  | nil => rw [shP_nil hk]; simp
  | cons c r =>
   have hm : c ∈ ktl k cs := by rw [hk]; simp
   have h4 := zbv (zbe k cs c hm)
   obtain ⟨j, hj, _⟩ := ktl_get hm
   have h5 := (hf c (List.mem_of_getElem? hj)).key
   omega
 omega
theorem lay_any (w : World) (K : Nat → Prop) (a : Nat) (k : Int) (n : Nat) (s : Qs) (h : Pk w K a k n s) (G : Nat) (ao : Option Addr) (m cap : Nat) (cs : List Cl) (hs : SlE w G ao m cap cs) (hG : G ≤ w.heap.size) (hr : Rs cs) (hm : ∀ c ∈ cs, mayP k n c) (hw : ∀ c ∈ cs, c.Wf) (hn : n ≤ 65536) (hmm : m ≤ 65536) :
  Calls Tryz.prog 45 #[.pointer (some ⟨a, 0, none⟩), .slice ao m cap] w fun e w' => ∃ code t, e = .returned (.int .i64 code) ∧ Hid (LayR k n s cs code t) ∧ Hid (Pk w' (Zk K w w') a k n t) ∧ Hid (Cf K w w') := by
 obtain ⟨po, pn, pc, bo, bn, bc, so, sn, sc, body, st, h⟩ := h
 have hf : ∀ c ∈ cs, c.fit := fun c hc => (hm c hc).fit (by omega)
 by_cases hfit : szQ k (shP k cs).length cs ≤ n
 ·refine (lay_fit2 w a k n po pn pc bo bn bc so sn sc _ h.pg.row G ao m cap cs hs hG hr hf hn hfit).mono ?_
  rintro e w' ⟨rfl, HC, HP⟩
  obtain ⟨po', pn', pc', bo', bn', bc', so', sn', sc', hpo, hfr, hkb, hks, hnw⟩ := HP.out
  refine ⟨0, _, rfl, zaa (.inl ⟨hfit, rfl, rfl⟩), zaa ⟨po', pn', pc', bo', bn', bc', so', sn', sc', _, _, ⟨hpo, layQ_of (zbe k cs) hf, qbd_wf2 hn hw hm _ _, hfr, ⟨zbe k cs, hr, hm, hw, ?_⟩, ?_, .inl h.ka, fun g e => .inr ⟨hkb g e, (hpo.ob.ltk7 e).2⟩, fun g e => .inr ⟨hks g e, ?_⟩, hnw.inz hpo.pre, Zk.lt h.kl HC.out.size⟩⟩, zaa (h.cfa HC.out)⟩
  ·rw [zca]
   exact hfit
  ·have := hpo.ob.len
   unfold lvQ
   simp only
   omega
  ·have h6 := hpo.on
   unfold OwnN at h6
   exact (h6.lt g e).2
 ·refine (lay_no w a k n po pn pc bo bn bc so sn sc _ h.pg.row G ao m cap cs hs hG hr hf hn (by omega) (szQ_big k cs hf (by have := hs.hlen; omega)) hmm).mono ?_
  rintro e w' ⟨rfl, HB⟩
  exact ⟨61, s, rfl, zaa (.inr ⟨hfit, rfl, rfl⟩), zaa (Pk.zk ⟨_, _, _, _, _, _, _, _, _, _, _, h.go HB.out⟩), zaa (Cf.of_below HB.out)⟩
def OwK (w0 : World) (B : Nat) (w : World) (v : Value) (cs : List Cl) : Prop := ∃ vs, w.ownsRow B 39 5 v cs.length vs ∧ Row5 w0 vs cs
structure SrK (w0 w : World) (ao : Option Addr) (n cap : Nat) (cs : List Cl) : Prop where
 hlen : cs.length = n
 hcap : n ≤ cap
 hnil : ao = none → cap = 0
 hat : n = 0 ∨ ∃ b off us, ao = some ⟨b, off, none⟩ ∧ b < w.heap.size ∧ Row5 w0 us cs ∧ ∀ j u, us[j]? = some u → w.cell? ⟨b, off + j, none⟩ = some u
theorem OwK.src {w0 w : World} {B : Nat} {v : Value} {cs : List Cl} (h : OwK w0 B w v cs) : ∃ ao cap, v = .slice ao cs.length cap ∧ SrK w0 w ao cs.length cap cs ∧ (0 < cs.length → ∃ g, ao = some ⟨g, 0, none⟩) := by
 obtain ⟨vs, h1, h2⟩ := h
 rcases h1.2 with ⟨rfl, h0⟩ | ⟨g, cap, cur, rfl, hg, hh, hnc, hm, hs, ht⟩
 ·rw [h0]
  exact ⟨none, 0, rfl, ⟨h0, Lr, fun _ => rfl, .inl rfl⟩, fun h => absurd h (by omega)⟩
 ·refine ⟨_, cap, rfl, ⟨rfl, hnc, (by intro h; cases h), .inr ⟨g, 0, vs, rfl, zag hh, h2, fun j u hu => ?_⟩⟩, fun _ => ⟨g, rfl⟩⟩
  have := World.ownsRow.cells h1 (g := g) rfl j u hu
  simpa [Addr.add_lit] using this
theorem SrK.slc {w0 w : World} {ao : Option Addr} {n cap : Nat} {cs : List Cl} (h : SrK w0 w ao n cap cs) (hb : Below w0.heap.size w0 w) (hl : n ≤ 140737488355328) : SlC w ao n cap cs := by
 refine ⟨h.hlen, h.hcap, hl, h.hnil, ?_⟩
 rcases h.hat with h0 | ⟨b, off, us, e, hlt, hr, hc⟩
 ·exact .inl h0
 ·exact .inr ⟨b, off, e, hlt, Row5.cat hb off hr hc⟩
theorem Row5.take {w : World} : ∀ {vs : List Value} {cs : List Cl} (i : Nat), Row5 w vs cs → Row5 w (vs.take (i * 5)) (cs.take i)
 | vs, [], i, h => by
  unfold Row5 at h
  subst h
  simp [Row5]
 | vs, c :: r, 0, h => by simp [Row5]
 | vs, c :: r, i + 1, h => by
  obtain ⟨ka, kc, va, vc, t, rfl, h1, h2, h3⟩ := h
  have ih := Row5.take i h3
  rw [show (i + 1) * 5 = i * 5 + 1 + 1 + 1 + 1 + 1 by omega]
  simp only [List.take_succ_cons]
  exact ⟨ka, kc, va, vc, _, rfl, h1, h2, ih⟩
theorem Row5.drop {w : World} : ∀ {vs : List Value} {cs : List Cl} (i : Nat), Row5 w vs cs → Row5 w (vs.drop (i * 5)) (cs.drop i)
 | vs, [], i, h => by
  unfold Row5 at h
  subst h
  simp [Row5]
 | vs, c :: r, 0, h => by simpa using h
 | vs, c :: r, i + 1, h => by
  obtain ⟨ka, kc, va, vc, t, rfl, h1, h2, h3⟩ := h
  have ih := Row5.drop i h3
  rw [show (i + 1) * 5 = i * 5 + 1 + 1 + 1 + 1 + 1 by omega]
  simp only [List.drop_succ_cons]
  exact ih
theorem Row5.item {w : World} : ∀ {vs : List Value} {cs : List Cl} (i : Nat) (c : Cl), Row5 w vs cs → cs[i]? = some c → ∃ ka kc va vc, vs[i * 5]? = some (.slice ka c.key.length kc) ∧ vs[i * 5 + 1]? = some (.int .i64 c.kd) ∧ vs[i * 5 + 2]? = some (.slice va c.val.length vc) ∧ vs[i * 5 + 3]? = some (.int .i64 c.pg) ∧ vs[i * 5 + 4]? = some (.int .i64 c.ct) ∧ Sl w ka c.key.length kc c.key ∧ Sl w va c.val.length vc c.val
 | vs, [], i, c, h, hi => by simp at hi
 | vs, d :: r, 0, c, h, hi => by
  obtain ⟨ka, kc, va, vc, t, rfl, h1, h2, h3⟩ := h
  simp at hi
  subst hi
  exact ⟨ka, kc, va, vc, rfl, rfl, rfl, rfl, rfl, h1, h2⟩
 | vs, d :: r, i + 1, c, h, hi => by
  obtain ⟨ka, kc, va, vc, t, rfl, h1, h2, h3⟩ := h
  obtain ⟨ka', kc', va', vc', e0, e1, e2, e3, e4, s1, s2⟩ := Row5.item i c h3 (by simpa using hi)
  rw [show (i + 1) * 5 = i * 5 + 1 + 1 + 1 + 1 + 1 by omega]
  simp only [List.getElem?_cons_succ]
  exact ⟨ka', kc', va', vc', e0, e1, e2, e3, e4, s1, s2⟩
theorem five_at {w : World} {y : World} {x0 x1 x2 x3 x4 : Value} (hy : w.alloc (.cells #[x0, x1, x2, x3, x4] 39) = y) : ∀ (j : Nat) (u : Value), ([x0, x1, x2, x3, x4] : List Value)[j]? = some u → y.cell? ⟨w.heap.size, 0 + j, none⟩ = some u := by
 obtain ⟨f0, f1, f2, f3, f4⟩ := (C5.box w x0 x1 x2 x3 x4).cells
 rw [hy] at f0 f1 f2 f3 f4
 intro j u hu
 have hj5 : j < 5 := (zH.1 hu).1
 have hj' : j = 0 ∨ j = 1 ∨ j = 2 ∨ j = 3 ∨ j = 4 := by omega
 rcases hj' with rfl | rfl | rfl | rfl | rfl <;> (simp only [List.getElem?_cons_zero, List.getElem?_cons_succ, Option.some.injEq] at hu; subst hu; assumption)
end Go.Proofs.YtfgffajgfgifhaaGreatDoor
