import Derived.Test.YtoejadhlkamcjaaDoorJ15
namespace Go.Proofs.YtoejadhlkamcjaaDoor
set_option maxRecDepth 100000
open Go.RowKit Go.Maps
def con (M : Int → Option Pf) : Int → Option (List Int) := fun k => (M k).map (·.l)
def putC (C : Int → Option (List Int)) (k : Int) (l : List Int) : Int → Option (List Int) := fun x => if x = k then some l else C x
def delC (C : Int → Option (List Int)) (ps : List Int) : Int → Option (List Int) := fun k => if k ∈ ps then none else C k
theorem con_put (M : Int → Option Pf) (k : Int) (f : Pf) : con (putM M k f) = putC (con M) k f.l := by
 funext x
 unfold con putM putC
 split <;> rfl
theorem con_del (M : Int → Option Pf) (ps : List Int) : con (delL M ps) = delC (con M) ps := by
 funext x
 unfold con delL delC
 split <;> rfl
theorem con_some (M : Int → Option Pf) (k : Int) : (con M k).isSome = (M k).isSome := by
 unfold con
 cases M k <;> rfl
theorem con_none {M : Int → Option Pf} {k : Int} (h : con M k = none) : M k = none := by
 have := con_some M k
 rw [h] at this
 cases e : M k with
 | none => rfl
 | some f => rw [e] at this; cases this
theorem con_iso {M N : Int → Option Pf} (h : con M = con N) (k : Int) : (M k).isSome = (N k).isSome := by rw [← con_some M, ← con_some N, h]
theorem isM_con {M N : Int → Option Pf} (h : con M = con N) (k : Int) : isM M k = isM N k := by
 unfold isM
 rw [con_iso h]
theorem ldM_con {M N : Int → Option Pf} (h : con M = con N) (pg k : Int) : ldM M pg k = ldM N pg k := by
 have e : con M k = con N k := congrFun h k
 unfold con at e
 unfold ldM
 cases h1 : M k with
 | none =>
  rw [h1] at e
  cases h2 : N k with
  | none => rfl
  | some g => rw [h2] at e; cases e
 | some f =>
  rw [h1] at e
  cases h2 : N k with
  | none => rw [h2] at e; cases e
  | some g =>
   rw [h2] at e
   simp only [Option.map_some, Option.some.injEq] at e
   simp only [e]
theorem thr_con {M N : Int → Option Pf} (h : con M = con N) (pg n all : Int) : ∀ (k : Nat) (a : Int) (ps d : List Int) (r : Int), thr M pg n all k a ps d r = thr N pg n all k a ps d r
 | 0, _, _, _, _ => rfl
 | k + 1, a, ps, d, r => by
  simp only [thr, ldM_con h, isM_con h]
  split
  ·rfl
  ·split
   ·rfl
   ·split
    ·rfl
    ·exact thr_con h pg n all k _ _ _ _
theorem tkL_iso {M N : Int → Option Pf} (h : ∀ k, (M k).isSome = (N k).isSome) : ∀ j, tkL M j = tkL N j
 | 0 => rfl
 | j + 1 => by simp only [tkL, tkL_iso h j, h]
def Alc (C : Int → Option (List Int)) (a : Int) : Prop := 2 ≤ a ∧ C a = none ∧ ∀ k, 2 ≤ k → k < a → (C k).isSome = true
theorem Alc.one {C : Int → Option (List Int)} {a b : Int} (h : Alc C a) (k : Alc C b) : a = b := by
 rcases Int.lt_trichotomy a b with e | e | e
 ·have := k.2.2 a h.1 e
  rw [h.2.1] at this
  cases this
 ·exact e
 ·have := h.2.2 b k.1 e
  rw [k.2.1] at this
  cases this
def Tks (P : Nat) : (Int → Option (List Int)) → List Int → (Int → Option (List Int)) → Prop
 | C, [], C' => C' = C
 | C, a :: l, C' => Alc C a ∧ Tks P (putC C a (zs P)) l C'
theorem Tks.one {P : Nat} : ∀ {l l' : List Int} {C C1 C2 : Int → Option (List Int)}, Tks P C l C1 → Tks P C l' C2 → l.length = l'.length → l = l' ∧ C1 = C2
 | [], [], _, _, _, h, k, _ => ⟨rfl, Eq.trans h (Eq.symm k)⟩
 | [], _ :: _, _, _, _, _, _, e => by simp at e
 | _ :: _, [], _, _, _, _, _, e => by simp at e
 | a :: l, b :: l', C, C1, C2, h, k, e => by
  obtain rfl := h.1.one k.1
  obtain ⟨e1, e2⟩ := h.2.one k.2 (by simpa using e)
  exact ⟨by rw [e1], e2⟩
theorem Tks.snoc {P : Nat} : ∀ {l : List Int} {C C1 : Int → Option (List Int)} {a : Int}, Tks P C l C1 → Alc C1 a → Tks P C (l ++ [a]) (putC C1 a (zs P))
 | [], C, C1, a, h, k => by
  obtain rfl : C1 = C := h
  exact ⟨k, rfl⟩
 | b :: l, C, C1, a, h, k => ⟨h.1, Tks.snoc h.2 k⟩
theorem putC_some {C : Int → Option (List Int)} {k x : Int} {l : List Int} (h : (C x).isSome = true) : (putC C k l x).isSome = true := by
 unfold putC
 split
 ·rfl
 ·exact h
theorem Tks.keep {P : Nat} : ∀ {l : List Int} {C C1 : Int → Option (List Int)} {x : Int}, Tks P C l C1 → (C x).isSome = true → (C1 x).isSome = true
 | [], C, C1, x, h, k => by
  obtain rfl : C1 = C := h
  exact k
 | b :: l, C, C1, x, h, k => h.2.keep (putC_some k)
theorem Tks.held {P : Nat} : ∀ {l : List Int} {C C1 : Int → Option (List Int)} {x : Int}, Tks P C l C1 → x ∈ l → (C1 x).isSome = true ∧ 2 ≤ x
 | [], _, _, _, _, k => by simp at k
 | b :: l, C, C1, x, h, k => by
  rcases List.mem_cons.1 k with e | e
  ·subst e
   refine ⟨h.2.keep ?_, h.1.1⟩
   unfold putC
   rw [if_pos rfl]
   rfl
  ·exact h.2.held e
theorem tk_full (M : Int → Option Pf) : ∀ j : Nat, (tkL M j).length = j → ∀ k, 2 ≤ k → k < (j : Int) + 2 → (M k).isSome = true
 | 0, _, k, h1, h2 => by omega
 | j + 1, h, k, h1, h2 => by
  have hl := tkL_length M j
  unfold tkL at h
  rw [List.length_append] at h
  by_cases e : (M ((j : Int) + 2)).isSome = true
  ·rw [if_pos e] at h
   simp only [List.length_cons, List.length_nil] at h
   by_cases e2 : k = (j : Int) + 2
   ·rw [e2]; exact e
   ·exact tk_full M j (by omega) k h1 (by omega)
  ·rw [if_neg e] at h
   simp only [List.length_nil] at h
   omega
theorem alc_is (M : Int → Option Pf) : ∀ j : Nat, (tkL M j).length < j → ∃ a, Alc (con M) a ∧ a < (j : Int) + 2
 | 0, h => by omega
 | j + 1, h => by
  have hl := tkL_length M j
  rcases Nat.lt_or_ge (tkL M j).length j with h1 | h1
  ·obtain ⟨a, h2, h3⟩ := alc_is M j h1
   exact ⟨a, h2, by omega⟩
  ·have h2 : (tkL M j).length = j := by omega
   refine ⟨(j : Int) + 2, ⟨by omega, ?_, fun k h3 h4 => ?_⟩, by omega⟩
   ·cases e : con M ((j : Int) + 2) with
    | none => rfl
    | some l =>
     exfalso
     have e2 : (M ((j : Int) + 2)).isSome = true := by rw [← con_some, e]; rfl
     unfold tkL at h
     rw [List.length_append, if_pos e2] at h
     simp only [List.length_cons, List.length_nil] at h
     omega
   ·rw [con_some]
    exact tk_full M j h2 k h3 h4
theorem tk_put (M : Int → Option Pf) (a : Int) (f : Pf) (hM : M a = none) : ∀ j : Nat, (tkL (putM M a f) j).length = (tkL M j).length + (if 2 ≤ a ∧ a < (j : Int) + 2 then 1 else 0)
 | 0 => by
  rw [if_neg (by omega)]
  rfl
 | j + 1 => by
  have ih := tk_put M a f hM j
  simp only [tkL, List.length_append]
  by_cases e : (j : Int) + 2 = a
  ·have e1 : (putM M a f ((j : Int) + 2)).isSome = true := by unfold putM; rw [if_pos e]; rfl
   have e2 : ¬ (M ((j : Int) + 2)).isSome = true := by rw [e, hM]; simp
   rw [if_neg (by omega)] at ih
   rw [if_pos e1, if_neg e2, ih, if_pos ⟨by omega, by omega⟩]
   simp
  ·have e1 : putM M a f ((j : Int) + 2) = M ((j : Int) + 2) := by unfold putM; rw [if_neg e]
   rw [e1]
   by_cases e2 : 2 ≤ a ∧ a < (j : Int) + 2
   ·rw [if_pos e2] at ih
    rw [ih, if_pos (show 2 ≤ a ∧ a < ((j + 1 : Nat) : Int) + 2 from ⟨e2.1, by omega⟩)]; omega
   ·rw [if_neg e2] at ih
    rw [ih, if_neg (show ¬ (2 ≤ a ∧ a < ((j + 1 : Nat) : Int) + 2) from fun h => e2 ⟨h.1, by omega⟩)]; omega
theorem tk_del (M : Int → Option Pf) (a : Int) (hM : (M a).isSome = true) : ∀ j : Nat, (tkL (delM M a) j).length + (if 2 ≤ a ∧ a < (j : Int) + 2 then 1 else 0) = (tkL M j).length
 | 0 => by
  rw [if_neg (by omega)]
  rfl
 | j + 1 => by
  have ih := tk_del M a hM j
  simp only [tkL, List.length_append]
  by_cases e : (j : Int) + 2 = a
  ·have e1 : ¬ (delM M a ((j : Int) + 2)).isSome = true := by unfold delM; rw [if_pos e]; simp
   have e2 : (M ((j : Int) + 2)).isSome = true := by rw [e]; exact hM
   rw [if_neg (by omega)] at ih
   rw [if_neg e1, if_pos e2, ← ih, if_pos ⟨by omega, by omega⟩]
   simp
  ·have e1 : delM M a ((j : Int) + 2) = M ((j : Int) + 2) := by unfold delM; rw [if_neg e]
   rw [e1]
   by_cases e2 : 2 ≤ a ∧ a < (j : Int) + 2
   ·rw [if_pos e2] at ih
    rw [← ih, if_pos (show 2 ≤ a ∧ a < ((j + 1 : Nat) : Int) + 2 from ⟨e2.1, by omega⟩)]; omega
   ·rw [if_neg e2] at ih
    rw [← ih, if_neg (show ¬ (2 ≤ a ∧ a < ((j + 1 : Nat) : Int) + 2) from fun h => e2 ⟨h.1, by omega⟩)]; omega
structure Gd9 (M : Int → Option Pf) (T ct : Nat) : Prop where
 in_ : ∀ k, (M k).isSome = true → 2 ≤ k ∧ k < (T : Int) + 2
 cnt : (tkL M T).length = ct
theorem Gd9.le {M : Int → Option Pf} {T ct : Nat} (h : Gd9 M T ct) : ct ≤ T := by
 rw [← h.cnt]
 exact tkL_length M T
theorem Gd9.iso {M N : Int → Option Pf} {T ct : Nat} (h : Gd9 M T ct) (e : ∀ k, (M k).isSome = (N k).isSome) : Gd9 N T ct :=
 ⟨fun k hk => h.in_ k (by rw [e]; exact hk), by rw [← tkL_iso e]; exact h.cnt⟩
theorem Gd9.nil (T : Nat) : Gd9 (fun _ => none) T 0 := ⟨fun k h => (by cases h), by
 have : ∀ j, tkL (fun _ => none) j = [] := by
  intro j
  induction j with
  | zero => rfl
  | succ j ih => simp [tkL, ih]
 rw [this]
 rfl⟩
theorem putM_iso {M : Int → Option Pf} {a : Int} {f : Pf} (h : (M a).isSome = true) (k : Int) : (putM M a f k).isSome = (M k).isSome := by
 unfold putM
 split
 ·rename_i e
  rw [e, h]
  rfl
 ·rfl
theorem Gd9.set {M : Int → Option Pf} {T ct : Nat} {a : Int} {f : Pf} (h : Gd9 M T ct) (ha : (M a).isSome = true) : Gd9 (putM M a f) T ct := h.iso fun k => (putM_iso ha k).symm
theorem Gd9.put {M : Int → Option Pf} {T ct : Nat} {a : Int} {f : Pf} (h : Gd9 M T ct) (ha : M a = none) (h1 : 2 ≤ a) (h2 : a < (T : Int) + 2) : Gd9 (putM M a f) T (ct + 1) := by
 refine ⟨fun k hk => ?_, ?_⟩
 ·unfold putM at hk
  by_cases e : k = a
  ·omega
  ·rw [if_neg e] at hk
   exact h.in_ k hk
 ·rw [tk_put M a f ha, if_pos ⟨h1, h2⟩, h.cnt]
theorem Gd9.lay {M : Int → Option Pf} {T ct : Nat} {a : Int} {f : Pf} (h : Gd9 M T ct) (h1 : 2 ≤ a) (h2 : a < (T : Int) + 2) : Gd9 (putM M a f) T (if (M a).isSome then ct else ct + 1) := by
 cases e : M a with
 | none => exact h.put e h1 h2
 | some g => exact h.set (by rw [e]; rfl)
theorem Gd9.del {M : Int → Option Pf} {T ct : Nat} {a : Int} (h : Gd9 M T ct) (ha : (M a).isSome = true) : Gd9 (delM M a) T (ct - 1) := by
 refine ⟨fun k hk => ?_, ?_⟩
 ·unfold delM at hk
  by_cases e : k = a
  ·rw [if_pos e] at hk; cases hk
  ·rw [if_neg e] at hk
   exact h.in_ k hk
 ·have h1 := tk_del M a ha T
  rw [if_pos (h.in_ a ha), h.cnt] at h1
  omega
theorem delL_cons (M : Int → Option Pf) (p : Int) (ps : List Int) : delL M (p :: ps) = delL (delM M p) ps := by
 funext k
 unfold delL delM
 by_cases e : k = p
 ·subst e; simp
 ·simp [e]
theorem Gd9.delL {T : Nat} : ∀ {ps : List Int} {M : Int → Option Pf} {ct : Nat}, Gd9 M T ct → ps.Nodup → (∀ p ∈ ps, (M p).isSome = true) → Gd9 (Go.Proofs.YtoejadhlkamcjaaDoor.delL M ps) T (ct - ps.length)
 | [], M, ct, h, _, _ => by rw [delL_nil]; exact h
 | p :: ps, M, ct, h, hn, hs => by
  rw [List.nodup_cons] at hn
  rw [delL_cons, List.length_cons, Nat.add_comm, ← Nat.sub_sub]
  refine (h.del (hs p (by simp))).delL hn.2 fun q hq => ?_
  unfold delM
  rw [if_neg (fun (e : q = p) => hn.1 (by rw [← e]; exact hq))]
  exact hs q (by simp [hq])
def nxl (l : List Int) (j : Nat) : Int := if j + 1 < l.length then l.getD (j + 1) 0 else 0
def lyC (P : Nat) (l v : List Int) (C : Int → Option (List Int)) : Nat → Int → Option (List Int)
 | 0 => C
 | j + 1 => putC (lyC P l v C j) (l.getD j 0) (spB (nxl l j) (ckN (P - 16) v j) P)
theorem lyC_some {P : Nat} {l v : List Int} {C : Int → Option (List Int)} {x : Int} (h : (C x).isSome = true) : ∀ j, (lyC P l v C j x).isSome = true
 | 0 => h
 | j + 1 => putC_some (lyC_some h j)
theorem getD_mem {l : List Int} {j : Nat} (h : j < l.length) : l.getD j 0 ∈ l := by
 rw [show l.getD j 0 = l[j] from by simp [List.getD, h]]
 exact List.getElem_mem h
theorem nxl_ok {l : List Int} (h : ∀ a ∈ l, 2 ≤ a ∧ a < 65536) (j : Nat) : nxt (nxl l j) := by
 unfold nxl nxt
 split
 ·rename_i e
  exact .inr (h _ (getD_mem e))
 ·exact .inl rfl
def Zs (w : World) (M : Int → Option Pf) (M' : Int → Option Pf) : Prop := ∀ k f, M' k = some f → (∃ k0, M k0 = some f) ∨ w.heap.size ≤ f.g
theorem Zs.refl (w : World) (M : Int → Option Pf) : Zs w M M := fun k _ h => .inl ⟨k, h⟩
theorem Zs.put {w : World} {M M' : Int → Option Pf} {k : Int} {f : Pf} (h : Zs w M M') (hf : w.heap.size ≤ f.g) : Zs w M (putM M' k f) := by
 intro x g hx
 unfold putM at hx
 by_cases e : x = k
 ·rw [if_pos e] at hx
  cases hx
  exact .inr hf
 ·rw [if_neg e] at hx
  exact h x g hx
theorem Zs.del {w : World} {M M' : Int → Option Pf} {ps : List Int} (h : Zs w M M') : Zs w M (Go.Proofs.YtoejadhlkamcjaaDoor.delL M' ps) := by
 intro x g hx
 unfold Go.Proofs.YtoejadhlkamcjaaDoor.delL at hx
 by_cases e : x ∈ ps
 ·rw [if_pos e] at hx; cases hx
 ·rw [if_neg e] at hx
  exact h x g hx
theorem Zs.trans {w u : World} {A M N : Int → Option Pf} (h : Zs w A M) (k : Zs u M N) (hs : w.heap.size ≤ u.heap.size) : Zs w A N := by
 intro x f hx
 rcases k x f hx with ⟨y, e⟩ | e
 ·exact h y f e
 ·exact .inr (Nat.le_trans hs e)
theorem thr_len {M : Int → Option Pf} {pg n all : Int} (hpg : 16 < pg) (hw : ∀ k f, M k = some f → Wf f.l) (hall : ∀ i : Nat, (i : Int) + 1 < all → (pg - 16) * ((i : Int) + 1) ≤ n) : ∀ (k : Nat) (a : Int) (ps d : List Int) (r : Int) (ps' d' : List Int) (r' : Int), thr M pg n all k a ps d r = (0, ps', d', r') → (ps.length : Int) + k ≤ all → (k = 0 ∨ (d.length : Int) = (pg - 16) * ps.length) → Wf d →
  Wf d' ∧ ps'.length = ps.length + k ∧ (0 < k → (d'.length : Int) = min ((pg - 16) * ps'.length) n) ∧ r ≤ r' ∧ r' ≤ r + k
 | 0, a, ps, d, r, ps', d', r', h, _, _, hd => by
  simp only [thr, Prod.mk.injEq] at h
  obtain ⟨_, rfl, rfl, rfl⟩ := h
  exact ⟨hd, rfl, fun h => absurd h (by omega), Int.le_refl _, by omega⟩
 | k + 1, a, ps, d, r, ps', d', r', h, hk, hl, hd => by
  simp only [thr] at h
  by_cases e1 : a ∈ ps
  ·rw [if_pos e1] at h
   simp at h
  rw [if_neg e1] at h
  cases e2 : ldM M pg a with
  | inl e =>
   rw [e2] at h
   simp only [Prod.mk.injEq] at h
   exact absurd h.1 (ldM_fault e2)
  | inr x =>
   obtain ⟨nx, y⟩ := x
   rw [e2] at h
   simp only at h
   obtain ⟨w1, w2, w3, w4, w5⟩ := ldM_good e2 hw
   by_cases e3 : (y.length : Int) ≠ min (pg - 16) (n - d.length) ∨ decide (((ps.length + 1 : Nat) : Int) = all) ≠ decide (nx = 0)
   ·rw [if_pos e3] at h
    simp at h
   rw [if_neg e3] at h
   have e4 : (y.length : Int) = min (pg - 16) (n - d.length) := by
    by_cases e : (y.length : Int) = min (pg - 16) (n - d.length)
    ·exact e
    ·exact absurd (.inl e) e3
   have hdl : (d.length : Int) = (pg - 16) * ps.length := by
    rcases hl with h0 | h0
    ·omega
    ·exact h0
   have hap : Wf (d ++ y) := hd.append w1
   have em : (pg - 16) * (((ps ++ [a]).length : Nat) : Int) = (pg - 16) * ps.length + (pg - 16) := by
    rw [List.length_append]
    simp only [List.length_cons, List.length_nil, Nat.zero_add, Int.natCast_add, Int.cast_ofNat_Int]
    rw [Int.mul_add, Int.mul_one]
   have hfull : 0 < k → (y.length : Int) = pg - 16 := by
    intro h0
    have := hall ps.length (by omega)
    rw [Int.mul_add, Int.mul_one] at this
    omega
   obtain ⟨g1, g2, g3, g4, g5⟩ := thr_len hpg hw hall k nx (ps ++ [a]) (d ++ y) (r + isM M a) ps' d' r' h (by rw [List.length_append]; simp only [List.length_cons, List.length_nil]; omega) (by
    rcases Nat.eq_zero_or_pos k with h0 | h0
    ·exact .inl h0
    ·right
     rw [em, List.length_append]
     have := hfull h0
     omega) hap
   refine ⟨g1, by rw [g2, List.length_append]; simp only [List.length_cons, List.length_nil]; omega, fun _ => ?_, by rw [w5] at g4; omega, by rw [w5] at g5; omega⟩
   rcases Nat.eq_zero_or_pos k with h0 | h0
   ·subst h0
    simp only [thr, Prod.mk.injEq] at h
    obtain ⟨_, rfl, rfl, rfl⟩ := h
    rw [em, List.length_append]
    omega
   ·exact g3 h0
theorem thr_reads {M : Int → Option Pf} {pg n all : Int} : ∀ (k : Nat) (a : Int) (ps d : List Int) (r : Int), r ≤ (thr M pg n all k a ps d r).2.2.2 ∧ (thr M pg n all k a ps d r).2.2.2 ≤ r + k
 | 0, _, _, _, r => ⟨Int.le_refl _, by simp [thr]⟩
 | k + 1, a, ps, d, r => by
  have hi : 0 ≤ isM M a ∧ isM M a ≤ 1 := by unfold isM; split <;> omega
  simp only [thr]
  split
  ·simp only; omega
  ·split
   ·simp only; omega
   ·split
    ·simp only; omega
    ·have := thr_reads (M := M) (pg := pg) (n := n) (all := all) k ‹Int × List Int›.1 (ps ++ [a]) (d ++ ‹Int × List Int›.2) (r + isM M a)
     omega
end Go.Proofs.YtoejadhlkamcjaaDoor
