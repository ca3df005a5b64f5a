/- FreeOnce: what it keeps beside a list, plain; ops that came in. -/
import Derived.Test.YtedgpcckbdnijaaDoorJv
namespace Go.Proofs.YtedgpcckbdnijaaDoor
open Go.RowKit Go.Maps

/-- Ops that came in. -/
structure SlO (w : World) (ao : Option Addr) (n : Nat) (l : List (Int × Int × Int)) : Prop where
  hlen : l.length = n
  hbig : n ≤ 5864062014806
  wf : ∀ i, i < n → (-9223372036854775808 ≤ (l.getD i (0, 0, 0)).2.1 ∧ (l.getD i (0, 0, 0)).2.1 ≤ 9223372036854775807) ∧ (-9223372036854775808 ≤ (l.getD i (0, 0, 0)).2.2 ∧ (l.getD i (0, 0, 0)).2.2 ≤ 9223372036854775807)
  hat : n = 0 ∨ ∃ b off, ao = some ⟨b, off, none⟩ ∧ b < w.heap.size ∧ ∀ i, i < n → w.cell? ⟨b, off + i * 3, none⟩ = some (.int .i64 (l.getD i (0, 0, 0)).1) ∧ w.cell? ⟨b, off + i * 3 + 1, none⟩ = some (.int .i64 (l.getD i (0, 0, 0)).2.1) ∧ w.cell? ⟨b, off + i * 3 + 2, none⟩ = some (.int .i64 (l.getD i (0, 0, 0)).2.2)
set_option maxRecDepth 100000 in
theorem SlO.at {w u : World} {ao : Option Addr} {n : Nat} {l : List (Int × Int × Int)} (h : SlO w ao n l) (hb : Below w.heap.size w u) {i : Nat} (hi : i < n) : ∃ b off kd A B, ao = some ⟨b, off, none⟩ ∧ u.cell? ⟨b, off + i * 3, none⟩ = some (.int .i64 kd) ∧ u.cell? ⟨b, off + i * 3 + 1, none⟩ = some (.int .i64 A) ∧ u.cell? ⟨b, off + i * 3 + 2, none⟩ = some (.int .i64 B) ∧ (-9223372036854775808 ≤ A ∧ A ≤ 9223372036854775807) ∧ (-9223372036854775808 ≤ B ∧ B ≤ 9223372036854775807) := by
  rcases h.hat with h0 | ⟨b, off, e, hlt, hc⟩
  · omega
  · obtain ⟨c1, c2, c3⟩ := hc i hi
    obtain ⟨w1, w2⟩ := h.wf i hi
    exact ⟨b, off, _, _, _, e, (hb.cell (p := ⟨b, off + i * 3, none⟩) hlt).trans c1, (hb.cell (p := ⟨b, off + i * 3 + 1, none⟩) hlt).trans c2, (hb.cell (p := ⟨b, off + i * 3 + 2, none⟩) hlt).trans c3, w1, w2⟩
def eig : List Int := [2, 3, 4, 5, 6, 7, 8, 9]
/-- The state that the law keeps. -/
structure Onc (K : Int → Option Int) (st : List Int) : Prop where
  len : st.length = 10
  at1 : ∀ k : Nat, 2 ≤ k → k < 10 → st.getD k 0 = stdK K k
  keys : ∀ x f, K x = some f → 2 ≤ x ∧ x < 10
  vals : Vals K
set_option maxRecDepth 100000 in
theorem getD_set (st : List Int) (i : Nat) (x : Int) (k : Nat) (hi : i < st.length) : (st.set i x).getD k 0 = if k = i then x else st.getD k 0 := by
  simp only [List.getD]
  by_cases e : k = i
  · subst e
    rw [List.getElem?_set_self hi, if_pos rfl]
    rfl
  · rw [List.getElem?_set_ne (fun h => e h.symm), if_neg e]
set_option maxRecDepth 100000 in
theorem Onc.set {K : Int → Option Int} {st : List Int} (h : Onc K st) (p : Nat) (s : Int) (hp : 2 ≤ p ∧ p < 10) (hs : -1 ≤ s ∧ s ≤ 1099511627776) : Onc (setK K p s) (st.set p s) := by
  refine ⟨by rw [List.length_set]; exact h.len, fun k h1 h2 => ?_, fun x f hx => ?_, fun x f hx => ?_⟩
  · rw [getD_set _ _ _ _ (by rw [h.len]; exact hp.2)]
    unfold stdK setK delK putK
    by_cases e : k = p
    · subst e
      rw [if_pos rfl]
      by_cases e2 : s = -1
      · simp [e2]
      · simp [e2]
    · have e' : ¬ (k : Int) = (p : Int) := by omega
      rw [if_neg e, h.at1 k h1 h2]
      unfold stdK
      by_cases e2 : s = -1
      · simp [e2, e']
      · simp [e2, e']
  · unfold setK delK putK at hx
    by_cases e2 : s = -1
    · rw [if_pos e2] at hx
      by_cases e : x = p
      · simp [e] at hx
      · simp only [if_neg e] at hx; exact h.keys x f hx
    · rw [if_neg e2] at hx
      by_cases e : x = p
      · omega
      · simp only [if_neg e] at hx; exact h.keys x f hx
  · unfold setK delK putK at hx
    by_cases e2 : s = -1
    · rw [if_pos e2] at hx
      by_cases e : x = p
      · simp [e] at hx
      · simp only [if_neg e] at hx; exact h.vals x f hx
    · rw [if_neg e2] at hx
      by_cases e : x = p
      · simp [e] at hx; omega
      · simp only [if_neg e] at hx; exact h.vals x f hx
set_option maxRecDepth 100000 in
theorem Onc.start : Onc (KL eig) [0, 0, 0, 0, 0, 0, 0, 0, 0, 0] := by
  refine ⟨rfl, fun k h1 h2 => ?_, fun x f hx => ?_, fun x f hx => ?_⟩
  · have hm : (k : Int) ∈ eig := by simp [eig]; omega
    unfold stdK KL
    rw [if_pos hm]
    have : k = 2 ∨ k = 3 ∨ k = 4 ∨ k = 5 ∨ k = 6 ∨ k = 7 ∨ k = 8 ∨ k = 9 := by omega
    rcases this with rfl | rfl | rfl | rfl | rfl | rfl | rfl | rfl <;> rfl
  · unfold KL at hx
    by_cases e : x ∈ eig
    · simp [eig] at e; omega
    · rw [if_neg e] at hx; cases hx
  · unfold KL at hx
    by_cases e : x ∈ eig
    · rw [if_pos e] at hx; cases hx; omega
    · rw [if_neg e] at hx; cases hx
set_option maxRecDepth 100000 in
/-- A page is free where its state is 0; it is nowhere where that is -1. -/
theorem Onc.zero {K : Int → Option Int} {st : List Int} (h : Onc K st) {k : Nat} (h1 : 2 ≤ k) (h2 : k < 10) : st.getD k 0 = 0 ↔ K k = some 0 := by
  rw [h.at1 k h1 h2]
  unfold stdK
  cases hK : K k with
  | none => simp
  | some f => simp
set_option maxRecDepth 100000 in
theorem Onc.gone {K : Int → Option Int} {st : List Int} (h : Onc K st) {k : Nat} (h1 : 2 ≤ k) (h2 : k < 10) : st.getD k 0 = -1 ↔ (K k).isSome = false := by
  rw [h.at1 k h1 h2]
  unfold stdK
  cases hK : K k with
  | none => simp
  | some f => have := h.vals k f hK; simp; omega
def mK (K : Int → Option Int) (f : Int → Bool) (x : Int) : Bool := match K x with | some s => f s | none => false
set_option maxRecDepth 100000 in
theorem mK_some {K : Int → Option Int} {f : Int → Bool} {x s : Int} (h : K x = some s) : mK K f x = f s := by unfold mK; rw [h]
set_option maxRecDepth 100000 in
theorem mK_none {K : Int → Option Int} {f : Int → Bool} {x : Int} (h : K x = none) : mK K f x = false := by unfold mK; rw [h]
/-- The pages of a kind, from the k-th on. -/
def pL (K : Int → Option Int) (f : Int → Bool) (k : Nat) : List Int := (eig.drop (k - 2)).filter (mK K f)
set_option maxRecDepth 100000 in
theorem kL_eight {K : Int → Option Int} (h : ∀ x f, K x = some f → 2 ≤ x ∧ x < 10) (f : Int → Bool) : kL K f = pL K f 2 := by
  refine kL_eq (fun x s hx => by have := h x s hx; omega) f ?_ (fun x => ?_)
  · exact List.Pairwise.filter _ (by simp [eig])
  · unfold pL
    rw [List.mem_filter]
    constructor
    · rintro ⟨_, h2⟩
      cases hK : K x with
      | none => rw [mK_none hK] at h2; cases h2
      | some s => rw [mK_some hK] at h2; exact ⟨s, rfl, h2⟩
    · rintro ⟨s, h1, h2⟩
      have := h x s h1
      refine ⟨?_, by rw [mK_some h1]; exact h2⟩
      simp [eig]
      omega
set_option maxRecDepth 100000 in
theorem eig_drop (k : Nat) (h1 : 2 ≤ k) (h2 : k < 10) : eig.drop (k - 2) = (k : Int) :: eig.drop (k + 1 - 2) := by
  have : k = 2 ∨ k = 3 ∨ k = 4 ∨ k = 5 ∨ k = 6 ∨ k = 7 ∨ k = 8 ∨ k = 9 := by omega
  rcases this with rfl | rfl | rfl | rfl | rfl | rfl | rfl | rfl <;> rfl
set_option maxRecDepth 100000 in
theorem pL_step (K : Int → Option Int) (f : Int → Bool) (k : Nat) (h1 : 2 ≤ k) (h2 : k < 10) : pL K f k = if mK K f k = true then (k : Int) :: pL K f (k + 1) else pL K f (k + 1) := by
  unfold pL
  rw [eig_drop k h1 h2, List.filter_cons]
set_option maxRecDepth 100000 in
theorem pL_end (K : Int → Option Int) (f : Int → Bool) : pL K f 10 = [] := rfl
/-- The state while pages are released. -/
def relT (st : List Int) (o : Int) (k : Nat) : List Int := (List.range 10).map (fun j => if 2 ≤ j ∧ j < k ∧ dueF o (st.getD j 0) = true then 0 else st.getD j 0)
set_option maxRecDepth 100000 in
theorem relT_at (st : List Int) (o : Int) (k j : Nat) (hj : j < 10) : (relT st o k).getD j 0 = if 2 ≤ j ∧ j < k ∧ dueF o (st.getD j 0) = true then 0 else st.getD j 0 := by
  unfold relT
  rw [List.getD, List.getElem?_map, List.getElem?_range hj]
  rfl
set_option maxRecDepth 100000 in
theorem relT_len (st : List Int) (o : Int) (k : Nat) : (relT st o k).length = 10 := by unfold relT; rw [List.length_map, List.length_range]
set_option maxRecDepth 100000 in
theorem relT_start (st : List Int) (o : Int) (h : st.length = 10) : relT st o 2 = st := by
  apply ext_getD (by rw [relT_len, h])
  intro j hj
  rw [relT_len] at hj
  rw [relT_at _ _ _ _ hj, if_neg (by omega)]
set_option maxRecDepth 100000 in
theorem relT_no (st : List Int) (o : Int) (k : Nat) (hd : dueF o (st.getD k 0) = false) : relT st o (k + 1) = relT st o k := by
  apply ext_getD (by rw [relT_len, relT_len])
  intro j hj
  rw [relT_len] at hj
  rw [relT_at _ _ _ _ hj, relT_at _ _ _ _ hj]
  by_cases e : j = k
  · subst e
    rw [if_neg (by rw [hd]; simp), if_neg (by rw [hd]; simp)]
  · by_cases e2 : 2 ≤ j ∧ j < k ∧ dueF o (st.getD j 0) = true
    · rw [if_pos e2, if_pos ⟨e2.1, by omega, e2.2.2⟩]
    · rw [if_neg e2, if_neg (fun h => e2 ⟨h.1, by omega, h.2.2⟩)]
set_option maxRecDepth 100000 in
theorem relT_yes (st : List Int) (o : Int) (k : Nat) (h1 : 2 ≤ k) (h2 : k < 10) (hd : dueF o (st.getD k 0) = true) : (relT st o k).set k 0 = relT st o (k + 1) := by
  apply ext_getD (by rw [List.length_set, relT_len, relT_len])
  intro j hj
  rw [List.length_set, relT_len] at hj
  rw [getD_set _ _ _ _ (by rw [relT_len]; exact h2), relT_at _ _ _ _ hj, relT_at _ _ _ _ hj]
  by_cases e : j = k
  · subst e
    rw [if_pos rfl, if_pos ⟨h1, by omega, hd⟩]
  · rw [if_neg e]
    by_cases e2 : 2 ≤ j ∧ j < k ∧ dueF o (st.getD j 0) = true
    · rw [if_pos e2, if_pos ⟨e2.1, by omega, e2.2.2⟩]
    · rw [if_neg e2, if_neg (fun h => e2 ⟨h.1, by omega, h.2.2⟩)]
set_option maxRecDepth 100000 in
theorem due_std (K : Int → Option Int) (o : Int) (k : Int) : dueF o (stdK K k) = mK K (dueF o) k := by
  unfold stdK
  cases hK : K k with
  | none => rw [mK_none hK]; simp [dueF]
  | some s => rw [mK_some hK]; rfl
set_option maxRecDepth 100000 in
theorem Onc.rel {K : Int → Option Int} {st : List Int} (h : Onc K st) (o : Int) : Onc (relK K o) (relT st o 10) := by
  refine ⟨relT_len _ _ _, fun k h1 h2 => ?_, fun x f hx => ?_, fun x f hx => ?_⟩
  · rw [relT_at _ _ _ _ h2, h.at1 k h1 h2, due_std]
    unfold stdK relK
    cases hK : K k with
    | none => rw [mK_none hK]; simp
    | some s =>
      rw [mK_some hK]
      by_cases e : dueF o s = true
      · simp [e, h1, h2]
      · simp [e]
  · unfold relK at hx
    cases hK : K x with
    | none => rw [hK] at hx; cases hx
    | some s => exact h.keys x s hK
  · unfold relK at hx
    cases hK : K x with
    | none => rw [hK] at hx; cases hx
    | some s =>
      rw [hK] at hx
      have := h.vals x s hK
      by_cases e : dueF o s = true
      · simp [e] at hx; omega
      · simp [e] at hx; omega
end Go.Proofs.YtedgpcckbdnijaaDoor
