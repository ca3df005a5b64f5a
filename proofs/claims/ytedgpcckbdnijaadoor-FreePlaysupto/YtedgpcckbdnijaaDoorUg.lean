/- rising: the keys of a kind, sorted. -/
import Derived.Test.YtedgpcckbdnijaaDoorUf
import Derived.Test.YtedgpcckbdnijaaDoorShelfF
import Derived.Shelf.SortM.Plain
import Derived.Shelf.SortM.SortNone
namespace Go.Proofs.YtedgpcckbdnijaaDoor
open Go.RowKit Go.Maps Go.Sort Go.Shelf

/-- The pages of a kind, rising. -/
def kpK (K : Int → Option Int) (f : Int → Bool) (p : Nat) : Bool := match K (p : Int) with | some s => f s | none => false
def kL (K : Int → Option Int) (f : Int → Bool) : List Int := ((List.range 65536).filter (kpK K f)).map Int.ofNat
set_option maxRecDepth 100000 in
theorem kL_mem {K : Int → Option Int} (hK : Pgs K) (f : Int → Bool) (x : Int) : x ∈ kL K f ↔ ∃ s, K x = some s ∧ f s = true := by
  unfold kL
  rw [List.mem_map]
  constructor
  · rintro ⟨p, hp, rfl⟩
    have h1 := (List.mem_filter.1 hp).2
    unfold kpK at h1
    change (match K (Int.ofNat p) with | some s => f s | none => false) = true at h1
    cases hk : K (Int.ofNat p) with
    | none => rw [hk] at h1; cases h1
    | some s => rw [hk] at h1; exact ⟨s, rfl, h1⟩
  · rintro ⟨s, hs, hf⟩
    have h1 := hK x s hs
    refine ⟨x.toNat, List.mem_filter.2 ⟨List.mem_range.2 (by omega), ?_⟩, by show (x.toNat : Int) = x; omega⟩
    unfold kpK
    rw [show (x.toNat : Int) = x by omega, hs]
    exact hf
set_option maxRecDepth 100000 in
theorem range_rises (n : Nat) : (List.range n).Pairwise (· < ·) := List.pairwise_lt_range
set_option maxRecDepth 100000 in
theorem kL_rises (K : Int → Option Int) (f : Int → Bool) : (kL K f).Pairwise (· < ·) := by
  unfold kL
  refine List.pairwise_map.2 (((range_rises 65536).filter _).imp ?_)
  intro a b h
  show (a : Int) < (b : Int)
  omega
set_option maxRecDepth 100000 in
theorem kL_len (K : Int → Option Int) (f : Int → Bool) : (kL K f).length ≤ 65536 := by
  unfold kL
  rw [List.length_map]
  exact Nat.le_trans (List.length_filter_le _ _) (by rw [List.length_range]; exact Nat.le_refl _)
set_option maxRecDepth 100000 in
theorem sorted_kL {K : Int → Option Int} (hK : Pgs K) (f : Int → Bool) {cs : List Int} (hn : cs.Nodup) (hm : ∀ x, x ∈ cs ↔ ∃ s, K x = some s ∧ f s = true) : cs.mergeSort (fun x y => decide (x ≤ y)) = kL K f := by
  have hp : cs.Perm (kL K f) := (List.perm_ext_iff_of_nodup hn ((kL_rises K f).imp (fun h => by omega))).2 fun x => by rw [hm, kL_mem hK]
  refine List.Perm.eq_of_pairwise (le := fun a b => decide (a ≤ b) = true) (fun a b _ _ h1 h2 => ?_) (List.pairwise_mergeSort (fun a b c h1 h2 => ?_) (fun a b => ?_) cs) ((kL_rises K f).imp (fun h => ?_)) ((List.mergeSort_perm cs _).trans hp)
  · simp only [decide_eq_true_eq] at h1 h2; omega
  · simp only [decide_eq_true_eq] at h1 h2 ⊢; omega
  · simp only [Bool.or_eq_true, decide_eq_true_eq]; omega
  · simp only [decide_eq_true_eq]; omega
/-- What has been collected. -/
def Col (K : Int → Option Int) (f : Int → Bool) (left : Lit → Bool) (cs : List Int) : Prop := cs.Nodup ∧ ∀ x, x ∈ cs ↔ ((∃ s, K x = some s ∧ f s = true) ∧ left (.int .i64 x) = false)
set_option maxRecDepth 100000 in
theorem Col.start {D : DataW Unit} {K : Int → Option Int} (h : MD D K) (f : Int → Bool) : Col K f (Maps.has D) [] := by
  refine ⟨List.nodup_nil, fun x => ?_⟩
  constructor
  · intro h; cases h
  · rintro ⟨⟨s, hs, _⟩, h2⟩
    rw [h.has, hs] at h2
    cases h2
set_option maxRecDepth 100000 in
theorem Col.yes {K : Int → Option Int} {f : Int → Bool} {left : Lit → Bool} {cs : List Int} (h : Col K f left cs) {x s : Int} (hl : left (.int .i64 x) = true) (hs : K x = some s) (hf : f s = true) : Col K f (fun z => left z && !z.sameKey (.int .i64 x)) (cs ++ [x]) := by
  have hnew : x ∉ cs := fun hx => by have := ((h.2 x).1 hx).2; rw [hl] at this; cases this
  refine ⟨List.nodup_append.2 ⟨h.1, by simp, fun a ha b hb => by simp at hb; subst hb; exact fun e => hnew (e ▸ ha)⟩, fun y => ?_⟩
  by_cases hy : y = x
  · subst hy; simp [hs, hf, Lit.sameKey]
  · simp [h.2 y, hy, Lit.sameKey]
set_option maxRecDepth 100000 in
theorem Col.no {K : Int → Option Int} {f : Int → Bool} {left : Lit → Bool} {cs : List Int} (h : Col K f left cs) {x s : Int} (hl : left (.int .i64 x) = true) (hs : K x = some s) (hf : f s = false) : Col K f (fun z => left z && !z.sameKey (.int .i64 x)) cs := by
  have hnew : x ∉ cs := fun hx => by have := ((h.2 x).1 hx).2; rw [hl] at this; cases this
  refine ⟨h.1, fun y => ?_⟩
  by_cases hy : y = x
  · subst hy; simp [hs, hf, hnew]
  · simp [h.2 y, hy, Lit.sameKey]
set_option maxRecDepth 100000 in
theorem MD.val {D : DataW Unit} {K : Int → Option Int} (h : MD D K) {x c : Int} (hat : ∀ zd, D.atKey (.int .i64 x) zd = .lit (.int .i64 c)) : K x = some c := by
  have h1 := has_true_of_atKey hat
  rw [h.has] at h1
  obtain ⟨f, hf⟩ := Option.isSome_iff_exists.1 h1
  have h2 := h.at1 x f hf
  rw [hat] at h2
  injection h2 with h2
  injection h2 with _ h2
  rw [hf, h2]
set_option maxRecDepth 100000 in
theorem sort_own {w : World} {B : Nat} {v : Value} {l : List Int} (h : OwnJ w B v l) (hl : l.length ≤ 65536) (hB : B ≤ w.heap.size) : Calls Tryd.prog 63 #[v] w fun e u => e = .returned (.tuple #[]) ∧ Hid (OwnJ u B v (l.mergeSort (fun x y => decide (x ≤ y)))) ∧ Hid (Below B w u) := by
  have hl2 : (l.mergeSort (fun x y => decide (x ≤ y))).length = l.length := List.length_mergeSort _
  by_cases h0 : l.length = 0
  · obtain rfl : l = [] := List.eq_nil_of_length_eq_zero h0
    obtain ⟨ao, cap, rfl, _⟩ := h.sl
    refine (AnyM.slices_Sort_int_none Tryd.sortA ao cap w).mono ?_
    rintro e u ⟨rfl, rfl⟩
    exact ⟨rfl, hidden (by simpa using h), hidden (Below.refl _ _)⟩
  · have h' := h
    unfold OwnJ at h'
    rcases h'.2 with ⟨_, h1⟩ | ⟨g, cap, cur, rfl, hg, hh, hnc, hm, hs, ht⟩
    · exact absurd h1 h0
    · have hH := holds_of_block_i (ss := l) hh (by rw [← Nat.mul_one l.length, ht]; rfl)
      refine (AnyM.slices_Sort_int Tryd.sortA g 0 cap l w hH (lt_some hh) (by omega)).mono ?_
      rintro e u ⟨rfl, n, os, rfl⟩
      have ho := ownsRow_sorted_i (n := n) (os := os) (ss := l) (ts := l.mergeSort (fun x y => decide (x ≤ y))) hl2 hg hh hnc hm hs
      have hgr := @grownBy_sorted_i w g n os (l.mergeSort (fun x y => decide (x ≤ y))).toArray
      refine ⟨rfl, hidden ?_, hidden ⟨hgr.os, hgr.tape, hgr.output, hgr.size, fun k hk => hgr.block k (by omega) (by intro e; injection e with e; omega)⟩⟩
      unfold OwnJ
      rw [hl2]
      exact ho
end Go.Proofs.YtedgpcckbdnijaaDoor
