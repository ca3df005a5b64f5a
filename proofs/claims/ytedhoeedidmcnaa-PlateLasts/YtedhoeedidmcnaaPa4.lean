/- Plain mathematics of PlateLasts: the states, and what a byte may be behind a fall. -/
import Derived.Test.YtedhoeedidmcnaaPa3
namespace Go.Proofs.Ytedhoeedidmcnaa
open Go.RowKit

/-- The page that an Op's number means. -/
def pgn (N : Int) : Nat := (bits .and .i64 N 7).toNat
theorem pgn_ok (N : Int) : bits .and .i64 N 7 = (pgn N : Int) ∧ pgn N < 8 := by
  have e : bits .and .i64 N 7 = IntKind.i64.wrap ((BitVec.ofInt 64 N &&& BitVec.ofInt 64 7).toNat : Int) := rfl
  have h : (BitVec.ofInt 64 N &&& BitVec.ofInt 64 7).toNat ≤ 7 := by
    rw [BitVec.toNat_and]
    exact Nat.le_trans Nat.and_le_right (by decide)
  have e2 : bits .and .i64 N 7 = ((BitVec.ofInt 64 N &&& BitVec.ofInt 64 7).toNat : Int) := by
    rw [e, IntKind.wrap_i64]; omega
  unfold pgn
  rw [e2]
  exact ⟨by simp, by omega⟩

def rep (x : Int) : List Int := List.replicate 512 x
theorem rep_len (x : Int) : (rep x).length = 512 := List.length_replicate ..
theorem rep_get (x : Int) (m : Nat) (h : m < 512) : (rep x).getD m 0 = x := by
  simp only [rep, List.getD, List.getElem?_replicate]
  rw [if_pos h]
  rfl
theorem rep_wf (x : Int) (h : 0 ≤ x ∧ x ≤ 255) : Wf (rep x) := replicate_wf _ _ h

/-- The first k writes. -/
def ws (l : List (Int × Int)) : Nat → List (Nat × List Int)
  | 0 => []
  | k + 1 => ws l k ++ [(pgn (l.getD k (0, 0)).1, rep (l.getD k (0, 0)).2)]
theorem ws_len (l : List (Int × Int)) : ∀ k, (ws l k).length = k
  | 0 => rfl
  | k + 1 => by simp [ws, ws_len l k]
theorem ws_get (l : List (Int × Int)) : ∀ k i, i < k → (ws l k).getD i (0, []) = (pgn (l.getD i (0, 0)).1, rep (l.getD i (0, 0)).2)
  | 0, i, h => by omega
  | k + 1, i, h => by
    show (ws l k ++ [_]).getD i (0, []) = _
    rw [getD_snoc, ws_len]
    by_cases e : i = k
    · rw [if_pos e, e]
    · rw [if_neg e]; exact ws_get l k i (by omega)

/-- The device behind the first k writes, from the state d on. -/
def dS (d : D) (l : List (Int × Int)) : Nat → D
  | 0 => d
  | k + 1 => (dS d l k).wrote (pgn (l.getD k (0, 0)).1) (rep (l.getD k (0, 0)).2)
theorem dS_f (d : D) (l : List (Int × Int)) (h : d.loose = []) : ∀ k, (dS d l k).page = d.page ∧ (dS d l k).pages = d.pages ∧ (dS d l k).down = d.down ∧ (dS d l k).armed = d.armed ∧ (dS d l k).cw = d.cw + k ∧ (dS d l k).cs = d.cs ∧ (dS d l k).loose = ws l k ∧ (dS d l k).safe = d.safe
  | 0 => ⟨rfl, rfl, rfl, rfl, by simp [dS], rfl, h, rfl⟩
  | k + 1 => by
    obtain ⟨h1, h2, h3, h4, h5, h6, h7, h8⟩ := dS_f d l h k
    refine ⟨h1, h2, h3, h4, ?_, h6, ?_, h8⟩
    · show (dS d l k).cw + 1 = _
      rw [h5]; omega
    · show (dS d l k).loose ++ [_] = _
      rw [h7]; rfl
/-- .. while the power is armed. -/
def dU (d : D) (l : List (Int × Int)) : Nat → D
  | 0 => d
  | k + 1 => { (dU d l k).wrote (pgn (l.getD k (0, 0)).1) (rep (l.getD k (0, 0)).2) with left := (dU d l k).left - 1 }
theorem dU_f (d : D) (l : List (Int × Int)) (h : d.loose = []) : ∀ k, (dU d l k).page = d.page ∧ (dU d l k).pages = d.pages ∧ (dU d l k).down = d.down ∧ (dU d l k).armed = d.armed ∧ (dU d l k).cw = d.cw + k ∧ (dU d l k).left = d.left - k ∧ (dU d l k).loose = ws l k ∧ (dU d l k).safe = d.safe ∧ (dU d l k).keep = d.keep ∧ (dU d l k).torn = d.torn ∧ (dU d l k).tat = d.tat
  | 0 => ⟨rfl, rfl, rfl, rfl, by simp [dU], by simp [dU], h, rfl, rfl, rfl, rfl⟩
  | k + 1 => by
    obtain ⟨h1, h2, h3, h4, h5, h6, h7, h8, h9, h10, h11⟩ := dU_f d l h k
    refine ⟨h1, h2, h3, h4, ?_, ?_, ?_, h8, h9, h10, h11⟩
    · show (dU d l k).cw + 1 = _
      rw [h5]; omega
    · show (dU d l k).left - 1 = _
      rw [h6]; omega
    · show (dU d l k).loose ++ [_] = _
      rw [h7]; rfl

/-- Behind a fall with k writes loose. -/
structure Fin8 (l : List (Int × Int)) (safe0 : List Int) (k : Nat) (d : D) : Prop where
  down : d.down = true
  loose : d.loose = []
  last : ∀ n, d.last.getD n 0 = 0
  page : d.page = 512
  pages : d.pages = 8
  safe : ∃ st, d.safe = lay 512 (ws l k) st safe0 k
theorem fin_fallen {l : List (Int × Int)} {safe0 : List Int} {k : Nat} {d : D} (ks : List Int) (tn ta : Int) (h1 : d.page = 512) (h2 : d.pages = 8) (h3 : d.loose = ws l k) (h4 : d.safe = safe0) : Fin8 l safe0 k (d.fallen ks tn ta) := by
  refine ⟨rfl, rfl, fun n => ?_, h1, h2, ⟨fun k => ((stays d.loose.length d.page ks tn ta).getD k 0).toNat, ?_⟩⟩
  · simp only [D.fallen, List.getD, List.getElem?_replicate]
    split <;> rfl
  · show lay d.page d.loose _ d.safe d.loose.length = _
    rw [h1, h3, h4, ws_len]

theorem lay_ok8 (l : List (Int × Int)) (K : Nat) (st : Nat → Nat) (safe : List Int) (h : safe.length = 4096) : ∀ j, j ≤ K → (lay 512 (ws l K) st safe j).length = 4096
  | 0, _ => h
  | j + 1, hj => by
    have h1 := lay_ok8 l K st safe h j (by omega)
    show (Go.splice _ _ _).length = _
    have hp := (pgn_ok (l.getD j (0, 0)).1).2
    rw [ws_get l K j (by omega)]
    rw [length_splice _ _ _ (by rw [h1, List.length_take, rep_len]; show pgn _ * 512 + _ ≤ _; omega), h1]
theorem lay_byte (l : List (Int × Int)) (K : Nat) (st : Nat → Nat) (safe : List Int) (h : safe.length = 4096) (k : Nat) : ∀ j, j ≤ K → (lay 512 (ws l K) st safe j).getD k 0 = safe.getD k 0 ∨ ∃ i, i < j ∧ pgn (l.getD i (0, 0)).1 = k / 512 ∧ (lay 512 (ws l K) st safe j).getD k 0 = (l.getD i (0, 0)).2
  | 0, _ => .inl rfl
  | j + 1, hj => by
    have h1 := lay_ok8 l K st safe h j (by omega)
    have ih := lay_byte l K st safe h k j (by omega)
    have hp := (pgn_ok (l.getD j (0, 0)).1).2
    have e : lay 512 (ws l K) st safe (j + 1) = splice (lay 512 (ws l K) st safe j) (pgn (l.getD j (0, 0)).1 * 512) ((rep (l.getD j (0, 0)).2).take (st j)) := by
      show splice _ _ _ = _
      rw [ws_get l K j (by omega)]
    rw [e]
    have hres : ∀ (P : Nat) (V : Int), P < 8 → (splice (lay 512 (ws l K) st safe j) (P * 512) ((rep V).take (st j))).getD k 0 = (lay 512 (ws l K) st safe j).getD k 0 ∨ (P = k / 512 ∧ (splice (lay 512 (ws l K) st safe j) (P * 512) ((rep V).take (st j))).getD k 0 = V) := by
      intro P V hP8
      generalize lay 512 (ws l K) st safe j = L at h1 ⊢
      have hlen : ((rep V).take (st j)).length ≤ 512 := by rw [List.length_take, rep_len]; omega
      have hg := splice_get L ((rep V).take (st j)) (P * 512) k (by omega)
      by_cases hin : P * 512 ≤ k ∧ k < P * 512 + ((rep V).take (st j)).length
      · right
        refine ⟨by omega, ?_⟩
        rw [if_neg (by omega), if_pos hin.2] at hg
        have hk2 : k - P * 512 < st j := by
          have := hin.2
          rw [List.length_take] at this
          omega
        have := rep_get V (k - P * 512) (by omega)
        simp only [List.getD] at this ⊢
        rw [hg, List.getElem?_take, if_pos hk2]
        exact this
      · left
        simp only [List.getD]
        rw [hg]
        by_cases hlo : k < P * 512
        · rw [if_pos hlo]
        · rw [if_neg hlo, if_neg (fun h => hin ⟨by omega, h⟩)]
    rcases hres _ (l.getD j (0, 0)).2 hp with hk | ⟨hk1, hk2⟩
    · rw [hk]
      rcases ih with ih | ⟨i, i1, i2, i3⟩
      · exact .inl ih
      · exact .inr ⟨i, by omega, i2, i3⟩
    · exact .inr ⟨j, by omega, hk1, hk2⟩

/-- May the byte k be what it is, by the first i writes? -/
def mayB (sA s0 : List Int) (l : List (Int × Int)) (k : Nat) : Nat → Bool
  | 0 => decide (sA.getD k 0 = s0.getD k 0)
  | i + 1 => mayB sA s0 l k i || (decide (pgn (l.getD i (0, 0)).1 = k / 512) && decide (sA.getD k 0 = (l.getD i (0, 0)).2))
theorem mayB_of (sA s0 : List Int) (l : List (Int × Int)) (k : Nat) : ∀ j, (sA.getD k 0 = s0.getD k 0 ∨ ∃ i, i < j ∧ pgn (l.getD i (0, 0)).1 = k / 512 ∧ sA.getD k 0 = (l.getD i (0, 0)).2) → mayB sA s0 l k j = true
  | 0, h => by
    rcases h with h | ⟨i, h, _⟩
    · exact decide_eq_true h
    · omega
  | j + 1, h => by
    simp only [mayB, Bool.or_eq_true, Bool.and_eq_true, decide_eq_true_eq]
    rcases h with h | ⟨i, h1, h2, h3⟩
    · exact .inl (mayB_of sA s0 l k j (.inl h))
    · by_cases e : i = j
      · subst e; exact .inr ⟨h2, h3⟩
      · exact .inl (mayB_of sA s0 l k j (.inr ⟨i, by omega, h2, h3⟩))
theorem fin_may {l : List (Int × Int)} {safe0 : List Int} {j : Nat} {d : D} (h : Fin8 l safe0 j d) (h0 : safe0.length = 4096) : d.safe.length = 4096 ∧ ∀ k, mayB d.safe safe0 l k j = true := by
  obtain ⟨st, hs⟩ := h.safe
  rw [hs]
  exact ⟨lay_ok8 l j st safe0 h0 j (Nat.le_refl _), fun k => mayB_of _ _ _ _ _ (lay_byte l j st safe0 h0 k j (Nat.le_refl _))⟩
end Go.Proofs.Ytedhoeedidmcnaa
