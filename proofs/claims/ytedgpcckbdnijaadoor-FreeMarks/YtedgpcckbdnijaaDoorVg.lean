/- What the law's live answers. -/
import Derived.Test.YtedgpcckbdnijaaDoorVf
namespace Go.Proofs.YtedgpcckbdnijaaDoor
open Go.RowKit Go.Maps

set_option maxRecDepth 100000 in
/-- A row of ints that a call lays. -/
theorem lit_slz (u : World) (xs : List Int) (hx : ∀ x ∈ xs, -9223372036854775808 ≤ x ∧ x ≤ 9223372036854775807) (hl : xs.length ≤ 65536) : SlZ (u.alloc (.cells (IV xs).toArray 3)) (some ⟨u.heap.size, 0, none⟩) xs.length xs.length xs :=
  Bj.slz (al_row u _) hl hx
set_option maxRecDepth 100000 in
theorem OwnJ.slz {w : World} {B : Nat} {v : Value} {l : List Int} (h : OwnJ w B v l) (hl : l.length ≤ 65536) (hx : ∀ x ∈ l, -9223372036854775808 ≤ x ∧ x ≤ 9223372036854775807) : ∃ ao cap, v = .slice ao l.length cap ∧ SlZ w ao l.length cap l := by
  obtain ⟨ao, cap, e, hs⟩ := h.sl
  refine ⟨ao, cap, e, hs.hlen, by omega, hx, hs.hcap, hs.hat.imp id ?_⟩
  rintro ⟨b, e, hlt, hc⟩
  exact ⟨b, 0, e, hlt, fun i hi => by rw [Nat.zero_add]; exact hc i hi⟩
def K0 : Int → Option Int := KL [9, 4, 7]
def K1 : Int → Option Int := setK K0 4 (-1)
def K2 : Int → Option Int := setK K1 4 3
def K3 : Int → Option Int := relK K2 3
set_option maxRecDepth 100000 in
theorem K0_at (x : Int) : K0 x = if x = 9 ∨ x = 4 ∨ x = 7 then some 0 else none := by simp [K0, KL]
set_option maxRecDepth 100000 in
theorem K1_at (x : Int) : K1 x = if x = 9 ∨ x = 7 then some 0 else none := by
  unfold K1 setK delK
  rw [if_pos rfl]
  by_cases e : x = 4
  · simp [e]
  · simp [e, K0_at]
set_option maxRecDepth 100000 in
theorem K2_at (x : Int) : K2 x = if x = 9 ∨ x = 7 then some 0 else if x = 4 then some 3 else none := by
  unfold K2 setK putK
  rw [if_neg (by decide)]
  by_cases e : x = 4
  · simp [e]
  · simp [e, K1_at]
set_option maxRecDepth 100000 in
theorem K3_at (x : Int) : K3 x = if x = 9 ∨ x = 4 ∨ x = 7 then some 0 else none := by
  unfold K3 relK
  rw [K2_at]
  by_cases e : x = 9 ∨ x = 7
  · rw [if_pos e, if_pos (by omega)]
    simp [dueF]
  · rw [if_neg e]
    by_cases e2 : x = 4
    · simp [e2, dueF]
    · rw [if_neg e2, if_neg (by omega)]
set_option maxRecDepth 100000 in
theorem K2_pg : Pgs K2 := by
  intro k f h
  rw [K2_at] at h
  by_cases e : k = 9 ∨ k = 7
  · omega
  · rw [if_neg e] at h
    by_cases e2 : k = 4
    · omega
    · rw [if_neg e2] at h; cases h
set_option maxRecDepth 100000 in
theorem K3_pg : Pgs K3 := by
  intro k f h
  rw [K3_at] at h
  by_cases e : k = 9 ∨ k = 4 ∨ k = 7
  · omega
  · rw [if_neg e] at h; cases h
set_option maxRecDepth 100000 in
theorem lst0 {p : Nat} (h : Lst K0 p) : p = 4 := by
  have h1 := h.1
  rw [K0_at] at h1
  have h2 : (p : Int) = 9 ∨ (p : Int) = 4 ∨ (p : Int) = 7 := by
    by_cases e : (p : Int) = 9 ∨ (p : Int) = 4 ∨ (p : Int) = 7
    · exact e
    · rw [if_neg e] at h1; cases h1
  by_cases e : p = 4
  · exact e
  · have h3 := h.2 4 (by omega)
    rw [K0_at] at h3
    simp at h3
set_option maxRecDepth 100000 in
theorem due2 : kL K2 (dueF 3) = [4] := kL_eq K2_pg _ (by simp) (fun x => by
  rw [K2_at]
  by_cases e : x = 9 ∨ x = 7
  · rw [if_pos e]
    simp [dueF]
    omega
  · rw [if_neg e]
    by_cases e2 : x = 4
    · simp [e2, dueF]
    · simp [e2])
set_option maxRecDepth 100000 in
theorem all3 : kL K3 (fun _ => true) = [4, 7, 9] := kL_eq K3_pg _ (by simp) (fun x => by
  rw [K3_at]
  by_cases e : x = 9 ∨ x = 4 ∨ x = 7
  · rw [if_pos e]
    simp
    omega
  · rw [if_neg e]
    simp
    omega)
set_option maxRecDepth 100000 in
theorem give1 : giveE K1 4 3 = 0 := by
  unfold giveE
  rw [if_pos (by decide), if_pos (by decide), K1_at]
  decide
set_option maxRecDepth 100000 in
theorem new0 : newE [9, 4, 7] = 0 := by decide
set_option maxRecDepth 100000 in
theorem enc0 : frE 0 [2, 300] 512 = 0 := by decide
set_option maxRecDepth 100000 in
theorem appB_none (K : Int → Option Int) : appB K (fun _ => none) = K := by
  funext x
  rfl
set_option maxRecDepth 100000 in
theorem no0 (h : ∀ x, K0 x ≠ some 0) : False := h 4 (by rw [K0_at]; simp)
end Go.Proofs.YtedgpcckbdnijaaDoor
