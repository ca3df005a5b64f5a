/- fall: which of the loose writes are laid, and how much of each. -/
import Derived.Test.YtbnjojplfbibkaaGreatDoorPl8
namespace Go.Proofs.YtbnjojplfbibkaaGreatDoor
open Go.RowKit

/-- The slice value reads as whole numbers. -/
structure Ks (w : World) (ao : Option Addr) (n : Nat) (l : List Int) : Prop where
  hlen : l.length = n
  hroom : n ≤ 140737488355328
  hat : n = 0 ∨ ∃ b off, ao = some ⟨b, off, none⟩ ∧ b < w.heap.size ∧ ∀ i, i < n → w.cell? ⟨b, off + i, none⟩ = some (.int .i64 (l.getD i 0))

/-- How much of each loose write is kept whole, behind the first numbers of the plan. -/
def kp (L page : Nat) (ks : List Int) : Nat → List Int
  | 0 => List.replicate L 0
  | j + 1 => if 0 ≤ ks.getD j 0 ∧ ks.getD j 0 < L then (kp L page ks j).set (ks.getD j 0).toNat page else kp L page ks j
set_option maxRecDepth 100000 in
theorem kp_succ (L page : Nat) (ks : List Int) (j : Nat) : kp L page ks (j + 1) = if 0 ≤ ks.getD j 0 ∧ ks.getD j 0 < L then (kp L page ks j).set (ks.getD j 0).toNat page else kp L page ks j := rfl
set_option maxRecDepth 100000 in
theorem kp_ok (L page : Nat) (ks : List Int) : ∀ j, (kp L page ks j).length = L ∧ ∀ k, 0 ≤ (kp L page ks j).getD k 0 ∧ (kp L page ks j).getD k 0 ≤ page
  | 0 => by
    refine ⟨by simp [kp], fun k => ?_⟩
    have : (kp L page ks 0).getD k 0 = 0 := by
      simp only [kp, List.getD, List.getElem?_replicate]
      split <;> rfl
    omega
  | j + 1 => by
    obtain ⟨h1, h2⟩ := kp_ok L page ks j
    unfold kp
    split
    · refine ⟨by simp [h1], fun k => ?_⟩
      have := h2 k
      simp only [List.getD, List.getElem?_set] at this ⊢
      split
      · split
        · simp
        · simp
      · exact this
    · exact ⟨h1, h2⟩
set_option maxRecDepth 100000 in
theorem set_ok {L page : Nat} {l : List Int} (h : l.length = L ∧ ∀ k, 0 ≤ l.getD k 0 ∧ l.getD k 0 ≤ page) (t : Nat) (x : Int) (hx : 0 ≤ x ∧ x ≤ page) : (l.set t x).length = L ∧ ∀ k, 0 ≤ (l.set t x).getD k 0 ∧ (l.set t x).getD k 0 ≤ page := by
  refine ⟨by simp [h.1], fun k => ?_⟩
  have := h.2 k
  simp only [List.getD, List.getElem?_set] at this ⊢
  split
  · split
    · simpa using hx
    · simp
  · exact this
/-- How much of each loose write is laid. -/
def stays (L page : Nat) (ks : List Int) (tn ta : Int) : List Int := if 0 ≤ tn ∧ tn < L then (kp L page ks ks.length).set tn.toNat (min (max ta 0) page) else kp L page ks ks.length
set_option maxRecDepth 100000 in
theorem stays_ok (L page : Nat) (ks : List Int) (tn ta : Int) : (stays L page ks tn ta).length = L ∧ ∀ k, 0 ≤ (stays L page ks tn ta).getD k 0 ∧ (stays L page ks tn ta).getD k 0 ≤ page := by
  unfold stays
  split
  · exact set_ok (kp_ok _ _ _ _) _ _ (by omega)
  · exact kp_ok _ _ _ _
def D.fallen (d : D) (ks : List Int) (tn ta : Int) : D := { d with safe := lay d.page d.loose (fun k => ((stays d.loose.length d.page ks tn ta).getD k 0).toNat) d.safe d.loose.length, loose := [], last := List.replicate d.pages 0, down := true, armed := false, left := 0, torn := 0, tat := 0, keep := [] }

set_option maxRecDepth 100000 in
theorem Dv.set8 {w : World} {F : Nat → Prop} {a : Nat} {d : D} (h : Dv w F a d) (x : Bool) : Dv (w.setCell ⟨a, 8, none⟩ (.bool x)) F a { d with down := x } := by
  obtain ⟨bs, bl, vL, vK, ha, hr⟩ := h
  exact ⟨bs, bl, vL, vK, heap_setCell_self ha, hr.self (lt_of_some ha) 8 _⟩

end Go.Proofs.YtbnjojplfbibkaaGreatDoor
