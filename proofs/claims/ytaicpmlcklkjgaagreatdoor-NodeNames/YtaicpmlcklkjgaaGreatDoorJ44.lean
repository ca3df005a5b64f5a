/- packed: rest, against: how a key stands to a cell's. -/
import Derived.Test.YtaicpmlcklkjgaaGreatDoorJ43
namespace Go.Proofs.YtaicpmlcklkjgaaGreatDoor
open Go.RowKit

set_option maxRecDepth 100000 in
theorem hasPrefix_any (ao bo : Option Addr) (n m c d : Nat) (la lb : List Int) (w : World) (ha : Sl w ao n c la) (hb : Sl w bo m d lb) :
    Calls Tryz.prog 294 #[.slice ao n c, .slice bo m d] w fun e w' => e = .returned (.bool (decide (la.take lb.length = lb))) ∧ w' = w := by
  have h1 := ha.hlen
  have h2 := hb.hlen
  have h3 := ha.hcap
  by_cases hle : m ≤ n
  · have HE := hidden (equal7 ao bo m m c d (la.take m) lb w (ha.take m hle) hb)
    have hmI : (m : Int) ≤ (n : Int) := by omega
    have hmc : m ≤ c := by omega
    have hmcI : (m : Int) ≤ (c : Int) := by omega
    rw [h2]
    generalize decide (la.take m = lb) = bb at *
    clear ha hb
    go_enter Tryz.func294, Tryz.ntmps294
    go_wp2_with (first | (go_at_call 152; refine same_call HE.out ?_))
    go_ret
    exact ⟨rfl, rfl⟩
  · have hmI : ¬ (m : Int) ≤ (n : Int) := by omega
    have hd : decide (la.take lb.length = lb) = false := decide_eq_false (by
      intro h
      have := congrArg List.length h
      rw [List.length_take] at this
      omega)
    rw [hd]
    clear ha hb
    go_enter Tryz.func294, Tryz.ntmps294
    go_wp2
    go_ret
    exact ⟨rfl, rfl⟩
set_option maxRecDepth 100000 in
set_option maxHeartbeats 1000000 in
/-- CutPrefix. -/
theorem cut_row (ao bo : Option Addr) (n m c d : Nat) (la lb : List Int) (w : World) (ha : Sl w ao n c la) (hb : Sl w bo m d lb) : ∃ (ro : Option Addr) (rn rc : Nat) (b : Bool), b = decide (la.take lb.length = lb) ∧ Sl w ro rn rc (if b then la.drop lb.length else la) ∧
    ∀ u, Below w.heap.size w u → Calls Tryz.prog 289 #[.slice ao n c, .slice bo m d] u fun e w' => e = .returned (.tuple #[.slice ro rn rc, .bool b]) ∧ w' = u := by
  have h1 := ha.hlen
  have h2 := hb.hlen
  have h3 := ha.hcap
  have HP := hidden (fun u (hu : Below w.heap.size w u) => hasPrefix_any ao bo n m c d la lb u (ha.on (Nat.le_refl _) hu) (hb.on (Nat.le_refl _) hu))
  cases hd : decide (la.take lb.length = lb) with
  | false =>
    rw [hd] at HP
    refine ⟨ao, n, c, false, rfl, by simpa using ha, fun u hu => ?_⟩
    have HQ := hidden (HP.out u hu)
    clear ha hb HP hu
    go_enter Tryz.func289, Tryz.ntmps289
    go_wp2_with (first | (go_at_call 294; refine same_call HQ.out ?_))
    go_ret2
    exact ⟨rfl, rfl⟩
  | true =>
    rw [hd] at HP
    have hmn : m ≤ n := by
      have := congrArg List.length (show la.take lb.length = lb by simpa using hd)
      rw [List.length_take] at this
      omega
    have hmc : m ≤ c := by omega
    have hmcI : (m : Int) ≤ (c : Int) := by omega
    have hmnI : (m : Int) ≤ (n : Int) := by omega
    rw [h2]
    rcases sl_from ha m hmn with ⟨rfl, rfl, rfl⟩ | ⟨a, rfl, ⟨hcn, hs⟩ | ⟨hcn, hs⟩⟩
    · obtain rfl : m = 0 := by omega
      refine ⟨none, 0, 0, true, rfl, by simpa using ha, fun u hu => ?_⟩
      have HQ := hidden (HP.out u hu)
      clear ha hb HP hu
      go_enter Tryz.func289, Tryz.ntmps289
      go_wp2_with (first | (go_at_call 294; refine same_call HQ.out ?_))
      go_ret2
      exact ⟨rfl, rfl⟩
    · subst hcn
      obtain rfl : n = c := by omega
      refine ⟨some a, n - n, n - n, true, rfl, by simpa using hs, fun u hu => ?_⟩
      have HQ := hidden (HP.out u hu)
      clear ha hb HP hu hs
      go_enter Tryz.func289, Tryz.ntmps289
      go_wp2_with (first | (go_at_call 294; refine same_call HQ.out ?_))
      go_ret2
      exact ⟨by simp, rfl⟩
    · have hcn2 : c - m ≠ 0 := by omega
      have hcn3 : m < c := by omega
      have hcn4 : (m : Int) < (c : Int) := by omega
      refine ⟨some (a.add m), n - m, c - m, true, rfl, by simpa using hs, fun u hu => ?_⟩
      have HQ := hidden (HP.out u hu)
      clear ha hb HP hu hs
      go_enter Tryz.func289, Tryz.ntmps289
      go_wp2_with (first | (go_at_call 294; refine same_call HQ.out ?_))
      go_ret2
      exact ⟨by simp, rfl⟩
end Go.Proofs.YtaicpmlcklkjgaaGreatDoor

/- packed: against, and its function. -/

namespace Go.Proofs.YtaicpmlcklkjgaaGreatDoor
open Go.RowKit

/-- What against's function holds. -/
structure Ag (w : World) (a b1 b2 b3 b4 : Nat) (qo : Option Addr) (qn qc : Nat) (ro : Option Addr) (rn rc : Nat) (b : Bool) (P q : List Int) : Prop where
  c1 : w.cell? ⟨b1, 0, none⟩ = some (.pointer (some ⟨a, 0, none⟩))
  c2 : w.cell? ⟨b2, 0, none⟩ = some (.slice qo qn qc)
  c3 : w.cell? ⟨b3, 0, none⟩ = some (.bool b)
  c4 : w.cell? ⟨b4, 0, none⟩ = some (.slice ro rn rc)
  l1 : b1 < w.heap.size
  l2 : b2 < w.heap.size
  l3 : b3 < w.heap.size
  l4 : b4 < w.heap.size
  hq : Sl w qo qn qc q
  hr : Sl w ro rn rc (if b then q.drop P.length else q)
  hb : b = decide (q.take P.length = P)
set_option maxRecDepth 100000 in
theorem Ag.go {w v : World} {a b1 b2 b3 b4 : Nat} {qo : Option Addr} {qn qc : Nat} {ro : Option Addr} {rn rc : Nat} {b : Bool} {P q : List Int} (h : Ag w a b1 b2 b3 b4 qo qn qc ro rn rc b P q) (hb : Below w.heap.size w v) : Ag v a b1 b2 b3 b4 qo qn qc ro rn rc b P q :=
  ⟨(hb.cell (p := ⟨b1, 0, none⟩) h.l1).trans h.c1, (hb.cell (p := ⟨b2, 0, none⟩) h.l2).trans h.c2, (hb.cell (p := ⟨b3, 0, none⟩) h.l3).trans h.c3, (hb.cell (p := ⟨b4, 0, none⟩) h.l4).trans h.c4, Nat.lt_of_lt_of_le h.l1 hb.size, Nat.lt_of_lt_of_le h.l2 hb.size, Nat.lt_of_lt_of_le h.l3 hb.size, Nat.lt_of_lt_of_le h.l4 hb.size, h.hq.on (Nat.le_refl _) hb, h.hr.on (Nat.le_refl _) hb, h.hb⟩
end Go.Proofs.YtaicpmlcklkjgaaGreatDoor
