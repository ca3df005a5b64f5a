/- The law's great; the document's SameCell and SameCells. -/
import Derived.Test.YtddjepdgigeelabDoorJh
namespace Go.Proofs.YtddjepdgigeelabDoor
open Go.RowKit

/-- How much cells are. -/
def gN (cs : List Cl) : Nat := (cs.map fun c => c.key.length + c.val.length).sum
set_option maxRecDepth 100000 in
theorem gN_take (cs : List Cl) (i : Nat) (c : Cl) (h : cs[i]? = some c) : gN (cs.take (i + 1)) = gN (cs.take i) + (c.key.length + c.val.length) := by
  unfold gN
  rw [List.take_add_one, h]
  simp
set_option maxRecDepth 100000 in
theorem gN_szN (cs : List Cl) : szN cs ≤ 8 + 13 * cs.length + gN cs := by
  unfold szN gN
  induction cs with
  | nil => simp
  | cons c r ih =>
    simp only [List.map_cons, List.sum_cons, List.length_cons]
    have : ctk c ≤ 13 + (c.key.length + c.val.length) := by unfold ctk; split <;> omega
    omega

/-- What great comes to. -/
def GrtTo (n : Nat) (cs : List Cl) (w : World) (e : Ending) (w' : World) : Prop := ∃ b : Bool, e = .returned (.bool b) ∧ Hid (Below w.heap.size w w') ∧ Hid (b = false → n ≤ 100000 ∧ szN cs ≤ 8388608)
set_option maxRecDepth 100000 in
set_option maxHeartbeats 1000000 in
theorem great_any (ao : Option Addr) (n cap : Nat) (cs : List Cl) (w : World) (hs : SlC w ao n cap cs) :
    Calls Tryd.prog 5 #[.slice ao n cap] w fun e w' => GrtTo n cs w e w' := by
  have HS := hidden hs
  have hn := hs.hroom
  have HLEN := hidden hs.hlen
  clear hs
  go_enter Tryd.func5, Tryd.ntmps5
  go_wp2_with fail
  go_loopw [3, 4] (fun v i wr => ∃ j p : Nat, j ≤ n ∧ p ≤ 562949953421312 ∧ i = .int .i64 j ∧ v = .int .i64 (p : Int) ∧ Hid (p = n + gN (cs.take j)) ∧ Hid (Below w.heap.size w wr)) (fun _ i _ => n - (intOf i).toNat)
  case atStart => exact ⟨0, n, by omega, by omega, rfl, rfl, hidden (by simp [gN]), hidden (Below.refl _ _)⟩
  case round =>
    obtain ⟨j, p, hj, hp, rfl, rfl, HP, HB⟩ := hrel
    have bj : (j : Int) ≤ 140737488355328 := by omega
    have bp : (p : Int) ≤ 562949953421312 := by omega
    by_cases hlt : j < n
    · have hltI : (j : Int) < (n : Int) := by omega
      by_cases hpp : p ≤ 4194304
      · have hppI : (p : Int) ≤ 4194304 := by omega
        obtain ⟨b, off, c, ka, kc, va, vc, rfl, hb, hci, c0, c1, c2, c3, c4, hk, hv⟩ := (HS.out.on HB.out).item j hlt
        have hkr := hk.hroom
        have hvr := hv.hroom
        have HG := hidden (gN_take cs j c hci)
        obtain ⟨x, hx⟩ : ∃ x, c.key.length = x := ⟨_, rfl⟩
        obtain ⟨y, hy⟩ : ∃ y, c.val.length = y := ⟨_, rfl⟩
        rw [hx] at c0 hkr
        rw [hy] at c2 hvr
        rw [hx, hy] at HG
        have bx : (x : Int) ≤ 140737488355328 := by omega
        have by_ : (y : Int) ≤ 140737488355328 := by omega
        clear hk hv hci hx hy
        go_wp2_with fail
        go_quiet (fail)
        go_wp2
        go_roundw
        case rel => exact ⟨j + 1, p + x + y, by omega, by omega, by go_num, by go_num, hidden (by rw [HG.out, HP.out]; omega), hidden (bl_dr HB.out _)⟩
        case measure => simp [intOf]; omega
      · have hppI : ¬ (p : Int) ≤ 4194304 := by omega
        have hppJ : 4194304 < (p : Int) := by omega
        go_wp2
        go_ret
        exact ⟨true, rfl, HB, hidden (fun h => by cases h)⟩
    · obtain rfl : j = n := by omega
      have hlI : ¬ (j : Int) < (j : Int) := by omega
      have HT : Hid (cs.take j = cs) := hidden (List.take_of_length_le (by rw [HLEN.out]; exact Nat.le_refl _))
      have HZ := hidden (gN_szN cs)
      by_cases hpp : 4194304 < p
      · have hppJ : 4194304 < (p : Int) := by omega
        go_wp2
        go_ret
        exact ⟨true, rfl, HB, hidden (fun h => by cases h)⟩
      · have hppJ : ¬ 4194304 < (p : Int) := by omega
        by_cases hjj : 100000 < j
        · have hjJ : 100000 < (j : Int) := by omega
          go_wp2
          go_ret
          exact ⟨true, rfl, HB, hidden (fun h => by cases h)⟩
        · have hjJ : ¬ 100000 < (j : Int) := by omega
          go_wp2
          go_ret
          refine ⟨false, rfl, HB, hidden fun _ => ⟨by omega, ?_⟩⟩
          have h1 := HZ.out
          have h2 := HP.out
          rw [HT.out] at h2
          have h3 := HLEN.out
          omega

end Go.Proofs.YtddjepdgigeelabDoor
