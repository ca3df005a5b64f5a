/- Layer 12: isSized; a way's end, and what it finds. -/
import Derived.Test.YtfcbfombobelmaaGreatDoorJ31
namespace Go.Proofs.YtfcbfombobelmaaGreatDoor
open Go.RowKit

set_option maxRecDepth 100000 in
set_option maxHeartbeats 2000000 in
theorem isSized_yes (ka : Option Addr) (kn kc : Nat) (va : Option Addr) (vn vc : Nat) (pg ct : Int) (w : World) (h0 : 0 < kn) (h1 : kn ≤ 64) (h2 : vn ≤ 96) :
    Calls Tryz.prog 28 #[.int .i64 512, .agg #[.slice ka kn kc, .int .i64 1, .slice va vn vc, .int .i64 pg, .int .i64 ct]] w fun e w' => e = .returned (.bool true) ∧ Hid (Below w.heap.size w w') := by
  obtain ⟨x, hx⟩ : ∃ x, w.alloc (.cells #[.slice ka kn kc, .int .i64 1, .slice va vn vc, .int .i64 pg, .int .i64 ct] 29) = x := ⟨_, rfl⟩
  have hbx : Below w.heap.size w x := by rw [← hx]; exact bl_al (Below.refl _ _) (Nat.le_refl _) _
  obtain ⟨s, hs⟩ : ∃ s, w.heap.size = s := ⟨_, rfl⟩
  have HC : Hid (∀ z, C5 (x.drewN z) s (.slice ka kn kc) (.int .i64 1) (.slice va vn vc) (.int .i64 pg) (.int .i64 ct)) := hidden fun z => box_on (show C5 x s _ _ _ _ _ by rw [← hx, ← hs]; exact C5.box _ _ _ _ _ _) (bl_dr (Below.refl _ _) z)
  have a0 := fun z => (HC.out z).cells.1
  have a1 := fun z => (HC.out z).cells.2.1
  have a2 := fun z => (HC.out z).cells.2.2.1
  have HC2 : Hid (∀ z z2, C5 ((x.drewN z).drewN z2) s (.slice ka kn kc) (.int .i64 1) (.slice va vn vc) (.int .i64 pg) (.int .i64 ct)) := hidden fun z z2 => box_on (HC.out z) (bl_dr (Below.refl _ _) z2)
  have g0 := fun z z2 => (HC2.out z z2).cells.1
  have b0 := a0 0
  have b1 := a1 0
  have b2 := a2 0
  have k1 := fun u => nmostKey_any 512 u
  have k2 := fun u => nmostValue_any 512 u
  rw [if_pos pw512] at k1 k2
  have K1 := hidden k1
  have K2 := hidden k2
  have d1 : decide ((96 : Int) < (vn : Int)) = false := decide_eq_false (by omega)
  have d2 : decide ((0 : Int) < (kn : Int)) = true := decide_eq_true (by omega)
  have d3 : decide ((kn : Int) ≤ 64) = true := decide_eq_true (by omega)
  have e1 : decide (0 < kn) = true := decide_eq_true h0
  have e2 : decide (kn ≤ 64) = true := decide_eq_true h1
  have e3 : decide (96 < vn) = false := decide_eq_false (by omega)
  have HBX := hidden hbx
  clear k1 k2 hbx
  go_enter Tryz.func28, Tryz.ntmps28
  go_wp2_with fail
  go_quiet (first | (go_at_call 42; exact Calls.quiet_of_same (K2.out _)) | (go_at_call 43; exact Calls.quiet_of_same (K1.out _)))
  go_wp2_with fail
  obtain ⟨y, hy⟩ : ∃ y, x.drewN nq = y := ⟨_, rfl⟩
  have h0' := g0 nq
  have h1' := a0 nq
  have HBY : Hid (Below w.heap.size w y) := hidden (by rw [← hy]; exact bl_dr HBX.out _)
  rw [hy] at h0' h1' ⊢
  clear a0 a1 a2 g0 b0 b1 b2 hy
  go_quiet (first | (go_at_call 43; exact Calls.quiet_of_same (K1.out _)))
  go_wp2
  go_ret
  exact ⟨rfl, hidden (by first | exact bl_dr HBY.out _ | exact HBY.out)⟩
set_option maxRecDepth 100000 in
set_option maxHeartbeats 2000000 in
theorem isSized_no (ka : Option Addr) (kc : Nat) (va : Option Addr) (vn vc : Nat) (pg ct : Int) (w : World) (h2 : vn ≤ 96) :
    Calls Tryz.prog 28 #[.int .i64 512, .agg #[.slice ka 0 kc, .int .i64 1, .slice va vn vc, .int .i64 pg, .int .i64 ct]] w fun e w' => e = .returned (.bool false) ∧ Hid (Below w.heap.size w w') := by
  obtain ⟨x, hx⟩ : ∃ x, w.alloc (.cells #[.slice ka 0 kc, .int .i64 1, .slice va vn vc, .int .i64 pg, .int .i64 ct] 29) = x := ⟨_, rfl⟩
  have hbx : Below w.heap.size w x := by rw [← hx]; exact bl_al (Below.refl _ _) (Nat.le_refl _) _
  obtain ⟨s, hs⟩ : ∃ s, w.heap.size = s := ⟨_, rfl⟩
  have HC : Hid (∀ z, C5 (x.drewN z) s (.slice ka 0 kc) (.int .i64 1) (.slice va vn vc) (.int .i64 pg) (.int .i64 ct)) := hidden fun z => box_on (show C5 x s _ _ _ _ _ by rw [← hx, ← hs]; exact C5.box _ _ _ _ _ _) (bl_dr (Below.refl _ _) z)
  have a0 := fun z => (HC.out z).cells.1
  have a1 := fun z => (HC.out z).cells.2.1
  have a2 := fun z => (HC.out z).cells.2.2.1
  have HC2 : Hid (∀ z z2, C5 ((x.drewN z).drewN z2) s (.slice ka 0 kc) (.int .i64 1) (.slice va vn vc) (.int .i64 pg) (.int .i64 ct)) := hidden fun z z2 => box_on (HC.out z) (bl_dr (Below.refl _ _) z2)
  have g0 := fun z z2 => (HC2.out z z2).cells.1
  have b0 := a0 0
  have b1 := a1 0
  have b2 := a2 0
  have k2 := fun u => nmostValue_any 512 u
  rw [if_pos pw512] at k2
  have K2 := hidden k2
  have d1 : decide ((96 : Int) < (vn : Int)) = false := decide_eq_false (by omega)
  have e3 : decide (96 < vn) = false := decide_eq_false (by omega)
  have HBX := hidden hbx
  clear k2 hbx
  go_enter Tryz.func28, Tryz.ntmps28
  go_wp2_with fail
  go_quiet (first | (go_at_call 42; exact Calls.quiet_of_same (K2.out _)))
  go_wp2_with fail
  go_quiet (fail)
  go_wp2
  go_ret
  exact ⟨rfl, hidden (by first | exact bl_dr (bl_dr HBX.out _) _ | exact bl_dr HBX.out _)⟩
/-- What a look finds, as it lies in memory. -/
def FoTo (c : Cl) (is : Bool) (w : World) (e : Ending) (w' : World) : Prop :=
  ∃ ko kc vo vc, e = .returned (.agg #[.slice ko c.key.length kc, .int .i64 c.kd, .slice vo c.val.length vc, .int .i64 c.pg, .int .i64 c.ct, .bool is]) ∧ Hid (OwnB w' w.heap.size (.slice ko c.key.length kc) c.key ∧ OwnB w' w.heap.size (.slice vo c.val.length vc) c.val) ∧ Hid (Below w.heap.size w w')
/-- No cell. -/
def noCl : Cl := ⟨[], 0, [], 0, 0⟩
set_option maxRecDepth 100000 in
theorem sizeFo1 : (Tryz.prog.info? 46).map (·.size) = some 6 := by kernel_rfl
set_option maxRecDepth 100000 in
theorem end_0 (w : World) : Calls Tryz.prog 37 #[.slice none 0 0] w (FoTo noCl false w) := by
  go_enter Tryz.func37, Tryz.ntmps37
  go_wp2
  refine bodyPost_ret (results_cell_row rfl _ _ w.heap.size 46 #[.slice none 0 0, .int .i64 0, .slice none 0 0, .int .i64 0, .int .i64 0, .bool false] (0, 0) _ (by rfl) (heap_alloc_last w _) Tryz.underlying46 rfl sizeFo1) rfl ?_
  exact ⟨none, 0, none, 0, rfl, hidden ⟨OwnB.nil _ _, OwnB.nil _ _⟩, hidden (bl_al (Below.refl _ _) (Nat.le_refl _) _)⟩
end Go.Proofs.YtfcbfombobelmaaGreatDoor
