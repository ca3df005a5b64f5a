/- The document's Check, by its own words. -/
import Derived.Test.YtoifjcliepongaaDoorMn
import Derived.Deep.DeepCutAuto
namespace Go.Proofs.YtoifjcliepongaaDoor
open Go.RowKit

set_option maxRecDepth 100000 in
set_option maxHeartbeats 2000000 in
theorem rIsPage_any (x : Int) (w : World) : Calls Tryd.prog 30 #[.int .i64 x] w fun e w' => ∃ b, e = .returned (.bool b) ∧ (b = true ↔ pw x) ∧ w' = w := by
  have HP : Hid (pw x ↔ x = 512 ∨ x = 1024 ∨ x = 2048 ∨ x = 4096 ∨ x = 8192 ∨ x = 16384 ∨ x = 32768 ∨ x = 65536) := Iff.rfl
  generalize pw x = P at *
  generalize hA : (fun (e : Ending) (w' : World) => ∃ b, e = .returned (.bool b) ∧ (b = true ↔ P) ∧ w' = w) = A
  have HY : Hid (P → A (.returned (.bool true)) w) := hidden fun h => by rw [← hA]; exact ⟨true, rfl, by simpa using h, rfl⟩
  have HN : Hid (¬ P → A (.returned (.bool false)) w) := hidden fun h => by rw [← hA]; exact ⟨false, rfl, by simpa using h, rfl⟩
  clear hA
  go_enter Tryd.func30, Tryd.ntmps30
  go_wp2_with fail
  go_loop [3] (fun v => ∃ y : Int, v = .int .i64 y ∧ (y = 512 ∨ y = 1024 ∨ y = 2048 ∨ y = 4096 ∨ y = 8192 ∨ y = 16384 ∨ y = 32768 ∨ y = 65536 ∨ y = 131072) ∧ Hid (P → y ≤ x)) (fun v => (131072 - intOf v).toNat)
  case atStart => exact ⟨512, rfl, by omega, hidden fun h => by have := HP.out.1 h; omega⟩
  case round =>
    obtain ⟨y, rfl, hy, HL⟩ := hrel
    have hyb : 512 ≤ y ∧ y ≤ 131072 := by omega
    by_cases h1 : y ≤ 65536
    · by_cases h2 : y = x
      · have h2' : (y == x) = true := by simpa using h2
        have HE := hidden (HY.out (HP.out.2 (by omega)))
        have h3 : x ≤ 65536 := by omega
        clear hy
        subst h2
        go_wp2
        exact HE.out
      · have h2' : (y == x) = false := by simpa using h2
        have HN2 : Hid (2 * y = 512 ∨ 2 * y = 1024 ∨ 2 * y = 2048 ∨ 2 * y = 4096 ∨ 2 * y = 8192 ∨ 2 * y = 16384 ∨ 2 * y = 32768 ∨ 2 * y = 65536 ∨ 2 * y = 131072) := hidden (by omega)
        have HL2 : Hid (P → 2 * y ≤ x) := hidden fun h => by
          have h3 := HL.out h
          have h4 := HP.out.1 h
          omega
        clear hy
        go_wp2
        go_round
        case rel => exact ⟨2 * y, rfl, HN2.out, HL2⟩
        case measure => simp [intOf]; omega
    · have HE := hidden (HN.out (fun h => by have h3 := HL.out h; have h4 := HP.out.1 h; omega))
      clear hy
      go_wp2
      exact HE.out

set_option maxRecDepth 100000 in
theorem wrap_hi (x : Int) (h1 : 2 ≤ x) (h2 : x ≤ 65536) : wrap64 (x - 2) = x - 2 := by simp [wrap64]; omega
set_option maxRecDepth 100000 in
theorem ok_from (m : Mt) (h1 : pw m.pg) (h2 : m.en = 1 ∨ m.en = 2) (h3 : 2 ≤ m.hi ∧ m.hi ≤ 65536) (h4 : m.ro = 0 ∨ 2 ≤ m.ro ∧ m.ro < m.hi) (h5 : m.fr = 0 ∨ 2 ≤ m.fr ∧ m.fr < m.hi) (h6 : (0 ≤ m.co ∧ m.co ≤ 256) ∧ (m.co = 0 ↔ m.ro = 0))
    (h7 : (0 ≤ m.li ∧ m.li ≤ wrap64 (m.hi - 2)) ∧ (m.li = 0 ∨ m.fr ≠ 0)) (h8 : 0 ≤ m.tx ∧ m.tx ≤ 1099511627776) (h9 : ¬ (m.ro = m.fr ∧ m.ro ≠ 0)) : m.ok := by
  rw [wrap_hi _ h3.1 h3.2] at h7
  exact ⟨h2, h1, h8, h3, h4, h5, h6.1, h6.2, h7.1, h7.2, h9⟩
/-- The box of a meta. -/
def bxW (w : World) (m : Mt) : World := w.alloc (.cells (mtC m) 24)
set_option maxRecDepth 100000 in
theorem bxW_eq (w : World) (m : Mt) : bxW w m = w.alloc (.cells (mtC m) 24) := rfl
set_option maxRecDepth 100000 in
set_option maxHeartbeats 4000000 in
theorem rCheck_any (m : Mt) (w : World) : Calls Tryd.prog 10 #[mtV m] w fun e w' => Says1 m w e w' := by
  have HPG := hidden (rIsPage_any m.pg (bxW w m))
  have HBX : Hid (Below w.heap.size w (bxW w m)) := hidden (bl_al (Below.refl _ w) (Nat.le_refl _) _)
  rw [mtV_eq]
  go_enter Tryd.func10, Tryd.ntmps10
  go_wp2_with (go_at_call 30; refine HPG.out.mono ?_; rintro e w1 ⟨b1, rfl, h1, hw1⟩; have H1 := hidden h1; have HW1 := hidden hw1; clear h1 hw1; refine Hid.out ?_)
  apply hidden
  have hrow : w1.heap[w.heap.size]? = some (.cells (mtC m) 24 (0, 0)) := by rw [HW1.out]; exact row_new w m _
  have HB : Hid (Below w.heap.size w w1) := by rw [HW1.out]; exact HBX
  obtain ⟨c0, c1, c2, c3, c4, c5, c6, c7⟩ := row8 hrow
  clear HPG HBX HW1 hrow
  go_upto_region 2 with fail
  go_cut [4] (fun v u => ∃ b : Bool, v = .bool b ∧ Hid (b = true ↔ m.en = 1 ∨ m.en = 2) ∧ u = w1)
  case first =>
    by_cases e0 : m.en = 1
    · have E0 := hidden e0
      have d0 : (m.en == 1) = true := by simpa using e0
      clear e0
      by_cases e1 : m.en = 2
      · have E1 := hidden e1
        have d1 : (m.en == 2) = true := by simpa using e1
        clear e1
        go_wp2
        all_goals
          go_meet
          case rel => exact ⟨_, rfl, hidden (by have q0 := E0.out; have q1 := E1.out; simp at *; omega), rfl⟩
      · have E1 := hidden e1
        have d1 : (m.en == 2) = false := by simpa using e1
        clear e1
        go_wp2
        all_goals
          go_meet
          case rel => exact ⟨_, rfl, hidden (by have q0 := E0.out; have q1 := E1.out; simp at *; omega), rfl⟩
    · have E0 := hidden e0
      have d0 : (m.en == 1) = false := by simpa using e0
      clear e0
      by_cases e1 : m.en = 2
      · have E1 := hidden e1
        have d1 : (m.en == 2) = true := by simpa using e1
        clear e1
        go_wp2
        all_goals
          go_meet
          case rel => exact ⟨_, rfl, hidden (by have q0 := E0.out; have q1 := E1.out; simp at *; omega), rfl⟩
      · have E1 := hidden e1
        have d1 : (m.en == 2) = false := by simpa using e1
        clear e1
        go_wp2
        all_goals
          go_meet
          case rel => exact ⟨_, rfl, hidden (by have q0 := E0.out; have q1 := E1.out; simp at *; omega), rfl⟩
  case rest =>
  obtain ⟨b2, rfl, H2, hwc⟩ := hcut
  rw [hwc]
  clear hwc
  go_upto_region 3 with fail
  go_cut [5] (fun v u => ∃ b : Bool, v = .bool b ∧ Hid (b = true ↔ 2 ≤ m.hi ∧ m.hi ≤ 65536) ∧ u = w1)
  case first =>
    go_wp2
    all_goals
      go_meet
      case rel => exact ⟨_, rfl, hidden (by simp at *; omega), rfl⟩
  case rest =>
  obtain ⟨b3, rfl, H3, hwc⟩ := hcut
  rw [hwc]
  clear hwc
  go_upto_region 4 with fail
  go_cut [6] (fun v u => ∃ b : Bool, v = .bool b ∧ Hid (b = true ↔ m.ro = 0 ∨ 2 ≤ m.ro ∧ m.ro < m.hi) ∧ u = w1)
  case first =>
    by_cases e0 : m.ro = 0
    · have E0 := hidden e0
      have d0 : (m.ro == 0) = true := by simpa using e0
      clear e0
      go_wp2
      all_goals
        go_meet
        case rel => exact ⟨_, rfl, hidden (by have q0 := E0.out; simp at *; omega), rfl⟩
    · have E0 := hidden e0
      have d0 : (m.ro == 0) = false := by simpa using e0
      clear e0
      go_wp2
      all_goals
        go_meet
        case rel => exact ⟨_, rfl, hidden (by have q0 := E0.out; simp at *; omega), rfl⟩
  case rest =>
  obtain ⟨b4, rfl, H4, hwc⟩ := hcut
  rw [hwc]
  clear hwc
  go_upto_region 5 with fail
  go_cut [7] (fun v u => ∃ b : Bool, v = .bool b ∧ Hid (b = true ↔ m.fr = 0 ∨ 2 ≤ m.fr ∧ m.fr < m.hi) ∧ u = w1)
  case first =>
    by_cases e0 : m.fr = 0
    · have E0 := hidden e0
      have d0 : (m.fr == 0) = true := by simpa using e0
      clear e0
      go_wp2
      all_goals
        go_meet
        case rel => exact ⟨_, rfl, hidden (by have q0 := E0.out; simp at *; omega), rfl⟩
    · have E0 := hidden e0
      have d0 : (m.fr == 0) = false := by simpa using e0
      clear e0
      go_wp2
      all_goals
        go_meet
        case rel => exact ⟨_, rfl, hidden (by have q0 := E0.out; simp at *; omega), rfl⟩
  case rest =>
  obtain ⟨b5, rfl, H5, hwc⟩ := hcut
  rw [hwc]
  clear hwc
  go_upto_region 6 with fail
  go_cut [8] (fun v u => ∃ b : Bool, v = .bool b ∧ Hid (b = true ↔ (0 ≤ m.co ∧ m.co ≤ 256) ∧ (m.co = 0 ↔ m.ro = 0)) ∧ u = w1)
  case first =>
    by_cases e0 : m.co = 0
    · have E0 := hidden e0
      have d0 : (m.co == 0) = true := by simpa using e0
      clear e0
      by_cases e1 : m.ro = 0
      · have E1 := hidden e1
        have d1 : (m.ro == 0) = true := by simpa using e1
        clear e1
        go_wp2
        all_goals
          go_meet
          case rel => exact ⟨_, rfl, hidden (by have q0 := E0.out; have q1 := E1.out; simp at *; omega), rfl⟩
      · have E1 := hidden e1
        have d1 : (m.ro == 0) = false := by simpa using e1
        clear e1
        go_wp2
        all_goals
          go_meet
          case rel => exact ⟨_, rfl, hidden (by have q0 := E0.out; have q1 := E1.out; simp at *; omega), rfl⟩
    · have E0 := hidden e0
      have d0 : (m.co == 0) = false := by simpa using e0
      clear e0
      by_cases e1 : m.ro = 0
      · have E1 := hidden e1
        have d1 : (m.ro == 0) = true := by simpa using e1
        clear e1
        go_wp2
        all_goals
          go_meet
          case rel => exact ⟨_, rfl, hidden (by have q0 := E0.out; have q1 := E1.out; simp at *; omega), rfl⟩
      · have E1 := hidden e1
        have d1 : (m.ro == 0) = false := by simpa using e1
        clear e1
        go_wp2
        all_goals
          go_meet
          case rel => exact ⟨_, rfl, hidden (by have q0 := E0.out; have q1 := E1.out; simp at *; omega), rfl⟩
  case rest =>
  obtain ⟨b6, rfl, H6, hwc⟩ := hcut
  rw [hwc]
  clear hwc
  go_upto_region 7 with fail
  go_cut [9] (fun v u => ∃ b : Bool, v = .bool b ∧ Hid (b = true ↔ (0 ≤ m.li ∧ m.li ≤ wrap64 (m.hi - 2)) ∧ (m.li = 0 ∨ m.fr ≠ 0)) ∧ u = w1)
  case first =>
    by_cases e0 : m.li = 0
    · have E0 := hidden e0
      have d0 : (m.li == 0) = true := by simpa using e0
      clear e0
      by_cases e1 : m.fr = 0
      · have E1 := hidden e1
        have d1 : (m.fr == 0) = true := by simpa using e1
        clear e1
        go_wp2
        all_goals
          go_meet
          case rel => exact ⟨_, rfl, hidden (by have q0 := E0.out; have q1 := E1.out; simp at *; omega), rfl⟩
      · have E1 := hidden e1
        have d1 : (m.fr == 0) = false := by simpa using e1
        clear e1
        go_wp2
        all_goals
          go_meet
          case rel => exact ⟨_, rfl, hidden (by have q0 := E0.out; have q1 := E1.out; simp at *; omega), rfl⟩
    · have E0 := hidden e0
      have d0 : (m.li == 0) = false := by simpa using e0
      clear e0
      by_cases e1 : m.fr = 0
      · have E1 := hidden e1
        have d1 : (m.fr == 0) = true := by simpa using e1
        clear e1
        go_wp2
        all_goals
          go_meet
          case rel => exact ⟨_, rfl, hidden (by have q0 := E0.out; have q1 := E1.out; simp at *; omega), rfl⟩
      · have E1 := hidden e1
        have d1 : (m.fr == 0) = false := by simpa using e1
        clear e1
        go_wp2
        all_goals
          go_meet
          case rel => exact ⟨_, rfl, hidden (by have q0 := E0.out; have q1 := E1.out; simp at *; omega), rfl⟩
  case rest =>
  obtain ⟨b7, rfl, H7, hwc⟩ := hcut
  rw [hwc]
  clear hwc
  cases b1
  · go_wp2
    go_ret
    exact Says1.no (fun h => by have := H1.out.2 h.pg; cases this) HB.out
  cases b2
  · go_wp2
    go_ret
    exact Says1.no (fun h => by have := H2.out.2 h.en; cases this) HB.out
  cases b3
  · go_wp2
    go_ret
    exact Says1.no (fun h => by have := H3.out.2 h.hi; cases this) HB.out
  cases b4
  · go_wp2
    go_ret
    exact Says1.no (fun h => by have := H4.out.2 h.ro; cases this) HB.out
  cases b5
  · go_wp2
    go_ret
    exact Says1.no (fun h => by have := H5.out.2 h.fr; cases this) HB.out
  cases b6
  · go_wp2
    go_ret
    exact Says1.no (fun h => by have := H6.out.2 ⟨h.co, h.cr⟩; cases this) HB.out
  cases b7
  · go_wp2
    go_ret
    exact Says1.no (fun h => by have := H7.out.2 ⟨⟨h.li.1, by rw [wrap_hi _ h.hi.1 h.hi.2]; exact h.li.2⟩, h.lf⟩; cases this) HB.out
  have HOK := hidden (ok_from m (H1.out.1 (by first | trivial | rfl)) (H2.out.1 (by first | trivial | rfl)) (H3.out.1 (by first | trivial | rfl)) (H4.out.1 (by first | trivial | rfl)) (H5.out.1 (by first | trivial | rfl)) (H6.out.1 (by first | trivial | rfl)) (H7.out.1 (by first | trivial | rfl)))
  by_cases t1 : m.tx < 0
  · go_wp2
    go_ret
    exact Says1.no (fun h => by have := h.tx; omega) HB.out
  by_cases t2 : 1099511627776 < m.tx
  · go_wp2
    go_ret
    exact Says1.no (fun h => by have := h.tx; omega) HB.out
  by_cases e1 : m.ro = m.fr
  · have d1 : (m.ro == m.fr) = true := by simpa using e1
    by_cases e2 : m.ro = 0
    · have d2 : (m.ro == 0) = true := by simpa using e2
      have HE := hidden (HOK.out ⟨by omega, by omega⟩ (fun h => h.2 e2))
      clear e1 e2
      go_wp2
      go_ret
      exact Says1.yes HE.out HB.out
    · have d2 : (m.ro == 0) = false := by simpa using e2
      have HE : Hid (¬ m.ok) := hidden fun h => h.rf ⟨e1, e2⟩
      clear e1 e2
      go_wp2
      go_ret
      exact Says1.no HE.out HB.out
  · have d1 : (m.ro == m.fr) = false := by simpa using e1
    have HE := hidden (HOK.out ⟨by omega, by omega⟩ (fun h => e1 h.1))
    clear e1
    go_wp2
    go_ret
    exact Says1.yes HE.out HB.out
end Go.Proofs.YtoifjcliepongaaDoor
