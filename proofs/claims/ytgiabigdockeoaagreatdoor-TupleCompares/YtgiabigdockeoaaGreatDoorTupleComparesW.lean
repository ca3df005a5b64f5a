/- The walk of TupleCompares. -/
import Derived.Test.YtgiabigdockeoaaGreatDoorKeptI2
import Derived.Test.YtgiabigdockeoaaGreatDoorCmpMath
import Derived.Test.YtgiabigdockeoaaGreatDoorAwake
namespace Go.Proofs.YtgiabigdockeoaaGreatDoor
open Go.RowKit

theorem Outs.below {b hi B : Nat} {w w' : World} (h : Outs b hi w w') (h1 : B ≤ b) (h2 : B ≤ w.heap.size) : Below B w w' := ⟨h.os, h.tape, h.output, h.size, fun k hk => h.block k (by omega) (by omega)⟩
theorem SlI.apart {w w' : World} {ao : Option Addr} {n c : Nat} {l : Its} (h : SlI w Tp ao n c l) (hb : Below w.heap.size w w') {b hi : Nat} (h1 : w.heap.size ≤ b) : SlI w' (fun k => k < b ∨ hi ≤ k) ao n c l :=
  ((h.low (Nat.le_refl _)).onB hb).mono (Nat.le_refl _) (fun _ _ _ => rfl) (fun _ hk _ => .inl (Nat.lt_of_lt_of_le hk h1))
theorem LentS.bel {w w' : World} {l : Its} {b hi : Nat} (h : LentS w l b hi) (hh : hi ≤ w.heap.size) (hb : Below w.heap.size w w') : LentS w' l b hi := h.keep fun k _ h2 => hb.block k (by omega)

set_option maxHeartbeats 1000000 in
set_option maxRecDepth 100000 in
theorem walk_TupleCompares (w : World) (ao : Option Addr) (n c : Nat) (a : Its) (bo : Option Addr) (m d : Nat) (b : Its) (ha : SlI w Tp ao n c a) (hb : SlI w Tp bo m d b) :
    Calls Tryz.prog 5 #[.slice ao n c, .slice bo m d] w fun e w' => e = .returned (.bool true) ∧ Below w.heap.size w w' := by
  have hla := ha.hlen
  have hlb := hb.hlen
  have HA := hidden ha
  have HB := hidden hb
  clear ha hb
  go_enter Tryz.func5, Tryz.ntmps5
  go_wp2_with fail
  refine (awake_any w).mono ?_
  rintro e w1 ⟨rfl, hb1⟩
  have H1 := hidden hb1
  clear hb1
  go_wp2_with fail
  refine (great_any a ao n c w1 (HA.out.on (Nat.le_refl _) H1.out)).mono ?_
  rintro e w2 ⟨rfl, q2, hw2⟩
  have H2 : Hid (Below w.heap.size w w2) := (by rw [hw2]; exact hidden (below_draws H1.out _))
  clear hw2 H1
  go_wp2_with fail
  refine (great_any b bo m d w2 (HB.out.on (Nat.le_refl _) H2.out)).mono ?_
  rintro e w3 ⟨rfl, q3, hw3⟩
  have H3 : Hid (Below w.heap.size w w3) := (by rw [hw3]; exact hidden (below_draws H2.out _))
  clear hw3 H2
  by_cases ga : 100000 < wgh a 0
  · have ga' : decide (100000 < wgh a 0) = true := by simp [ga]
    rw [ga']
    clear ga ga'
    go_wp2_with fail
    go_ret
    exact ⟨rfl, H3.out⟩
  by_cases gb : 100000 < wgh b 0
  · have ga' : decide (100000 < wgh a 0) = false := by simp; omega
    have gb' : decide (100000 < wgh b 0) = true := by simp [gb]
    rw [ga', gb']
    clear ga ga' gb gb'
    go_wp2_with fail
    go_ret
    exact ⟨rfl, H3.out⟩
  have ga' : decide (100000 < wgh a 0) = false := by simp; omega
  have gb' : decide (100000 < wgh b 0) = false := by simp; omega
  have hsa : a.sz ≤ 100000 := by have := wgh_sz a 0 (by omega) (by omega); omega
  have hsb : b.sz ≤ 100000 := by have := wgh_sz b 0 (by omega) (by omega); omega
  rw [ga', gb']
  clear ga ga' gb gb'
  have HSz := hidden (And.intro hsa hsb)
  have HL := hidden (And.intro hla hlb)
  clear hsa hsb hla hlb
  go_wp2_with fail
  refine (lent_any a ao n c w3 (HA.out.on (Nat.le_refl _) H3.out) HSz.out.1).mono ?_
  rintro e w4 ⟨rfl, hl4, hb4⟩
  have hg3 : w.heap.size ≤ w3.heap.size := H3.out.size
  have hg4 : w3.heap.size ≤ w4.heap.size := hb4.size
  have HX := hidden hl4
  have H4 : Hid (Below w.heap.size w w4) := hidden (H3.out.trans (hb4.mono hg3))
  clear hl4 hb4 H3
  generalize hx : w3.heap.size = X at *
  clear hx w3
  go_wp2_with fail
  refine (lent_any b bo m d w4 (HB.out.on (Nat.le_refl _) H4.out) HSz.out.2).mono ?_
  rintro e w5 ⟨rfl, hl5, hb5⟩
  have hg5 : w4.heap.size ≤ w5.heap.size := hb5.size
  have HY := hidden hl5
  have H5 : Hid (Below w.heap.size w w5) := hidden (H4.out.trans (hb5.mono (by omega)))
  have HX5 : Hid (LentS w5 a X w4.heap.size) := hidden (HX.out.bel (Nat.le_refl _) hb5)
  clear hl5 hb5 H4 HX
  generalize hy : w4.heap.size = Y at *
  clear hy w4
  obtain ⟨Z, hz⟩ : ∃ Z, Z = w5.heap.size := ⟨_, rfl⟩
  rw [← hz] at HY
  have sX : ∀ u, Below w5.heap.size w5 u → SlI u Tp (some ⟨X, 0, none⟩) n (n + 2) a := by
    intro u hu
    have := (HX5.out.sl (by omega) HA.out.ok (by have := HA.out.hroom; have := HL.out; omega)).on (Nat.le_refl _) hu
    rwa [HL.out.1] at this
  have sY : ∀ u, Below w5.heap.size w5 u → SlI u Tp (some ⟨Y, 0, none⟩) m (m + 2) b := by
    intro u hu
    have := (HY.out.sl (by omega) HB.out.ok (by have := HB.out.hroom; have := HL.out; omega)).on (Nat.le_refl _) hu
    rwa [HL.out.2] at this
  have SX := hidden sX
  have SY := hidden sY
  clear sX sY
  have hr := cmpL_range a b
  have ht := cmpL_turn a b
  have hself := cmpL_self a
  have HR := hidden hr
  have HT := hidden ht
  have HSe := hidden hself
  clear hr ht hself
  have HZ := hidden hz
  clear hz
  go_wp2_with fail
  refine (compare_any a b _ _ _ _ _ _ w5 (SX.out _ (Below.refl _ _)) (SY.out _ (Below.refl _ _))).mono ?_
  rintro e w6 ⟨rfl, hb6⟩
  have H6 := hidden hb6
  clear hb6
  go_wp2_with fail
  refine (compare_any b a _ _ _ _ _ _ w6 (SY.out _ H6.out) (SX.out _ H6.out)).mono ?_
  rintro e w7 ⟨rfl, hb7⟩
  have H7 : Hid (Below w5.heap.size w5 w7) := hidden (H6.out.trans (hb7.mono H6.out.size))
  clear hb7 H6
  rw [HT.out]
  go_wp2_with fail
  refine (compare_any a a _ _ _ _ _ _ w7 (SX.out _ H7.out) (SX.out _ H7.out)).mono ?_
  rintro e w8 ⟨rfl, hb8⟩
  have H8 : Hid (Below w5.heap.size w5 w8) := hidden (H7.out.trans (hb8.mono H7.out.size))
  clear hb8 H7
  rw [HSe.out]
  have hg8 : w5.heap.size ≤ w8.heap.size := H8.out.size
  have HW8 : Hid (Below w.heap.size w w8) := hidden (H5.out.trans (H8.out.mono (by omega)))
  have HX8 : Hid (LentS w8 a X Y) := hidden (HX5.out.bel (by omega) H8.out)
  have HY8 : Hid (LentS w8 b Y Z) := hidden (HY.out.bel (by have := HZ.out; omega) H8.out)
  clear HX5 HY SX SY H5 H8
  have hZ8 : Z ≤ w8.heap.size := by have := HZ.out; omega
  clear HZ
  go_wp2_with fail
  refine (kept_any a X Y ao n c w8 HX8.out (by omega) (HA.out.apart HW8.out hg3) HSz.out.1).mono ?_
  rintro e w9 ⟨rfl, ho9⟩
  have hg9 : w8.heap.size ≤ w9.heap.size := ho9.size
  have HW9 : Hid (Below w.heap.size w w9) := hidden (HW8.out.trans (ho9.below hg3 (by omega)))
  have HY9 : Hid (LentS w9 b Y Z) := hidden (HY8.out.keep fun k h1 h2 => ho9.block k (by omega) (.inr h1))
  clear ho9 HX8 HY8 HW8
  go_wp2_with fail
  refine (kept_any b Y Z bo m d w9 HY9.out (by omega) (HB.out.apart HW9.out (by omega)) HSz.out.2).mono ?_
  rintro e w10 ⟨rfl, ho10⟩
  have HW10 : Hid (Below w.heap.size w w10) := hidden (HW9.out.trans (ho10.below (by omega) (by omega)))
  clear ho10 HY9 HW9
  go_wp2_with fail
  refine (refcompare_any a b _ _ _ _ _ _ w10 (HA.out.on (Nat.le_refl _) HW10.out) (HB.out.on (Nat.le_refl _) HW10.out)).mono ?_
  rintro e w11 ⟨rfl, hb11⟩
  have HW11 : Hid (Below w.heap.size w w11) := hidden (HW10.out.trans (hb11.mono HW10.out.size))
  clear hb11 HW10
  have h3 : cmpL a b = -1 ∨ cmpL a b = 0 ∨ cmpL a b = 1 := by have := HR.out; omega
  clear HR HT HSe
  generalize cmpL a b = cc at *
  rcases h3 with rfl | rfl | rfl
  all_goals
    go_wp2
    go_ret
    exact ⟨rfl, HW11.out⟩
end Go.Proofs.YtgiabigdockeoaaGreatDoor
