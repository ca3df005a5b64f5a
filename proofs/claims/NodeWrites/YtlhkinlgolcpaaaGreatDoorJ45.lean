import Derived.Test.YtlhkinlgolcpaaaGreatDoorJ27
import Derived.Test.YtlhkinlgolcpaaaGreatDoorJ40
import Derived.Test.YtlhkinlgolcpaaaGreatDoorJ42
import Derived.Test.YtlhkinlgolcpaaaGreatDoorJ44
import Derived.Test.YtlhkinlgolcpaaaGreatDoorJ39
import Derived.Test.YtlhkinlgolcpaaaGreatDoorJ19
namespace Go.Proofs.YtlhkinlgolcpaaaGreatDoor
set_option maxRecDepth 100000
open Go.RowKit
set_option maxHeartbeats 4000000 in
theorem hbad_1 (w : World) (k n : Int) (hbad : ¬ (isKd k ∧ pw n)) (co : Option Addr) (m cap : Nat) :
  Calls Tryz.prog 9 #[.int .i64 1, .int .i64 k, .slice co m cap, .int .i64 n] w fun e w' => e = .returned (.tuple #[.int .i64 0, .int .i64 1]) ∧ Hid (Below w.heap.size w w') := by
 have HL := hidden (fun u => layout_1 u)
 have HD : Hid ((decide (isKd k) = false) ∨ (decide (isKd k) = true ∧ decide (pw n) = false)) := hidden (by
  by_cases h : isKd k
  ·exact .inr ⟨decide_eq_true h, decide_eq_false (fun h2 => hbad ⟨h, h2⟩)⟩
  ·exact .inl (decide_eq_false h))
 clear hbad
 obtain ⟨s, hsz⟩ : ∃ s, w.heap.size = s := ⟨_, rfl⟩
 obtain ⟨x, hx⟩ : ∃ x, ((w.alloc (.cells #[.int .i64 k] 3)).alloc (.cells #[.slice co m cap] 22)).alloc (.cells #[.int .i64 n] 3) = x := ⟨_, rfl⟩
 have hbx : Below w.heap.size w x := by rw [← hx]; exact bl_al (bl_al (bl_al (Below.refl _ _) (Nat.le_refl _) _) (Nat.le_refl _) _) (Nat.le_refl _) _
 have hX : (x.cell? ⟨s, 0, none⟩ = some (.int .i64 k) ∧ x.cell? ⟨s + 1, 0, none⟩ = some (.slice co m cap) ∧ x.cell? ⟨s + 1 + 1, 0, none⟩ = some (.int .i64 n)) ∧ x.heap.size = s + 3 := by
  rw [← hx, ← hsz]
  have e1 : (w.alloc (.cells #[.int .i64 k] 3)).heap.size = w.heap.size + 1 := by simp
  have e2 : ((w.alloc (.cells #[.int .i64 k] 3)).alloc (.cells #[.slice co m cap] 22)).heap.size = w.heap.size + 1 + 1 := by simp
  refine ⟨⟨keep_cell9 _ (keep_cell9 _ (one_cell9 _ _ _) (by omega)) (by omega), ?_, ?_⟩, by simp⟩
  ·rw [← e1]
   exact keep_cell9 _ (one_cell9 _ _ _) (by omega)
  ·rw [← e2]
   exact one_cell9 _ _ _
 have HBX := hidden hbx
 have HXX := hidden hX
 obtain ⟨⟨x0, x1, x2⟩, _⟩ := hX
 clear hbx
 go_enter Tryz.func9, Tryz.ntmps9
 go_wp2_with (first
  | (go_at_call 22; refine (HL.out _).mono ?_; rintro e w1 ⟨rfl, HB1⟩; refine Hid.out ?_))
 apply hidden
 obtain ⟨s1, hs1⟩ : ∃ s1, w1.heap.size = s1 := ⟨_, rfl⟩
 have hb1 := HB1.out
 have hxs := HXX.out.2
 have y0 : w1.cell? ⟨s, 0, none⟩ = some (.int .i64 k) := (hb1.cell (p := ⟨s, 0, none⟩) (by show s < _; omega)).trans HXX.out.1.1
 have y1 : w1.cell? ⟨s + 1, 0, none⟩ = some (.slice co m cap) := (hb1.cell (p := ⟨s + 1, 0, none⟩) (by show s + 1 < _; omega)).trans HXX.out.1.2.1
 have y2 : w1.cell? ⟨s + 1 + 1, 0, none⟩ = some (.int .i64 n) := (hb1.cell (p := ⟨s + 1 + 1, 0, none⟩) (by show s + 1 + 1 < _; omega)).trans HXX.out.1.2.2
 have hlt : s + 3 ≤ w1.heap.size := by have := hb1.size; omega
 obtain ⟨Z1, hZ1⟩ : ∃ Z1, w1.alloc (.cells #[fV 45, fV 46, fV 47, fV 48, fV 51] 54) = Z1 := ⟨_, rfl⟩
 have hbz1 : Below w1.heap.size w1 Z1 := by rw [← hZ1]; exact bl_al (Below.refl _ _) (Nat.le_refl _) _
 have hsz1 : Z1.heap.size = s1 + 1 := by rw [← hZ1, ← hs1]; simp
 have z0 : Z1.cell? ⟨s, 0, none⟩ = some (.int .i64 k) := (hbz1.cell (p := ⟨s, 0, none⟩) (by show s < _; omega)).trans y0
 have z1 : Z1.cell? ⟨s + 1, 0, none⟩ = some (.slice co m cap) := (hbz1.cell (p := ⟨s + 1, 0, none⟩) (by show s + 1 < _; omega)).trans y1
 have z2 : Z1.cell? ⟨s + 1 + 1, 0, none⟩ = some (.int .i64 n) := (hbz1.cell (p := ⟨s + 1 + 1, 0, none⟩) (by show s + 1 + 1 < _; omega)).trans y2
 have HBZ : Hid (Below w.heap.size w Z1) := hidden (bl_go (bl_go HBX.out (Nat.le_refl _) hb1) (Nat.le_refl _) hbz1)
 clear x0 x1 x2 hxs hlt hb1 hbz1 hx y0 y1 y2 hsz1 hs1
 rcases HD.out with d1 | ⟨d1, d2⟩
 ·go_wp2_with (first
   | (go_at_call 25; refine same_call (isKind_any _ _) ?_; rw [d1])
   | (go_at_call 24; refine same_call (isSize_any _ _) ?_))
  go_ret2
  exact ⟨rfl, HBZ⟩
 ·go_wp2_with (first
   | (go_at_call 25; refine same_call (isKind_any _ _) ?_; rw [d1])
   | (go_at_call 24; refine same_call (isSize_any _ _) ?_; rw [d2]))
  go_ret2
  exact ⟨rfl, HBZ⟩
set_option maxHeartbeats 4000000 in
theorem hlo_1 (w : World) (k n : Int) (hkd : isKd k) (hn : pw n) (co : Option Addr) (m cap : Nat) (hm : m < 4) :
  Calls Tryz.prog 9 #[.int .i64 1, .int .i64 k, .slice co m cap, .int .i64 n] w fun e w' => e = .returned (.tuple #[.int .i64 0, .int .i64 61]) ∧ Hid (Below w.heap.size w w') := by
 have HL := hidden (fun u => layout_1 u)
 have d1 : decide (isKd k) = true := decide_eq_true hkd
 have d2 : decide (pw n) = true := decide_eq_true hn
 have hmI : (m : Int) < 4 := by omega
 have HLO : Hid (∀ u (h : Int) (g : Nat) (caps : Array Value), -1 ≤ h → h ≤ 2 → Below w.heap.size w u → Calls Tryz.prog 29 #[.int .i64 2, .int .i64 h, .func (.func g) #[] caps] u fun e w' => e = .returned (.int .i64 2) ∧ Hid (Below w.heap.size w w')) := hidden fun u h g caps h1 h2 hu => by
  refine (least_lo u 2 h g caps (by omega) h1 h2).mono ?_
  rintro e w' ⟨rfl, HB⟩
  exact ⟨rfl, hidden (bl_go hu (Nat.le_refl _) HB.out)⟩
 clear hkd hn hm
 obtain ⟨s, hsz⟩ : ∃ s, w.heap.size = s := ⟨_, rfl⟩
 obtain ⟨x, hx⟩ : ∃ x, ((w.alloc (.cells #[.int .i64 k] 3)).alloc (.cells #[.slice co m cap] 22)).alloc (.cells #[.int .i64 n] 3) = x := ⟨_, rfl⟩
 have hbx : Below w.heap.size w x := by rw [← hx]; exact bl_al (bl_al (bl_al (Below.refl _ _) (Nat.le_refl _) _) (Nat.le_refl _) _) (Nat.le_refl _) _
 have hX : (x.cell? ⟨s, 0, none⟩ = some (.int .i64 k) ∧ x.cell? ⟨s + 1, 0, none⟩ = some (.slice co m cap) ∧ x.cell? ⟨s + 1 + 1, 0, none⟩ = some (.int .i64 n)) ∧ x.heap.size = s + 3 := by
  rw [← hx, ← hsz]
  have e1 : (w.alloc (.cells #[.int .i64 k] 3)).heap.size = w.heap.size + 1 := by simp
  have e2 : ((w.alloc (.cells #[.int .i64 k] 3)).alloc (.cells #[.slice co m cap] 22)).heap.size = w.heap.size + 1 + 1 := by simp
  refine ⟨⟨keep_cell9 _ (keep_cell9 _ (one_cell9 _ _ _) (by omega)) (by omega), ?_, ?_⟩, by simp⟩
  ·rw [← e1]
   exact keep_cell9 _ (one_cell9 _ _ _) (by omega)
  ·rw [← e2]
   exact one_cell9 _ _ _
 have HBX := hidden hbx
 have HXX := hidden hX
 obtain ⟨⟨x0, x1, x2⟩, _⟩ := hX
 clear hbx
 go_enter Tryz.func9, Tryz.ntmps9
 go_wp2_with (first
  | (go_at_call 22; refine (HL.out _).mono ?_; rintro e w1 ⟨rfl, HB1⟩; refine Hid.out ?_))
 apply hidden
 obtain ⟨s1, hs1⟩ : ∃ s1, w1.heap.size = s1 := ⟨_, rfl⟩
 have hb1 := HB1.out
 have hxs := HXX.out.2
 have y0 : w1.cell? ⟨s, 0, none⟩ = some (.int .i64 k) := (hb1.cell (p := ⟨s, 0, none⟩) (by show s < _; omega)).trans HXX.out.1.1
 have y1 : w1.cell? ⟨s + 1, 0, none⟩ = some (.slice co m cap) := (hb1.cell (p := ⟨s + 1, 0, none⟩) (by show s + 1 < _; omega)).trans HXX.out.1.2.1
 have y2 : w1.cell? ⟨s + 1 + 1, 0, none⟩ = some (.int .i64 n) := (hb1.cell (p := ⟨s + 1 + 1, 0, none⟩) (by show s + 1 + 1 < _; omega)).trans HXX.out.1.2.2
 have hlt : s + 3 ≤ w1.heap.size := by have := hb1.size; omega
 obtain ⟨Z1, hZ1⟩ : ∃ Z1, w1.alloc (.cells #[fV 45, fV 46, fV 47, fV 48, fV 51] 54) = Z1 := ⟨_, rfl⟩
 have hbz1 : Below w1.heap.size w1 Z1 := by rw [← hZ1]; exact bl_al (Below.refl _ _) (Nat.le_refl _) _
 have hsz1 : Z1.heap.size = s1 + 1 := by rw [← hZ1, ← hs1]; simp
 have z0 : Z1.cell? ⟨s, 0, none⟩ = some (.int .i64 k) := (hbz1.cell (p := ⟨s, 0, none⟩) (by show s < _; omega)).trans y0
 have z1 : Z1.cell? ⟨s + 1, 0, none⟩ = some (.slice co m cap) := (hbz1.cell (p := ⟨s + 1, 0, none⟩) (by show s + 1 < _; omega)).trans y1
 have z2 : Z1.cell? ⟨s + 1 + 1, 0, none⟩ = some (.int .i64 n) := (hbz1.cell (p := ⟨s + 1 + 1, 0, none⟩) (by show s + 1 + 1 < _; omega)).trans y2
 have HBZ : Hid (Below w.heap.size w Z1) := hidden (bl_go (bl_go HBX.out (Nat.le_refl _) hb1) (Nat.le_refl _) hbz1)
 have hl1 : s + 3 ≤ Z1.heap.size := by have := hbz1.size; omega
 obtain ⟨Z2, hZ2⟩ : ∃ Z2, Z1.alloc (.cells #[.func (.func 26) #[] #[.pointer (some ⟨s + 1, 0, none⟩)]] 59) = Z2 := ⟨_, rfl⟩
 obtain ⟨Z3, hZ3⟩ : ∃ Z3, Z2.alloc (.cells #[.func (.func 27) #[] #[.pointer (some ⟨s, 0, none⟩), .pointer (some ⟨s + 1, 0, none⟩)]] 59) = Z3 := ⟨_, rfl⟩
 have hl2 : Z2.heap.size = Z1.heap.size + 1 := by rw [← hZ2]; simp
 have hl3 : Z3.heap.size = Z2.heap.size + 1 := by rw [← hZ3]; simp
 have hb23 : Below Z1.heap.size Z1 Z3 := by rw [← hZ3, ← hZ2]; exact bl_al (bl_al (Below.refl _ _) (Nat.le_refl _) _) (Nat.le_refl _) _
 have v1 : Z3.cell? ⟨s + 1, 0, none⟩ = some (.slice co m cap) := (hb23.cell (p := ⟨s + 1, 0, none⟩) (by show s + 1 < _; omega)).trans z1
 have HBW : Hid (Below w.heap.size w Z3) := hidden (bl_go HBZ.out (Nat.le_refl _) hb23)
 clear x0 x1 x2 hxs hlt hb1 hbz1 hx y0 y1 y2 hl1 hl2 hl3 hb23 hsz1
 go_wp2_with (first
  | (go_at_call 25; refine same_call (isKind_any _ _) ?_; rw [d1])
  | (go_at_call 24; refine same_call (isSize_any _ _) ?_; rw [d2])
  | (go_at_call 29; refine (HLO.out _ _ _ _ (by omega) (by omega) HBW.out).mono ?_; rintro e w2 ⟨rfl, HB2⟩; refine Hid.out ?_))
 apply hidden
 clear z0 z1 z2 v1 hZ1 hZ2 hZ3 d1 d2
 go_wp2_with (first
  | (go_at_call 29; refine (HLO.out _ _ _ _ (by omega) (by omega) HB2.out).mono ?_; rintro e w3 ⟨rfl, HB3⟩; refine Hid.out ?_))
 apply hidden
 go_wp2
 go_ret2
 exact ⟨rfl, HB3⟩
set_option maxHeartbeats 4000000 in
theorem hbad_2 (w : World) (k n : Int) (hbad : ¬ (isKd k ∧ pw n)) (co : Option Addr) (m cap : Nat) :
  Calls Tryz.prog 9 #[.int .i64 2, .int .i64 k, .slice co m cap, .int .i64 n] w fun e w' => e = .returned (.tuple #[.int .i64 0, .int .i64 1]) ∧ Hid (Below w.heap.size w w') := by
 have HL := hidden (fun u => layout_2 u)
 have HD : Hid ((decide (isKd k) = false) ∨ (decide (isKd k) = true ∧ decide (pw n) = false)) := hidden (by
  by_cases h : isKd k
  ·exact .inr ⟨decide_eq_true h, decide_eq_false (fun h2 => hbad ⟨h, h2⟩)⟩
  ·exact .inl (decide_eq_false h))
 clear hbad
 obtain ⟨s, hsz⟩ : ∃ s, w.heap.size = s := ⟨_, rfl⟩
 obtain ⟨x, hx⟩ : ∃ x, ((w.alloc (.cells #[.int .i64 k] 3)).alloc (.cells #[.slice co m cap] 22)).alloc (.cells #[.int .i64 n] 3) = x := ⟨_, rfl⟩
 have hbx : Below w.heap.size w x := by rw [← hx]; exact bl_al (bl_al (bl_al (Below.refl _ _) (Nat.le_refl _) _) (Nat.le_refl _) _) (Nat.le_refl _) _
 have hX : (x.cell? ⟨s, 0, none⟩ = some (.int .i64 k) ∧ x.cell? ⟨s + 1, 0, none⟩ = some (.slice co m cap) ∧ x.cell? ⟨s + 1 + 1, 0, none⟩ = some (.int .i64 n)) ∧ x.heap.size = s + 3 := by
  rw [← hx, ← hsz]
  have e1 : (w.alloc (.cells #[.int .i64 k] 3)).heap.size = w.heap.size + 1 := by simp
  have e2 : ((w.alloc (.cells #[.int .i64 k] 3)).alloc (.cells #[.slice co m cap] 22)).heap.size = w.heap.size + 1 + 1 := by simp
  refine ⟨⟨keep_cell9 _ (keep_cell9 _ (one_cell9 _ _ _) (by omega)) (by omega), ?_, ?_⟩, by simp⟩
  ·rw [← e1]
   exact keep_cell9 _ (one_cell9 _ _ _) (by omega)
  ·rw [← e2]
   exact one_cell9 _ _ _
 have HBX := hidden hbx
 have HXX := hidden hX
 obtain ⟨⟨x0, x1, x2⟩, _⟩ := hX
 clear hbx
 go_enter Tryz.func9, Tryz.ntmps9
 go_wp2_with (first
  | (go_at_call 22; refine (HL.out _).mono ?_; rintro e w1 ⟨rfl, HB1⟩; refine Hid.out ?_))
 apply hidden
 obtain ⟨s1, hs1⟩ : ∃ s1, w1.heap.size = s1 := ⟨_, rfl⟩
 have hb1 := HB1.out
 have hxs := HXX.out.2
 have y0 : w1.cell? ⟨s, 0, none⟩ = some (.int .i64 k) := (hb1.cell (p := ⟨s, 0, none⟩) (by show s < _; omega)).trans HXX.out.1.1
 have y1 : w1.cell? ⟨s + 1, 0, none⟩ = some (.slice co m cap) := (hb1.cell (p := ⟨s + 1, 0, none⟩) (by show s + 1 < _; omega)).trans HXX.out.1.2.1
 have y2 : w1.cell? ⟨s + 1 + 1, 0, none⟩ = some (.int .i64 n) := (hb1.cell (p := ⟨s + 1 + 1, 0, none⟩) (by show s + 1 + 1 < _; omega)).trans HXX.out.1.2.2
 have hlt : s + 3 ≤ w1.heap.size := by have := hb1.size; omega
 obtain ⟨Z1, hZ1⟩ : ∃ Z1, w1.alloc (.cells #[fV 53, fV 54, fV 55, fV 56, fV 59] 54) = Z1 := ⟨_, rfl⟩
 have hbz1 : Below w1.heap.size w1 Z1 := by rw [← hZ1]; exact bl_al (Below.refl _ _) (Nat.le_refl _) _
 have hsz1 : Z1.heap.size = s1 + 1 := by rw [← hZ1, ← hs1]; simp
 have z0 : Z1.cell? ⟨s, 0, none⟩ = some (.int .i64 k) := (hbz1.cell (p := ⟨s, 0, none⟩) (by show s < _; omega)).trans y0
 have z1 : Z1.cell? ⟨s + 1, 0, none⟩ = some (.slice co m cap) := (hbz1.cell (p := ⟨s + 1, 0, none⟩) (by show s + 1 < _; omega)).trans y1
 have z2 : Z1.cell? ⟨s + 1 + 1, 0, none⟩ = some (.int .i64 n) := (hbz1.cell (p := ⟨s + 1 + 1, 0, none⟩) (by show s + 1 + 1 < _; omega)).trans y2
 have HBZ : Hid (Below w.heap.size w Z1) := hidden (bl_go (bl_go HBX.out (Nat.le_refl _) hb1) (Nat.le_refl _) hbz1)
 clear x0 x1 x2 hxs hlt hb1 hbz1 hx y0 y1 y2 hsz1 hs1
 rcases HD.out with d1 | ⟨d1, d2⟩
 ·go_wp2_with (first
   | (go_at_call 25; refine same_call (isKind_any _ _) ?_; rw [d1])
   | (go_at_call 24; refine same_call (isSize_any _ _) ?_))
  go_ret2
  exact ⟨rfl, HBZ⟩
 ·go_wp2_with (first
   | (go_at_call 25; refine same_call (isKind_any _ _) ?_; rw [d1])
   | (go_at_call 24; refine same_call (isSize_any _ _) ?_; rw [d2]))
  go_ret2
  exact ⟨rfl, HBZ⟩
set_option maxHeartbeats 4000000 in
theorem hlo_2 (w : World) (k n : Int) (hkd : isKd k) (hn : pw n) (co : Option Addr) (m cap : Nat) (hm : m < 4) :
  Calls Tryz.prog 9 #[.int .i64 2, .int .i64 k, .slice co m cap, .int .i64 n] w fun e w' => e = .returned (.tuple #[.int .i64 0, .int .i64 61]) ∧ Hid (Below w.heap.size w w') := by
 have HL := hidden (fun u => layout_2 u)
 have d1 : decide (isKd k) = true := decide_eq_true hkd
 have d2 : decide (pw n) = true := decide_eq_true hn
 have hmI : (m : Int) < 4 := by omega
 have HLO : Hid (∀ u (h : Int) (g : Nat) (caps : Array Value), -1 ≤ h → h ≤ 2 → Below w.heap.size w u → Calls Tryz.prog 29 #[.int .i64 2, .int .i64 h, .func (.func g) #[] caps] u fun e w' => e = .returned (.int .i64 2) ∧ Hid (Below w.heap.size w w')) := hidden fun u h g caps h1 h2 hu => by
  refine (least_lo u 2 h g caps (by omega) h1 h2).mono ?_
  rintro e w' ⟨rfl, HB⟩
  exact ⟨rfl, hidden (bl_go hu (Nat.le_refl _) HB.out)⟩
 clear hkd hn hm
 obtain ⟨s, hsz⟩ : ∃ s, w.heap.size = s := ⟨_, rfl⟩
 obtain ⟨x, hx⟩ : ∃ x, ((w.alloc (.cells #[.int .i64 k] 3)).alloc (.cells #[.slice co m cap] 22)).alloc (.cells #[.int .i64 n] 3) = x := ⟨_, rfl⟩
 have hbx : Below w.heap.size w x := by rw [← hx]; exact bl_al (bl_al (bl_al (Below.refl _ _) (Nat.le_refl _) _) (Nat.le_refl _) _) (Nat.le_refl _) _
 have hX : (x.cell? ⟨s, 0, none⟩ = some (.int .i64 k) ∧ x.cell? ⟨s + 1, 0, none⟩ = some (.slice co m cap) ∧ x.cell? ⟨s + 1 + 1, 0, none⟩ = some (.int .i64 n)) ∧ x.heap.size = s + 3 := by
  rw [← hx, ← hsz]
  have e1 : (w.alloc (.cells #[.int .i64 k] 3)).heap.size = w.heap.size + 1 := by simp
  have e2 : ((w.alloc (.cells #[.int .i64 k] 3)).alloc (.cells #[.slice co m cap] 22)).heap.size = w.heap.size + 1 + 1 := by simp
  refine ⟨⟨keep_cell9 _ (keep_cell9 _ (one_cell9 _ _ _) (by omega)) (by omega), ?_, ?_⟩, by simp⟩
  ·rw [← e1]
   exact keep_cell9 _ (one_cell9 _ _ _) (by omega)
  ·rw [← e2]
   exact one_cell9 _ _ _
 have HBX := hidden hbx
 have HXX := hidden hX
 obtain ⟨⟨x0, x1, x2⟩, _⟩ := hX
 clear hbx
 go_enter Tryz.func9, Tryz.ntmps9
 go_wp2_with (first
  | (go_at_call 22; refine (HL.out _).mono ?_; rintro e w1 ⟨rfl, HB1⟩; refine Hid.out ?_))
 apply hidden
 obtain ⟨s1, hs1⟩ : ∃ s1, w1.heap.size = s1 := ⟨_, rfl⟩
 have hb1 := HB1.out
 have hxs := HXX.out.2
 have y0 : w1.cell? ⟨s, 0, none⟩ = some (.int .i64 k) := (hb1.cell (p := ⟨s, 0, none⟩) (by show s < _; omega)).trans HXX.out.1.1
 have y1 : w1.cell? ⟨s + 1, 0, none⟩ = some (.slice co m cap) := (hb1.cell (p := ⟨s + 1, 0, none⟩) (by show s + 1 < _; omega)).trans HXX.out.1.2.1
 have y2 : w1.cell? ⟨s + 1 + 1, 0, none⟩ = some (.int .i64 n) := (hb1.cell (p := ⟨s + 1 + 1, 0, none⟩) (by show s + 1 + 1 < _; omega)).trans HXX.out.1.2.2
 have hlt : s + 3 ≤ w1.heap.size := by have := hb1.size; omega
 obtain ⟨Z1, hZ1⟩ : ∃ Z1, w1.alloc (.cells #[fV 53, fV 54, fV 55, fV 56, fV 59] 54) = Z1 := ⟨_, rfl⟩
 have hbz1 : Below w1.heap.size w1 Z1 := by rw [← hZ1]; exact bl_al (Below.refl _ _) (Nat.le_refl _) _
 have hsz1 : Z1.heap.size = s1 + 1 := by rw [← hZ1, ← hs1]; simp
 have z0 : Z1.cell? ⟨s, 0, none⟩ = some (.int .i64 k) := (hbz1.cell (p := ⟨s, 0, none⟩) (by show s < _; omega)).trans y0
 have z1 : Z1.cell? ⟨s + 1, 0, none⟩ = some (.slice co m cap) := (hbz1.cell (p := ⟨s + 1, 0, none⟩) (by show s + 1 < _; omega)).trans y1
 have z2 : Z1.cell? ⟨s + 1 + 1, 0, none⟩ = some (.int .i64 n) := (hbz1.cell (p := ⟨s + 1 + 1, 0, none⟩) (by show s + 1 + 1 < _; omega)).trans y2
 have HBZ : Hid (Below w.heap.size w Z1) := hidden (bl_go (bl_go HBX.out (Nat.le_refl _) hb1) (Nat.le_refl _) hbz1)
 have hl1 : s + 3 ≤ Z1.heap.size := by have := hbz1.size; omega
 obtain ⟨Z2, hZ2⟩ : ∃ Z2, Z1.alloc (.cells #[.func (.func 26) #[] #[.pointer (some ⟨s + 1, 0, none⟩)]] 59) = Z2 := ⟨_, rfl⟩
 obtain ⟨Z3, hZ3⟩ : ∃ Z3, Z2.alloc (.cells #[.func (.func 27) #[] #[.pointer (some ⟨s, 0, none⟩), .pointer (some ⟨s + 1, 0, none⟩)]] 59) = Z3 := ⟨_, rfl⟩
 have hl2 : Z2.heap.size = Z1.heap.size + 1 := by rw [← hZ2]; simp
 have hl3 : Z3.heap.size = Z2.heap.size + 1 := by rw [← hZ3]; simp
 have hb23 : Below Z1.heap.size Z1 Z3 := by rw [← hZ3, ← hZ2]; exact bl_al (bl_al (Below.refl _ _) (Nat.le_refl _) _) (Nat.le_refl _) _
 have v1 : Z3.cell? ⟨s + 1, 0, none⟩ = some (.slice co m cap) := (hb23.cell (p := ⟨s + 1, 0, none⟩) (by show s + 1 < _; omega)).trans z1
 have HBW : Hid (Below w.heap.size w Z3) := hidden (bl_go HBZ.out (Nat.le_refl _) hb23)
 clear x0 x1 x2 hxs hlt hb1 hbz1 hx y0 y1 y2 hl1 hl2 hl3 hb23 hsz1
 go_wp2_with (first
  | (go_at_call 25; refine same_call (isKind_any _ _) ?_; rw [d1])
  | (go_at_call 24; refine same_call (isSize_any _ _) ?_; rw [d2])
  | (go_at_call 29; refine (HLO.out _ _ _ _ (by omega) (by omega) HBW.out).mono ?_; rintro e w2 ⟨rfl, HB2⟩; refine Hid.out ?_))
 apply hidden
 clear z0 z1 z2 v1 hZ1 hZ2 hZ3 d1 d2
 go_wp2_with (first
  | (go_at_call 29; refine (HLO.out _ _ _ _ (by omega) (by omega) HB2.out).mono ?_; rintro e w3 ⟨rfl, HB3⟩; refine Hid.out ?_))
 apply hidden
 go_wp2
 go_ret2
 exact ⟨rfl, HB3⟩
set_option maxHeartbeats 4000000 in
theorem hno_any (w : World) (e k n : Int) (h1 : ¬ e = 1) (h2 : ¬ e = 2) (co : Option Addr) (m cap : Nat) :
  Calls Tryz.prog 9 #[.int .i64 e, .int .i64 k, .slice co m cap, .int .i64 n] w fun x w' => x = .returned (.tuple #[.int .i64 0, .int .i64 80]) ∧ Hid (Below w.heap.size w w') := by
 have HL := hidden (fun u => layout_0 u e h1 h2)
 clear h1 h2
 obtain ⟨x, hx⟩ : ∃ x, ((w.alloc (.cells #[.int .i64 k] 3)).alloc (.cells #[.slice co m cap] 22)).alloc (.cells #[.int .i64 n] 3) = x := ⟨_, rfl⟩
 have hbx : Below w.heap.size w x := by rw [← hx]; exact bl_al (bl_al (bl_al (Below.refl _ _) (Nat.le_refl _) _) (Nat.le_refl _) _) (Nat.le_refl _) _
 have HBX := hidden hbx
 clear hbx
 go_enter Tryz.func9, Tryz.ntmps9
 go_wp2_with (first
  | (go_at_call 22; refine (HL.out _).mono ?_; rintro e w1 ⟨rfl, HB1⟩; refine Hid.out ?_))
 apply hidden
 go_wp2
 go_ret2
 exact ⟨rfl, hidden (bl_al (bl_go HBX.out (Nat.le_refl _) HB1.out) (Nat.le_refl _) _)⟩
theorem nhalf_any (e k p : Int) (co : Option Addr) (m cap : Nat) (cs : List Cl) (w : World) (hs : SlC w co m cap cs) (hf : Few cs) (hz : e = 1 ∨ e = 2 → szE e k cs ≤ 1099511627776) (ht : Tab w) (h0 : 1 < w.heap.size) :
  Calls Tryz.prog 9 #[.int .i64 e, .int .i64 k, .slice co m cap, .int .i64 p] w fun x w' => ∃ (r : Nat) (c : Int), x = .returned (.tuple #[.int .i64 (r : Int), .int .i64 c]) ∧ Hid (HalfR e k p cs r c) ∧ Hid (Below w.heap.size w w') := by
 by_cases he : e = 1 ∨ e = 2
 ·by_cases hkp : isKd k ∧ pw p
  ·have hml : m ≤ 200000 := by have := hf.len; have := hs.hlen; omega
   by_cases h4 : m < 4
   ·have hh : HalfR e k p cs 0 61 := by unfold HalfR; rw [if_pos he, if_pos hkp]; exact half_none (by rw [hs.hlen]; exact h4)
    have hq : Calls Tryz.prog 9 #[.int .i64 e, .int .i64 k, .slice co m cap, .int .i64 p] w fun e w' => e = .returned (.tuple #[.int .i64 0, .int .i64 61]) ∧ Hid (Below w.heap.size w w') := by
     rcases he with rfl | rfl
     ·exact hlo_1 w k p hkp.1 hkp.2 co m cap h4
     ·exact hlo_2 w k p hkp.1 hkp.2 co m cap h4
    refine hq.mono ?_
    rintro x w' ⟨rfl, HB⟩
    exact ⟨0, 61, rfl, hidden hh, HB⟩
   ·have hp0 : 0 ≤ p := by have := hkp.2; unfold pw at this; omega
    obtain ⟨n, rfl⟩ := Int.eq_ofNat_of_zero_le hp0
    obtain ⟨b, off, c, ka, kc, va, vc, rfl, _⟩ := hs.item 0 (by omega)
    have hq : Calls Tryz.prog 9 #[.int .i64 e, .int .i64 k, .slice (some ⟨b, off, none⟩) m cap, .int .i64 (n : Int)] w fun x w' => ∃ (r : Nat) (c : Int), x = .returned (.tuple #[.int .i64 (r : Int), .int .i64 c]) ∧ Hid (IsHalf e k n cs r c) ∧ Hid (Below w.heap.size w w') := by
     rcases he with rfl | rfl
     ·exact hlf_1 w k n b off m cap cs hs hkp.1 hkp.2 (hz (.inl rfl)) hml (by omega) ht h0
     ·exact hlf_2 w k n b off m cap cs hs hkp.1 hkp.2 (hz (.inr rfl)) hml (by omega) ht h0
    refine hq.mono ?_
    rintro x w' ⟨r, c, rfl, HI, HB⟩
    exact ⟨r, c, rfl, hidden (by unfold HalfR; rw [if_pos he, if_pos hkp, Int.toNat_natCast]; exact HI.out), HB⟩
  ·have hh : HalfR e k p cs 0 1 := by unfold HalfR; rw [if_pos he, if_neg hkp]; exact ⟨rfl, rfl⟩
   have hq : Calls Tryz.prog 9 #[.int .i64 e, .int .i64 k, .slice co m cap, .int .i64 p] w fun e w' => e = .returned (.tuple #[.int .i64 0, .int .i64 1]) ∧ Hid (Below w.heap.size w w') := by
    rcases he with rfl | rfl
    ·exact hbad_1 w k p hkp co m cap
    ·exact hbad_2 w k p hkp co m cap
   refine hq.mono ?_
   rintro x w' ⟨rfl, HB⟩
   exact ⟨0, 1, rfl, hidden hh, HB⟩
 ·have h1 : ¬ e = 1 := fun h => he (.inl h)
  have h2 : ¬ e = 2 := fun h => he (.inr h)
  refine (hno_any w e k p h1 h2 co m cap).mono ?_
  rintro x w' ⟨rfl, HB⟩
  exact ⟨0, 80, rfl, hidden (by unfold HalfR; rw [if_neg he]; exact ⟨rfl, rfl⟩), HB⟩
end Go.Proofs.YtlhkinlgolcpaaaGreatDoor

namespace Go.Proofs.YtlhkinlgolcpaaaGreatDoor
set_option maxRecDepth 100000
open Go.RowKit
theorem nfill_1 (k p : Int) (co : Option Addr) (cn cc : Nat) (cs : List Cl) (w : World) (hs : SlC w co cn cc cs) (hz : szE 1 k cs ≤ 1099511627776) :
  Calls Tryz.prog 8 #[.int .i64 1, .int .i64 k, .slice co cn cc, .int .i64 p] w fun r w' => r = .returned (.int .i64 (fillB 1 k p cs)) ∧ Hid (Below w.heap.size w w') := by
 have HL := hidden (layout_1 w)
 have HP := hidden (fun u => isSize_any p u)
 rw [szE_1] at hz
 have HZ : Hid (∀ u, Below w.heap.size w u → Calls Tryz.prog 45 #[.int .i64 k, .slice co cn cc] u fun r w' => r = .returned (.int .i64 (szN cs : Int)) ∧ Hid (Below w.heap.size w w')) := hidden fun u hu => by
  refine (size_any k co cn cc cs u (hs.on hu) hz).mono ?_
  rintro r w' ⟨rfl, HB⟩
  exact ⟨rfl, hidden (bl_go hu (Nat.le_refl _) (by first | exact HB | exact HB.out))⟩
 unfold fillB
 rw [szE_1]
 generalize szN cs = Z at *
 by_cases hp : pw p
 ·have d : decide (pw p) = true := decide_eq_true hp
  rw [if_pos ⟨.inl rfl, hp⟩]
  rw [d] at HP
  have hp1 := pw_le hp
  have hp0 : 512 ≤ p := by unfold pw at hp; omega
  have hZI : (Z : Int) ≤ 1099511627776 := by omega
  have hm : IntKind.i64.wrap ((Z : Int) * 256) = (Z : Int) * 256 := by rw [IntKind.wrap_i64]; omega
  clear hs hz hp d
  go_enter Tryz.func8, Tryz.ntmps8
  go_wp2_with (first | (go_at_call 22; refine HL.out.mono ?_; rintro e w1 ⟨rfl, HB1⟩) | (go_at_call 24; refine same_call (HP.out _) ?_) | (go_at_call 45; refine (HZ.out _ (bl_al HB1.out (Nat.le_refl _) _)).mono ?_; rintro r w2 ⟨rfl, HB⟩; refine Hid.out ?_))
  apply hidden
  go_wp2
  go_ret
  refine ⟨?_, HB⟩
  have hq : 0 ≤ (Z : Int) * 256 / p := Int.ediv_nonneg (by omega) (by omega)
  have hq2 : (Z : Int) * 256 / p ≤ (Z : Int) * 256 := Int.ediv_le_self _ (by omega)
  first
   | rfl
   | (congr 2; rw [Int.tdiv_eq_ediv_of_nonneg (by omega)]; done)
   | (congr 2; rw [Int.tdiv_eq_ediv_of_nonneg (by omega), IntKind.wrap_i64]; omega)
   | (congr 2; go_num)
 ·have d : decide (pw p) = false := decide_eq_false hp
  rw [if_neg (fun h => hp h.2)]
  rw [d] at HP
  clear hs hz hp d
  go_enter Tryz.func8, Tryz.ntmps8
  go_wp2_with (first | (go_at_call 22; refine HL.out.mono ?_; rintro e w1 ⟨rfl, HB1⟩) | (go_at_call 24; refine same_call (HP.out _) ?_))
  go_ret
  exact ⟨rfl, hidden (bl_al HB1.out (Nat.le_refl _) _)⟩
theorem nfill_2 (k p : Int) (co : Option Addr) (cn cc : Nat) (cs : List Cl) (w : World) (hs : SlC w co cn cc cs) (hz : szE 2 k cs ≤ 1099511627776) :
  Calls Tryz.prog 8 #[.int .i64 2, .int .i64 k, .slice co cn cc, .int .i64 p] w fun r w' => r = .returned (.int .i64 (fillB 2 k p cs)) ∧ Hid (Below w.heap.size w w') := by
 have HL := hidden (layout_2 w)
 have HP := hidden (fun u => isSize_any p u)
 rw [szE_2] at hz
 have HZ : Hid (∀ u, Below w.heap.size w u → Calls Tryz.prog 53 #[.int .i64 k, .slice co cn cc] u fun r w' => r = .returned (.int .i64 (szQ k (shP k cs).length cs : Int)) ∧ Hid (Below w.heap.size w w')) := hidden fun u hu => by
  refine (psize_any k co cn cc cs u (hs.on hu) hz).mono ?_
  rintro r w' ⟨rfl, HB⟩
  exact ⟨rfl, hidden (bl_go hu (Nat.le_refl _) (by first | exact HB | exact HB.out))⟩
 unfold fillB
 rw [szE_2]
 generalize szQ k (shP k cs).length cs = Z at *
 by_cases hp : pw p
 ·have d : decide (pw p) = true := decide_eq_true hp
  rw [if_pos ⟨.inr rfl, hp⟩]
  rw [d] at HP
  have hp1 := pw_le hp
  have hp0 : 512 ≤ p := by unfold pw at hp; omega
  have hZI : (Z : Int) ≤ 1099511627776 := by omega
  have hm : IntKind.i64.wrap ((Z : Int) * 256) = (Z : Int) * 256 := by rw [IntKind.wrap_i64]; omega
  clear hs hz hp d
  go_enter Tryz.func8, Tryz.ntmps8
  go_wp2_with (first | (go_at_call 22; refine HL.out.mono ?_; rintro e w1 ⟨rfl, HB1⟩) | (go_at_call 24; refine same_call (HP.out _) ?_) | (go_at_call 53; refine (HZ.out _ (bl_al HB1.out (Nat.le_refl _) _)).mono ?_; rintro r w2 ⟨rfl, HB⟩; refine Hid.out ?_))
  apply hidden
  go_wp2
  go_ret
  refine ⟨?_, HB⟩
  have hq : 0 ≤ (Z : Int) * 256 / p := Int.ediv_nonneg (by omega) (by omega)
  have hq2 : (Z : Int) * 256 / p ≤ (Z : Int) * 256 := Int.ediv_le_self _ (by omega)
  first
   | rfl
   | (congr 2; rw [Int.tdiv_eq_ediv_of_nonneg (by omega)]; done)
   | (congr 2; rw [Int.tdiv_eq_ediv_of_nonneg (by omega), IntKind.wrap_i64]; omega)
   | (congr 2; go_num)
 ·have d : decide (pw p) = false := decide_eq_false hp
  rw [if_neg (fun h => hp h.2)]
  rw [d] at HP
  clear hs hz hp d
  go_enter Tryz.func8, Tryz.ntmps8
  go_wp2_with (first | (go_at_call 22; refine HL.out.mono ?_; rintro e w1 ⟨rfl, HB1⟩) | (go_at_call 24; refine same_call (HP.out _) ?_))
  go_ret
  exact ⟨rfl, hidden (bl_al HB1.out (Nat.le_refl _) _)⟩
theorem nfill_any (e k p : Int) (co : Option Addr) (cn cc : Nat) (cs : List Cl) (w : World) (hs : SlC w co cn cc cs) (hz : e = 1 ∨ e = 2 → szE e k cs ≤ 1099511627776) :
  Calls Tryz.prog 8 #[.int .i64 e, .int .i64 k, .slice co cn cc, .int .i64 p] w fun r w' => r = .returned (.int .i64 (fillB e k p cs)) ∧ Hid (Below w.heap.size w w') := by
 by_cases h1 : e = 1
 ·subst h1; exact nfill_1 k p co cn cc cs w hs (hz (.inl rfl))
 by_cases h2 : e = 2
 ·subst h2; exact nfill_2 k p co cn cc cs w hs (hz (.inr rfl))
 unfold fillB
 rw [if_neg (fun h => by omega)]
 have HL := hidden (layout_0 w e h1 h2)
 clear h1 h2 hs hz
 go_enter Tryz.func8, Tryz.ntmps8
 go_wp2_with (first | (go_at_call 22; refine HL.out.mono ?_; rintro e w1 ⟨rfl, HB1⟩))
 go_ret
 exact ⟨rfl, hidden (bl_al HB1.out (Nat.le_refl _) _)⟩
end Go.Proofs.YtlhkinlgolcpaaaGreatDoor
