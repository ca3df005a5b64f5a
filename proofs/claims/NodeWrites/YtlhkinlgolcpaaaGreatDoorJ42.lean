import Derived.Test.YtlhkinlgolcpaaaGreatDoorJ27
import Derived.Test.YtlhkinlgolcpaaaGreatDoorJ41
namespace Go.Proofs.YtlhkinlgolcpaaaGreatDoor
set_option maxRecDepth 100000
open Go.RowKit
set_option maxHeartbeats 8000000 in
theorem hlf_1 (w : World) (k : Int) (n b off m cap : Nat) (cs : List Cl) (hs : SlC w (some ⟨b, off, none⟩) m cap cs) (hkd : isKd k) (hn : pw n) (hz : szE 1 k cs ≤ 1099511627776) (hm : m ≤ 200000) (hm4 : 4 ≤ m) (ht : Tab w) (h0 : 1 < w.heap.size) :
  Calls Tryz.prog 9 #[.int .i64 1, .int .i64 k, .slice (some ⟨b, off, none⟩) m cap, .int .i64 (n : Int)] w fun e w' => ∃ (r : Nat) (c : Int), e = .returned (.tuple #[.int .i64 (r : Int), .int .i64 c]) ∧ Hid (IsHalf 1 k n cs r c) ∧ Hid (Below w.heap.size w w') := by
 have HL := hidden (fun u => layout_1 u)
 have d1 : decide (isKd k) = true := decide_eq_true hkd
 have d2 : decide (pw (n : Int)) = true := decide_eq_true hn
 have HX := hidden (And.intro hs (And.intro hkd (And.intro hn (And.intro hz (And.intro hz (And.intro ht h0))))))
 have HM := hidden hm
 have HM4 : Hid (4 ≤ m) := hidden hm4
 have hmI : (m : Int) ≤ 200000 := by omega
 obtain ⟨s, hsz⟩ : ∃ s, w.heap.size = s := ⟨_, rfl⟩
 obtain ⟨x, hx⟩ : ∃ x, ((w.alloc (.cells #[.int .i64 k] 3)).alloc (.cells #[.slice (some ⟨b, off, none⟩) m cap] 22)).alloc (.cells #[.int .i64 (n : Int)] 3) = x := ⟨_, rfl⟩
 have hbx : Below w.heap.size w x := by rw [← hx]; exact bl_al (bl_al (bl_al (Below.refl _ _) (Nat.le_refl _) _) (Nat.le_refl _) _) (Nat.le_refl _) _
 have hX : (x.cell? ⟨s, 0, none⟩ = some (.int .i64 k) ∧ x.cell? ⟨s + 1, 0, none⟩ = some (.slice (some ⟨b, off, none⟩) m cap) ∧ x.cell? ⟨s + 1 + 1, 0, none⟩ = some (.int .i64 (n : Int))) ∧ x.heap.size = s + 3 := by
  rw [← hx, ← hsz]
  have e1 : (w.alloc (.cells #[.int .i64 k] 3)).heap.size = w.heap.size + 1 := by simp
  have e2 : ((w.alloc (.cells #[.int .i64 k] 3)).alloc (.cells #[.slice (some ⟨b, off, none⟩) m cap] 22)).heap.size = w.heap.size + 1 + 1 := by simp
  refine ⟨⟨keep_cell9 _ (keep_cell9 _ (one_cell9 _ _ _) (by omega)) (by omega), ?_, ?_⟩, by simp⟩
  ·rw [← e1]
   exact keep_cell9 _ (one_cell9 _ _ _) (by omega)
  ·rw [← e2]
   exact one_cell9 _ _ _
 have HBX := hidden hbx
 have HXX := hidden hX
 obtain ⟨⟨x0, x1, x2⟩, _⟩ := hX
 clear hs hkd hn hz hm4 ht h0 hbx hm
 go_enter Tryz.func9, Tryz.ntmps9
 go_wp2_with (first
  | (go_at_call 22; refine (HL.out _).mono ?_; rintro e w1 ⟨rfl, HB1⟩; refine Hid.out ?_))
 apply hidden
 obtain ⟨s1, hs1⟩ : ∃ s1, w1.heap.size = s1 := ⟨_, rfl⟩
 have hb1 := HB1.out
 have hxs := HXX.out.2
 have y0 : w1.cell? ⟨s, 0, none⟩ = some (.int .i64 k) := (hb1.cell (p := ⟨s, 0, none⟩) (by show s < _; omega)).trans HXX.out.1.1
 have y1 : w1.cell? ⟨s + 1, 0, none⟩ = some (.slice (some ⟨b, off, none⟩) m cap) := (hb1.cell (p := ⟨s + 1, 0, none⟩) (by show s + 1 < _; omega)).trans HXX.out.1.2.1
 have y2 : w1.cell? ⟨s + 1 + 1, 0, none⟩ = some (.int .i64 (n : Int)) := (hb1.cell (p := ⟨s + 1 + 1, 0, none⟩) (by show s + 1 + 1 < _; omega)).trans HXX.out.1.2.2
 have hlt : s + 3 ≤ w1.heap.size := by have := hb1.size; omega
 obtain ⟨Z1, hZ1⟩ : ∃ Z1, w1.alloc (.cells #[fV 45, fV 46, fV 47, fV 48, fV 51] 54) = Z1 := ⟨_, rfl⟩
 have hbz1 : Below w1.heap.size w1 Z1 := by rw [← hZ1]; exact bl_al (Below.refl _ _) (Nat.le_refl _) _
 have hrow : Z1.heap[s1]? = some (.cells #[fV 45, fV 46, fV 47, fV 48, fV 51] 54 (0, 0)) := by rw [← hZ1, ← hs1]; exact heap_alloc_last w1 _
 have hsz1 : Z1.heap.size = s1 + 1 := by rw [← hZ1, ← hs1]; simp
 have z0 : Z1.cell? ⟨s, 0, none⟩ = some (.int .i64 k) := (hbz1.cell (p := ⟨s, 0, none⟩) (by show s < _; omega)).trans y0
 have z1 : Z1.cell? ⟨s + 1, 0, none⟩ = some (.slice (some ⟨b, off, none⟩) m cap) := (hbz1.cell (p := ⟨s + 1, 0, none⟩) (by show s + 1 < _; omega)).trans y1
 have z2 : Z1.cell? ⟨s + 1 + 1, 0, none⟩ = some (.int .i64 (n : Int)) := (hbz1.cell (p := ⟨s + 1 + 1, 0, none⟩) (by show s + 1 + 1 < _; omega)).trans y2
 have hl1 : s + 3 ≤ Z1.heap.size := by have := hbz1.size; omega
 obtain ⟨Z2, hZ2⟩ : ∃ Z2, Z1.alloc (.cells #[.func (.func 26) #[] #[.pointer (some ⟨s + 1, 0, none⟩)]] 59) = Z2 := ⟨_, rfl⟩
 obtain ⟨Z3, hZ3⟩ : ∃ Z3, Z2.alloc (.cells #[.func (.func 27) #[] #[.pointer (some ⟨s, 0, none⟩), .pointer (some ⟨s + 1, 0, none⟩)]] 59) = Z3 := ⟨_, rfl⟩
 have hl2 : Z2.heap.size = Z1.heap.size + 1 := by rw [← hZ2]; simp
 have hl3 : Z3.heap.size = Z2.heap.size + 1 := by rw [← hZ3]; simp
 have hb23 : Below Z1.heap.size Z1 Z3 := by rw [← hZ3, ← hZ2]; exact bl_al (bl_al (Below.refl _ _) (Nat.le_refl _) _) (Nat.le_refl _) _
 have v1 : Z3.cell? ⟨s + 1, 0, none⟩ = some (.slice (some ⟨b, off, none⟩) m cap) := (hb23.cell (p := ⟨s + 1, 0, none⟩) (by show s + 1 < _; omega)).trans z1
 have HBW : Hid (Below w.heap.size w Z3) := hidden (bl_go (bl_go (bl_go HBX.out (Nat.le_refl _) hb1) (Nat.le_refl _) hbz1) (Nat.le_refl _) hb23)
 have HBX3 : Hid (Bx Z3 k n b off m cap cs s (s + 1) (s + 1 + 1)) := hidden ⟨(hb23.cell (p := ⟨s, 0, none⟩) (by show s < _; omega)).trans z0, v1, (hb23.cell (p := ⟨s + 1 + 1, 0, none⟩) (by show s + 1 + 1 < _; omega)).trans z2, by omega, by omega, by omega, HX.out.1.on HBW.out, HM.out, HX.out.2.2.2.2.2.1.on HBW.out HX.out.2.2.2.2.2.2, Nat.lt_of_lt_of_le HX.out.2.2.2.2.2.2 HBW.out.size⟩
 have hrw : ∀ j, Z3.cell? ⟨s1, j, none⟩ = Z1.cell? ⟨s1, j, none⟩ := fun j => hb23.cell (p := ⟨s1, j, none⟩) (by show s1 < _; omega)
 have HLY3 : Hid (Ly Z3 (fV 45) (fV 46) (fV 47) (fV 48) (fV 51) s (s + 1) s1 Z1.heap.size Z2.heap.size) := hidden ⟨by rw [hrw, cell_of_row _ _ _ _ _ _ hrow]; rfl, by rw [hrw, cell_of_row _ _ _ _ _ _ hrow]; rfl, by rw [hrw, cell_of_row _ _ _ _ _ _ hrow]; rfl, by rw [hrw, cell_of_row _ _ _ _ _ _ hrow]; rfl, by rw [hrw, cell_of_row _ _ _ _ _ _ hrow]; rfl, by rw [← hZ3]; refine keep_cell9 _ ?_ (by omega); rw [← hZ2]; exact one_cell9 _ _ _, by rw [← hZ3]; exact one_cell9 _ _ _, by omega, by omega, by omega⟩
 have HZ : Hid (szE 1 k cs ≤ 1099511627776) := hidden HX.out.2.2.2.1
 have hm1 : ((m - 1 : Nat) : Int) = (m : Int) - 2 + 1 := by have := HM4.out; omega
 have HQ1 : Hid (Calls Tryz.prog 29 #[.int .i64 2, .int .i64 ((m : Int) - 2 + 1), .func (.func 30) #[] #[.pointer (some ⟨s1, 0, none⟩), .pointer (some ⟨s, 0, none⟩), .pointer (some ⟨Z2.heap.size, 0, none⟩), .pointer (some ⟨s + 1 + 1, 0, none⟩)]] Z3 (LeastTo (fun i => fitB 1 k n (rtL k cs i)) 2 (m - 1) Z3)) := hidden (by
  have := least_3 Z3 2 (m - 1) s1 s Z2.heap.size (s + 1 + 1) (fun i => fitB 1 k n (rtL k cs i)) (by have := HM4.out; omega) (by have := HM.out; omega) (fun u i hu h1 h2 => hlf3_1 u k n b off m cap cs HZ.out s (s + 1) (s + 1 + 1) s1 Z1.heap.size Z2.heap.size (HBX3.out.go hu) (HLY3.out.go hu) i (by omega))
  rw [hm1] at this
  exact this)
 have HSZ := hidden (And.intro hl1 (And.intro hl2 hl3))
 clear x0 x1 x2 hxs hlt hb1 hbz1 hx y0 y1 y2 hl1 hl2 hl3 hb23 hrw hrow hsz1
 go_wp2_with (first
  | (go_at_call 25; refine same_call (isKind_any _ _) ?_; rw [d1])
  | (go_at_call 24; refine same_call (isSize_any _ _) ?_; rw [d2])
  | (go_at_call 29; refine HQ1.out.mono ?_; rintro e w2 ⟨first, rfl, HB2, HP1⟩; refine Hid.out ?_))
 apply hidden
 clear HQ1 z0 z1 z2 v1 hZ1 hZ2 hZ3 d1 d2
 have hfirst : 2 ≤ first ∧ first ≤ m - 1 := HP1.out.1
 have hfI : (first : Int) ≤ 200000 := by have := HM.out; omega
 have HQ2 : Hid (Calls Tryz.prog 29 #[.int .i64 (first : Int), .int .i64 ((m : Int) - 2 + 1), .func (.func 31) #[] #[.pointer (some ⟨s1, 0, none⟩), .pointer (some ⟨s, 0, none⟩), .pointer (some ⟨Z1.heap.size, 0, none⟩), .pointer (some ⟨s + 1 + 1, 0, none⟩)]] w2 (LeastTo (fun i => !fitB 1 k n (cs.take i)) first (m - 1) w2)) := hidden (by
  have := least_4 w2 first (m - 1) s1 s Z1.heap.size (s + 1 + 1) (fun i => !fitB 1 k n (cs.take i)) hfirst.2 (by have := HM.out; omega) (fun u i hu h1 h2 => hlf4_1 u k n b off m cap cs HZ.out s (s + 1) (s + 1 + 1) s1 Z1.heap.size Z2.heap.size (HBX3.out.go (bl_go HB2.out (Nat.le_refl _) hu)) (HLY3.out.go (bl_go HB2.out (Nat.le_refl _) hu)) i (by omega))
  rw [hm1] at this
  exact this)
 clear hfirst
 go_wp2_with (first
  | (go_at_call 29; refine HQ2.out.mono ?_; rintro e w3 ⟨fin, rfl, HB3, HP2⟩; refine Hid.out ?_))
 apply hidden
 clear HQ2
 have HCF := hidden (half_fit (e := 1) HX.out.1.hlen HP1.out HP2.out.1 HP2.out.2.1 HP2.out.2.2)
 have hfin : fin ≤ m - 1 := HP2.out.1.2
 have hfnI : (fin : Int) ≤ 200000 := by have := HM.out; omega
 rcases Nat.lt_or_ge first fin with hff | hff
 case inr =>
  have hle : (fin : Int) ≤ (first : Int) := by omega
  have HLE := hidden hff
  clear hff hfin
  go_wp2
  go_ret2
  exact ⟨0, 61, rfl, hidden (half_no HX.out.1.hlen HCF.out HLE.out), hidden (bl_go (bl_go HBW.out (Nat.le_refl _) HB2.out) (Nat.le_refl _) HB3.out)⟩
 have HFN := hidden (And.intro hff hfin)
 obtain ⟨f1, hf1⟩ : ∃ f1, fin - 1 = f1 := ⟨_, rfl⟩
 have hge : ¬ (fin : Int) ≤ (first : Int) := by omega
 have hfin1 : (fin : Int) - 1 = (f1 : Int) := by omega
 have hf1I : (f1 : Int) ≤ 200000 := by omega
 have HFF : Hid (first ≤ f1 ∧ f1 + 2 ≤ m ∧ f1 = fin - 1) := hidden (by omega)
 obtain ⟨Z4, hZ4⟩ : ∃ Z4, w3.alloc (.cells #[.func (.func 32) #[] #[.pointer (some ⟨s1, 0, none⟩), .pointer (some ⟨s, 0, none⟩), .pointer (some ⟨Z1.heap.size, 0, none⟩), .pointer (some ⟨Z2.heap.size, 0, none⟩)]] 34) = Z4 := ⟨_, rfl⟩
 obtain ⟨sg, hsg⟩ : ∃ sg, w3.heap.size = sg := ⟨_, rfl⟩
 have hcg : Z4.cell? ⟨sg, 0, none⟩ = some (.func (.func 32) #[] #[.pointer (some ⟨s1, 0, none⟩), .pointer (some ⟨s, 0, none⟩), .pointer (some ⟨Z1.heap.size, 0, none⟩), .pointer (some ⟨Z2.heap.size, 0, none⟩)]) := by rw [← hZ4, ← hsg]; exact one_cell9 _ _ _
 have HB4 : Hid (Below Z3.heap.size Z3 Z4) := hidden (bl_go (bl_go HB2.out (Nat.le_refl _) HB3.out) (Nat.le_refl _) (by rw [← hZ4]; exact bl_al (Below.refl _ _) (Nat.le_refl _) _))
 have hg4 : sg < Z4.heap.size := by rw [← hZ4, ← hsg]; simp
 obtain ⟨G, hG⟩ : ∃ G : Nat → Nat, G = fun i => max (szE 1 k (cs.take i)) (szE 1 k (rtL k cs i)) := ⟨_, rfl⟩
 have hbig := HZ.out
 have HGB : Hid (∀ t, t ≤ 200000 → G t ≤ 1099511627776) := hidden fun t _ => by
  rw [hG]
  exact Nat.max_le.2 ⟨Nat.le_trans (szE_take 1 k cs t) hbig, Nat.le_trans (szE_rt 1 k cs t) hbig⟩
 have HQ3 : Hid (Calls Tryz.prog 29 #[.int .i64 (first : Int), .int .i64 (f1 : Int), .func (.func 33) #[] #[.pointer (some ⟨sg, 0, none⟩)]] Z4 (LeastTo (fun i => decide (G i ≤ G (i + 1))) first f1 Z4)) := hidden (by
  refine least_6 Z4 first f1 sg (fun i => decide (G i ≤ G (i + 1))) HFF.out.1 (by omega) (fun u i hu h1 h2 => ?_)
  refine half6_any u sg G s1 s Z1.heap.size Z2.heap.size i (i + 1) rfl (by omega) HGB.out ((hu.cell (p := ⟨sg, 0, none⟩) hg4).trans hcg) (Nat.lt_of_lt_of_le hg4 hu.size) (fun v t hv ht => ?_)
  rw [hG]
  exact hlf5_1 v k n b off m cap cs HZ.out s (s + 1) (s + 1 + 1) s1 Z1.heap.size Z2.heap.size (HBX3.out.go (bl_go HB4.out (Nat.le_refl _) (bl_go hu (Nat.le_refl _) hv))) (HLY3.out.go (bl_go HB4.out (Nat.le_refl _) (bl_go hu (Nat.le_refl _) hv))) t (by have := HFF.out; omega))
 clear hff hfin hf1 hcg hg4 hbig
 go_wp2_with (first
  | (go_at_call 29; refine HQ3.out.mono ?_; rintro e w4 ⟨r, rfl, HB5, HP3⟩; refine Hid.out ?_))
 apply hidden
 clear HQ3
 have hrI : (r : Int) ≤ 200000 := by have := HP3.out.1; have := HFF.out; have := HM.out; omega
 go_wp2
 go_ret2
 have h3 := HP3.out
 rw [hG] at h3
 exact ⟨r, 0, rfl, hidden (half_yes HX.out.1.hlen HCF.out HP1.out.1.1 HFN.out.2 HM4.out HFF.out.2.2 HFN.out.1 h3), hidden (bl_go (bl_go HBW.out (Nat.le_refl _) HB4.out) (Nat.le_refl _) HB5.out)⟩
end Go.Proofs.YtlhkinlgolcpaaaGreatDoor
