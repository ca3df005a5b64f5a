import Derived.Test.YtlhkinlgolcpaaaGreatDoorJ27
namespace Go.Proofs.YtlhkinlgolcpaaaGreatDoor
set_option maxRecDepth 100000
open Go.RowKit
/-! Engine 1. -/
set_option maxHeartbeats 2000000 in
theorem hlf3_1 (w : World) (k : Int) (n b off m cap : Nat) (cs : List Cl) (hz : szE 1 k cs ≤ 1099511627776) (bk bc bp bl bf br : Nat) (h : Bx w k n b off m cap cs bk bc bp) (hl : Ly w (fV 45) (fV 46) (fV 47) (fV 48) (fV 51) bk bc bl bf br) (i : Nat) (hi : i < m) :
  Calls Tryz.prog 30 #[.int .i64 (i : Int), .pointer (some ⟨bl, 0, none⟩), .pointer (some ⟨bk, 0, none⟩), .pointer (some ⟨br, 0, none⟩), .pointer (some ⟨bp, 0, none⟩)] w fun e w' => e = .returned (.bool (fitB 1 k n (rtL k cs i))) ∧ Hid (Below w.heap.size w w') := by
 have HBX := hidden h
 have HLY := hidden hl
 have HR : Hid (∀ u, Below w.heap.size w u → Calls Tryz.prog 27 #[.int .i64 (i : Int), .pointer (some ⟨bk, 0, none⟩), .pointer (some ⟨bc, 0, none⟩)] u fun e w' => ∃ g o c, e = .returned (.slice (some ⟨g, o, none⟩) (m - i) c) ∧ (w'.cell? ⟨bl, 0, none⟩ = some (fV 45) ∧ w'.cell? ⟨bl, 1, none⟩ = some (fV 46) ∧ w'.cell? ⟨bl, 2, none⟩ = some (fV 47) ∧ w'.cell? ⟨bl, 3, none⟩ = some (fV 48) ∧ w'.cell? ⟨bl, 4, none⟩ = some (fV 51) ∧ w'.cell? ⟨bk, 0, none⟩ = some (.int .i64 k) ∧ w'.cell? ⟨bp, 0, none⟩ = some (.int .i64 (n : Int))) ∧ Hid (SlC w' (some ⟨g, o, none⟩) (m - i) c (rtL k cs i)) ∧ Hid (Below w.heap.size w w')) := hidden fun u hu => by
  refine (half2_any u k n b off m cap cs bk bc bp (HBX.out.go hu) i hi).mono ?_
  rintro e w' ⟨g, o, c, rfl, HS, HB⟩
  have hb := bl_go hu (Nat.le_refl _) HB.out
  have h1 := HBX.out.go hb
  have h2 := HLY.out.go hb
  exact ⟨g, o, c, rfl, ⟨h2.c0, h2.c1, h2.c2, h2.c3, h2.c4, h1.ck, h1.cp⟩, HS, hidden hb⟩
 have HF : Hid (∀ u g o c, SlC u (some ⟨g, o, none⟩) (m - i) c (rtL k cs i) → Below w.heap.size w u → Calls Tryz.prog 23 #[.agg ly1, .int .i64 k, .slice (some ⟨g, o, none⟩) (m - i) c, .int .i64 (n : Int)] u fun e w' => e = .returned (.bool (fitB 1 k n (rtL k cs i))) ∧ Hid (Below w.heap.size w w')) := hidden fun u g o c hs hu =>
  (fits_1 u k n _ _ _ _ hs (Nat.le_trans (szE_rt 1 k cs i) hz) (h.go hu).tb (h.go hu).h0).mono fun e w' h => ⟨h.1, hidden (bl_go hu (Nat.le_refl _) h.2.out)⟩
 have hmb : (i : Int) ≤ 200000 := by have := h.lm; omega
 have HSF : Hid (∀ u, Below w.heap.size w u → S8h bl bk br bp (fV 45) (fV 46) (fV 47) (fV 48) (fV 51) (.int .i64 k) (.func (.func 27) #[] #[.pointer (some ⟨bk, 0, none⟩), .pointer (some ⟨bc, 0, none⟩)]) (.int .i64 (n : Int)) u) := hidden fun u hu => ⟨(HLY.out.go hu).c0, (HLY.out.go hu).c1, (HLY.out.go hu).c2, (HLY.out.go hu).c3, (HLY.out.go hu).c4, (HBX.out.go hu).ck, (HLY.out.go hu).cr, (HBX.out.go hu).cp⟩
 generalize fitB 1 k n (rtL k cs i) = B at *
 obtain ⟨M, hM⟩ : ∃ M, m - i = M := ⟨_, rfl⟩
 rw [hM] at HR HF
 clear h hl hi hM hz
 go_enter Tryz.func30, Tryz.ntmps30
 go_upto_region 1 with fail
 refine wp_region_held_drew (S := S8h bl bk br bp (fV 45) (fV 46) (fV 47) (fV 48) (fV 51) (.int .i64 k) (.func (.func 27) #[] #[.pointer (some ⟨bk, 0, none⟩), .pointer (some ⟨bc, 0, none⟩)]) (.int .i64 (n : Int))) (by kernel_rfl) (HSF.out _ (Below.refl _ _).drew) (fun hHeld => ?_)
 refine wpAnyH_take (i := 0) (v := ?_) rfl (by kernel_rfl) (by kernel_rfl) (by kernel_rfl) (fun _ _ _ h => h) (Or.inl ⟨by rfl, ?_⟩) (by assumption) ?_
 rotate_left
 ·(intro w hSw; obtain ⟨q0, q1, q2, q3, q4, q5, q6, q7⟩ := hSw; go_simp; try (with_reducible rfl))
 try simp only [Act.put, List.getElem_toArray, List.getElem_cons_zero, List.setIfInBounds_toArray, List.set_cons_zero, List.set_cons_succ]
 refine wpAnyH_take (i := 1) (v := ?_) rfl (by kernel_rfl) (by kernel_rfl) (by kernel_rfl) (fun _ _ _ h => h) (Or.inl ⟨by rfl, ?_⟩) (by assumption) ?_
 rotate_left
 ·(intro w hSw; obtain ⟨q0, q1, q2, q3, q4, q5, q6, q7⟩ := hSw; go_simp; try (with_reducible rfl))
 try simp only [Act.put, List.getElem_toArray, List.getElem_cons_succ, List.getElem_cons_zero, List.setIfInBounds_toArray, List.set_cons_zero, List.set_cons_succ]
 refine wpAnyH_take (i := 2) (v := ?_) rfl (by kernel_rfl) (by kernel_rfl) (by kernel_rfl) (fun _ _ _ h => h) (Or.inl ⟨by rfl, ?_⟩) (by assumption) ?_
 rotate_left
 ·(intro w hSw; obtain ⟨q0, q1, q2, q3, q4, q5, q6, q7⟩ := hSw; go_simp; try (with_reducible rfl))
 try simp only [Act.put, List.getElem_toArray, List.getElem_cons_succ, List.getElem_cons_zero, List.setIfInBounds_toArray, List.set_cons_zero, List.set_cons_succ]
 refine wpAnyH_take (i := 3) (v := ?_) rfl (by kernel_rfl) (by kernel_rfl) (by kernel_rfl) (fun _ _ _ h => h) (Or.inl ⟨by rfl, ?_⟩) (by assumption) ?_
 rotate_left
 ·(intro w hSw; obtain ⟨q0, q1, q2, q3, q4, q5, q6, q7⟩ := hSw; go_simp; try (with_reducible rfl))
 try simp only [Act.put, List.getElem_toArray, List.getElem_cons_succ, List.getElem_cons_zero, List.setIfInBounds_toArray, List.set_cons_zero, List.set_cons_succ]
 refine wpAnyH_take (i := 5) (v := ?_) rfl (by kernel_rfl) (by kernel_rfl) (by kernel_rfl) (fun _ _ _ h => h) (Or.inl ⟨by rfl, ?_⟩) (by assumption) ?_
 rotate_left
 ·(intro w hSw; obtain ⟨q0, q1, q2, q3, q4, q5, q6, q7⟩ := hSw; go_simp; try (with_reducible rfl))
 try simp only [Act.put, List.getElem_toArray, List.getElem_cons_succ, List.getElem_cons_zero, List.setIfInBounds_toArray, List.set_cons_zero, List.set_cons_succ]
 refine wpAnyH_ready (rs := [4]) (by kernel_rfl) (by simp) ?_
 refine AllReadyH.cons rfl (fun K hK => ?_) AllReadyH.nil
 go_simp
 go_at_call 27
 refine (HR.out _ (Below.refl _ _).drew).mono ?_
 rintro e w2 ⟨g, o, c, rfl, _, HS2, HB2⟩
 dsimp only
 refine hK.out _ _ (HSF.out _ HB2.out) (fun hHeld => ?_)
 clear hK K
 try simp only [Act.put, List.getElem_toArray, List.getElem_cons_succ, List.getElem_cons_zero, List.setIfInBounds_toArray, List.set_cons_zero, List.set_cons_succ]
 refine wpAnyH_ready (rs := [6]) (by kernel_rfl) (by simp) ?_
 refine AllReadyH.cons rfl (fun K hK => ?_) AllReadyH.nil
 go_simp
 go_at_call 23
 refine (HF.out _ _ _ _ HS2.out HB2.out).mono ?_
 rintro e w3 ⟨rfl, HB3⟩
 dsimp only
 refine hK.out _ _ (HSF.out _ HB3.out) (fun hHeld => ?_)
 clear hK K
 try simp only [Act.put, List.getElem_toArray, List.getElem_cons_succ, List.getElem_cons_zero, List.setIfInBounds_toArray, List.set_cons_zero, List.set_cons_succ]
 refine wpAnyH_take (i := 7) (v := ?_) rfl (by kernel_rfl) (by kernel_rfl) (by kernel_rfl) (fun _ _ _ h => h) (Or.inl ⟨by rfl, ?_⟩) (by assumption) ?_
 rotate_left
 ·(intro w hSw; obtain ⟨q0, q1, q2, q3, q4, q5, q6, q7⟩ := hSw; go_simp; try (with_reducible rfl))
 try simp only [Act.put, List.getElem_toArray, List.getElem_cons_succ, List.getElem_cons_zero, List.setIfInBounds_toArray, List.set_cons_zero, List.set_cons_succ]
 refine wpAnyH_done (by kernel_rfl) ?_ _
 clear hHeld
 go_wp2
 go_ret
 exact ⟨rfl, HB3⟩
set_option maxHeartbeats 2000000 in
theorem hlf4_1 (w : World) (k : Int) (n b off m cap : Nat) (cs : List Cl) (hz : szE 1 k cs ≤ 1099511627776) (bk bc bp bl bf br : Nat) (h : Bx w k n b off m cap cs bk bc bp) (hl : Ly w (fV 45) (fV 46) (fV 47) (fV 48) (fV 51) bk bc bl bf br) (i : Nat) (hi : i ≤ m) :
  Calls Tryz.prog 31 #[.int .i64 (i : Int), .pointer (some ⟨bl, 0, none⟩), .pointer (some ⟨bk, 0, none⟩), .pointer (some ⟨bf, 0, none⟩), .pointer (some ⟨bp, 0, none⟩)] w fun e w' => e = .returned (.bool (!fitB 1 k n (cs.take i))) ∧ Hid (Below w.heap.size w w') := by
 have HBX := hidden h
 have HLY := hidden hl
 have HR : Hid (∀ u, Below w.heap.size w u → Calls Tryz.prog 26 #[.int .i64 (i : Int), .pointer (some ⟨bc, 0, none⟩)] u fun e w' => e = .returned (.slice (some ⟨b, off, none⟩) i cap) ∧ w' = u) := hidden fun u hu => half1_any u k n b off m cap cs bk bc bp (HBX.out.go hu) i hi
 have HF : Hid (∀ u, Below w.heap.size w u → Calls Tryz.prog 23 #[.agg ly1, .int .i64 k, .slice (some ⟨b, off, none⟩) i cap, .int .i64 (n : Int)] u fun e w' => e = .returned (.bool (fitB 1 k n (cs.take i))) ∧ Hid (Below w.heap.size w w')) := hidden fun u hu =>
  (fits_1 u k n _ _ _ _ ((h.sl.take9 hi).on hu) (Nat.le_trans (szE_take 1 k cs i) hz) (h.go hu).tb (h.go hu).h0).mono fun e w' h => ⟨h.1, hidden (bl_go hu (Nat.le_refl _) h.2.out)⟩
 have hmb : (i : Int) ≤ 200000 := by have := h.lm; omega
 have HSF : Hid (∀ u, Below w.heap.size w u → S8h bl bk bf bp (fV 45) (fV 46) (fV 47) (fV 48) (fV 51) (.int .i64 k) (.func (.func 26) #[] #[.pointer (some ⟨bc, 0, none⟩)]) (.int .i64 (n : Int)) u) := hidden fun u hu => ⟨(HLY.out.go hu).c0, (HLY.out.go hu).c1, (HLY.out.go hu).c2, (HLY.out.go hu).c3, (HLY.out.go hu).c4, (HBX.out.go hu).ck, (HLY.out.go hu).cf, (HBX.out.go hu).cp⟩
 generalize fitB 1 k n (cs.take i) = B at *
 clear h hl hi hz
 go_enter Tryz.func31, Tryz.ntmps31
 go_upto_region 1 with fail
 refine wp_region_held_drew (S := S8h bl bk bf bp (fV 45) (fV 46) (fV 47) (fV 48) (fV 51) (.int .i64 k) (.func (.func 26) #[] #[.pointer (some ⟨bc, 0, none⟩)]) (.int .i64 (n : Int))) (by kernel_rfl) (HSF.out _ (Below.refl _ _).drew) (fun hHeld => ?_)
 refine wpAnyH_take (i := 0) (v := ?_) rfl (by kernel_rfl) (by kernel_rfl) (by kernel_rfl) (fun _ _ _ h => h) (Or.inl ⟨by rfl, ?_⟩) (by assumption) ?_
 rotate_left
 ·(intro w hSw; obtain ⟨q0, q1, q2, q3, q4, q5, q6, q7⟩ := hSw; go_simp; try (with_reducible rfl))
 try simp only [Act.put, List.getElem_toArray, List.getElem_cons_zero, List.setIfInBounds_toArray, List.set_cons_zero, List.set_cons_succ]
 refine wpAnyH_take (i := 1) (v := ?_) rfl (by kernel_rfl) (by kernel_rfl) (by kernel_rfl) (fun _ _ _ h => h) (Or.inl ⟨by rfl, ?_⟩) (by assumption) ?_
 rotate_left
 ·(intro w hSw; obtain ⟨q0, q1, q2, q3, q4, q5, q6, q7⟩ := hSw; go_simp; try (with_reducible rfl))
 try simp only [Act.put, List.getElem_toArray, List.getElem_cons_succ, List.getElem_cons_zero, List.setIfInBounds_toArray, List.set_cons_zero, List.set_cons_succ]
 refine wpAnyH_take (i := 2) (v := ?_) rfl (by kernel_rfl) (by kernel_rfl) (by kernel_rfl) (fun _ _ _ h => h) (Or.inl ⟨by rfl, ?_⟩) (by assumption) ?_
 rotate_left
 ·(intro w hSw; obtain ⟨q0, q1, q2, q3, q4, q5, q6, q7⟩ := hSw; go_simp; try (with_reducible rfl))
 try simp only [Act.put, List.getElem_toArray, List.getElem_cons_succ, List.getElem_cons_zero, List.setIfInBounds_toArray, List.set_cons_zero, List.set_cons_succ]
 refine wpAnyH_take (i := 3) (v := ?_) rfl (by kernel_rfl) (by kernel_rfl) (by kernel_rfl) (fun _ _ _ h => h) (Or.inl ⟨by rfl, ?_⟩) (by assumption) ?_
 rotate_left
 ·(intro w hSw; obtain ⟨q0, q1, q2, q3, q4, q5, q6, q7⟩ := hSw; go_simp; try (with_reducible rfl))
 try simp only [Act.put, List.getElem_toArray, List.getElem_cons_succ, List.getElem_cons_zero, List.setIfInBounds_toArray, List.set_cons_zero, List.set_cons_succ]
 refine wpAnyH_take (i := 5) (v := ?_) rfl (by kernel_rfl) (by kernel_rfl) (by kernel_rfl) (fun _ _ _ h => h) (Or.inl ⟨by rfl, ?_⟩) (by assumption) ?_
 rotate_left
 ·(intro w hSw; obtain ⟨q0, q1, q2, q3, q4, q5, q6, q7⟩ := hSw; go_simp; try (with_reducible rfl))
 try simp only [Act.put, List.getElem_toArray, List.getElem_cons_succ, List.getElem_cons_zero, List.setIfInBounds_toArray, List.set_cons_zero, List.set_cons_succ]
 refine wpAnyH_ready (rs := [4]) (by kernel_rfl) (by simp) ?_
 refine AllReadyH.cons rfl (fun K hK => ?_) AllReadyH.nil
 go_simp
 go_at_call 26
 refine (HR.out _ (Below.refl _ _).drew).mono ?_
 rintro e w2 ⟨rfl, hw2⟩
 subst hw2
 dsimp only
 refine hK.out _ _ (HSF.out _ (Below.refl _ _).drew) (fun hHeld => ?_)
 clear hK K
 try simp only [Act.put, List.getElem_toArray, List.getElem_cons_succ, List.getElem_cons_zero, List.setIfInBounds_toArray, List.set_cons_zero, List.set_cons_succ]
 refine wpAnyH_ready (rs := [6]) (by kernel_rfl) (by simp) ?_
 refine AllReadyH.cons rfl (fun K hK => ?_) AllReadyH.nil
 go_simp
 go_at_call 23
 refine (HF.out _ (Below.refl _ _).drew).mono ?_
 rintro e w3 ⟨rfl, HB3⟩
 dsimp only
 refine hK.out _ _ (HSF.out _ HB3.out) (fun hHeld => ?_)
 clear hK K
 try simp only [Act.put, List.getElem_toArray, List.getElem_cons_succ, List.getElem_cons_zero, List.setIfInBounds_toArray, List.set_cons_zero, List.set_cons_succ]
 refine wpAnyH_take (i := 7) (v := ?_) rfl (by kernel_rfl) (by kernel_rfl) (by kernel_rfl) (fun _ _ _ h => h) (Or.inl ⟨by rfl, ?_⟩) (by assumption) ?_
 rotate_left
 ·(intro w hSw; obtain ⟨q0, q1, q2, q3, q4, q5, q6, q7⟩ := hSw; go_simp; try (with_reducible rfl))
 try simp only [Act.put, List.getElem_toArray, List.getElem_cons_succ, List.getElem_cons_zero, List.setIfInBounds_toArray, List.set_cons_zero, List.set_cons_succ]
 refine wpAnyH_take (i := 8) (v := ?_) rfl (by kernel_rfl) (by kernel_rfl) (by kernel_rfl) (fun _ _ _ h => h) (Or.inl ⟨by rfl, ?_⟩) (by assumption) ?_
 rotate_left
 ·(intro w hSw; obtain ⟨q0, q1, q2, q3, q4, q5, q6, q7⟩ := hSw; go_simp; try (with_reducible rfl))
 try simp only [Act.put, List.getElem_toArray, List.getElem_cons_succ, List.getElem_cons_zero, List.setIfInBounds_toArray, List.set_cons_zero, List.set_cons_succ]
 refine wpAnyH_done (by kernel_rfl) ?_ _
 clear hHeld
 go_wp2
 go_ret
 exact ⟨rfl, HB3⟩
/-! What both sides take at most, by engine 1. -/
set_option maxHeartbeats 4000000 in
theorem hlf5_1 (w : World) (k : Int) (n b off m cap : Nat) (cs : List Cl) (hz : szE 1 k cs ≤ 1099511627776) (bk bc bp bl bf br : Nat) (h : Bx w k n b off m cap cs bk bc bp) (hl : Ly w (fV 45) (fV 46) (fV 47) (fV 48) (fV 51) bk bc bl bf br) (i : Nat) (hi : i < m) :
  Calls Tryz.prog 32 #[.int .i64 (i : Int), .pointer (some ⟨bl, 0, none⟩), .pointer (some ⟨bk, 0, none⟩), .pointer (some ⟨bf, 0, none⟩), .pointer (some ⟨br, 0, none⟩)] w fun e w' => e = .returned (.int .i64 ((max (szE 1 k (cs.take i)) (szE 1 k (rtL k cs i)) : Nat) : Int)) ∧ Hid (Below w.heap.size w w') := by
 have HBX := hidden h
 have HLY := hidden hl
 have hbig := hz
 have HL : Hid (∀ u, Below w.heap.size w u → Calls Tryz.prog 26 #[.int .i64 (i : Int), .pointer (some ⟨bc, 0, none⟩)] u fun e w' => e = .returned (.slice (some ⟨b, off, none⟩) i cap) ∧ w' = u) := hidden fun u hu => half1_any u k n b off m cap cs bk bc bp (HBX.out.go hu) i (Nat.le_of_lt hi)
 have HKP : Hid (∀ u, Below w.heap.size w u → u.cell? ⟨bl, 0, none⟩ = some (fV 45) ∧ u.cell? ⟨bk, 0, none⟩ = some (.int .i64 k) ∧ u.cell? ⟨bf, 0, none⟩ = some (.func (.func 26) #[] #[.pointer (some ⟨bc, 0, none⟩)]) ∧ u.cell? ⟨br, 0, none⟩ = some (.func (.func 27) #[] #[.pointer (some ⟨bk, 0, none⟩), .pointer (some ⟨bc, 0, none⟩)])) := hidden fun u hu => ⟨(HLY.out.go hu).c0, (HBX.out.go hu).ck, (HLY.out.go hu).cf, (HLY.out.go hu).cr⟩
 obtain ⟨A, hA⟩ : ∃ A, szE 1 k (cs.take i) = A := ⟨_, rfl⟩
 obtain ⟨B, hB⟩ : ∃ B, szE 1 k (rtL k cs i) = B := ⟨_, rfl⟩
 have hAb : A ≤ 1099511627776 := by rw [← hA]; exact Nat.le_trans (szE_take 1 k cs i) hbig
 have hBb : B ≤ 1099511627776 := by rw [← hB]; exact Nat.le_trans (szE_rt 1 k cs i) hbig
 have HR : Hid (∀ u, Below w.heap.size w u → Calls Tryz.prog 27 #[.int .i64 (i : Int), .pointer (some ⟨bk, 0, none⟩), .pointer (some ⟨bc, 0, none⟩)] u fun e w' => ∃ g o c, e = .returned (.slice (some ⟨g, o, none⟩) (m - i) c) ∧ (w'.cell? ⟨bl, 0, none⟩ = some (fV 45) ∧ w'.cell? ⟨bk, 0, none⟩ = some (.int .i64 k) ∧ w'.cell? ⟨bf, 0, none⟩ = some (.func (.func 26) #[] #[.pointer (some ⟨bc, 0, none⟩)]) ∧ w'.cell? ⟨br, 0, none⟩ = some (.func (.func 27) #[] #[.pointer (some ⟨bk, 0, none⟩), .pointer (some ⟨bc, 0, none⟩)])) ∧ Hid (SlC w' (some ⟨g, o, none⟩) (m - i) c (rtL k cs i)) ∧ Hid (Below w.heap.size w w')) := hidden fun u hu => by
  refine (half2_any u k n b off m cap cs bk bc bp (HBX.out.go hu) i hi).mono ?_
  rintro e w' ⟨g, o, c, rfl, HS, HB⟩
  have hb := bl_go hu (Nat.le_refl _) HB.out
  exact ⟨g, o, c, rfl, HKP.out _ hb, HS, hidden hb⟩
 have HSL : Hid (∀ u, Below w.heap.size w u → Calls Tryz.prog 45 #[.int .i64 k, .slice (some ⟨b, off, none⟩) i cap] u fun e w' => e = .returned (.int .i64 (A : Int)) ∧ (w'.cell? ⟨bl, 0, none⟩ = some (fV 45) ∧ w'.cell? ⟨bk, 0, none⟩ = some (.int .i64 k) ∧ w'.cell? ⟨bf, 0, none⟩ = some (.func (.func 26) #[] #[.pointer (some ⟨bc, 0, none⟩)]) ∧ w'.cell? ⟨br, 0, none⟩ = some (.func (.func 27) #[] #[.pointer (some ⟨bk, 0, none⟩), .pointer (some ⟨bc, 0, none⟩)])) ∧ Hid (Below w.heap.size w w')) := hidden fun u hu => by
  have hz : szE 1 k (cs.take i) ≤ 1099511627776 := by rw [hA]; exact hAb
  refine (size_any k _ _ _ _ u ((h.sl.take9 (Nat.le_of_lt hi)).on hu) (by unfold szE at hz; simpa using hz)).mono ?_
  rintro e w' ⟨rfl, HB⟩
  have hb := bl_go hu (Nat.le_refl _) (HB)
  exact ⟨by rw [← hA]; unfold szE; simp, HKP.out _ hb, hidden hb⟩
 have HSR : Hid (∀ u g o c, SlC u (some ⟨g, o, none⟩) (m - i) c (rtL k cs i) → Below w.heap.size w u → Calls Tryz.prog 45 #[.int .i64 k, .slice (some ⟨g, o, none⟩) (m - i) c] u fun e w' => e = .returned (.int .i64 (B : Int)) ∧ (w'.cell? ⟨bl, 0, none⟩ = some (fV 45) ∧ w'.cell? ⟨bk, 0, none⟩ = some (.int .i64 k) ∧ w'.cell? ⟨bf, 0, none⟩ = some (.func (.func 26) #[] #[.pointer (some ⟨bc, 0, none⟩)]) ∧ w'.cell? ⟨br, 0, none⟩ = some (.func (.func 27) #[] #[.pointer (some ⟨bk, 0, none⟩), .pointer (some ⟨bc, 0, none⟩)])) ∧ Hid (Below w.heap.size w w')) := hidden fun u g o c hs hu => by
  have hz : szE 1 k (rtL k cs i) ≤ 1099511627776 := by rw [hB]; exact hBb
  refine (size_any k _ _ _ _ u hs (by unfold szE at hz; simpa using hz)).mono ?_
  rintro e w' ⟨rfl, HB⟩
  have hb := bl_go hu (Nat.le_refl _) (HB)
  exact ⟨by rw [← hB]; unfold szE; simp, HKP.out _ hb, hidden hb⟩
 have hmb : (i : Int) ≤ 200000 := by have := h.lm; omega
 have hAI : (A : Int) ≤ 1099511627776 := by omega
 have hBI : (B : Int) ≤ 1099511627776 := by omega
 rw [hA, hB]
 have hmx : ((max A B : Nat) : Int) = max (A : Int) (B : Int) := by omega
 rw [hmx]
 clear hmx
 have HSF : Hid (∀ u, Below w.heap.size w u → S4h bl bk bf br (fV 45) (.int .i64 k) (.func (.func 26) #[] #[.pointer (some ⟨bc, 0, none⟩)]) (.func (.func 27) #[] #[.pointer (some ⟨bk, 0, none⟩), .pointer (some ⟨bc, 0, none⟩)]) u) := HKP
 obtain ⟨M, hM⟩ : ∃ M, m - i = M := ⟨_, rfl⟩
 rw [hM] at HR HSR
 clear h hl hi hM hz hA hB hbig HKP
 go_enter Tryz.func32, Tryz.ntmps32
 go_upto_region 1 with fail
 refine wp_region_held_drew (S := S4h bl bk bf br (fV 45) (.int .i64 k) (.func (.func 26) #[] #[.pointer (some ⟨bc, 0, none⟩)]) (.func (.func 27) #[] #[.pointer (some ⟨bk, 0, none⟩), .pointer (some ⟨bc, 0, none⟩)])) (by kernel_rfl) (HSF.out _ (Below.refl _ _).drew) (fun hHeld => ?_)
 refine wpAnyH_take (i := 0) (v := ?_) rfl (by kernel_rfl) (by kernel_rfl) (by kernel_rfl) (fun _ _ _ h => h) (Or.inl ⟨by rfl, ?_⟩) (by assumption) ?_
 rotate_left
 ·(intro w hSw; obtain ⟨q0, q1, q2, q3⟩ := hSw; go_simp; try (with_reducible rfl))
 try simp only [Act.put, List.getElem_toArray, List.getElem_cons_zero, List.setIfInBounds_toArray, List.set_cons_zero, List.set_cons_succ]
 refine wpAnyH_take (i := 1) (v := ?_) rfl (by kernel_rfl) (by kernel_rfl) (by kernel_rfl) (fun _ _ _ h => h) (Or.inl ⟨by rfl, ?_⟩) (by assumption) ?_
 rotate_left
 ·(intro w hSw; obtain ⟨q0, q1, q2, q3⟩ := hSw; go_simp; try (with_reducible rfl))
 try simp only [Act.put, List.getElem_toArray, List.getElem_cons_succ, List.getElem_cons_zero, List.setIfInBounds_toArray, List.set_cons_zero, List.set_cons_succ]
 refine wpAnyH_take (i := 2) (v := ?_) rfl (by kernel_rfl) (by kernel_rfl) (by kernel_rfl) (fun _ _ _ h => h) (Or.inl ⟨by rfl, ?_⟩) (by assumption) ?_
 rotate_left
 ·(intro w hSw; obtain ⟨q0, q1, q2, q3⟩ := hSw; go_simp; try (with_reducible rfl))
 try simp only [Act.put, List.getElem_toArray, List.getElem_cons_succ, List.getElem_cons_zero, List.setIfInBounds_toArray, List.set_cons_zero, List.set_cons_succ]
 refine wpAnyH_take (i := 3) (v := ?_) rfl (by kernel_rfl) (by kernel_rfl) (by kernel_rfl) (fun _ _ _ h => h) (Or.inl ⟨by rfl, ?_⟩) (by assumption) ?_
 rotate_left
 ·(intro w hSw; obtain ⟨q0, q1, q2, q3⟩ := hSw; go_simp; try (with_reducible rfl))
 try simp only [Act.put, List.getElem_toArray, List.getElem_cons_succ, List.getElem_cons_zero, List.setIfInBounds_toArray, List.set_cons_zero, List.set_cons_succ]
 refine wpAnyH_take (i := 4) (v := ?_) rfl (by kernel_rfl) (by kernel_rfl) (by kernel_rfl) (fun _ _ _ h => h) (Or.inl ⟨by rfl, ?_⟩) (by assumption) ?_
 rotate_left
 ·(intro w hSw; obtain ⟨q0, q1, q2, q3⟩ := hSw; go_simp; try (with_reducible rfl))
 try simp only [Act.put, List.getElem_toArray, List.getElem_cons_succ, List.getElem_cons_zero, List.setIfInBounds_toArray, List.set_cons_zero, List.set_cons_succ]
 refine wpAnyH_take (i := 7) (v := ?_) rfl (by kernel_rfl) (by kernel_rfl) (by kernel_rfl) (fun _ _ _ h => h) (Or.inl ⟨by rfl, ?_⟩) (by assumption) ?_
 rotate_left
 ·(intro w hSw; obtain ⟨q0, q1, q2, q3⟩ := hSw; go_simp; try (with_reducible rfl))
 try simp only [Act.put, List.getElem_toArray, List.getElem_cons_succ, List.getElem_cons_zero, List.setIfInBounds_toArray, List.set_cons_zero, List.set_cons_succ]
 refine wpAnyH_take (i := 8) (v := ?_) rfl (by kernel_rfl) (by kernel_rfl) (by kernel_rfl) (fun _ _ _ h => h) (Or.inl ⟨by rfl, ?_⟩) (by assumption) ?_
 rotate_left
 ·(intro w hSw; obtain ⟨q0, q1, q2, q3⟩ := hSw; go_simp; try (with_reducible rfl))
 try simp only [Act.put, List.getElem_toArray, List.getElem_cons_succ, List.getElem_cons_zero, List.setIfInBounds_toArray, List.set_cons_zero, List.set_cons_succ]
 refine wpAnyH_take (i := 9) (v := ?_) rfl (by kernel_rfl) (by kernel_rfl) (by kernel_rfl) (fun _ _ _ h => h) (Or.inl ⟨by rfl, ?_⟩) (by assumption) ?_
 rotate_left
 ·(intro w hSw; obtain ⟨q0, q1, q2, q3⟩ := hSw; go_simp; try (with_reducible rfl))
 try simp only [Act.put, List.getElem_toArray, List.getElem_cons_succ, List.getElem_cons_zero, List.setIfInBounds_toArray, List.set_cons_zero, List.set_cons_succ]
 refine wpAnyH_take (i := 10) (v := ?_) rfl (by kernel_rfl) (by kernel_rfl) (by kernel_rfl) (fun _ _ _ h => h) (Or.inl ⟨by rfl, ?_⟩) (by assumption) ?_
 rotate_left
 ·(intro w hSw; obtain ⟨q0, q1, q2, q3⟩ := hSw; go_simp; try (with_reducible rfl))
 try simp only [Act.put, List.getElem_toArray, List.getElem_cons_succ, List.getElem_cons_zero, List.setIfInBounds_toArray, List.set_cons_zero, List.set_cons_succ]
 refine wpAnyH_take (i := 11) (v := ?_) rfl (by kernel_rfl) (by kernel_rfl) (by kernel_rfl) (fun _ _ _ h => h) (Or.inl ⟨by rfl, ?_⟩) (by assumption) ?_
 rotate_left
 ·(intro w hSw; obtain ⟨q0, q1, q2, q3⟩ := hSw; go_simp; try (with_reducible rfl))
 try simp only [Act.put, List.getElem_toArray, List.getElem_cons_succ, List.getElem_cons_zero, List.setIfInBounds_toArray, List.set_cons_zero, List.set_cons_succ]
 refine wpAnyH_ready (rs := [5]) (by kernel_rfl) (by simp) ?_
 refine AllReadyH.cons rfl (fun K hK => ?_) AllReadyH.nil
 go_simp
 go_at_call 26
 refine (HL.out _ (Below.refl _ _).drew).mono ?_
 rintro e w1 ⟨rfl, hw1⟩
 subst hw1
 dsimp only
 refine hK.out _ _ (HSF.out _ (Below.refl _ _).drew) (fun hHeld => ?_)
 clear hK K
 try simp only [Act.put, List.getElem_toArray, List.getElem_cons_succ, List.getElem_cons_zero, List.setIfInBounds_toArray, List.set_cons_zero, List.set_cons_succ]
 refine wpAnyH_ready (rs := [6]) (by kernel_rfl) (by simp) ?_
 refine AllReadyH.cons rfl (fun K hK => ?_) AllReadyH.nil
 go_simp
 go_at_call 45
 refine (HSL.out _ (Below.refl _ _).drew).mono ?_
 rintro e w1 ⟨rfl, _, HB1⟩
 dsimp only
 refine hK.out _ _ (HSF.out _ HB1.out) (fun hHeld => ?_)
 clear hK K
 try simp only [Act.put, List.getElem_toArray, List.getElem_cons_succ, List.getElem_cons_zero, List.setIfInBounds_toArray, List.set_cons_zero, List.set_cons_succ]
 refine wpAnyH_ready (rs := [12]) (by kernel_rfl) (by simp) ?_
 refine AllReadyH.cons rfl (fun K hK => ?_) AllReadyH.nil
 go_simp
 go_at_call 27
 refine (HR.out _ HB1.out).mono ?_
 rintro e w2 ⟨g, o, c, rfl, _, HS2, HB2⟩
 dsimp only
 refine hK.out _ _ (HSF.out _ HB2.out) (fun hHeld => ?_)
 clear hK K
 try simp only [Act.put, List.getElem_toArray, List.getElem_cons_succ, List.getElem_cons_zero, List.setIfInBounds_toArray, List.set_cons_zero, List.set_cons_succ]
 refine wpAnyH_ready (rs := [13]) (by kernel_rfl) (by simp) ?_
 refine AllReadyH.cons rfl (fun K hK => ?_) AllReadyH.nil
 go_simp
 go_at_call 45
 refine (HSR.out _ _ _ _ HS2.out HB2.out).mono ?_
 rintro e w3 ⟨rfl, _, HB3⟩
 dsimp only
 refine hK.out _ _ (HSF.out _ HB3.out) (fun hHeld => ?_)
 clear hK K
 try simp only [Act.put, List.getElem_toArray, List.getElem_cons_succ, List.getElem_cons_zero, List.setIfInBounds_toArray, List.set_cons_zero, List.set_cons_succ]
 refine wpAnyH_ready (rs := [14]) (by kernel_rfl) (by simp) ?_
 refine AllReadyH.cons rfl (fun K hK => ?_) AllReadyH.nil
 go_simp
 refine hK.out _ _ (HSF.out _ HB3.out) (fun hHeld => ?_)
 clear hK K
 try simp only [Act.put, List.getElem_toArray, List.getElem_cons_succ, List.getElem_cons_zero, List.setIfInBounds_toArray, List.set_cons_zero, List.set_cons_succ]
 refine wpAnyH_take (i := 15) (v := ?_) rfl (by kernel_rfl) (by kernel_rfl) (by kernel_rfl) (fun _ _ _ h => h) (Or.inl ⟨by rfl, ?_⟩) (by assumption) ?_
 rotate_left
 ·(intro w hSw; obtain ⟨q0, q1, q2, q3⟩ := hSw; go_simp; try (with_reducible rfl))
 try simp only [Act.put, List.getElem_toArray, List.getElem_cons_succ, List.getElem_cons_zero, List.setIfInBounds_toArray, List.set_cons_zero, List.set_cons_succ]
 refine wpAnyH_done (by kernel_rfl) ?_ _
 clear hHeld
 go_wp2
 go_ret
 exact ⟨rfl, HB3⟩
end Go.Proofs.YtlhkinlgolcpaaaGreatDoor
