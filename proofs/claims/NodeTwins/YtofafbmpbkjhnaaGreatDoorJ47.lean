import Derived.Test.YtofafbmpbkjhnaaGreatDoorJ46
import Derived.Lib.ConvBytes
import Derived.Lib.AtoiErrMem
namespace Go.Proofs.YtofafbmpbkjhnaaGreatDoor
set_option maxRecDepth 100000
set_option maxHeartbeats 8000000
open Go.RowKit
/-! Engine 2. -/
theorem half3_2 (w : World) (k : Int) (n b off m cap : Nat) (cs : List Cl) (hft : ∀ c ∈ cs, c.fit) (bk bc bp bl bf br : Nat) (h : Bx w k n b off m cap cs bk bc bp) (hl : Ly w (fV 88) (fV 89) (fV 90) (fV 91) (fV 94) bk bc bl bf br) (i : Nat) (hi : i < m) :
  Calls Tryz.prog 68 #[.int .i64 (i : Int), .pointer (some ⟨bl, 0, none⟩), .pointer (some ⟨bk, 0, none⟩), .pointer (some ⟨br, 0, none⟩), .pointer (some ⟨bp, 0, none⟩)] w fun e w' => e = .returned (.bool (fitB 2 k n (rtL k cs i))) ∧ Hid (Below w.heap.size w w') := by
 have HBX := zaa h
 have HLY := zaa hl
 have HR : Hid (∀ u, Below w.heap.size w u → Calls Tryz.prog 65 #[.int .i64 (i : Int), .pointer (some ⟨bk, 0, none⟩), .pointer (some ⟨bc, 0, none⟩)] u fun e w' => ∃ g o c, e = .returned (.slice (some ⟨g, o, none⟩) (m - i) c) ∧ (w'.cell? ⟨bl, 0, none⟩ = some (fV 88) ∧ w'.cell? ⟨bl, 1, none⟩ = some (fV 89) ∧ w'.cell? ⟨bl, 2, none⟩ = some (fV 90) ∧ w'.cell? ⟨bl, 3, none⟩ = some (fV 91) ∧ w'.cell? ⟨bl, 4, none⟩ = some (fV 94) ∧ w'.cell? ⟨bk, 0, none⟩ = some (.int .i64 k) ∧ w'.cell? ⟨bp, 0, none⟩ = some (.int .i64 (n : Int))) ∧ Hid (SlC w' (some ⟨g, o, none⟩) (m - i) c (rtL k cs i)) ∧ Hid (Below w.heap.size w w')) := zaa fun u hu => by
  refine (half2_any u k n b off m cap cs bk bc bp (HBX.out.go hu) i hi).mono ?_
  rintro e w' ⟨g, o, c, rfl, HS, HB⟩
  have hb := zab hu Lr HB.out
  have h1 := HBX.out.go hb
  have h2 := HLY.out.go hb
  exact ⟨g, o, c, rfl, ⟨h2.c0, h2.c1, h2.c2, h2.c3, h2.c4, h1.ck, h1.cp⟩, HS, zaa hb⟩
 have HF : Hid (∀ u g o c, SlC u (some ⟨g, o, none⟩) (m - i) c (rtL k cs i) → Below w.heap.size w u → Calls Tryz.prog 61 #[.agg ly2, .int .i64 k, .slice (some ⟨g, o, none⟩) (m - i) c, .int .i64 (n : Int)] u fun e w' => e = .returned (.bool (fitB 2 k n (rtL k cs i))) ∧ Hid (Below w.heap.size w w')) := zaa fun u g o c hs hu =>
  (fits_2 u k n _ _ _ _ hs (zN (zbn 2 k cs i) (zbq hft (by rw [h.sl.hlen]; exact h.lm))) (h.go hu).tb (h.go hu).h0).mono fun e w' h => ⟨h.1, zaa (zab hu Lr h.2.out)⟩
 have hmb : (i : Int) ≤ 65536 := by have := h.lm; omega
 have HSF : Hid (∀ u, Below w.heap.size w u → S8h bl bk br bp (fV 88) (fV 89) (fV 90) (fV 91) (fV 94) (.int .i64 k) (.func (.func 65) #[] #[.pointer (some ⟨bk, 0, none⟩), .pointer (some ⟨bc, 0, none⟩)]) (.int .i64 (n : Int)) u) := zaa fun u hu => ⟨(HLY.out.go hu).c0, (HLY.out.go hu).c1, (HLY.out.go hu).c2, (HLY.out.go hu).c3, (HLY.out.go hu).c4, (HBX.out.go hu).ck, (HLY.out.go hu).cr, (HBX.out.go hu).cp⟩
 generalize fitB 2 k n (rtL k cs i) = B at *
 obtain ⟨M, hM⟩ : ∃ M, m - i = M := ⟨_, rfl⟩
 rw [hM] at HR HF
 clear h hl hi hM hft
 go_enter Tryz.func68, Tryz.ntmps68
 go_upto_region 1 with fail
 refine wp_region_held_drew (S := S8h bl bk br bp (fV 88) (fV 89) (fV 90) (fV 91) (fV 94) (.int .i64 k) (.func (.func 65) #[] #[.pointer (some ⟨bk, 0, none⟩), .pointer (some ⟨bc, 0, none⟩)]) (.int .i64 (n : Int))) (by kernel_rfl) (HSF.out _ Br.drew) (fun hHeld => ?_)
 refine zT (i := 0) (v := ?_) rfl ?_ (fun _ _ _ h => h) ?_
 rotate_left
 ·(rintro w ⟨q0, q1, q2, q3, q4, q5, q6, q7⟩; go_simp; try with_reducible rfl)
 try simp only [Act.put, zA, zC, zD, zE, zF]
 refine zT (i := 1) (v := ?_) rfl ?_ (fun _ _ _ h => h) ?_
 rotate_left
 ·(rintro w ⟨q0, q1, q2, q3, q4, q5, q6, q7⟩; go_simp; try with_reducible rfl)
 try simp only [Act.put, zA, zB, zC, zD, zE, zF]
 refine zT (i := 2) (v := ?_) rfl ?_ (fun _ _ _ h => h) ?_
 rotate_left
 ·(rintro w ⟨q0, q1, q2, q3, q4, q5, q6, q7⟩; go_simp; try with_reducible rfl)
 try simp only [Act.put, zA, zB, zC, zD, zE, zF]
 refine zT (i := 3) (v := ?_) rfl ?_ (fun _ _ _ h => h) ?_
 rotate_left
 ·(rintro w ⟨q0, q1, q2, q3, q4, q5, q6, q7⟩; go_simp; try with_reducible rfl)
 try simp only [Act.put, zA, zB, zC, zD, zE, zF]
 refine zT (i := 5) (v := ?_) rfl ?_ (fun _ _ _ h => h) ?_
 rotate_left
 ·(rintro w ⟨q0, q1, q2, q3, q4, q5, q6, q7⟩; go_simp; try with_reducible rfl)
 try simp only [Act.put, zA, zB, zC, zD, zE, zF]
 refine zY (i := 4) rfl fun K hK => ?_
 go_simp
 go_at_call 65
 refine (HR.out _ Br.drew).mono ?_
 rintro e w2 ⟨g, o, c, rfl, _, HS2, HB2⟩
 dsimp only
 refine hK.out _ _ (HSF.out _ HB2.out) (fun hHeld => ?_)
 clear hK K
 try simp only [Act.put, zA, zB, zC, zD, zE, zF]
 refine zY (i := 6) rfl fun K hK => ?_
 go_simp
 go_at_call 61
 refine (HF.out _ _ _ _ HS2.out HB2.out).mono ?_
 rintro e w3 ⟨rfl, HB3⟩
 dsimp only
 refine hK.out _ _ (HSF.out _ HB3.out) (fun hHeld => ?_)
 clear hK K
 try simp only [Act.put, zA, zB, zC, zD, zE, zF]
 refine zT (i := 7) (v := ?_) rfl ?_ (fun _ _ _ h => h) ?_
 rotate_left
 ·(rintro w ⟨q0, q1, q2, q3, q4, q5, q6, q7⟩; go_simp; try with_reducible rfl)
 try simp only [Act.put, zA, zB, zC, zD, zE, zF]
 refine wpAnyH_done (by kernel_rfl) ?_ _
 clear hHeld
 go_wp2
 go_ret
 exact ⟨rfl, HB3⟩
theorem half4_2 (w : World) (k : Int) (n b off m cap : Nat) (cs : List Cl) (hft : ∀ c ∈ cs, c.fit) (bk bc bp bl bf br : Nat) (h : Bx w k n b off m cap cs bk bc bp) (hl : Ly w (fV 88) (fV 89) (fV 90) (fV 91) (fV 94) bk bc bl bf br) (i : Nat) (hi : i ≤ m) :
  Calls Tryz.prog 69 #[.int .i64 (i : Int), .pointer (some ⟨bl, 0, none⟩), .pointer (some ⟨bk, 0, none⟩), .pointer (some ⟨bf, 0, none⟩), .pointer (some ⟨bp, 0, none⟩)] w fun e w' => e = .returned (.bool (!fitB 2 k n (cs.take i))) ∧ Hid (Below w.heap.size w w') := by
 have HBX := zaa h
 have HLY := zaa hl
 have HR : Hid (∀ u, Below w.heap.size w u → Calls Tryz.prog 64 #[.int .i64 (i : Int), .pointer (some ⟨bc, 0, none⟩)] u fun e w' => e = .returned (.slice (some ⟨b, off, none⟩) i cap) ∧ w' = u) := zaa fun u hu => half1_any u k n b off m cap cs bk bc bp (HBX.out.go hu) i hi
 have HF : Hid (∀ u, Below w.heap.size w u → Calls Tryz.prog 61 #[.agg ly2, .int .i64 k, .slice (some ⟨b, off, none⟩) i cap, .int .i64 (n : Int)] u fun e w' => e = .returned (.bool (fitB 2 k n (cs.take i))) ∧ Hid (Below w.heap.size w w')) := zaa fun u hu =>
  (fits_2 u k n _ _ _ _ ((h.sl.take9 hi).on hu) (zN (zbm 2 k cs i) (zbq hft (by rw [h.sl.hlen]; exact h.lm))) (h.go hu).tb (h.go hu).h0).mono fun e w' h => ⟨h.1, zaa (zab hu Lr h.2.out)⟩
 have hmb : (i : Int) ≤ 65536 := by have := h.lm; omega
 have HSF : Hid (∀ u, Below w.heap.size w u → S8h bl bk bf bp (fV 88) (fV 89) (fV 90) (fV 91) (fV 94) (.int .i64 k) (.func (.func 64) #[] #[.pointer (some ⟨bc, 0, none⟩)]) (.int .i64 (n : Int)) u) := zaa fun u hu => ⟨(HLY.out.go hu).c0, (HLY.out.go hu).c1, (HLY.out.go hu).c2, (HLY.out.go hu).c3, (HLY.out.go hu).c4, (HBX.out.go hu).ck, (HLY.out.go hu).cf, (HBX.out.go hu).cp⟩
 generalize fitB 2 k n (cs.take i) = B at *
 clear h hl hi hft
 go_enter Tryz.func69, Tryz.ntmps69
 go_upto_region 1 with fail
 refine wp_region_held_drew (S := S8h bl bk bf bp (fV 88) (fV 89) (fV 90) (fV 91) (fV 94) (.int .i64 k) (.func (.func 64) #[] #[.pointer (some ⟨bc, 0, none⟩)]) (.int .i64 (n : Int))) (by kernel_rfl) (HSF.out _ Br.drew) (fun hHeld => ?_)
 refine zT (i := 0) (v := ?_) rfl ?_ (fun _ _ _ h => h) ?_
 rotate_left
 ·(rintro w ⟨q0, q1, q2, q3, q4, q5, q6, q7⟩; go_simp; try with_reducible rfl)
 try simp only [Act.put, zA, zC, zD, zE, zF]
 refine zT (i := 1) (v := ?_) rfl ?_ (fun _ _ _ h => h) ?_
 rotate_left
 ·(rintro w ⟨q0, q1, q2, q3, q4, q5, q6, q7⟩; go_simp; try with_reducible rfl)
 try simp only [Act.put, zA, zB, zC, zD, zE, zF]
 refine zT (i := 2) (v := ?_) rfl ?_ (fun _ _ _ h => h) ?_
 rotate_left
 ·(rintro w ⟨q0, q1, q2, q3, q4, q5, q6, q7⟩; go_simp; try with_reducible rfl)
 try simp only [Act.put, zA, zB, zC, zD, zE, zF]
 refine zT (i := 3) (v := ?_) rfl ?_ (fun _ _ _ h => h) ?_
 rotate_left
 ·(rintro w ⟨q0, q1, q2, q3, q4, q5, q6, q7⟩; go_simp; try with_reducible rfl)
 try simp only [Act.put, zA, zB, zC, zD, zE, zF]
 refine zT (i := 5) (v := ?_) rfl ?_ (fun _ _ _ h => h) ?_
 rotate_left
 ·(rintro w ⟨q0, q1, q2, q3, q4, q5, q6, q7⟩; go_simp; try with_reducible rfl)
 try simp only [Act.put, zA, zB, zC, zD, zE, zF]
 refine zY (i := 4) rfl fun K hK => ?_
 go_simp
 go_at_call 64
 refine (HR.out _ Br.drew).mono ?_
 rintro e w2 ⟨rfl, hw2⟩
 subst hw2
 dsimp only
 refine hK.out _ _ (HSF.out _ Br.drew) (fun hHeld => ?_)
 clear hK K
 try simp only [Act.put, zA, zB, zC, zD, zE, zF]
 refine zY (i := 6) rfl fun K hK => ?_
 go_simp
 go_at_call 61
 refine (HF.out _ Br.drew).mono ?_
 rintro e w3 ⟨rfl, HB3⟩
 dsimp only
 refine hK.out _ _ (HSF.out _ HB3.out) (fun hHeld => ?_)
 clear hK K
 try simp only [Act.put, zA, zB, zC, zD, zE, zF]
 refine zT (i := 7) (v := ?_) rfl ?_ (fun _ _ _ h => h) ?_
 rotate_left
 ·(rintro w ⟨q0, q1, q2, q3, q4, q5, q6, q7⟩; go_simp; try with_reducible rfl)
 try simp only [Act.put, zA, zB, zC, zD, zE, zF]
 refine zT (i := 8) (v := ?_) rfl ?_ (fun _ _ _ h => h) ?_
 rotate_left
 ·(rintro w ⟨q0, q1, q2, q3, q4, q5, q6, q7⟩; go_simp; try with_reducible rfl)
 try simp only [Act.put, zA, zB, zC, zD, zE, zF]
 refine wpAnyH_done (by kernel_rfl) ?_ _
 clear hHeld
 go_wp2
 go_ret
 exact ⟨rfl, HB3⟩
/-! What both sides take at most, by engine 2. -/
theorem half5_2 (w : World) (k : Int) (n b off m cap : Nat) (cs : List Cl) (hft : ∀ c ∈ cs, c.fit) (bk bc bp bl bf br : Nat) (h : Bx w k n b off m cap cs bk bc bp) (hl : Ly w (fV 88) (fV 89) (fV 90) (fV 91) (fV 94) bk bc bl bf br) (i : Nat) (hi : i < m) :
  Calls Tryz.prog 70 #[.int .i64 (i : Int), .pointer (some ⟨bl, 0, none⟩), .pointer (some ⟨bk, 0, none⟩), .pointer (some ⟨bf, 0, none⟩), .pointer (some ⟨br, 0, none⟩)] w fun e w' => e = .returned (.int .i64 ((max (szE 2 k (cs.take i)) (szE 2 k (rtL k cs i)) : Nat) : Int)) ∧ Hid (Below w.heap.size w w') := by
 have HBX := zaa h
 have HLY := zaa hl
 have hbig := zbq (e := 2) (k := k) hft (by rw [h.sl.hlen]; exact h.lm)
 have HL : Hid (∀ u, Below w.heap.size w u → Calls Tryz.prog 64 #[.int .i64 (i : Int), .pointer (some ⟨bc, 0, none⟩)] u fun e w' => e = .returned (.slice (some ⟨b, off, none⟩) i cap) ∧ w' = u) := zaa fun u hu => half1_any u k n b off m cap cs bk bc bp (HBX.out.go hu) i (Nat.le_of_lt hi)
 have HKP : Hid (∀ u, Below w.heap.size w u → u.cell? ⟨bl, 0, none⟩ = some (fV 88) ∧ u.cell? ⟨bk, 0, none⟩ = some (.int .i64 k) ∧ u.cell? ⟨bf, 0, none⟩ = some (.func (.func 64) #[] #[.pointer (some ⟨bc, 0, none⟩)]) ∧ u.cell? ⟨br, 0, none⟩ = some (.func (.func 65) #[] #[.pointer (some ⟨bk, 0, none⟩), .pointer (some ⟨bc, 0, none⟩)])) := zaa fun u hu => ⟨(HLY.out.go hu).c0, (HBX.out.go hu).ck, (HLY.out.go hu).cf, (HLY.out.go hu).cr⟩
 obtain ⟨A, hA⟩ : ∃ A, szE 2 k (cs.take i) = A := ⟨_, rfl⟩
 obtain ⟨B, hB⟩ : ∃ B, szE 2 k (rtL k cs i) = B := ⟨_, rfl⟩
 have hAb : A ≤ 1099511627776 := by rw [← hA]; exact zN (zbm 2 k cs i) hbig
 have hBb : B ≤ 1099511627776 := by rw [← hB]; exact zN (zbn 2 k cs i) hbig
 have HR : Hid (∀ u, Below w.heap.size w u → Calls Tryz.prog 65 #[.int .i64 (i : Int), .pointer (some ⟨bk, 0, none⟩), .pointer (some ⟨bc, 0, none⟩)] u fun e w' => ∃ g o c, e = .returned (.slice (some ⟨g, o, none⟩) (m - i) c) ∧ (w'.cell? ⟨bl, 0, none⟩ = some (fV 88) ∧ w'.cell? ⟨bk, 0, none⟩ = some (.int .i64 k) ∧ w'.cell? ⟨bf, 0, none⟩ = some (.func (.func 64) #[] #[.pointer (some ⟨bc, 0, none⟩)]) ∧ w'.cell? ⟨br, 0, none⟩ = some (.func (.func 65) #[] #[.pointer (some ⟨bk, 0, none⟩), .pointer (some ⟨bc, 0, none⟩)])) ∧ Hid (SlC w' (some ⟨g, o, none⟩) (m - i) c (rtL k cs i)) ∧ Hid (Below w.heap.size w w')) := zaa fun u hu => by
  refine (half2_any u k n b off m cap cs bk bc bp (HBX.out.go hu) i hi).mono ?_
  rintro e w' ⟨g, o, c, rfl, HS, HB⟩
  have hb := zab hu Lr HB.out
  exact ⟨g, o, c, rfl, HKP.out _ hb, HS, zaa hb⟩
 have HSL : Hid (∀ u, Below w.heap.size w u → Calls Tryz.prog 88 #[.int .i64 k, .slice (some ⟨b, off, none⟩) i cap] u fun e w' => e = .returned (.int .i64 (A : Int)) ∧ (w'.cell? ⟨bl, 0, none⟩ = some (fV 88) ∧ w'.cell? ⟨bk, 0, none⟩ = some (.int .i64 k) ∧ w'.cell? ⟨bf, 0, none⟩ = some (.func (.func 64) #[] #[.pointer (some ⟨bc, 0, none⟩)]) ∧ w'.cell? ⟨br, 0, none⟩ = some (.func (.func 65) #[] #[.pointer (some ⟨bk, 0, none⟩), .pointer (some ⟨bc, 0, none⟩)])) ∧ Hid (Below w.heap.size w w')) := zaa fun u hu => by
  have hz : szE 2 k (cs.take i) ≤ 1099511627776 := by rw [hA]; exact hAb
  refine (psize_any k _ _ _ _ u ((h.sl.take9 (Nat.le_of_lt hi)).on hu) (by unfold szE at hz; simpa using hz)).mono ?_
  rintro e w' ⟨rfl, HB⟩
  have hb := zab hu Lr (HB.out)
  exact ⟨by rw [← hA]; unfold szE; simp, HKP.out _ hb, zaa hb⟩
 have HSR : Hid (∀ u g o c, SlC u (some ⟨g, o, none⟩) (m - i) c (rtL k cs i) → Below w.heap.size w u → Calls Tryz.prog 88 #[.int .i64 k, .slice (some ⟨g, o, none⟩) (m - i) c] u fun e w' => e = .returned (.int .i64 (B : Int)) ∧ (w'.cell? ⟨bl, 0, none⟩ = some (fV 88) ∧ w'.cell? ⟨bk, 0, none⟩ = some (.int .i64 k) ∧ w'.cell? ⟨bf, 0, none⟩ = some (.func (.func 64) #[] #[.pointer (some ⟨bc, 0, none⟩)]) ∧ w'.cell? ⟨br, 0, none⟩ = some (.func (.func 65) #[] #[.pointer (some ⟨bk, 0, none⟩), .pointer (some ⟨bc, 0, none⟩)])) ∧ Hid (Below w.heap.size w w')) := zaa fun u g o c hs hu => by
  have hz : szE 2 k (rtL k cs i) ≤ 1099511627776 := by rw [hB]; exact hBb
  refine (psize_any k _ _ _ _ u hs (by unfold szE at hz; simpa using hz)).mono ?_
  rintro e w' ⟨rfl, HB⟩
  have hb := zab hu Lr (HB.out)
  exact ⟨by rw [← hB]; unfold szE; simp, HKP.out _ hb, zaa hb⟩
 have hmb : (i : Int) ≤ 65536 := by have := h.lm; omega
 have hAI : (A : Int) ≤ 1099511627776 := by omega
 have hBI : (B : Int) ≤ 1099511627776 := by omega
 rw [hA, hB]
 have hmx : ((max A B : Nat) : Int) = max (A : Int) (B : Int) := by omega
 rw [hmx]
 clear hmx
 have HSF : Hid (∀ u, Below w.heap.size w u → S4h bl bk bf br (fV 88) (.int .i64 k) (.func (.func 64) #[] #[.pointer (some ⟨bc, 0, none⟩)]) (.func (.func 65) #[] #[.pointer (some ⟨bk, 0, none⟩), .pointer (some ⟨bc, 0, none⟩)]) u) := HKP
 obtain ⟨M, hM⟩ : ∃ M, m - i = M := ⟨_, rfl⟩
 rw [hM] at HR HSR
 clear h hl hi hM hft hA hB hbig HKP
 go_enter Tryz.func70, Tryz.ntmps70
 go_upto_region 1 with fail
 refine wp_region_held_drew (S := S4h bl bk bf br (fV 88) (.int .i64 k) (.func (.func 64) #[] #[.pointer (some ⟨bc, 0, none⟩)]) (.func (.func 65) #[] #[.pointer (some ⟨bk, 0, none⟩), .pointer (some ⟨bc, 0, none⟩)])) (by kernel_rfl) (HSF.out _ Br.drew) (fun hHeld => ?_)
 refine zT (i := 0) (v := ?_) rfl ?_ (fun _ _ _ h => h) ?_
 rotate_left
 ·(rintro w ⟨q0, q1, q2, q3⟩; go_simp; try with_reducible rfl)
 try simp only [Act.put, zA, zC, zD, zE, zF]
 refine zT (i := 1) (v := ?_) rfl ?_ (fun _ _ _ h => h) ?_
 rotate_left
 ·(rintro w ⟨q0, q1, q2, q3⟩; go_simp; try with_reducible rfl)
 try simp only [Act.put, zA, zB, zC, zD, zE, zF]
 refine zT (i := 2) (v := ?_) rfl ?_ (fun _ _ _ h => h) ?_
 rotate_left
 ·(rintro w ⟨q0, q1, q2, q3⟩; go_simp; try with_reducible rfl)
 try simp only [Act.put, zA, zB, zC, zD, zE, zF]
 refine zT (i := 3) (v := ?_) rfl ?_ (fun _ _ _ h => h) ?_
 rotate_left
 ·(rintro w ⟨q0, q1, q2, q3⟩; go_simp; try with_reducible rfl)
 try simp only [Act.put, zA, zB, zC, zD, zE, zF]
 refine zT (i := 4) (v := ?_) rfl ?_ (fun _ _ _ h => h) ?_
 rotate_left
 ·(rintro w ⟨q0, q1, q2, q3⟩; go_simp; try with_reducible rfl)
 try simp only [Act.put, zA, zB, zC, zD, zE, zF]
 refine zT (i := 7) (v := ?_) rfl ?_ (fun _ _ _ h => h) ?_
 rotate_left
 ·(rintro w ⟨q0, q1, q2, q3⟩; go_simp; try with_reducible rfl)
 try simp only [Act.put, zA, zB, zC, zD, zE, zF]
 refine zT (i := 8) (v := ?_) rfl ?_ (fun _ _ _ h => h) ?_
 rotate_left
 ·(rintro w ⟨q0, q1, q2, q3⟩; go_simp; try with_reducible rfl)
 try simp only [Act.put, zA, zB, zC, zD, zE, zF]
 refine zT (i := 9) (v := ?_) rfl ?_ (fun _ _ _ h => h) ?_
 rotate_left
 ·(rintro w ⟨q0, q1, q2, q3⟩; go_simp; try with_reducible rfl)
 try simp only [Act.put, zA, zB, zC, zD, zE, zF]
 refine zT (i := 10) (v := ?_) rfl ?_ (fun _ _ _ h => h) ?_
 rotate_left
 ·(rintro w ⟨q0, q1, q2, q3⟩; go_simp; try with_reducible rfl)
 try simp only [Act.put, zA, zB, zC, zD, zE, zF]
 refine zT (i := 11) (v := ?_) rfl ?_ (fun _ _ _ h => h) ?_
 rotate_left
 ·(rintro w ⟨q0, q1, q2, q3⟩; go_simp; try with_reducible rfl)
 try simp only [Act.put, zA, zB, zC, zD, zE, zF]
 refine zY (i := 5) rfl fun K hK => ?_
 go_simp
 go_at_call 64
 refine (HL.out _ Br.drew).mono ?_
 rintro e w1 ⟨rfl, hw1⟩
 subst hw1
 dsimp only
 refine hK.out _ _ (HSF.out _ Br.drew) (fun hHeld => ?_)
 clear hK K
 try simp only [Act.put, zA, zB, zC, zD, zE, zF]
 refine zY (i := 6) rfl fun K hK => ?_
 go_simp
 go_at_call 88
 refine (HSL.out _ Br.drew).mono ?_
 rintro e w1 ⟨rfl, _, HB1⟩
 dsimp only
 refine hK.out _ _ (HSF.out _ HB1.out) (fun hHeld => ?_)
 clear hK K
 try simp only [Act.put, zA, zB, zC, zD, zE, zF]
 refine zY (i := 12) rfl fun K hK => ?_
 go_simp
 go_at_call 65
 refine (HR.out _ HB1.out).mono ?_
 rintro e w2 ⟨g, o, c, rfl, _, HS2, HB2⟩
 dsimp only
 refine hK.out _ _ (HSF.out _ HB2.out) (fun hHeld => ?_)
 clear hK K
 try simp only [Act.put, zA, zB, zC, zD, zE, zF]
 refine zY (i := 13) rfl fun K hK => ?_
 go_simp
 go_at_call 88
 refine (HSR.out _ _ _ _ HS2.out HB2.out).mono ?_
 rintro e w3 ⟨rfl, _, HB3⟩
 dsimp only
 refine hK.out _ _ (HSF.out _ HB3.out) (fun hHeld => ?_)
 clear hK K
 try simp only [Act.put, zA, zB, zC, zD, zE, zF]
 refine zY (i := 14) rfl fun K hK => ?_
 go_simp
 refine hK.out _ _ (HSF.out _ HB3.out) (fun hHeld => ?_)
 clear hK K
 try simp only [Act.put, zA, zB, zC, zD, zE, zF]
 refine zT (i := 15) (v := ?_) rfl ?_ (fun _ _ _ h => h) ?_
 rotate_left
 ·(rintro w ⟨q0, q1, q2, q3⟩; go_simp; try with_reducible rfl)
 try simp only [Act.put, zA, zB, zC, zD, zE, zF]
 refine wpAnyH_done (by kernel_rfl) ?_ _
 clear hHeld
 go_wp2
 go_ret
 exact ⟨rfl, HB3⟩
theorem half9_2 (w : World) (k : Int) (n b off m cap : Nat) (cs : List Cl) (hs : SlC w (some ⟨b, off, none⟩) m cap cs) (hkd : isKd k) (hn : pw n) (hg : Gd k n cs) (hm : m ≤ 65536) (hK : ∃ K, 2 ≤ K ∧ K + 2 ≤ m ∧ szE 2 k (cs.take K) ≤ n ∧ szE 2 k (rtL k cs K) ≤ n) (ht : Tab w) (h0 : 1 < w.heap.size) :
  Calls Tryz.prog 25 #[.int .i64 2, .int .i64 k, .slice (some ⟨b, off, none⟩) m cap, .int .i64 (n : Int)] w fun e w' => ∃ r : Nat, e = .returned (.tuple #[.int .i64 (r : Int), .int .i64 0]) ∧ Hid ((2 ≤ r ∧ r + 2 ≤ m) ∧ fitB 2 k n (cs.take r) = true ∧ fitB 2 k n (rtL k cs r) = true) ∧ Hid (Below w.heap.size w w') := by
 have HL := zaa (fun u => layout_2 u)
 have d1 : decide (isKd k) = true := decide_eq_true hkd
 have d2 : decide (pw (n : Int)) = true := decide_eq_true hn
 have HX := zaa (And.intro hs (And.intro hkd (And.intro hn (And.intro hg (And.intro hK (And.intro ht h0))))))
 have HM := zaa hm
 have HM4 : Hid (4 ≤ m) := zaa (by obtain ⟨K, k1, k2, _⟩ := hK; omega)
 have hmI : (m : Int) ≤ 65536 := by omega
 obtain ⟨s, hsz⟩ : ∃ s, w.heap.size = s := ⟨_, rfl⟩
 obtain ⟨x, hx⟩ : ∃ x, ((w.alloc (.cells #[.int .i64 k] 3)).alloc (.cells #[.slice (some ⟨b, off, none⟩) m cap] 32)).alloc (.cells #[.int .i64 (n : Int)] 3) = x := ⟨_, rfl⟩
 have hbx : Below w.heap.size w x := by rw [← hx]; exact zac (zac (zac Br Lr _) Lr _) Lr _
 have hX : (x.cell? ⟨s, 0, none⟩ = some (.int .i64 k) ∧ x.cell? ⟨s + 1, 0, none⟩ = some (.slice (some ⟨b, off, none⟩) m cap) ∧ x.cell? ⟨s + 1 + 1, 0, none⟩ = some (.int .i64 (n : Int))) ∧ x.heap.size = s + 3 := by
  rw [← hx, ← hsz]
  have e1 : (w.alloc (.cells #[.int .i64 k] 3)).heap.size = w.heap.size + 1 := by simp
  have e2 : ((w.alloc (.cells #[.int .i64 k] 3)).alloc (.cells #[.slice (some ⟨b, off, none⟩) m cap] 32)).heap.size = w.heap.size + 1 + 1 := by simp
  refine ⟨⟨zcp _ (zcp _ (zbs _ _ _) (by omega)) (by omega), ?_, ?_⟩, by simp⟩
  ·rw [← e1]
   exact zcp _ (zbs _ _ _) (by omega)
  ·rw [← e2]
   exact zbs _ _ _
 have HBX := zaa hbx
 have HXX := zaa hX
 obtain ⟨⟨x0, x1, x2⟩, _⟩ := hX
 clear hs hkd hn hg hK ht h0 hbx hm
 go_enter Tryz.func25, Tryz.ntmps25
 go_wp2_with (first
  | (go_at_call 38; refine (HL.out _).mono ?_; rintro e w1 ⟨rfl, HB1⟩; refine Hid.out ?_))
 apply zaa
 obtain ⟨s1, hs1⟩ : ∃ s1, w1.heap.size = s1 := ⟨_, rfl⟩
 have hb1 := HB1.out
 have hxs := HXX.out.2
 have y0 : w1.cell? ⟨s, 0, none⟩ = some (.int .i64 k) := (hb1.cell (p := ⟨s, 0, none⟩) (by show s < _; omega)).trans HXX.out.1.1
 have y1 : w1.cell? ⟨s + 1, 0, none⟩ = some (.slice (some ⟨b, off, none⟩) m cap) := (hb1.cell (p := ⟨s + 1, 0, none⟩) (by show s + 1 < _; omega)).trans HXX.out.1.2.1
 have y2 : w1.cell? ⟨s + 1 + 1, 0, none⟩ = some (.int .i64 (n : Int)) := (hb1.cell (p := ⟨s + 1 + 1, 0, none⟩) (by show s + 1 + 1 < _; omega)).trans HXX.out.1.2.2
 have hlt : s + 3 ≤ w1.heap.size := by have := hb1.size; omega
 obtain ⟨Z1, hZ1⟩ : ∃ Z1, w1.alloc (.cells #[fV 88, fV 89, fV 90, fV 91, fV 94] 81) = Z1 := ⟨_, rfl⟩
 have hbz1 : Below w1.heap.size w1 Z1 := by rw [← hZ1]; exact zac Br Lr _
 have hrow : Z1.heap[s1]? = some (.cells #[fV 88, fV 89, fV 90, fV 91, fV 94] 81 (0, 0)) := by rw [← hZ1, ← hs1]; exact heap_alloc_last w1 _
 have hsz1 : Z1.heap.size = s1 + 1 := by rw [← hZ1, ← hs1]; simp
 have z0 : Z1.cell? ⟨s, 0, none⟩ = some (.int .i64 k) := (hbz1.cell (p := ⟨s, 0, none⟩) (by show s < _; omega)).trans y0
 have z1 : Z1.cell? ⟨s + 1, 0, none⟩ = some (.slice (some ⟨b, off, none⟩) m cap) := (hbz1.cell (p := ⟨s + 1, 0, none⟩) (by show s + 1 < _; omega)).trans y1
 have z2 : Z1.cell? ⟨s + 1 + 1, 0, none⟩ = some (.int .i64 (n : Int)) := (hbz1.cell (p := ⟨s + 1 + 1, 0, none⟩) (by show s + 1 + 1 < _; omega)).trans y2
 have hl1 : s + 3 ≤ Z1.heap.size := by have := hbz1.size; omega
 obtain ⟨Z2, hZ2⟩ : ∃ Z2, Z1.alloc (.cells #[.func (.func 64) #[] #[.pointer (some ⟨s + 1, 0, none⟩)]] 104) = Z2 := ⟨_, rfl⟩
 obtain ⟨Z3, hZ3⟩ : ∃ Z3, Z2.alloc (.cells #[.func (.func 65) #[] #[.pointer (some ⟨s, 0, none⟩), .pointer (some ⟨s + 1, 0, none⟩)]] 104) = Z3 := ⟨_, rfl⟩
 have hl2 : Z2.heap.size = Z1.heap.size + 1 := by rw [← hZ2]; simp
 have hl3 : Z3.heap.size = Z2.heap.size + 1 := by rw [← hZ3]; simp
 have hb23 : Below Z1.heap.size Z1 Z3 := by rw [← hZ3, ← hZ2]; exact zac (zac Br Lr _) Lr _
 have v1 : Z3.cell? ⟨s + 1, 0, none⟩ = some (.slice (some ⟨b, off, none⟩) m cap) := (hb23.cell (p := ⟨s + 1, 0, none⟩) (by show s + 1 < _; omega)).trans z1
 have HBW : Hid (Below w.heap.size w Z3) := zaa (zab (zab (zab HBX.out Lr hb1) Lr hbz1) Lr hb23)
 have HBX3 : Hid (Bx Z3 k n b off m cap cs s (s + 1) (s + 1 + 1)) := zaa ⟨(hb23.cell (p := ⟨s, 0, none⟩) (by show s < _; omega)).trans z0, v1, (hb23.cell (p := ⟨s + 1 + 1, 0, none⟩) (by show s + 1 + 1 < _; omega)).trans z2, by omega, by omega, by omega, HX.out.1.on HBW.out, HM.out, HX.out.2.2.2.2.2.1.on HBW.out HX.out.2.2.2.2.2.2, zO HX.out.2.2.2.2.2.2 HBW.out.size⟩
 have hrw : ∀ j, Z3.cell? ⟨s1, j, none⟩ = Z1.cell? ⟨s1, j, none⟩ := fun j => hb23.cell (p := ⟨s1, j, none⟩) (by show s1 < _; omega)
 have HLY3 : Hid (Ly Z3 (fV 88) (fV 89) (fV 90) (fV 91) (fV 94) s (s + 1) s1 Z1.heap.size Z2.heap.size) := zaa ⟨by rw [hrw, cell_of_row _ _ _ _ _ _ hrow]; rfl, by rw [hrw, cell_of_row _ _ _ _ _ _ hrow]; rfl, by rw [hrw, cell_of_row _ _ _ _ _ _ hrow]; rfl, by rw [hrw, cell_of_row _ _ _ _ _ _ hrow]; rfl, by rw [hrw, cell_of_row _ _ _ _ _ _ hrow]; rfl, by rw [← hZ3]; refine zcp _ ?_ (by omega); rw [← hZ2]; exact zbs _ _ _, by rw [← hZ3]; exact zbs _ _ _, by omega, by omega, by omega⟩
 have HFT : Hid (∀ c ∈ cs, c.fit) := zaa fun c hc => (HX.out.2.2.2.1.may c hc).fit (by have := zak HX.out.2.2.1; omega)
 have hm1 : ((m - 1 : Nat) : Int) = (m : Int) - 2 + 1 := by have := HM4.out; omega
 have HQ1 : Hid (Calls Tryz.prog 67 #[.int .i64 2, .int .i64 ((m : Int) - 2 + 1), .func (.func 68) #[] #[.pointer (some ⟨s1, 0, none⟩), .pointer (some ⟨s, 0, none⟩), .pointer (some ⟨Z2.heap.size, 0, none⟩), .pointer (some ⟨s + 1 + 1, 0, none⟩)]] Z3 (zbr (fun i => fitB 2 k n (rtL k cs i)) 2 (m - 1) Z3)) := zaa (by
  have := least_3 Z3 2 (m - 1) s1 s Z2.heap.size (s + 1 + 1) (fun i => fitB 2 k n (rtL k cs i)) (by have := HM4.out; omega) (by have := HM.out; omega) (fun u i hu h1 h2 => half3_2 u k n b off m cap cs HFT.out s (s + 1) (s + 1 + 1) s1 Z1.heap.size Z2.heap.size (HBX3.out.go hu) (HLY3.out.go hu) i (by omega))
  rw [hm1] at this
  exact this)
 have HSZ := zaa (And.intro hl1 (And.intro hl2 hl3))
 clear x0 x1 x2 hxs hlt hb1 hbz1 hx y0 y1 y2 hl1 hl2 hl3 hb23 hrw hrow hsz1
 go_wp2_with (first
  | (go_at_call 63; refine zae (zbj _ _) ?_; rw [d1])
  | (go_at_call 62; refine zae (zbg _ _) ?_; rw [d2])
  | (go_at_call 67; refine HQ1.out.mono ?_; rintro e w2 ⟨first, rfl, HB2, HP1⟩; refine Hid.out ?_))
 apply zaa
 clear HQ1 z0 z1 z2 v1 hZ1 hZ2 hZ3 d1 d2
 have hfirst : 2 ≤ first ∧ first ≤ m - 1 := HP1.out.1
 have hfI : (first : Int) ≤ 65536 := by have := HM.out; omega
 have HQ2 : Hid (Calls Tryz.prog 67 #[.int .i64 (first : Int), .int .i64 ((m : Int) - 2 + 1), .func (.func 69) #[] #[.pointer (some ⟨s1, 0, none⟩), .pointer (some ⟨s, 0, none⟩), .pointer (some ⟨Z1.heap.size, 0, none⟩), .pointer (some ⟨s + 1 + 1, 0, none⟩)]] w2 (zbr (fun i => !fitB 2 k n (cs.take i)) first (m - 1) w2)) := zaa (by
  have := least_4 w2 first (m - 1) s1 s Z1.heap.size (s + 1 + 1) (fun i => !fitB 2 k n (cs.take i)) hfirst.2 (by have := HM.out; omega) (fun u i hu h1 h2 => half4_2 u k n b off m cap cs HFT.out s (s + 1) (s + 1 + 1) s1 Z1.heap.size Z2.heap.size (HBX3.out.go (zab HB2.out Lr hu)) (HLY3.out.go (zab HB2.out Lr hu)) i (by omega))
  rw [hm1] at this
  exact this)
 clear hfirst
 go_wp2_with (first
  | (go_at_call 67; refine HQ2.out.mono ?_; rintro e w3 ⟨fin, rfl, HB3, HP2⟩; refine Hid.out ?_))
 apply zaa
 clear HQ2
 have hcf := cut_found (e := 2) HX.out.2.1 HX.out.2.2.1 HX.out.2.2.2.1 HX.out.1.hlen HX.out.2.2.2.2.1 HP1.out HP2.out.1 HP2.out.2.1 HP2.out.2.2
 have HCF := zaa hcf.2
 have hff : first < fin := hcf.1
 have hfin : fin ≤ m - 1 := HP2.out.1.2
 obtain ⟨f1, hf1⟩ : ∃ f1, fin - 1 = f1 := ⟨_, rfl⟩
 have hge : ¬ (fin : Int) ≤ (first : Int) := by omega
 have hfin1 : (fin : Int) - 1 = (f1 : Int) := by omega
 have hfnI : (fin : Int) ≤ 65536 := by have := HM.out; omega
 have hf1I : (f1 : Int) ≤ 65536 := by omega
 have HFF : Hid (first ≤ f1 ∧ f1 + 2 ≤ m ∧ f1 = fin - 1) := zaa (by omega)
 obtain ⟨Z4, hZ4⟩ : ∃ Z4, w3.alloc (.cells #[.func (.func 70) #[] #[.pointer (some ⟨s1, 0, none⟩), .pointer (some ⟨s, 0, none⟩), .pointer (some ⟨Z1.heap.size, 0, none⟩), .pointer (some ⟨Z2.heap.size, 0, none⟩)]] 64) = Z4 := ⟨_, rfl⟩
 obtain ⟨sg, hsg⟩ : ∃ sg, w3.heap.size = sg := ⟨_, rfl⟩
 have hcg : Z4.cell? ⟨sg, 0, none⟩ = some (.func (.func 70) #[] #[.pointer (some ⟨s1, 0, none⟩), .pointer (some ⟨s, 0, none⟩), .pointer (some ⟨Z1.heap.size, 0, none⟩), .pointer (some ⟨Z2.heap.size, 0, none⟩)]) := by rw [← hZ4, ← hsg]; exact zbs _ _ _
 have HB4 : Hid (Below Z3.heap.size Z3 Z4) := zaa (zab (zab HB2.out Lr HB3.out) Lr (by rw [← hZ4]; exact zac Br Lr _))
 have hg4 : sg < Z4.heap.size := by rw [← hZ4, ← hsg]; simp
 obtain ⟨G, hG⟩ : ∃ G : Nat → Nat, G = fun i => max (szE 2 k (cs.take i)) (szE 2 k (rtL k cs i)) := ⟨_, rfl⟩
 have hbig := zbq (e := 2) (k := k) HFT.out (by rw [HX.out.1.hlen]; exact HM.out)
 have HGB : Hid (∀ t, t ≤ 65536 → G t ≤ 1099511627776) := zaa fun t _ => by
  rw [hG]
  exact Nat.max_le.2 ⟨zN (zbm 2 k cs t) hbig, zN (zbn 2 k cs t) hbig⟩
 have HQ3 : Hid (Calls Tryz.prog 67 #[.int .i64 (first : Int), .int .i64 (f1 : Int), .func (.func 71) #[] #[.pointer (some ⟨sg, 0, none⟩)]] Z4 (zbr (fun i => decide (G i ≤ G (i + 1))) first f1 Z4)) := zaa (by
  refine least_6 Z4 first f1 sg (fun i => decide (G i ≤ G (i + 1))) HFF.out.1 (by omega) (fun u i hu h1 h2 => ?_)
  refine half6_any u sg G s1 s Z1.heap.size Z2.heap.size i (i + 1) rfl (by omega) HGB.out ((hu.cell (p := ⟨sg, 0, none⟩) hg4).trans hcg) (zO hg4 hu.size) (fun v t hv ht => ?_)
  rw [hG]
  exact half5_2 v k n b off m cap cs HFT.out s (s + 1) (s + 1 + 1) s1 Z1.heap.size Z2.heap.size (HBX3.out.go (zab HB4.out Lr (zab hu Lr hv))) (HLY3.out.go (zab HB4.out Lr (zab hu Lr hv))) t (by have := HFF.out; omega))
 clear hcf hff hfin hf1 hcg hg4 hbig
 go_wp2_with (first
  | (go_at_call 67; refine HQ3.out.mono ?_; rintro e w4 ⟨r, rfl, HB5, HP3⟩; refine Hid.out ?_))
 apply zaa
 clear HQ3
 have hrI : (r : Int) ≤ 65536 := by have := HP3.out.1; have := HFF.out; have := HM.out; omega
 go_wp2
 go_ret2
 have hr := HCF.out r HP3.out.1.1 (by have := HP3.out.1.2; have := HFF.out; omega)
 exact ⟨r, rfl, zaa hr, zaa (zab (zab HBW.out Lr HB4.out) Lr HB5.out)⟩
theorem take_at2 {α : Type} {l : List α} {n j : Nat} {u : α} (h : (l.take n)[j]? = some u) : l[j]? = some u := by
 rw [List.getElem?_take] at h
 split at h
 ·exact h
 ·exact absurd h (by simp)
theorem halves9_2 (w : World) (k : Int) (n g N : Nat) (cs : List Cl) (hs : SlC w (some ⟨g, 0, none⟩) N N cs) (hN : N ≤ 65535) (kd : Int) (i : Nat) (c : Cl) (ka : Option Addr) (kc : Nat) (va : Option Addr) (vc : Nat) (qa : Option Addr) (qn qc : Nat) (hk : Sl w ka c.key.length kc c.key) (hv : Sl w va c.val.length vc c.val)
  (hkd : isKd k) (hn : pw n) (hi : i ≤ cs.length) (hg : Gd k n (cs.take i ++ [c] ++ cs.drop i)) (hf : szE 2 k cs ≤ n) (hno : n < szE 2 k (cs.take i ++ [c] ++ cs.drop i)) (ht : Tab w) (h0 : 1 < w.heap.size) :
  Calls Tryz.prog 35 #[.int .i64 2, .int .i64 k, .int .i64 (n : Int), .slice (some ⟨g, 0, none⟩) N N, opV kd (i : Int) c ka kc va vc qa qn qc] w fun e w' => e = .returned (.bool true) ∧ Hid (Below w.heap.size w w') := by
 have hlen := hs.hlen
 obtain ⟨us, hr, hc⟩ : ∃ us, Row5 w us cs ∧ ∀ j u, us[j]? = some u → w.cell? ⟨g, j, none⟩ = some u := by
  rcases hs.srk.hat with h1 | ⟨b', off', us, e, hb, h1, h2⟩
  ·have : cs = [] := List.eq_nil_of_length_eq_zero (by omega)
   subst this
   exact ⟨[], rfl, fun j u hu => by simp at hu⟩
  ·injection e with e
   injection e with e1 e2
   subst e1 e2
   exact ⟨us, h1, fun j u hu => by simpa using h2 j u hu⟩
 have hgl : N = 0 ∨ g < w.heap.size := by
  rcases hs.hat with h1 | ⟨b', off', e, hb, _⟩
  ·exact .inl h1
  ·injection e with e
   injection e with e1 e2
   subst e1
   exact .inr hb
 have HRT := zaa (hr.take i)
 have HRD := zaa (hr.drop i)
 have HUL := zaa hr.len
 obtain ⟨s, hsz⟩ : ∃ s, w.heap.size = s := ⟨_, rfl⟩
 obtain ⟨y, hy⟩ : ∃ y, w.alloc (.cells #[.int .i64 kd, .int .i64 (i : Int), .slice ka c.key.length kc, .int .i64 c.kd, .slice va c.val.length vc, .int .i64 c.pg, .int .i64 c.ct, .slice qa qn qc] 45) = y := ⟨_, rfl⟩
 have hby : Below w.heap.size w y := by rw [← hy]; exact zac Br Lr _
 have HO8 : Hid (B8 45 y s (.int .i64 kd) (.int .i64 (i : Int)) (.slice ka c.key.length kc) (.int .i64 c.kd) (.slice va c.val.length vc) (.int .i64 c.pg) (.int .i64 c.ct) (.slice qa qn qc)) := by rw [← hy, ← hsz]; exact zaa (heap_alloc_last w _)
 have HCY : Hid (∀ v, Below w.heap.size w v → ∀ j u, us[j]? = some u → v.cell? ⟨g, j, none⟩ = some u) := zaa fun v hv j u hu => by
  rcases hgl with h1 | h1
  ·exfalso
   have h2 := hr.len
   rw [hlen, h1] at h2
   have h3 := (zH.1 hu).1
   omega
  ·exact (hv.cell (p := ⟨g, j, none⟩) h1).trans (hc j u hu)
 have HRC : Hid (Row5 w [.slice ka c.key.length kc, .int .i64 c.kd, .slice va c.val.length vc, .int .i64 c.pg, .int .i64 c.ct] [c]) := zaa ⟨ka, kc, va, vc, [], rfl, hk, hv, rfl⟩
 have HX := zaa (And.intro hkd (And.intro hn (And.intro hg (And.intro hf (And.intro hno (And.intro ht h0))))))
 have HBY := zaa hby
 have HLN := zaa hlen
 have HSZ := zaa hsz
 have hiN : i ≤ N := by omega
 have hiI : (i : Int) ≤ (N : Int) := by omega
 have hi0 : ¬ (i : Int) < 0 := by omega
 have hiN' : ¬ (N : Int) < (i : Int) := by omega
 have hNI : (N : Int) ≤ 65535 := by omega
 have hib : (i : Int) ≤ 65535 := by omega
 obtain ⟨o0, o1, o2, o3, o4, o5, o6, o7⟩ := HO8.out.cells
 clear hs hk hv hkd hn hg hf hno ht h0 hr hc hgl hby hlen hi
 obtain ⟨L, hL⟩ : ∃ L, cs.take i ++ [c] ++ cs.drop i = L := ⟨_, rfl⟩
 obtain ⟨M, hM⟩ : ∃ M, N + 1 = M := ⟨_, rfl⟩
 have HLL : Hid (L.length = M) := zaa (by rw [← hL]; have := HLN.out; simp; omega)
 have HLE := zaa hL
 rw [hL] at HX
 have HMB : Hid (M ≤ 65536) := zaa (by omega)
 have HCUT : Hid (∃ K, 2 ≤ K ∧ K + 2 ≤ M ∧ szE 2 k (L.take K) ≤ n ∧ szE 2 k (rtL k L K) ≤ n) := zaa (by
  have := cut_is (e := 2) (c := c) (i := i) HX.out.2.1 (by have := HLN.out; omega) (by rw [hL]; exact HX.out.2.2.1) HX.out.2.2.2.1 (by rw [hL]; exact HX.out.2.2.2.2.1)
  rw [hL, HLN.out, hM] at this
  exact this)
 clear hL hM
 by_cases hlt : i < N
 ·have hltI : (i : Int) < (N : Int) := by omega
  have hne : ¬ N = i := by omega
  go_enter Tryz.func35, Tryz.ntmps35
  go_wp2_with (first
   | (at_builtin; go_loud (refine app_ks w _ y.heap.size rfl _ _ rfl [] (cs.take i) _ g 0 i N (us.take (i * 5)) rfl rfl (OwK.nil _ _ _) (by rw [zJ, HLN.out]; omega) HRT.out (fun j u hu => by rw [Nat.zero_add]; exact HCY.out _ HBY.out j u (take_at2 hu)) (by simp; omega) Lr ?_; intro v1 u1 HO1 HBU1; refine Hid.out ?_)))
  apply zaa
  rw [List.nil_append] at HO1
  obtain ⟨z0, z1, z2, z3, z4, z5, z6, z7⟩ := (show B8 45 u1 s _ _ _ _ _ _ _ _ from zaf HO8.out HBU1.out).cells
  obtain ⟨x, hx⟩ : ∃ x, u1.alloc (.cells #[.slice ka c.key.length kc, .int .i64 c.kd, .slice va c.val.length vc, .int .i64 c.pg, .int .i64 c.ct] 43) = x := ⟨_, rfl⟩
  have hbx : Below u1.heap.size u1 x := by rw [← hx]; exact zac Br Lr _
  have HOX := zaa (HO1.out.go hbx)
  have HBX : Hid (Below y.heap.size y x) := zaa (zab HBU1.out Lr hbx)
  have HXY := zaa (five_at hx)
  have HTL : Hid ((cs.take i).length = i) := zaa (by rw [zJ, HLN.out]; omega)
  clear hbx HO1 HBU1 o0 o1 o2 o3 o4 o5 o6 o7
  go_wp2_with (at_builtin; go_loud (refine app_k w _ y.heap.size rfl _ _ rfl (cs.take i) c v1 u1.heap.size _ rfl rfl HOX.out HRC.out HXY.out (by rw [HTL.out]; omega) HBX.out.size ?_; intro v2 u2 HO2 HBU2; refine Hid.out ?_))
  apply zaa
  have HB2 : Hid (Below y.heap.size y u2) := zaa (HBX.out.trans HBU2.out)
  clear HOX HBX HXY hx z0 z1 z2 z3 z4 z5 z6 z7 HBU2
  obtain ⟨z0, z1, z2, z3, z4, z5, z6, z7⟩ := (show B8 45 u2 s _ _ _ _ _ _ _ _ from zaf HO8.out HB2.out).cells
  go_wp2_with (at_builtin; go_loud (refine app_ks w _ y.heap.size rfl _ _ rfl (cs.take i ++ [c]) (cs.drop i) v2 g (i * 5) (N - i) (N - i) (us.drop (i * 5)) rfl (by first | rfl | (simp; done)) HO2.out (by rw [zK, HLN.out]) HRD.out (fun j u hu => by rw [List.getElem?_drop] at hu; exact HCY.out _ (zab HBY.out Lr HB2.out) _ u hu) (by simp; omega) HB2.out.size ?_; intro v3 u3 HO3 HBU3; refine Hid.out ?_))
  apply zaa
  have HB3 : Hid (Below y.heap.size y u3) := zaa (HB2.out.trans HBU3.out)
  have HBW3 : Hid (Below w.heap.size w u3) := zaa (zab HBY.out Lr HB3.out)
  clear z0 z1 z2 z3 z4 z5 z6 z7 HBU3 HO2 HB2
  rw [HLE.out] at HO3
  obtain ⟨gl, cap2, rfl, hsl⟩ : ∃ gl cap2, v3 = .slice (some ⟨gl, 0, none⟩) M cap2 ∧ SlC u3 (some ⟨gl, 0, none⟩) M cap2 L := by
   obtain ⟨ao, cap2, e, h1, h2⟩ := HO3.out.src
   obtain ⟨gl, rfl⟩ := h2 (by rw [HLL.out]; have := HCUT.out; omega)
   rw [HLL.out] at e h1
   exact ⟨gl, cap2, e, h1.slc HBW3.out (by have := HMB.out; omega)⟩
  have HSL := zaa hsl
  have hcapI : M ≤ cap2 := hsl.hcap
  have HT3 : Hid (Tab u3 ∧ 1 < u3.heap.size) := zaa ⟨HX.out.2.2.2.2.2.1.on HBW3.out HX.out.2.2.2.2.2.2, zO HX.out.2.2.2.2.2.2 HBW3.out.size⟩
  have HHF := zaa (half9_2 u3 k n gl 0 M cap2 L hsl HX.out.1 HX.out.2.1 HX.out.2.2.1 HMB.out HCUT.out HT3.out.1 HT3.out.2)
  have hMI : (M : Int) ≤ 65536 := by have := HMB.out; omega
  clear hsl HO3 hcapI
  go_wp2_with (go_at_call 25; go_loud (refine HHF.out.mono ?_; rintro e u4 ⟨r, rfl, HR, HB4⟩; refine Hid.out ?_))
  apply zaa
  clear HHF
  have hr1 : ¬ (r : Int) < 2 := by have := HR.out.1; omega
  have hr2 : ¬ (M : Int) < (r : Int) + 2 := by have := HR.out.1; omega
  have hr3 : (r : Int) ≤ 65536 := by have := HR.out.1; omega
  have hr4 : r ≤ cap2 := by have := HR.out.1; have := HSL.out.hcap; omega
  have hr5 : (r : Int) ≤ (cap2 : Int) := by omega
  have HFT : Hid (∀ d ∈ L, d.fit) := zaa fun d hd => (HX.out.2.2.1.may d hd).fit (by have := zak HX.out.2.1; omega)
  have HBIG : Hid (szE 2 k L ≤ 1099511627776) := zaa (zbq HFT.out (by rw [HLL.out]; exact HMB.out))
  have HT4 : Hid (∀ v, Below u4.heap.size u4 v → Tab v ∧ 1 < v.heap.size) := zaa fun v hv => by
   have hb := zab HB4.out Lr hv
   exact ⟨HT3.out.1.on hb HT3.out.2, zO HT3.out.2 hb.size⟩
  have HS4 := zaa (HSL.out.on HB4.out)
  have HF1 : Hid (Calls Tryz.prog 23 #[.int .i64 2, .int .i64 k, .slice (some ⟨gl, 0, none⟩) r cap2, .int .i64 (n : Int)] u4 fun e w' => e = .returned (.bool true) ∧ Hid (Below u4.heap.size u4 w')) := zaa (by
   have := nfits_2 u4 k n _ _ _ _ (HS4.out.take9 (i := r) (by have := HR.out.1; omega)) (zN (zbm 2 k L r) HBIG.out) (HT4.out u4 Br).1 (HT4.out u4 Br).2
   rw [HR.out.2.1] at this
   exact this)
  go_wp2_with (go_at_call 23; go_loud (refine HF1.out.mono ?_; rintro e u5 ⟨rfl, HB5⟩; refine Hid.out ?_))
  apply zaa
  clear HF1 hr1 hr2
  have HRG := zaa (right9_any u5 k gl 0 M cap2 r L (HS4.out.on HB5.out) HMB.out (by have := HR.out.1; omega))
  go_wp2_with (go_at_call 76; go_loud (refine HRG.out.mono ?_; rintro e u6 ⟨v6, rfl, HO6, HB6⟩; refine Hid.out ?_))
  apply zaa
  clear HRG
  obtain ⟨ao6, m6, cap6, rfl, hs6⟩ : ∃ ao6 m6 cap6, v6 = .slice ao6 m6 cap6 ∧ SlC u6 ao6 m6 cap6 (rtL k L r) := by
   obtain ⟨ao, cap6, e, h1, _⟩ := HO6.out.src
   exact ⟨ao, _, cap6, e, h1.slc HB6.out (by rw [zdg]; have := HMB.out; have := HLL.out; omega)⟩
  have HF2 : Hid (Calls Tryz.prog 23 #[.int .i64 2, .int .i64 k, .slice ao6 m6 cap6, .int .i64 (n : Int)] u6 fun e w' => e = .returned (.bool true) ∧ Hid (Below u6.heap.size u6 w')) := zaa (by
   have hb := zab HB5.out Lr HB6.out
   have := nfits_2 u6 k n _ _ _ _ hs6 (zN (zbn 2 k L r) HBIG.out) (HT4.out u6 hb).1 (HT4.out u6 hb).2
   rw [HR.out.2.2] at this
   exact this)
  clear hs6 HO6
  go_wp2_with (go_at_call 23; go_loud (refine HF2.out.mono ?_; rintro e u7 ⟨rfl, HB7⟩; refine Hid.out ?_))
  apply zaa
  clear HF2
  have HB47 : Hid (Below u4.heap.size u4 u7) := zaa (zab (zab HB5.out Lr HB6.out) Lr HB7.out)
  have HF3 : Hid (Calls Tryz.prog 23 #[.int .i64 2, .int .i64 k, .slice (some ⟨gl, 0, none⟩) M cap2, .int .i64 (n : Int)] u7 fun e w' => e = .returned (.bool false) ∧ Hid (Below u7.heap.size u7 w')) := zaa (by
   have := nfits_2 u7 k n _ _ _ _ (HS4.out.on HB47.out) HBIG.out (HT4.out u7 HB47.out).1 (HT4.out u7 HB47.out).2
   rw [zdh HX.out.1 HX.out.2.1 HX.out.2.2.1, decide_eq_false (by have := HX.out.2.2.2.2.1; omega)] at this
   exact this)
  go_wp2_with (go_at_call 23; go_loud (refine HF3.out.mono ?_; rintro e u8 ⟨rfl, HB8⟩; refine Hid.out ?_))
  apply zaa
  clear HF3
  go_wp2
  go_ret
  exact ⟨rfl, zaa (zab (zab (zab HBW3.out Lr HB4.out) Lr HB47.out) Lr HB8.out)⟩
 ·have heq : i = N := by omega
  have HRD0 : Hid (Row5 w [] (cs.drop i)) := zaa (by rw [List.drop_eq_nil_of_le (by have := HLN.out; omega)]; rfl)
  subst heq
  go_enter Tryz.func35, Tryz.ntmps35
  go_wp2_with (first
   | (at_builtin; go_loud (refine app_ks w _ y.heap.size rfl _ _ rfl [] (cs.take i) _ g 0 i i (us.take (i * 5)) rfl rfl (OwK.nil _ _ _) (by rw [zJ, HLN.out]; omega) HRT.out (fun j u hu => by rw [Nat.zero_add]; exact HCY.out _ HBY.out j u (take_at2 hu)) (by simp; omega) Lr ?_; intro v1 u1 HO1 HBU1; refine Hid.out ?_)))
  apply zaa
  rw [List.nil_append] at HO1
  obtain ⟨z0, z1, z2, z3, z4, z5, z6, z7⟩ := (show B8 45 u1 s _ _ _ _ _ _ _ _ from zaf HO8.out HBU1.out).cells
  obtain ⟨x, hx⟩ : ∃ x, u1.alloc (.cells #[.slice ka c.key.length kc, .int .i64 c.kd, .slice va c.val.length vc, .int .i64 c.pg, .int .i64 c.ct] 43) = x := ⟨_, rfl⟩
  have hbx : Below u1.heap.size u1 x := by rw [← hx]; exact zac Br Lr _
  have HOX := zaa (HO1.out.go hbx)
  have HBX : Hid (Below y.heap.size y x) := zaa (zab HBU1.out Lr hbx)
  have HXY := zaa (five_at hx)
  have HTL : Hid ((cs.take i).length = i) := zaa (by rw [zJ, HLN.out]; omega)
  clear hbx HO1 HBU1 o0 o1 o2 o3 o4 o5 o6 o7
  go_wp2_with (at_builtin; go_loud (refine app_k w _ y.heap.size rfl _ _ rfl (cs.take i) c v1 u1.heap.size _ rfl rfl HOX.out HRC.out HXY.out (by rw [HTL.out]; omega) HBX.out.size ?_; intro v2 u2 HO2 HBU2; refine Hid.out ?_))
  apply zaa
  have HB2 : Hid (Below y.heap.size y u2) := zaa (HBX.out.trans HBU2.out)
  clear HOX HBX HXY hx z0 z1 z2 z3 z4 z5 z6 z7 HBU2
  obtain ⟨z0, z1, z2, z3, z4, z5, z6, z7⟩ := (show B8 45 u2 s _ _ _ _ _ _ _ _ from zaf HO8.out HB2.out).cells
  go_wp2_with (at_builtin; go_loud (refine app_ks w _ y.heap.size rfl _ _ rfl (cs.take i ++ [c]) (cs.drop i) v2 g 0 0 0 [] rfl (by first | rfl | (simp; done)) HO2.out (by rw [zK, HLN.out]; omega) HRD0.out (fun j u hu => by simp at hu) (by simp; omega) HB2.out.size ?_; intro v3 u3 HO3 HBU3; refine Hid.out ?_))
  apply zaa
  have HB3 : Hid (Below y.heap.size y u3) := zaa (HB2.out.trans HBU3.out)
  have HBW3 : Hid (Below w.heap.size w u3) := zaa (zab HBY.out Lr HB3.out)
  clear z0 z1 z2 z3 z4 z5 z6 z7 HBU3 HO2 HB2
  rw [HLE.out] at HO3
  obtain ⟨gl, cap2, rfl, hsl⟩ : ∃ gl cap2, v3 = .slice (some ⟨gl, 0, none⟩) M cap2 ∧ SlC u3 (some ⟨gl, 0, none⟩) M cap2 L := by
   obtain ⟨ao, cap2, e, h1, h2⟩ := HO3.out.src
   obtain ⟨gl, rfl⟩ := h2 (by rw [HLL.out]; have := HCUT.out; omega)
   rw [HLL.out] at e h1
   exact ⟨gl, cap2, e, h1.slc HBW3.out (by have := HMB.out; omega)⟩
  have HSL := zaa hsl
  have hcapI : M ≤ cap2 := hsl.hcap
  have HT3 : Hid (Tab u3 ∧ 1 < u3.heap.size) := zaa ⟨HX.out.2.2.2.2.2.1.on HBW3.out HX.out.2.2.2.2.2.2, zO HX.out.2.2.2.2.2.2 HBW3.out.size⟩
  have HHF := zaa (half9_2 u3 k n gl 0 M cap2 L hsl HX.out.1 HX.out.2.1 HX.out.2.2.1 HMB.out HCUT.out HT3.out.1 HT3.out.2)
  have hMI : (M : Int) ≤ 65536 := by have := HMB.out; omega
  clear hsl HO3 hcapI
  go_wp2_with (go_at_call 25; go_loud (refine HHF.out.mono ?_; rintro e u4 ⟨r, rfl, HR, HB4⟩; refine Hid.out ?_))
  apply zaa
  clear HHF
  have hr1 : ¬ (r : Int) < 2 := by have := HR.out.1; omega
  have hr2 : ¬ (M : Int) < (r : Int) + 2 := by have := HR.out.1; omega
  have hr3 : (r : Int) ≤ 65536 := by have := HR.out.1; omega
  have hr4 : r ≤ cap2 := by have := HR.out.1; have := HSL.out.hcap; omega
  have hr5 : (r : Int) ≤ (cap2 : Int) := by omega
  have HFT : Hid (∀ d ∈ L, d.fit) := zaa fun d hd => (HX.out.2.2.1.may d hd).fit (by have := zak HX.out.2.1; omega)
  have HBIG : Hid (szE 2 k L ≤ 1099511627776) := zaa (zbq HFT.out (by rw [HLL.out]; exact HMB.out))
  have HT4 : Hid (∀ v, Below u4.heap.size u4 v → Tab v ∧ 1 < v.heap.size) := zaa fun v hv => by
   have hb := zab HB4.out Lr hv
   exact ⟨HT3.out.1.on hb HT3.out.2, zO HT3.out.2 hb.size⟩
  have HS4 := zaa (HSL.out.on HB4.out)
  have HF1 : Hid (Calls Tryz.prog 23 #[.int .i64 2, .int .i64 k, .slice (some ⟨gl, 0, none⟩) r cap2, .int .i64 (n : Int)] u4 fun e w' => e = .returned (.bool true) ∧ Hid (Below u4.heap.size u4 w')) := zaa (by
   have := nfits_2 u4 k n _ _ _ _ (HS4.out.take9 (i := r) (by have := HR.out.1; omega)) (zN (zbm 2 k L r) HBIG.out) (HT4.out u4 Br).1 (HT4.out u4 Br).2
   rw [HR.out.2.1] at this
   exact this)
  go_wp2_with (go_at_call 23; go_loud (refine HF1.out.mono ?_; rintro e u5 ⟨rfl, HB5⟩; refine Hid.out ?_))
  apply zaa
  clear HF1 hr1 hr2
  have HRG := zaa (right9_any u5 k gl 0 M cap2 r L (HS4.out.on HB5.out) HMB.out (by have := HR.out.1; omega))
  go_wp2_with (go_at_call 76; go_loud (refine HRG.out.mono ?_; rintro e u6 ⟨v6, rfl, HO6, HB6⟩; refine Hid.out ?_))
  apply zaa
  clear HRG
  obtain ⟨ao6, m6, cap6, rfl, hs6⟩ : ∃ ao6 m6 cap6, v6 = .slice ao6 m6 cap6 ∧ SlC u6 ao6 m6 cap6 (rtL k L r) := by
   obtain ⟨ao, cap6, e, h1, _⟩ := HO6.out.src
   exact ⟨ao, _, cap6, e, h1.slc HB6.out (by rw [zdg]; have := HMB.out; have := HLL.out; omega)⟩
  have HF2 : Hid (Calls Tryz.prog 23 #[.int .i64 2, .int .i64 k, .slice ao6 m6 cap6, .int .i64 (n : Int)] u6 fun e w' => e = .returned (.bool true) ∧ Hid (Below u6.heap.size u6 w')) := zaa (by
   have hb := zab HB5.out Lr HB6.out
   have := nfits_2 u6 k n _ _ _ _ hs6 (zN (zbn 2 k L r) HBIG.out) (HT4.out u6 hb).1 (HT4.out u6 hb).2
   rw [HR.out.2.2] at this
   exact this)
  clear hs6 HO6
  go_wp2_with (go_at_call 23; go_loud (refine HF2.out.mono ?_; rintro e u7 ⟨rfl, HB7⟩; refine Hid.out ?_))
  apply zaa
  clear HF2
  have HB47 : Hid (Below u4.heap.size u4 u7) := zaa (zab (zab HB5.out Lr HB6.out) Lr HB7.out)
  have HF3 : Hid (Calls Tryz.prog 23 #[.int .i64 2, .int .i64 k, .slice (some ⟨gl, 0, none⟩) M cap2, .int .i64 (n : Int)] u7 fun e w' => e = .returned (.bool false) ∧ Hid (Below u7.heap.size u7 w')) := zaa (by
   have := nfits_2 u7 k n _ _ _ _ (HS4.out.on HB47.out) HBIG.out (HT4.out u7 HB47.out).1 (HT4.out u7 HB47.out).2
   rw [zdh HX.out.1 HX.out.2.1 HX.out.2.2.1, decide_eq_false (by have := HX.out.2.2.2.2.1; omega)] at this
   exact this)
  go_wp2_with (go_at_call 23; go_loud (refine HF3.out.mono ?_; rintro e u8 ⟨rfl, HB8⟩; refine Hid.out ?_))
  apply zaa
  clear HF3
  go_wp2
  go_ret
  exact ⟨rfl, zaa (zab (zab (zab HBW3.out Lr HB4.out) Lr HB47.out) Lr HB8.out)⟩
def nB (t : ByteArray) : List Int := t.data.toList.map fun b => (b.toNat : Int)
theorem nB_length (t : ByteArray) : (nB t).length = t.size := by unfold nB; rw [List.length_map, Array.length_toList]; rfl
theorem nB_wf (t : ByteArray) : Wf (nB t) := by
 intro x hx
 simp only [nB, List.mem_map] at hx
 obtain ⟨b, _, rfl⟩ := hx
 have := b.toNat_lt
 omega
theorem nB_getD (t : ByteArray) (j : Nat) : (nB t).getD j 0 = ((t.data.toList.getD j 0).toNat : Int) := by
 simp only [nB, List.getD, List.getElem?_map]
 cases t.data.toList[j]? <;> simp
theorem conv8 (w : World) (t : ByteArray) (h : t.size ≤ 140737488355328) : ∃ c W, (convert 9 41 (.string t)).run Tryz.prog w = .ok (.slice (some ⟨w.heap.size, 0, none⟩) t.size c) W ∧ Sl W (some ⟨w.heap.size, 0, none⟩) t.size c (nB t) ∧ Below w.heap.size w W ∧ w.heap.size < W.heap.size := by
 refine ⟨_, _, Lib.run_convert_string_bytes w 9 41 5 t Tryz.underlying9 Tryz.underlying41 Tryz.underlying5, ?_, Lib.bytesWorld_below w 5 t, by rw [Lib.bytesWorld_size]; omega⟩
 refine ⟨nB_length t, grownCap_ge _ _ _ _, h, nB_wf t, (by intro h; cases h), .inr ⟨w.heap.size, 0, rfl, by rw [Lib.bytesWorld_size]; omega, fun i hi => ?_⟩⟩
 rw [Nat.zero_add, Lib.bytesWorld_cell w 5 t i hi, nB_getD]
def ValTo (k v : ByteArray) (w : World) (e : Ending) (w' : World) : Prop :=
 ∃ g1 c1 g2 c2, e = .returned (.agg #[.slice (some ⟨g1, 0, none⟩) k.size c1, .int .i64 1, .slice (some ⟨g2, 0, none⟩) v.size c2, .int .i64 0, .int .i64 0]) ∧ Hid (Sl w' (some ⟨g1, 0, none⟩) k.size c1 (nB k) ∧ Sl w' (some ⟨g2, 0, none⟩) v.size c2 (nB v) ∧ w.heap.size ≤ g1 ∧ w.heap.size ≤ g2) ∧ Hid (Below w.heap.size w w')
theorem value8_any (k v : ByteArray) (hk : k.size ≤ 140737488355328) (hv : v.size ≤ 140737488355328) (w : World) : Calls Tryz.prog 37 #[.string k, .string v] w (ValTo k v w) := by
 obtain ⟨y, hy⟩ : ∃ y, w.alloc (.cells #[.slice none 0 0, .int .i64 0, .slice none 0 0, .int .i64 0, .int .i64 0] 43) = y := ⟨_, rfl⟩
 have hby : Below w.heap.size w y := by rw [← hy]; exact zac Br Lr _
 obtain ⟨s, hs⟩ : ∃ s, w.heap.size = s := ⟨_, rfl⟩
 have h5 : C5 y s (.slice none 0 0) (.int .i64 0) (.slice none 0 0) (.int .i64 0) (.int .i64 0) := by rw [← hy, ← hs]; exact C5.box _ _ _ _ _ _
 obtain ⟨c1, W1, k1, s1, b1, l1⟩ := conv8 y k hk
 obtain ⟨c2, W2, k2, s2, b2, l2⟩ := conv8 W1 v hv
 obtain ⟨g1, hg1⟩ : ∃ g1, y.heap.size = g1 := ⟨_, rfl⟩
 obtain ⟨g2, hg2⟩ : ∃ g2, W1.heap.size = g2 := ⟨_, rfl⟩
 have hsz : y.heap.size = s + 1 := by rw [← hy, ← hs]; simp
 rw [hg1] at k1 s1
 rw [hg2] at k2 s2
 have h52 : C5 W2 s (.slice none 0 0) (.int .i64 0) (.slice none 0 0) (.int .i64 0) (.int .i64 0) := zaf (zaf h5 b1) b2
 obtain ⟨f0, f1, f2, f3, f4⟩ := h52.free
 obtain ⟨d0, d1, d2, d3, d4⟩ := h52.cells
 have H5 := zaa h52
 have HS1 := zaa (s1.on Lr b2)
 have HS2 := zaa s2
 have HB : Hid (Below w.heap.size w W2) := zaa (zab (zab hby Lr b1) Lr b2)
 have HN : Hid (s < g1 ∧ s < g2 ∧ w.heap.size = s) := zaa (by have := b1.size; omega)
 clear h5 h52 s1 s2 b1 b2 l1 l2 hby hsz hg1 hg2
 go_enter Tryz.func37, Tryz.ntmps37
 go_wp2_with fail
 refine bodyPost_ret (results_cell_row rfl _ _ s 43 #[.slice (some ⟨g1, 0, none⟩) k.size c1, .int .i64 1, .slice (some ⟨g2, 0, none⟩) v.size c2, .int .i64 0, .int .i64 0] (0, 0) _ (by rfl) (H5.out.put _ _ _ _ _) Tryz.underlying43 rfl zbh) rfl ?_
 have hcf := zbv W2 s (.slice (some ⟨g1, 0, none⟩) k.size c1) (.int .i64 1) (.slice (some ⟨g2, 0, none⟩) v.size c2) (.int .i64 0) (.int .i64 0)
 obtain ⟨n1, n2, n3⟩ := HN.out
 refine ⟨g1, c1, g2, c2, rfl, zaa ⟨HS1.out.cf hcf (.inr fun p hp => ?_), HS2.out.cf hcf (.inr fun p hp => ?_), by omega, by omega⟩, zaa (HB.out.trans (hcf.below HB.out.size (fun i hi e => by omega)))⟩
 ·injection hp with hp; subst hp; simp only; omega
 ·injection hp with hp; subst hp; simp only; omega
end Go.Proofs.YtofafbmpbkjhnaaGreatDoor
