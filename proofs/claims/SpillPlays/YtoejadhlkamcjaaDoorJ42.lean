import Derived.Test.YtoejadhlkamcjaaDoorJ37
import Derived.Deep.RegionHeld
import Derived.Deep.Cut
namespace Go.Proofs.YtoejadhlkamcjaaDoor
set_option maxRecDepth 100000
open Go.RowKit Go.Maps
set_option maxHeartbeats 8000000 in
theorem play_5 {w : World} {B x b m b2 m2 P T t : Nat} (h : Pp9 w B x b m b2 m2 P T t) (ht : t ≤ 1100000) (hT : T ≤ 65534) (hp : pw P) (htb : Tab w) (hB0 : 0 < B) (k f n fr to : Int) (vo : Option Addr) (vn vc : Nat) (v : List Int)
  (hf : -9223372036854775808 ≤ f ∧ f ≤ 9223372036854775807) (hv : Sl w vo vn vc v) (hvb : vn = 0 ∨ ∀ p, vo = some p → p.block < B) (_ : vn ≤ 200000) (hk : k = 5) :
  Calls Tryd.prog 6 #[.pointer (some ⟨x, 0, none⟩), opV k f n fr to vo vn vc] w fun e u => e = .returned (.bool true) ∧ Hid (Pp9 u B x b m b2 m2 P T (t + 1) ∧ Cf (B ≤ ·) w u) := by
 subst hk
 obtain ⟨rd, M, N, ct, K, rb, R, FL, its, lss, hs, hco, hit, l1, l2, l3, hr0, hr1⟩ := h
 have hwf := fsN_wf hit.fl (wf64 f hf.1 hf.2)
 obtain ⟨z, hz⟩ : ∃ z, w.alloc (.cells #[.int .i64 5, .int .i64 f, .int .i64 n, .int .i64 fr, .int .i64 to, .slice vo vn vc] 35) = z := ⟨_, rfl⟩
 have hbz : Below w.heap.size w z := by rw [← hz]; exact bl_al (Below.refl _ _) (Nat.le_refl _) _
 obtain ⟨s, hs0⟩ : ∃ s, w.heap.size = s := ⟨_, rfl⟩
 have g0 : z.cell? ⟨s, 0, none⟩ = some (.int .i64 5) := by rw [← hz, ← hs0]; simp
 have g1 : z.cell? ⟨s, 1, none⟩ = some (.int .i64 f) := by rw [← hz, ← hs0]; simp
 have g2 : z.cell? ⟨s, 2, none⟩ = some (.int .i64 n) := by rw [← hz, ← hs0]; simp
 have g3 : z.cell? ⟨s, 3, none⟩ = some (.int .i64 fr) := by rw [← hz, ← hs0]; simp
 have g4 : z.cell? ⟨s, 4, none⟩ = some (.int .i64 to) := by rw [← hz, ← hs0]; simp
 have g5 : z.cell? ⟨s, 5, none⟩ = some (.slice vo vn vc) := by rw [← hz, ← hs0]; simp
 have hzs : s < z.heap.size := by rw [← hz, ← hs0]; simp
 have HFI := hidden (first9 (hs.on hbz) FL hit.r0 (by omega) 5 f n fr to vo vn vc hf)
 obtain ⟨n0, hn0⟩ : ∃ n0, fsN FL f = n0 := ⟨_, rfl⟩
 rw [hn0] at HFI hwf
 have HN0 := hidden hwf
 have H := hidden hs
 have HCO := hidden hco
 have HIT := hidden hit
 have HLE := hidden (And.intro l1 (And.intro l2 (And.intro l3 (And.intro hr0 hr1))))
 have HBZ := hidden hbz
 have HSW := hidden hs0
 have HMS : Hid (∀ q, Mu x b m b2 m2 rb q → q < s ∧ B ≤ q) := hidden (fun q hq => by have := hs.lts hq; omega)
 have HKS : Hid (∀ q, K q → q < s) := hidden (fun q hq => by have := (hs.kl q hq).1; omega)
 have HG : Hid (∀ i v, z.cell? ⟨s, i, none⟩ = some v → ∀ u, Below z.heap.size z u → u.cell? ⟨s, i, none⟩ = some v) := hidden (fun i v e u hu => (hu.cell (p := ⟨s, i, none⟩) hzs).trans e)
 have HG0 := hidden (And.intro g0 (And.intro g1 (And.intro g2 (And.intro g3 (And.intro g4 g5)))))
 have HZS := hidden hzs
 have HV := hidden hv
 have HVB := hidden hvb
 have HTB := hidden htb
 have HPW := hidden hp
 have hBw : B ≤ w.heap.size := Nat.le_trans hs.hB.1 (Nat.le_of_lt (lt_some hs.row))
 have HBS := hidden hBw
 clear hs hco hit hwf hn0 hbz hzs l1 l2 l3 hv hvb htb hp hBw
 go_enter Tryd.func6, Tryd.ntmps6
 go_wp2_with (first
  | (go_at_call 19; refine HFI.out.mono ?_; rintro e v1 ⟨rfl, HV1⟩; refine Hid.out ?_))
 apply hidden
 have HB1 : Hid (Below w.heap.size w v1) := hidden (bl_go HBZ.out (Nat.le_refl _) HV1.out)
 have HS1 : Hid (Sq9 v1 B x b m b2 m2 P T rd rd M N ct ct K rb R) := hidden (H.out.on HB1.out)
 have HSV : Hid (s < v1.heap.size) := hidden (Nat.lt_of_lt_of_le HZS.out HV1.out.size)
 obtain ⟨y0, y1, y2, y3, y4, y5⟩ := HG0.out
 have j0 := HG.out 0 _ y0 v1 HV1.out
 have j1 := HG.out 1 _ y1 v1 HV1.out
 have j2 := HG.out 2 _ y2 v1 HV1.out
 have j3 := HG.out 3 _ y3 v1 HV1.out
 have j4 := HG.out 4 _ y4 v1 HV1.out
 have j5 := HG.out 5 _ y5 v1 HV1.out
 have HT1 : Hid (Tab v1) := hidden (HTB.out.on HB1.out (by have := HBS.out; omega))
 have h01 : 0 < v1.heap.size := Nat.lt_of_le_of_lt (Nat.zero_le _) HSV.out
 have HV9 : Hid (Sl v1 vo vn vc v) := hidden (HV.out.on (Nat.le_refl _) HB1.out)
 have hrd : rd < 2305843009213693952 := by have := HLE.out.2.2.2.2; omega
 have hrd0 : 0 ≤ rd := HLE.out.2.2.2.1
 have HJ : Hid (∀ (F : Nat → Prop) (u : World), Cf F v1 u → (∀ q, F q → Mu x b m b2 m2 rb q) → ∀ i v, v1.cell? ⟨s, i, none⟩ = some v → u.cell? ⟨s, i, none⟩ = some v) := hidden (fun F u hc hF i v e => (World.cell?_of_block (hc.block s HSV.out (fun q => by have := (HMS.out s (hF s q)).1; omega))).trans e)
 clear HFI HG HG0 HV1 y0 y1 y2 y3 y4 y5 g0 g1 g2 g3 g4 g5 hz HSW
 obtain ⟨c0, c1⟩ := HS1.out.cells
 obtain ⟨X, hX⟩ : ∃ X, rdR M P n0 n rd = X := ⟨_, rfl⟩
 obtain ⟨kk, hkk⟩ : ∃ kk, X.1 = kk := ⟨_, rfl⟩
 have HXE := hidden hX
 have HKK := hidden hkk
 have XR : Hid (rd ≤ X.2.2.2 ∧ X.2.2.2 ≤ rd + 65536) := hidden (by rw [← hX]; exact rdR_reads HPW.out)
 have HR : Hid (∀ u, Below v1.heap.size v1 u → Calls Tryd.prog 17 #[iB b, .int .i64 n0, .int .i64 n] u fun e w' => e = .returned (.int .i64 kk) ∧ Hid (Bn w' b m 2 (P : Int) ((T : Int) + 2) X.2.2.2 (delL M (frP X)) (ct - (frP X).length) ∧ Cf (fun k => k = b ∨ k = m) v1 w')) := hidden (fun u hu => by
  refine (free_g ((HS1.out.br).on hu) HPW.out T hT HS1.out.gM n0 n HN0.out hrd hrd0 (HT1.out.on hu h01) (Nat.lt_of_lt_of_le h01 hu.size) (by have := (HMS.out b (.inl (.inr (.inl rfl)))).2; omega)).mono ?_
  rw [HXE.out, HKK.out]
  rintro e w' ⟨rfl, hq⟩
  exact ⟨rfl, hidden ⟨hq.out.1, (Cf.of_below hu).go hq.out.2⟩⟩)
 clear hX hkk
 have HSF : Hid (∀ (F : Nat → Prop) (u : World), Cf F v1 u → (∀ q, F q → q ≠ x ∧ Mu x b m b2 m2 rb q) → Sa9 x 0 (pB b) s n u) := hidden (fun F u hc hq => by
  have hxb : x < v1.heap.size := lt_some HS1.out.row
  have hxn : ¬ F x := fun e => (hq x e).1 rfl
  have hsn : ¬ F s := fun e => by have := (HMS.out s (hq s e).2).1; omega
  have hsl : s < v1.heap.size := HSV.out
  exact ⟨(World.cell?_of_block (hc.block x hxb hxn)).trans c0, (World.cell?_of_block (hc.block s hsl hsn)).trans j2⟩)
 go_upto_region 22 with fail
 refine wp_region_held_drew (S := Sa9 x 0 (pB b) s n) (by kernel_rfl) (HSF.out (fun _ => False) _ (Cf.of_below (Below.refl _ _).drew) (fun _ e => e.elim)) (fun hHeld => ?_)
 refine wpAnyH_take (i := 0) (v := ?_) rfl (by kernel_rfl) (by kernel_rfl) (by kernel_rfl) (fun _ _ _ h => h) (Or.inl ⟨by rfl, ?_⟩) (by assumption) ?_
 rotate_left
 ·(intro w hSw; obtain ⟨q0, q1⟩ := hSw; go_simp; try (with_reducible rfl))
 try simp only [Act.put, List.getElem_toArray, List.getElem_cons_zero, List.setIfInBounds_toArray, List.set_cons_zero, List.set_cons_succ]
 refine wpAnyH_take (i := 1) (v := ?_) rfl (by kernel_rfl) (by kernel_rfl) (by kernel_rfl) (fun _ _ _ h => h) (Or.inl ⟨by rfl, ?_⟩) (by assumption) ?_
 rotate_left
 ·(intro w hSw; obtain ⟨q0, q1⟩ := hSw; go_simp; try (with_reducible rfl))
 try simp only [Act.put, List.getElem_toArray, List.getElem_cons_succ, List.getElem_cons_zero, List.setIfInBounds_toArray, List.set_cons_zero, List.set_cons_succ]
 refine wpAnyH_take (i := 2) (v := ?_) rfl (by kernel_rfl) (by kernel_rfl) (by kernel_rfl) (fun _ _ _ h => h) (Or.inl ⟨by rfl, ?_⟩) (by assumption) ?_
 rotate_left
 ·(intro w hSw; obtain ⟨q0, q1⟩ := hSw; go_simp; try (with_reducible rfl))
 try simp only [Act.put, List.getElem_toArray, List.getElem_cons_succ, List.getElem_cons_zero, List.setIfInBounds_toArray, List.set_cons_zero, List.set_cons_succ]
 refine wpAnyH_take (i := 3) (v := ?_) rfl (by kernel_rfl) (by kernel_rfl) (by kernel_rfl) (fun _ _ _ h => h) (Or.inl ⟨by rfl, ?_⟩) (by assumption) ?_
 rotate_left
 ·(intro w hSw; obtain ⟨q0, q1⟩ := hSw; go_simp; try (with_reducible rfl))
 try simp only [Act.put, List.getElem_toArray, List.getElem_cons_succ, List.getElem_cons_zero, List.setIfInBounds_toArray, List.set_cons_zero, List.set_cons_succ]
 refine wpAnyH_take (i := 4) (v := ?_) rfl (by kernel_rfl) (by kernel_rfl) (by kernel_rfl) (fun _ _ _ h => h) (Or.inl ⟨by rfl, ?_⟩) (by assumption) ?_
 rotate_left
 ·(intro w hSw; obtain ⟨q0, q1⟩ := hSw; go_simp; try (with_reducible rfl))
 try simp only [Act.put, List.getElem_toArray, List.getElem_cons_succ, List.getElem_cons_zero, List.setIfInBounds_toArray, List.set_cons_zero, List.set_cons_succ]
 refine wpAnyH_take (i := 5) (v := ?_) rfl (by kernel_rfl) (by kernel_rfl) (by kernel_rfl) (fun _ _ _ h => h) (Or.inl ⟨by rfl, ?_⟩) (by assumption) ?_
 rotate_left
 ·(intro w hSw; obtain ⟨q0, q1⟩ := hSw; go_simp; try (with_reducible rfl))
 try simp only [Act.put, List.getElem_toArray, List.getElem_cons_succ, List.getElem_cons_zero, List.setIfInBounds_toArray, List.set_cons_zero, List.set_cons_succ]
 refine wpAnyH_take (i := 6) (v := ?_) rfl (by kernel_rfl) (by kernel_rfl) (by kernel_rfl) (fun _ _ _ h => h) (Or.inl ⟨by rfl, ?_⟩) (by assumption) ?_
 rotate_left
 ·(intro w hSw; obtain ⟨q0, q1⟩ := hSw; go_simp; try (with_reducible rfl))
 try simp only [Act.put, List.getElem_toArray, List.getElem_cons_succ, List.getElem_cons_zero, List.setIfInBounds_toArray, List.set_cons_zero, List.set_cons_succ]
 refine wpAnyH_take (i := 7) (v := ?_) rfl (by kernel_rfl) (by kernel_rfl) (by kernel_rfl) (fun _ _ _ h => h) (Or.inl ⟨by rfl, ?_⟩) (by assumption) ?_
 rotate_left
 ·(intro w hSw; obtain ⟨q0, q1⟩ := hSw; go_simp; try (with_reducible rfl))
 try simp only [Act.put, List.getElem_toArray, List.getElem_cons_succ, List.getElem_cons_zero, List.setIfInBounds_toArray, List.set_cons_zero, List.set_cons_succ]
 refine wpAnyH_ready (rs := [8]) (by kernel_rfl) (by simp) ?_
 refine AllReadyH.cons rfl (fun K hK => ?_) AllReadyH.nil
 go_simp
 go_at_call 17
 refine (HR.out _ (Below.refl _ _).drew).mono ?_
 rintro e v2 ⟨rfl, HQ⟩
 dsimp only
 refine hK.out _ _ (HSF.out _ _ HQ.out.2 (fun q e => ⟨fun h => e.elim (fun e => (HS1.out.d1).1 (h.symm.trans e)) (fun e => (HS1.out.d1).2.1 (h.symm.trans e)), Mu_r q e⟩)) (fun hHeld => ?_)
 clear hK K
 try simp only [Act.put, List.getElem_toArray, List.getElem_cons_succ, List.getElem_cons_zero, List.setIfInBounds_toArray, List.set_cons_zero, List.set_cons_succ]
 refine wpAnyH_take (i := 9) (v := ?_) rfl (by kernel_rfl) (by kernel_rfl) (by kernel_rfl) (fun _ _ _ h => h) (Or.inl ⟨by rfl, ?_⟩) (by assumption) ?_
 rotate_left
 ·(intro w hSw; obtain ⟨q0, q1⟩ := hSw; go_simp; try (with_reducible rfl))
 try simp only [Act.put, List.getElem_toArray, List.getElem_cons_succ, List.getElem_cons_zero, List.setIfInBounds_toArray, List.set_cons_zero, List.set_cons_succ]
 refine wpAnyH_done (by kernel_rfl) ?_ _
 clear hHeld
 clear HR HSF
 have hs2 := HS1.out.actr HQ.out.1 HQ.out.2 (by rw [← HXE.out]; exact frP_ok HPW.out HS1.out.gM) (Zs.refl _ _).del
 have HS2 := hidden hs2
 have k2 := HJ.out _ v2 HQ.out.2 (Mu_r (m := m) (rb := rb)) 2 _ j2
 have HR2 : Hid (∀ u, Below v2.heap.size v2 u → Calls Tryd.prog 26 #[pB b2, .int .i64 n0, .int .i64 n] u fun e w' => e = .returned (.int .i64 kk) ∧ Hid (Bn w' b2 m2 2 (P : Int) ((T : Int) + 2) X.2.2.2 (delL N (frP X)) (ct - (frP X).length) ∧ Cf (fun k => k = b2 ∨ k = m2) v2 w')) := hidden (fun u hu => by
  refine (rfree_g ((HS2.out.bd).on hu) HPW.out T hT HS2.out.gN n0 n HN0.out hrd hrd0).mono ?_
  rw [← rdR_con HCO.out, HXE.out, HKK.out]
  rintro e w' ⟨rfl, hq⟩
  exact ⟨rfl, hidden ⟨hq.out.1, (Cf.of_below hu).go hq.out.2⟩⟩)
 obtain ⟨_, d1⟩ := hs2.cells
 have HSF2 : Hid (∀ (F : Nat → Prop) (u : World), Cf F v2 u → (∀ q, F q → q ≠ x ∧ Mu x b m b2 m2 rb q) → Sa9 x 1 (pB b2) s n u) := hidden (fun F u hc hq => by
  have hxb : x < v2.heap.size := lt_some HS2.out.row
  have hxn : ¬ F x := fun e => (hq x e).1 rfl
  have hsn : ¬ F s := fun e => by have := (HMS.out s (hq s e).2).1; omega
  have hsl : s < v2.heap.size := (Nat.lt_of_lt_of_le HSV.out HQ.out.2.size)
  exact ⟨(World.cell?_of_block (hc.block x hxb hxn)).trans d1, (World.cell?_of_block (hc.block s hsl hsn)).trans k2⟩)
 have hkk : (kk == kk) = true := by simp
 clear hs2 c0 c1 j0 j1 j2 j3 j4 j5
 go_upto_region 23 with fail
 refine wp_region_held_drew (S := Sa9 x 1 (pB b2) s n) (by kernel_rfl) (HSF2.out (fun _ => False) _ (Cf.of_below (Below.refl _ _).drew) (fun _ e => e.elim)) (fun hHeld => ?_)
 refine wpAnyH_take (i := 0) (v := ?_) rfl (by kernel_rfl) (by kernel_rfl) (by kernel_rfl) (fun _ _ _ h => h) (Or.inl ⟨by rfl, ?_⟩) (by assumption) ?_
 rotate_left
 ·(intro w hSw; obtain ⟨q0, q1⟩ := hSw; go_simp; try (with_reducible rfl))
 try simp only [Act.put, List.getElem_toArray, List.getElem_cons_zero, List.setIfInBounds_toArray, List.set_cons_zero, List.set_cons_succ]
 refine wpAnyH_take (i := 1) (v := ?_) rfl (by kernel_rfl) (by kernel_rfl) (by kernel_rfl) (fun _ _ _ h => h) (Or.inl ⟨by rfl, ?_⟩) (by assumption) ?_
 rotate_left
 ·(intro w hSw; obtain ⟨q0, q1⟩ := hSw; go_simp; try (with_reducible rfl))
 try simp only [Act.put, List.getElem_toArray, List.getElem_cons_succ, List.getElem_cons_zero, List.setIfInBounds_toArray, List.set_cons_zero, List.set_cons_succ]
 refine wpAnyH_take (i := 2) (v := ?_) rfl (by kernel_rfl) (by kernel_rfl) (by kernel_rfl) (fun _ _ _ h => h) (Or.inl ⟨by rfl, ?_⟩) (by assumption) ?_
 rotate_left
 ·(intro w hSw; obtain ⟨q0, q1⟩ := hSw; go_simp; try (with_reducible rfl))
 try simp only [Act.put, List.getElem_toArray, List.getElem_cons_succ, List.getElem_cons_zero, List.setIfInBounds_toArray, List.set_cons_zero, List.set_cons_succ]
 refine wpAnyH_take (i := 3) (v := ?_) rfl (by kernel_rfl) (by kernel_rfl) (by kernel_rfl) (fun _ _ _ h => h) (Or.inl ⟨by rfl, ?_⟩) (by assumption) ?_
 rotate_left
 ·(intro w hSw; obtain ⟨q0, q1⟩ := hSw; go_simp; try (with_reducible rfl))
 try simp only [Act.put, List.getElem_toArray, List.getElem_cons_succ, List.getElem_cons_zero, List.setIfInBounds_toArray, List.set_cons_zero, List.set_cons_succ]
 refine wpAnyH_take (i := 4) (v := ?_) rfl (by kernel_rfl) (by kernel_rfl) (by kernel_rfl) (fun _ _ _ h => h) (Or.inl ⟨by rfl, ?_⟩) (by assumption) ?_
 rotate_left
 ·(intro w hSw; obtain ⟨q0, q1⟩ := hSw; go_simp; try (with_reducible rfl))
 try simp only [Act.put, List.getElem_toArray, List.getElem_cons_succ, List.getElem_cons_zero, List.setIfInBounds_toArray, List.set_cons_zero, List.set_cons_succ]
 refine wpAnyH_take (i := 5) (v := ?_) rfl (by kernel_rfl) (by kernel_rfl) (by kernel_rfl) (fun _ _ _ h => h) (Or.inl ⟨by rfl, ?_⟩) (by assumption) ?_
 rotate_left
 ·(intro w hSw; obtain ⟨q0, q1⟩ := hSw; go_simp; try (with_reducible rfl))
 try simp only [Act.put, List.getElem_toArray, List.getElem_cons_succ, List.getElem_cons_zero, List.setIfInBounds_toArray, List.set_cons_zero, List.set_cons_succ]
 refine wpAnyH_take (i := 6) (v := ?_) rfl (by kernel_rfl) (by kernel_rfl) (by kernel_rfl) (fun _ _ _ h => h) (Or.inl ⟨by rfl, ?_⟩) (by assumption) ?_
 rotate_left
 ·(intro w hSw; obtain ⟨q0, q1⟩ := hSw; go_simp; try (with_reducible rfl))
 try simp only [Act.put, List.getElem_toArray, List.getElem_cons_succ, List.getElem_cons_zero, List.setIfInBounds_toArray, List.set_cons_zero, List.set_cons_succ]
 refine wpAnyH_take (i := 7) (v := ?_) rfl (by kernel_rfl) (by kernel_rfl) (by kernel_rfl) (fun _ _ _ h => h) (Or.inl ⟨by rfl, ?_⟩) (by assumption) ?_
 rotate_left
 ·(intro w hSw; obtain ⟨q0, q1⟩ := hSw; go_simp; try (with_reducible rfl))
 try simp only [Act.put, List.getElem_toArray, List.getElem_cons_succ, List.getElem_cons_zero, List.setIfInBounds_toArray, List.set_cons_zero, List.set_cons_succ]
 refine wpAnyH_ready (rs := [8]) (by kernel_rfl) (by simp) ?_
 refine AllReadyH.cons rfl (fun K hK => ?_) AllReadyH.nil
 go_simp
 go_at_call 26
 refine (HR2.out _ (Below.refl _ _).drew).mono ?_
 rintro e v3 ⟨rfl, HQ3⟩
 dsimp only
 refine hK.out _ _ (HSF2.out _ _ HQ3.out.2 (fun q e => ⟨fun h => e.elim (fun e => (HS2.out.d1).2.2.1 (h.symm.trans e)) (fun e => (HS2.out.d1).2.2.2.1 (h.symm.trans e)), Mu_d q e⟩)) (fun hHeld => ?_)
 clear hK K
 try simp only [Act.put, List.getElem_toArray, List.getElem_cons_succ, List.getElem_cons_zero, List.setIfInBounds_toArray, List.set_cons_zero, List.set_cons_succ]
 refine wpAnyH_take (i := 9) (v := ?_) rfl (by kernel_rfl) (by kernel_rfl) (by kernel_rfl) (fun _ _ _ h => h) (Or.inl ⟨by rfl, ?_⟩) (by assumption) ?_
 rotate_left
 ·(intro w hSw; obtain ⟨q0, q1⟩ := hSw; go_simp; try (with_reducible rfl))
 try simp only [Act.put, List.getElem_toArray, List.getElem_cons_succ, List.getElem_cons_zero, List.setIfInBounds_toArray, List.set_cons_zero, List.set_cons_succ]
 refine wpAnyH_take (i := 10) (v := ?_) rfl (by kernel_rfl) (by kernel_rfl) (by kernel_rfl) (fun _ _ _ h => h) (Or.inl ⟨by rfl, ?_⟩) (by assumption) ?_
 rotate_left
 ·(intro w hSw; obtain ⟨q0, q1⟩ := hSw; go_simp; try (with_reducible rfl))
 try simp only [Act.put, List.getElem_toArray, List.getElem_cons_succ, List.getElem_cons_zero, List.setIfInBounds_toArray, List.set_cons_zero, List.set_cons_succ]
 refine wpAnyH_done (by kernel_rfl) ?_ _
 clear hHeld
 clear HR2 HSF2 k2 d1
 have HF : Hid (Pp9 v3 B x b m b2 m2 P T (t + 1) ∧ Cf (B ≤ ·) w v3) := hidden (by
  have p1 := HS2.out.actd HQ3.out.1 HQ3.out.2 (by rw [← HXE.out, rdR_con HCO.out]; exact frP_ok HPW.out HS2.out.gN) (Zs.refl _ _).del
  have hcw : Cf (Mu x b m b2 m2 rb) w v3 := ((Cf.of_below HB1.out).go (HQ.out.2.wide (Mu_r (m := m) (rb := rb)))).go (HQ3.out.2.wide (Mu_d (m2 := m2) (rb := rb)))
  have q1 := HLE.out
  have q2 := XR.out
  exact ⟨⟨_, _, _, _, _, rb, _, FL, its, lss, p1, by rw [con_del, con_del, HCO.out], HIT.out.moreK hcw H.out (fun k e => .inl (.inl e)), by omega, by omega, by omega, by omega, by omega⟩, Cf.muB H.out hcw (fun _ e => e)⟩)
 clear HQ HQ3
 go_wp2
 go_ret
 exact ⟨rfl, HF⟩
end Go.Proofs.YtoejadhlkamcjaaDoor
