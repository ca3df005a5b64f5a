import Derived.Test.YtoejadhlkamcjaaDoorJ37
import Derived.Deep.RegionHeld
import Derived.Deep.Cut
namespace Go.Proofs.YtoejadhlkamcjaaDoor
set_option maxRecDepth 100000
open Go.RowKit Go.Maps
set_option maxHeartbeats 8000000 in
theorem play_4 {w : World} {B x b m b2 m2 P T t : Nat} (h : Pp9 w B x b m b2 m2 P T t) (ht : t ≤ 1100000) (_ : T ≤ 65534) (hp : pw P) (htb : Tab w) (hB0 : 0 < B) (k f n fr to : Int) (vo : Option Addr) (vn vc : Nat) (v : List Int)
  (hf : -9223372036854775808 ≤ f ∧ f ≤ 9223372036854775807) (hv : Sl w vo vn vc v) (hvb : vn = 0 ∨ ∀ p, vo = some p → p.block < B) (_ : vn ≤ 200000) (hk : k = 4) :
  Calls Tryd.prog 6 #[.pointer (some ⟨x, 0, none⟩), opV k f n fr to vo vn vc] w fun e u => e = .returned (.bool true) ∧ Hid (Pp9 u B x b m b2 m2 P T (t + 1) ∧ Cf (B ≤ ·) w u) := by
 subst hk
 obtain ⟨rd, M, N, ct, K, rb, R, FL, its, lss, hs, hco, hit, l1, l2, l3, hr0, hr1⟩ := h
 have hwf := fsN_wf hit.fl (wf64 f hf.1 hf.2)
 obtain ⟨z, hz⟩ : ∃ z, w.alloc (.cells #[.int .i64 4, .int .i64 f, .int .i64 n, .int .i64 fr, .int .i64 to, .slice vo vn vc] 35) = z := ⟨_, rfl⟩
 have hbz : Below w.heap.size w z := by rw [← hz]; exact bl_al (Below.refl _ _) (Nat.le_refl _) _
 obtain ⟨s, hs0⟩ : ∃ s, w.heap.size = s := ⟨_, rfl⟩
 have g0 : z.cell? ⟨s, 0, none⟩ = some (.int .i64 4) := by rw [← hz, ← hs0]; simp
 have g1 : z.cell? ⟨s, 1, none⟩ = some (.int .i64 f) := by rw [← hz, ← hs0]; simp
 have g2 : z.cell? ⟨s, 2, none⟩ = some (.int .i64 n) := by rw [← hz, ← hs0]; simp
 have g3 : z.cell? ⟨s, 3, none⟩ = some (.int .i64 fr) := by rw [← hz, ← hs0]; simp
 have g4 : z.cell? ⟨s, 4, none⟩ = some (.int .i64 to) := by rw [← hz, ← hs0]; simp
 have g5 : z.cell? ⟨s, 5, none⟩ = some (.slice vo vn vc) := by rw [← hz, ← hs0]; simp
 have hzs : s < z.heap.size := by rw [← hz, ← hs0]; simp
 have HFI := hidden (first9 (hs.on hbz) FL hit.r0 (by omega) 4 f n fr to vo vn vc hf)
 obtain ⟨n0, hn0⟩ : ∃ n0, fsN FL f = n0 := ⟨_, rfl⟩
 rw [hn0] at HFI hwf
 have HN0 := hidden hwf
 have H := hidden hs
 have HCO := hidden hco
 have HIT := hidden hit
 have HLE := hidden (And.intro l1 (And.intro l2 (And.intro l3 (And.intro hr0 hr1))))
 have HBZ := hidden hbz
 have HSW := hidden hs0
 have HMS : Hid (∀ q, Mu x b m b2 m2 rb q → q < s ∧ B ≤ q) := hidden (fun q hq => by have := hs.lts hq; omega)
 have HKS : Hid (∀ q, K q → q < s) := hidden (fun q hq => by have := (hs.kl q hq).1; omega)
 have HG : Hid (∀ i v, z.cell? ⟨s, i, none⟩ = some v → ∀ u, Below z.heap.size z u → u.cell? ⟨s, i, none⟩ = some v) := hidden (fun i v e u hu => (hu.cell (p := ⟨s, i, none⟩) hzs).trans e)
 have HG0 := hidden (And.intro g0 (And.intro g1 (And.intro g2 (And.intro g3 (And.intro g4 g5)))))
 have HZS := hidden hzs
 have HV := hidden hv
 have HVB := hidden hvb
 have HTB := hidden htb
 have HPW := hidden hp
 have hBw : B ≤ w.heap.size := Nat.le_trans hs.hB.1 (Nat.le_of_lt (lt_some hs.row))
 have HBS := hidden hBw
 clear hs hco hit hwf hn0 hbz hzs l1 l2 l3 hv hvb htb hp hBw
 go_enter Tryd.func6, Tryd.ntmps6
 go_wp2_with (first
  | (go_at_call 19; refine HFI.out.mono ?_; rintro e v1 ⟨rfl, HV1⟩; refine Hid.out ?_))
 apply hidden
 have HB1 : Hid (Below w.heap.size w v1) := hidden (bl_go HBZ.out (Nat.le_refl _) HV1.out)
 have HS1 : Hid (Sq9 v1 B x b m b2 m2 P T rd rd M N ct ct K rb R) := hidden (H.out.on HB1.out)
 have HSV : Hid (s < v1.heap.size) := hidden (Nat.lt_of_lt_of_le HZS.out HV1.out.size)
 obtain ⟨y0, y1, y2, y3, y4, y5⟩ := HG0.out
 have j0 := HG.out 0 _ y0 v1 HV1.out
 have j1 := HG.out 1 _ y1 v1 HV1.out
 have j2 := HG.out 2 _ y2 v1 HV1.out
 have j3 := HG.out 3 _ y3 v1 HV1.out
 have j4 := HG.out 4 _ y4 v1 HV1.out
 have j5 := HG.out 5 _ y5 v1 HV1.out
 have HT1 : Hid (Tab v1) := hidden (HTB.out.on HB1.out (by have := HBS.out; omega))
 have h01 : 0 < v1.heap.size := Nat.lt_of_le_of_lt (Nat.zero_le _) HSV.out
 have HV9 : Hid (Sl v1 vo vn vc v) := hidden (HV.out.on (Nat.le_refl _) HB1.out)
 have hrd : rd < 2305843009213693952 := by have := HLE.out.2.2.2.2; omega
 have hrd0 : 0 ≤ rd := HLE.out.2.2.2.1
 have HJ : Hid (∀ (F : Nat → Prop) (u : World), Cf F v1 u → (∀ q, F q → Mu x b m b2 m2 rb q) → ∀ i v, v1.cell? ⟨s, i, none⟩ = some v → u.cell? ⟨s, i, none⟩ = some v) := hidden (fun F u hc hF i v e => (World.cell?_of_block (hc.block s HSV.out (fun q => by have := (HMS.out s (hF s q)).1; omega))).trans e)
 clear HFI HG HG0 HV1 y0 y1 y2 y3 y4 y5 g0 g1 g2 g3 g4 g5 hz HSW
 obtain ⟨c0, c1⟩ := HS1.out.cells
 obtain ⟨X, hX⟩ : ∃ X, rdR M P n0 n rd = X := ⟨_, rfl⟩
 have HXE := hidden hX
 have XR : Hid (rd ≤ X.2.2.2 ∧ X.2.2.2 ≤ rd + 65536) := hidden (by rw [← hX]; exact rdR_reads HPW.out)
 have XL : Hid (X.2.1.length ≤ 65536) := hidden (by rw [← hX]; exact (rdR_len HPW.out H.out.br.wfs).2.2)
 have HR : Hid (∀ u, Below v1.heap.size v1 u → Calls Tryd.prog 13 #[iB b, .int .i64 n0, .int .i64 n] u fun e w' => ∃ ao an ac kk, e = .returned (.tuple #[.slice ao an ac, .int .i64 kk]) ∧ Hid (X.1 = kk ∧ OwnJ w' v1.heap.size (.slice ao an ac) X.2.1 ∧ an = X.2.1.length ∧ Bn w' b m 2 (P : Int) ((T : Int) + 2) X.2.2.2 M ct ∧ Cf (· = b) v1 w')) := hidden (fun u hu => by
  refine (list_g ((HS1.out.br).on hu) HPW.out n0 n HN0.out hrd hrd0 (HT1.out.on hu h01) (Nat.lt_of_lt_of_le h01 hu.size) (by have := (HMS.out b (.inl (.inr (.inl rfl)))).2; omega)).mono ?_
  rw [HXE.out]
  rintro e w' ⟨ao, an, ac, kk, rfl, hq⟩
  obtain ⟨q1, q2, q3, q4, q5⟩ := hq.out
  exact ⟨ao, an, ac, kk, rfl, hidden ⟨q1, q2.low9 hu.size, q3, q4, (Cf.of_below hu).go q5⟩⟩)
 clear hX
 have HSF : Hid (∀ (F : Nat → Prop) (u : World), Cf F v1 u → (∀ q, F q → q ≠ x ∧ Mu x b m b2 m2 rb q) → Sa9 x 0 (pB b) s n u) := hidden (fun F u hc hq => by
  have hxb : x < v1.heap.size := lt_some HS1.out.row
  have hxn : ¬ F x := fun e => (hq x e).1 rfl
  have hsn : ¬ F s := fun e => by have := (HMS.out s (hq s e).2).1; omega
  have hsl : s < v1.heap.size := HSV.out
  exact ⟨(World.cell?_of_block (hc.block x hxb hxn)).trans c0, (World.cell?_of_block (hc.block s hsl hsn)).trans j2⟩)
 go_upto_region 16 with fail
 refine wp_region_held_drew (S := Sa9 x 0 (pB b) s n) (by kernel_rfl) (HSF.out (fun _ => False) _ (Cf.of_below (Below.refl _ _).drew) (fun _ e => e.elim)) (fun hHeld => ?_)
 refine wpAnyH_take (i := 0) (v := ?_) rfl (by kernel_rfl) (by kernel_rfl) (by kernel_rfl) (fun _ _ _ h => h) (Or.inl ⟨by rfl, ?_⟩) (by assumption) ?_
 rotate_left
 ·(intro w hSw; obtain ⟨q0, q1⟩ := hSw; go_simp; try (with_reducible rfl))
 try simp only [Act.put, List.getElem_toArray, List.getElem_cons_zero, List.setIfInBounds_toArray, List.set_cons_zero, List.set_cons_succ]
 refine wpAnyH_take (i := 1) (v := ?_) rfl (by kernel_rfl) (by kernel_rfl) (by kernel_rfl) (fun _ _ _ h => h) (Or.inl ⟨by rfl, ?_⟩) (by assumption) ?_
 rotate_left
 ·(intro w hSw; obtain ⟨q0, q1⟩ := hSw; go_simp; try (with_reducible rfl))
 try simp only [Act.put, List.getElem_toArray, List.getElem_cons_succ, List.getElem_cons_zero, List.setIfInBounds_toArray, List.set_cons_zero, List.set_cons_succ]
 refine wpAnyH_take (i := 2) (v := ?_) rfl (by kernel_rfl) (by kernel_rfl) (by kernel_rfl) (fun _ _ _ h => h) (Or.inl ⟨by rfl, ?_⟩) (by assumption) ?_
 rotate_left
 ·(intro w hSw; obtain ⟨q0, q1⟩ := hSw; go_simp; try (with_reducible rfl))
 try simp only [Act.put, List.getElem_toArray, List.getElem_cons_succ, List.getElem_cons_zero, List.setIfInBounds_toArray, List.set_cons_zero, List.set_cons_succ]
 refine wpAnyH_take (i := 3) (v := ?_) rfl (by kernel_rfl) (by kernel_rfl) (by kernel_rfl) (fun _ _ _ h => h) (Or.inl ⟨by rfl, ?_⟩) (by assumption) ?_
 rotate_left
 ·(intro w hSw; obtain ⟨q0, q1⟩ := hSw; go_simp; try (with_reducible rfl))
 try simp only [Act.put, List.getElem_toArray, List.getElem_cons_succ, List.getElem_cons_zero, List.setIfInBounds_toArray, List.set_cons_zero, List.set_cons_succ]
 refine wpAnyH_take (i := 4) (v := ?_) rfl (by kernel_rfl) (by kernel_rfl) (by kernel_rfl) (fun _ _ _ h => h) (Or.inl ⟨by rfl, ?_⟩) (by assumption) ?_
 rotate_left
 ·(intro w hSw; obtain ⟨q0, q1⟩ := hSw; go_simp; try (with_reducible rfl))
 try simp only [Act.put, List.getElem_toArray, List.getElem_cons_succ, List.getElem_cons_zero, List.setIfInBounds_toArray, List.set_cons_zero, List.set_cons_succ]
 refine wpAnyH_take (i := 5) (v := ?_) rfl (by kernel_rfl) (by kernel_rfl) (by kernel_rfl) (fun _ _ _ h => h) (Or.inl ⟨by rfl, ?_⟩) (by assumption) ?_
 rotate_left
 ·(intro w hSw; obtain ⟨q0, q1⟩ := hSw; go_simp; try (with_reducible rfl))
 try simp only [Act.put, List.getElem_toArray, List.getElem_cons_succ, List.getElem_cons_zero, List.setIfInBounds_toArray, List.set_cons_zero, List.set_cons_succ]
 refine wpAnyH_take (i := 6) (v := ?_) rfl (by kernel_rfl) (by kernel_rfl) (by kernel_rfl) (fun _ _ _ h => h) (Or.inl ⟨by rfl, ?_⟩) (by assumption) ?_
 rotate_left
 ·(intro w hSw; obtain ⟨q0, q1⟩ := hSw; go_simp; try (with_reducible rfl))
 try simp only [Act.put, List.getElem_toArray, List.getElem_cons_succ, List.getElem_cons_zero, List.setIfInBounds_toArray, List.set_cons_zero, List.set_cons_succ]
 refine wpAnyH_take (i := 7) (v := ?_) rfl (by kernel_rfl) (by kernel_rfl) (by kernel_rfl) (fun _ _ _ h => h) (Or.inl ⟨by rfl, ?_⟩) (by assumption) ?_
 rotate_left
 ·(intro w hSw; obtain ⟨q0, q1⟩ := hSw; go_simp; try (with_reducible rfl))
 try simp only [Act.put, List.getElem_toArray, List.getElem_cons_succ, List.getElem_cons_zero, List.setIfInBounds_toArray, List.set_cons_zero, List.set_cons_succ]
 refine wpAnyH_ready (rs := [8]) (by kernel_rfl) (by simp) ?_
 refine AllReadyH.cons rfl (fun K hK => ?_) AllReadyH.nil
 go_simp
 go_at_call 13
 refine (HR.out _ (Below.refl _ _).drew).mono ?_
 rintro e v2 ⟨ao, an, ac, kk, rfl, HQ⟩
 dsimp only
 refine hK.out _ _ (HSF.out _ _ HQ.out.2.2.2.2 (fun q e => ⟨fun h => (HS1.out.d1).1 (h.symm.trans e), Mu_r q (.inl e)⟩)) (fun hHeld => ?_)
 clear hK K
 try simp only [Act.put, List.getElem_toArray, List.getElem_cons_succ, List.getElem_cons_zero, List.setIfInBounds_toArray, List.set_cons_zero, List.set_cons_succ]
 refine wpAnyH_take (i := 9) (v := ?_) rfl (by kernel_rfl) (by kernel_rfl) (by kernel_rfl) (fun _ _ _ h => h) (Or.inl ⟨by rfl, ?_⟩) (by assumption) ?_
 rotate_left
 ·(intro w hSw; obtain ⟨q0, q1⟩ := hSw; go_simp; try (with_reducible rfl))
 try simp only [Act.put, List.getElem_toArray, List.getElem_cons_succ, List.getElem_cons_zero, List.setIfInBounds_toArray, List.set_cons_zero, List.set_cons_succ]
 refine wpAnyH_take (i := 10) (v := ?_) rfl (by kernel_rfl) (by kernel_rfl) (by kernel_rfl) (fun _ _ _ h => h) (Or.inl ⟨by rfl, ?_⟩) (by assumption) ?_
 rotate_left
 ·(intro w hSw; obtain ⟨q0, q1⟩ := hSw; go_simp; try (with_reducible rfl))
 try simp only [Act.put, List.getElem_toArray, List.getElem_cons_succ, List.getElem_cons_zero, List.setIfInBounds_toArray, List.set_cons_zero, List.set_cons_succ]
 refine wpAnyH_take (i := 11) (v := ?_) rfl (by kernel_rfl) (by kernel_rfl) (by kernel_rfl) (fun _ _ _ h => h) (Or.inl ⟨by rfl, ?_⟩) (by assumption) ?_
 rotate_left
 ·(intro w hSw; obtain ⟨q0, q1⟩ := hSw; go_simp; try (with_reducible rfl))
 try simp only [Act.put, List.getElem_toArray, List.getElem_cons_succ, List.getElem_cons_zero, List.setIfInBounds_toArray, List.set_cons_zero, List.set_cons_succ]
 refine wpAnyH_take (i := 12) (v := ?_) rfl (by kernel_rfl) (by kernel_rfl) (by kernel_rfl) (fun _ _ _ h => h) (Or.inl ⟨by rfl, ?_⟩) (by assumption) ?_
 rotate_left
 ·(intro w hSw; obtain ⟨q0, q1⟩ := hSw; go_simp; try (with_reducible rfl))
 try simp only [Act.put, List.getElem_toArray, List.getElem_cons_succ, List.getElem_cons_zero, List.setIfInBounds_toArray, List.set_cons_zero, List.set_cons_succ]
 refine wpAnyH_take (i := 13) (v := ?_) rfl (by kernel_rfl) (by kernel_rfl) (by kernel_rfl) (fun _ _ _ h => h) (Or.inl ⟨by rfl, ?_⟩) (by assumption) ?_
 rotate_left
 ·(intro w hSw; obtain ⟨q0, q1⟩ := hSw; go_simp; try (with_reducible rfl))
 try simp only [Act.put, List.getElem_toArray, List.getElem_cons_succ, List.getElem_cons_zero, List.setIfInBounds_toArray, List.set_cons_zero, List.set_cons_succ]
 refine wpAnyH_done (by kernel_rfl) ?_ _
 clear hHeld
 clear HR HSF
 have hs2 := HS1.out.actr HQ.out.2.2.2.1 (HQ.out.2.2.2.2.wide fun k e => .inl e) HS1.out.gM (Zs.refl _ _)
 have HS2 := hidden hs2
 have k2 := HJ.out _ v2 (HQ.out.2.2.2.2.wide fun k e => .inl e) (Mu_r (m := m) (rb := rb)) 2 _ j2
 have HR2 : Hid (∀ u, Below v2.heap.size v2 u → Calls Tryd.prog 24 #[pB b2, .int .i64 n0, .int .i64 n] u fun e w' => ∃ ao an ac kk, e = .returned (.tuple #[.slice ao an ac, .int .i64 kk]) ∧ Hid (X.1 = kk ∧ OwnJ w' v2.heap.size (.slice ao an ac) X.2.1 ∧ an = X.2.1.length ∧ Bn w' b2 m2 2 (P : Int) ((T : Int) + 2) X.2.2.2 N ct ∧ Cf (· = b2) v2 w')) := hidden (fun u hu => by
  refine (rlist_g ((HS2.out.bd).on hu) HPW.out n0 n HN0.out hrd hrd0).mono ?_
  rw [← rdR_con HCO.out, HXE.out]
  rintro e w' ⟨ao, an, ac, kk, rfl, hq⟩
  obtain ⟨q1, q2, q3, q4, q5⟩ := hq.out
  exact ⟨ao, an, ac, kk, rfl, hidden ⟨q1, q2.low9 hu.size, q3, q4, (Cf.of_below hu).go q5⟩⟩)
 obtain ⟨_, d1⟩ := hs2.cells
 have HSF2 : Hid (∀ (F : Nat → Prop) (u : World), Cf F v2 u → (∀ q, F q → q ≠ x ∧ Mu x b m b2 m2 rb q) → Sa9 x 1 (pB b2) s n u) := hidden (fun F u hc hq => by
  have hxb : x < v2.heap.size := lt_some HS2.out.row
  have hxn : ¬ F x := fun e => (hq x e).1 rfl
  have hsn : ¬ F s := fun e => by have := (HMS.out s (hq s e).2).1; omega
  have hsl : s < v2.heap.size := (Nat.lt_of_lt_of_le HSV.out HQ.out.2.2.2.2.size)
  exact ⟨(World.cell?_of_block (hc.block x hxb hxn)).trans d1, (World.cell?_of_block (hc.block s hsl hsn)).trans k2⟩)
 clear hs2 c0 c1 j0 j1 j2 j3 j4 j5
 go_upto_region 17 with fail
 refine wp_region_held_drew (S := Sa9 x 1 (pB b2) s n) (by kernel_rfl) (HSF2.out (fun _ => False) _ (Cf.of_below (Below.refl _ _).drew) (fun _ e => e.elim)) (fun hHeld => ?_)
 refine wpAnyH_take (i := 0) (v := ?_) rfl (by kernel_rfl) (by kernel_rfl) (by kernel_rfl) (fun _ _ _ h => h) (Or.inl ⟨by rfl, ?_⟩) (by assumption) ?_
 rotate_left
 ·(intro w hSw; obtain ⟨q0, q1⟩ := hSw; go_simp; try (with_reducible rfl))
 try simp only [Act.put, List.getElem_toArray, List.getElem_cons_zero, List.setIfInBounds_toArray, List.set_cons_zero, List.set_cons_succ]
 refine wpAnyH_take (i := 1) (v := ?_) rfl (by kernel_rfl) (by kernel_rfl) (by kernel_rfl) (fun _ _ _ h => h) (Or.inl ⟨by rfl, ?_⟩) (by assumption) ?_
 rotate_left
 ·(intro w hSw; obtain ⟨q0, q1⟩ := hSw; go_simp; try (with_reducible rfl))
 try simp only [Act.put, List.getElem_toArray, List.getElem_cons_succ, List.getElem_cons_zero, List.setIfInBounds_toArray, List.set_cons_zero, List.set_cons_succ]
 refine wpAnyH_take (i := 2) (v := ?_) rfl (by kernel_rfl) (by kernel_rfl) (by kernel_rfl) (fun _ _ _ h => h) (Or.inl ⟨by rfl, ?_⟩) (by assumption) ?_
 rotate_left
 ·(intro w hSw; obtain ⟨q0, q1⟩ := hSw; go_simp; try (with_reducible rfl))
 try simp only [Act.put, List.getElem_toArray, List.getElem_cons_succ, List.getElem_cons_zero, List.setIfInBounds_toArray, List.set_cons_zero, List.set_cons_succ]
 refine wpAnyH_take (i := 3) (v := ?_) rfl (by kernel_rfl) (by kernel_rfl) (by kernel_rfl) (fun _ _ _ h => h) (Or.inl ⟨by rfl, ?_⟩) (by assumption) ?_
 rotate_left
 ·(intro w hSw; obtain ⟨q0, q1⟩ := hSw; go_simp; try (with_reducible rfl))
 try simp only [Act.put, List.getElem_toArray, List.getElem_cons_succ, List.getElem_cons_zero, List.setIfInBounds_toArray, List.set_cons_zero, List.set_cons_succ]
 refine wpAnyH_take (i := 4) (v := ?_) rfl (by kernel_rfl) (by kernel_rfl) (by kernel_rfl) (fun _ _ _ h => h) (Or.inl ⟨by rfl, ?_⟩) (by assumption) ?_
 rotate_left
 ·(intro w hSw; obtain ⟨q0, q1⟩ := hSw; go_simp; try (with_reducible rfl))
 try simp only [Act.put, List.getElem_toArray, List.getElem_cons_succ, List.getElem_cons_zero, List.setIfInBounds_toArray, List.set_cons_zero, List.set_cons_succ]
 refine wpAnyH_take (i := 5) (v := ?_) rfl (by kernel_rfl) (by kernel_rfl) (by kernel_rfl) (fun _ _ _ h => h) (Or.inl ⟨by rfl, ?_⟩) (by assumption) ?_
 rotate_left
 ·(intro w hSw; obtain ⟨q0, q1⟩ := hSw; go_simp; try (with_reducible rfl))
 try simp only [Act.put, List.getElem_toArray, List.getElem_cons_succ, List.getElem_cons_zero, List.setIfInBounds_toArray, List.set_cons_zero, List.set_cons_succ]
 refine wpAnyH_take (i := 6) (v := ?_) rfl (by kernel_rfl) (by kernel_rfl) (by kernel_rfl) (fun _ _ _ h => h) (Or.inl ⟨by rfl, ?_⟩) (by assumption) ?_
 rotate_left
 ·(intro w hSw; obtain ⟨q0, q1⟩ := hSw; go_simp; try (with_reducible rfl))
 try simp only [Act.put, List.getElem_toArray, List.getElem_cons_succ, List.getElem_cons_zero, List.setIfInBounds_toArray, List.set_cons_zero, List.set_cons_succ]
 refine wpAnyH_ready (rs := [7]) (by kernel_rfl) (by simp) ?_
 refine AllReadyH.cons rfl (fun K hK => ?_) AllReadyH.nil
 go_simp
 go_at_call 24
 refine (HR2.out _ (Below.refl _ _).drew).mono ?_
 rintro e v3 ⟨po, pn, pc, k9, rfl, HQ3⟩
 dsimp only
 refine hK.out _ _ (HSF2.out _ _ HQ3.out.2.2.2.2 (fun q e => ⟨fun h => (HS2.out.d1).2.2.1 (h.symm.trans e), Mu_d q (.inl e)⟩)) (fun hHeld => ?_)
 clear hK K
 try simp only [Act.put, List.getElem_toArray, List.getElem_cons_succ, List.getElem_cons_zero, List.setIfInBounds_toArray, List.set_cons_zero, List.set_cons_succ]
 refine wpAnyH_take (i := 8) (v := ?_) rfl (by kernel_rfl) (by kernel_rfl) (by kernel_rfl) (fun _ _ _ h => h) (Or.inl ⟨by rfl, ?_⟩) (by assumption) ?_
 rotate_left
 ·(intro w hSw; obtain ⟨q0, q1⟩ := hSw; go_simp; try (with_reducible rfl))
 try simp only [Act.put, List.getElem_toArray, List.getElem_cons_succ, List.getElem_cons_zero, List.setIfInBounds_toArray, List.set_cons_zero, List.set_cons_succ]
 refine wpAnyH_take (i := 9) (v := ?_) rfl (by kernel_rfl) (by kernel_rfl) (by kernel_rfl) (fun _ _ _ h => h) (Or.inl ⟨by rfl, ?_⟩) (by assumption) ?_
 rotate_left
 ·(intro w hSw; obtain ⟨q0, q1⟩ := hSw; go_simp; try (with_reducible rfl))
 try simp only [Act.put, List.getElem_toArray, List.getElem_cons_succ, List.getElem_cons_zero, List.setIfInBounds_toArray, List.set_cons_zero, List.set_cons_succ]
 refine wpAnyH_take (i := 10) (v := ?_) rfl (by kernel_rfl) (by kernel_rfl) (by kernel_rfl) (fun _ _ _ h => h) (Or.inl ⟨by rfl, ?_⟩) (by assumption) ?_
 rotate_left
 ·(intro w hSw; obtain ⟨q0, q1⟩ := hSw; go_simp; try (with_reducible rfl))
 try simp only [Act.put, List.getElem_toArray, List.getElem_cons_succ, List.getElem_cons_zero, List.setIfInBounds_toArray, List.set_cons_zero, List.set_cons_succ]
 refine wpAnyH_take (i := 11) (v := ?_) rfl (by kernel_rfl) (by kernel_rfl) (by kernel_rfl) (fun _ _ _ h => h) (Or.inl ⟨by rfl, ?_⟩) (by assumption) ?_
 rotate_left
 ·(intro w hSw; obtain ⟨q0, q1⟩ := hSw; go_simp; try (with_reducible rfl))
 try simp only [Act.put, List.getElem_toArray, List.getElem_cons_succ, List.getElem_cons_zero, List.setIfInBounds_toArray, List.set_cons_zero, List.set_cons_succ]
 refine wpAnyH_take (i := 12) (v := ?_) rfl (by kernel_rfl) (by kernel_rfl) (by kernel_rfl) (fun _ _ _ h => h) (Or.inl ⟨by rfl, ?_⟩) (by assumption) ?_
 rotate_left
 ·(intro w hSw; obtain ⟨q0, q1⟩ := hSw; go_simp; try (with_reducible rfl))
 try simp only [Act.put, List.getElem_toArray, List.getElem_cons_succ, List.getElem_cons_zero, List.setIfInBounds_toArray, List.set_cons_zero, List.set_cons_succ]
 refine wpAnyH_done (by kernel_rfl) ?_ _
 clear hHeld
 clear HR2 HSF2 k2 d1
 obtain rfl : kk = k9 := HQ.out.1.symm.trans HQ3.out.1
 obtain rfl : an = pn := HQ.out.2.2.1.trans HQ3.out.2.2.1.symm
 have HLA : Hid (∀ g, (Value.slice ao an ac).ownBlock = some g → v1.heap.size ≤ g ∧ g < v2.heap.size) := hidden (fun g e => HQ.out.2.1.lt e)
 have HLC : Hid (∀ g, (Value.slice po an pc).ownBlock = some g → v2.heap.size ≤ g ∧ g < v3.heap.size) := hidden (fun g e => HQ3.out.2.1.lt e)
 have HMB : Hid (∀ q, Mu x b m b2 m2 rb q → q < v1.heap.size) := hidden (fun q e => Nat.lt_trans (HMS.out q e).1 HSV.out)
 have HV12 : Hid (v1.heap.size ≤ v2.heap.size ∧ v2.heap.size ≤ v3.heap.size) := hidden ⟨HQ.out.2.2.2.2.size, HQ3.out.2.2.2.2.size⟩
 have HA3 : Hid (OwnJ v3 v1.heap.size (.slice ao an ac) X.2.1) := hidden (HQ.out.2.1.cf HQ3.out.2.2.2.2 (fun k hk e => by
  have h1 := (HLA.out k hk).1
  have h2 := HMB.out b2 (.inl (.inr (.inr (.inr (.inl rfl)))))
  omega))
 have HC3 : Hid (OwnJ v3 v2.heap.size (.slice po an pc) X.2.1) := hidden HQ3.out.2.1
 have HAN : Hid (an = X.2.1.length) := hidden HQ.out.2.2.1
 have HC13 : Hid (Cf (Mu x b m b2 m2 rb) v1 v3) := hidden ((HQ.out.2.2.2.2.wide fun k e => Mu_r k (.inl e)).go (HQ3.out.2.2.2.2.wide fun k e => Mu_d k (.inl e)))
 obtain ⟨K3, hK3⟩ : ∃ K3, Kx (Kx K v1 v2) v2 v3 = K3 := ⟨_, rfl⟩
 have HKE := hidden hK3
 have HS3 : Hid (Sq9 v3 B x b m b2 m2 P T X.2.2.2 X.2.2.2 M N ct ct K3 rb R) := hidden (by rw [← hK3]; exact HS2.out.actd HQ3.out.2.2.2.1 (HQ3.out.2.2.2.2.wide fun k e => .inl e) HS2.out.gN (Zs.refl _ _))
 have hR3 : (R 3).length + 1 ≤ 4000000 := by rw [HIT.out.r3, List.length_map]; have := HLE.out.2.2.1; omega
 have hR4 : (R 4).length + 1 ≤ 4000000 := by rw [HIT.out.r4, List.length_map]; have := HLE.out.2.2.1; omega
 have hkk : (kk == kk) = true := by simp
 clear hK3 HQ HQ3 HS2
 have HPTa : Hid (∀ y, Below v3.heap.size v3 y → ∀ qo qn qc (z : World), World.ownsRow z B 27 1 (.slice qo qn qc) (R 3 ++ [Value.slice ao an ac]).length (R 3 ++ [Value.slice ao an ac]) → Gr y (rb 3) z (.slice qo qn qc) → (z.cell? ⟨x, 5, none⟩ = some (rb 3) ∧ z.frozen? ⟨x, 5, none⟩ = false) ∧ Hid (Sq9 (z.setCell ⟨x, 5, none⟩ (.slice qo qn qc)) B x b m b2 m2 P T X.2.2.2 X.2.2.2 M N ct ct K3 (upd9 rb 3 (.slice qo qn qc)) (upd9 R 3 (R 3 ++ [Value.slice ao an ac])) ∧ Cf (Mu x b m b2 m2 rb) v3 (z.setCell ⟨x, 5, none⟩ (.slice qo qn qc)))) := hidden (fun y hy qo qn qc z h1 h2 => by
  obtain ⟨p1, p2, p3⟩ := HS3.out.put hy 3 (by omega) _ _ h1 h2
  exact ⟨p1, hidden ⟨p2, p3.wide fun k e => e.elim (fun e => .inl (.inl e)) (fun e => Mu_row (i := 3) (by omega) e)⟩⟩)
 have c5 : v3.cell? ⟨x, 5, none⟩ = some (rb 3) := by simp [World.cell?, HS3.out.row, rowX]
 obtain ⟨y, hy⟩ : ∃ y, v3.alloc (.cells #[.slice ao an ac] 27) = y := ⟨_, rfl⟩
 have hby : Below v3.heap.size v3 y := by rw [← hy]; exact bl_al (Below.refl _ _) (Nat.le_refl _) _
 have hcy : y.cell? ⟨v3.heap.size, 0, none⟩ = some (.slice ao an ac) := by rw [← hy]; simp
 have HY := hidden hby
 have HO : Hid (World.ownsRow y B 27 1 (rb 3) (R 3).length (R 3)) := hidden ((HS3.out.on hby).oo 3 (by omega))
 have hys : B ≤ y.heap.size := Nat.le_trans HS3.out.hB.1 (Nat.le_trans (Nat.le_of_lt (lt_some HS3.out.row)) hby.size)
 obtain ⟨r3, hr3⟩ : ∃ r, rb 3 = r := ⟨_, rfl⟩
 have HRR := hidden hr3
 rw [hr3] at c5 HO
 obtain ⟨vo3, vc3, e0, _⟩ := row_slice HO.out
 subst e0
 clear hr3 hby
 go_wp2_with (at_builtin; refine app_q9 _ rfl _ _ rfl B (R 3) _ (.slice ao an ac) rfl rfl HO.out v3.heap.size rfl hcy (by omega) hys ?_; refine Hid.out ?_)
 apply hidden
 intro qo qn qc z1 ho1 hg1
 obtain ⟨⟨d3, f3⟩, HX5⟩ := HPTa.out y HY.out qo qn qc z1 (by rw [List.length_append]; exact ho1) (by rw [HRR.out]; exact hg1)
 rw [HRR.out] at d3
 clear ho1 hg1 hy hcy HO HY c5 HPTa
 go_upto_region 19 with fail
 obtain ⟨hs5, hc5⟩ := HX5.out
 clear HX5 d3 f3
 change Sq9 (z1.setCell ⟨x, 5, none⟩ (.slice qo qn qc)) _ _ _ _ _ _ _ _ _ _ _ _ _ _ _ _ _ at hs5
 change Cf _ v3 (z1.setCell ⟨x, 5, none⟩ (.slice qo qn qc)) at hc5
 generalize z1.setCell ⟨x, 5, none⟩ (.slice qo qn qc) = v5 at *
 have HS5 := hidden hs5
 have HC5 := hidden hc5
 clear hs5 hc5
 have HPTb : Hid (∀ y, Below v5.heap.size v5 y → ∀ to' tn tc (z : World), World.ownsRow z B 27 1 (.slice to' tn tc) (R 4 ++ [Value.slice po an pc]).length (R 4 ++ [Value.slice po an pc]) → Gr y (rb 4) z (.slice to' tn tc) → (z.cell? ⟨x, 6, none⟩ = some (rb 4) ∧ z.frozen? ⟨x, 6, none⟩ = false) ∧ Hid (Sq9 (z.setCell ⟨x, 6, none⟩ (.slice to' tn tc)) B x b m b2 m2 P T X.2.2.2 X.2.2.2 M N ct ct K3 (upd9 (upd9 rb 3 (.slice qo qn qc)) 4 (.slice to' tn tc)) (upd9 (upd9 R 3 (R 3 ++ [Value.slice ao an ac])) 4 (R 4 ++ [Value.slice po an pc])) ∧ Cf (Mu x b m b2 m2 rb) v5 (z.setCell ⟨x, 6, none⟩ (.slice to' tn tc)))) := hidden (fun y hy to' tn tc z h1 h2 => by
  obtain ⟨p1, p2, p3⟩ := HS5.out.put hy 4 (by omega) _ _ h1 h2
  exact ⟨p1, hidden ⟨p2, p3.wide fun k e => e.elim (fun e => .inl (.inl e)) (fun e => Mu_row (i := 4) (by omega) e)⟩⟩)
 have e2 : upd9 rb 3 (.slice qo qn qc) 4 = rb 4 := rfl
 have c6 : v5.cell? ⟨x, 6, none⟩ = some (rb 4) := by simp [World.cell?, HS5.out.row, rowX, e2]
 obtain ⟨y, hy⟩ : ∃ y, v5.alloc (.cells #[.slice po an pc] 27) = y := ⟨_, rfl⟩
 have hby : Below v5.heap.size v5 y := by rw [← hy]; exact bl_al (Below.refl _ _) (Nat.le_refl _) _
 have hcy : y.cell? ⟨v5.heap.size, 0, none⟩ = some (.slice po an pc) := by rw [← hy]; simp
 have HY := hidden hby
 have HO : Hid (World.ownsRow y B 27 1 (rb 4) (R 4).length (R 4)) := hidden ((HS5.out.on hby).oo 4 (by omega))
 have hys : B ≤ y.heap.size := Nat.le_trans HS5.out.hB.1 (Nat.le_trans (Nat.le_of_lt (lt_some HS5.out.row)) hby.size)
 obtain ⟨r4, hr4⟩ : ∃ r, rb 4 = r := ⟨_, rfl⟩
 have HRR4 := hidden hr4
 rw [hr4] at c6 HO
 obtain ⟨vo4, vc4, e0, _⟩ := row_slice HO.out
 subst e0
 clear hr4 hby e2
 go_wp2_with (at_builtin; refine app_q9 _ rfl _ _ rfl B (R 4) _ (.slice po an pc) rfl rfl HO.out v5.heap.size rfl hcy (by omega) hys ?_; refine Hid.out ?_)
 apply hidden
 intro uo un uc z2 ho1 hg1
 obtain ⟨⟨d4, f4⟩, HX6⟩ := HPTb.out y HY.out uo un uc z2 (by rw [List.length_append]; exact ho1) (by rw [HRR4.out]; exact hg1)
 rw [HRR4.out] at d4
 clear ho1 hg1 hy hcy HO HY c6 HPTb
 go_upto_region 20 with fail
 obtain ⟨hs6, hc6⟩ := HX6.out
 clear HX6 d4 f4
 change Sq9 (z2.setCell ⟨x, 6, none⟩ (.slice uo un uc)) _ _ _ _ _ _ _ _ _ _ _ _ _ _ _ _ _ at hs6
 change Cf _ v5 (z2.setCell ⟨x, 6, none⟩ (.slice uo un uc)) at hc6
 generalize z2.setCell ⟨x, 6, none⟩ (.slice uo un uc) = v6 at *
 have HS6 := hidden hs6
 have HC36 : Hid (Cf (Mu x b m b2 m2 rb) v3 v6) := hidden (HC5.out.go hc6)
 clear hs6 hc6
 have HA6 : Hid (OwnJ v6 v1.heap.size (.slice ao an ac) X.2.1) := hidden (HA3.out.cf HC36.out (fun k hk e => by
  have h1 := (HLA.out k hk).1
  have h2 := HMB.out k e
  omega))
 have HC6 : Hid (OwnJ v6 v2.heap.size (.slice po an pc) X.2.1) := hidden (HC3.out.cf HC36.out (fun k hk e => by
  have h1 := (HLC.out k hk).1
  have h2 := HMB.out k e
  have h3 := HV12.out
  omega))
 have HSM := hidden (same9 v6 ao po an ac pc X.2.1 HA6.out.slj HC6.out.slj (by have := XL.out; have := HAN.out; omega))
 go_wp2_with (first
  | (go_at_call 25; refine HSM.out.mono ?_; rintro e v7 ⟨rfl, HB7⟩; refine Hid.out ?_))
 apply hidden
 clear HSM
 have HF : Hid (Pp9 v7 B x b m b2 m2 P T (t + 1) ∧ Cf (B ≤ ·) w v7) := hidden (by
  have hcw : Cf (Mu x b m b2 m2 rb) w v7 := (((Cf.of_below HB1.out).go HC13.out).go HC36.out).go (Cf.of_below HB7.out)
  have q1 := HLE.out
  have q2 := XR.out
  have hB1 : B ≤ v1.heap.size := Nat.le_trans HBS.out HB1.out.size
  have hin := HIT.out.moreK (L := K) hcw H.out (fun _ e => e)
  refine ⟨⟨_, M, N, ct, K3, _, _, FL, its, lss ++ [(.slice ao an ac, .slice po an pc, X.2.1)], HS6.out.on HB7.out, HCO.out, hin.list _ _ _ ((HA6.out.below HB7.out).low9 hB1) ((HC6.out.below HB7.out).low9 (Nat.le_trans hB1 HV12.out.1)) XL.out (fun k e => by rw [← HKE.out]; exact .inl (.inl e)) (fun g e => ⟨by rw [← HKE.out]; exact .inl (.inr (HLA.out g e)), fun q => ?_⟩) (fun g e => ⟨by rw [← HKE.out]; exact .inr (HLC.out g e), fun q => ?_⟩) ?_, by omega, by omega, ?_, by omega, by omega⟩, Cf.muB H.out hcw (fun _ e => e)⟩
  ·have h1 := (HLA.out g e).1
   have h2 := HKS.out g q
   have h3 := HSV.out
   omega
  ·have h1 := (HLC.out g e).1
   have h2 := HKS.out g q
   have h3 := HSV.out
   have h4 := HV12.out
   omega
  ·cases e : (Value.slice ao an ac).ownBlock with
   | none => exact .inl rfl
   | some g =>
    refine .inr fun q => ?_
    have h1 := (HLA.out g e).2
    have h2 := (HLC.out g q.symm).1
    omega
  ·rw [List.length_append]
   simp only [List.length_cons, List.length_nil]
   omega)
 clear HB7
 go_wp2
 go_ret
 exact ⟨rfl, HF⟩
end Go.Proofs.YtoejadhlkamcjaaDoor
