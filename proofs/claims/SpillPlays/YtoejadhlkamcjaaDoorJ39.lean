import Derived.Test.YtoejadhlkamcjaaDoorJ37
import Derived.Deep.RegionHeld
import Derived.Deep.Cut
namespace Go.Proofs.YtoejadhlkamcjaaDoor
set_option maxRecDepth 100000
open Go.RowKit Go.Maps
set_option maxHeartbeats 8000000 in
theorem play_2 {w : World} {B x b m b2 m2 P T t : Nat} (h : Pp9 w B x b m b2 m2 P T t) (ht : t ≤ 1100000) (_ : T ≤ 65534) (hp : pw P) (htb : Tab w) (hB0 : 0 < B) (k f n fr to : Int) (vo : Option Addr) (vn vc : Nat) (v : List Int)
  (hf : -9223372036854775808 ≤ f ∧ f ≤ 9223372036854775807) (hv : Sl w vo vn vc v) (hvb : vn = 0 ∨ ∀ p, vo = some p → p.block < B) (_ : vn ≤ 200000) (hk : k = 2) :
  Calls Tryd.prog 6 #[.pointer (some ⟨x, 0, none⟩), opV k f n fr to vo vn vc] w fun e u => e = .returned (.bool true) ∧ Hid (Pp9 u B x b m b2 m2 P T (t + 1) ∧ Cf (B ≤ ·) w u) := by
 subst hk
 obtain ⟨rd, M, N, ct, K, rb, R, FL, its, lss, hs, hco, hit, l1, l2, l3, hr0, hr1⟩ := h
 have hwf := fsN_wf hit.fl (wf64 f hf.1 hf.2)
 obtain ⟨z, hz⟩ : ∃ z, w.alloc (.cells #[.int .i64 2, .int .i64 f, .int .i64 n, .int .i64 fr, .int .i64 to, .slice vo vn vc] 35) = z := ⟨_, rfl⟩
 have hbz : Below w.heap.size w z := by rw [← hz]; exact bl_al (Below.refl _ _) (Nat.le_refl _) _
 obtain ⟨s, hs0⟩ : ∃ s, w.heap.size = s := ⟨_, rfl⟩
 have g0 : z.cell? ⟨s, 0, none⟩ = some (.int .i64 2) := by rw [← hz, ← hs0]; simp
 have g1 : z.cell? ⟨s, 1, none⟩ = some (.int .i64 f) := by rw [← hz, ← hs0]; simp
 have g2 : z.cell? ⟨s, 2, none⟩ = some (.int .i64 n) := by rw [← hz, ← hs0]; simp
 have g3 : z.cell? ⟨s, 3, none⟩ = some (.int .i64 fr) := by rw [← hz, ← hs0]; simp
 have g4 : z.cell? ⟨s, 4, none⟩ = some (.int .i64 to) := by rw [← hz, ← hs0]; simp
 have g5 : z.cell? ⟨s, 5, none⟩ = some (.slice vo vn vc) := by rw [← hz, ← hs0]; simp
 have hzs : s < z.heap.size := by rw [← hz, ← hs0]; simp
 have HFI := hidden (first9 (hs.on hbz) FL hit.r0 (by omega) 2 f n fr to vo vn vc hf)
 obtain ⟨n0, hn0⟩ : ∃ n0, fsN FL f = n0 := ⟨_, rfl⟩
 rw [hn0] at HFI hwf
 have HN0 := hidden hwf
 have H := hidden hs
 have HCO := hidden hco
 have HIT := hidden hit
 have HLE := hidden (And.intro l1 (And.intro l2 (And.intro l3 (And.intro hr0 hr1))))
 have HBZ := hidden hbz
 have HSW := hidden hs0
 have HMS : Hid (∀ q, Mu x b m b2 m2 rb q → q < s ∧ B ≤ q) := hidden (fun q hq => by have := hs.lts hq; omega)
 have HKS : Hid (∀ q, K q → q < s) := hidden (fun q hq => by have := (hs.kl q hq).1; omega)
 have HG : Hid (∀ i v, z.cell? ⟨s, i, none⟩ = some v → ∀ u, Below z.heap.size z u → u.cell? ⟨s, i, none⟩ = some v) := hidden (fun i v e u hu => (hu.cell (p := ⟨s, i, none⟩) hzs).trans e)
 have HG0 := hidden (And.intro g0 (And.intro g1 (And.intro g2 (And.intro g3 (And.intro g4 g5)))))
 have HZS := hidden hzs
 have HV := hidden hv
 have HVB := hidden hvb
 have HTB := hidden htb
 have HPW := hidden hp
 have hBw : B ≤ w.heap.size := Nat.le_trans hs.hB.1 (Nat.le_of_lt (lt_some hs.row))
 have HBS := hidden hBw
 clear hs hco hit hwf hn0 hbz hzs l1 l2 l3 hv hvb htb hp hBw
 go_enter Tryd.func6, Tryd.ntmps6
 go_wp2_with (first
  | (go_at_call 19; refine HFI.out.mono ?_; rintro e v1 ⟨rfl, HV1⟩; refine Hid.out ?_))
 apply hidden
 have HB1 : Hid (Below w.heap.size w v1) := hidden (bl_go HBZ.out (Nat.le_refl _) HV1.out)
 have HS1 : Hid (Sq9 v1 B x b m b2 m2 P T rd rd M N ct ct K rb R) := hidden (H.out.on HB1.out)
 have HSV : Hid (s < v1.heap.size) := hidden (Nat.lt_of_lt_of_le HZS.out HV1.out.size)
 obtain ⟨y0, y1, y2, y3, y4, y5⟩ := HG0.out
 have j0 := HG.out 0 _ y0 v1 HV1.out
 have j1 := HG.out 1 _ y1 v1 HV1.out
 have j2 := HG.out 2 _ y2 v1 HV1.out
 have j3 := HG.out 3 _ y3 v1 HV1.out
 have j4 := HG.out 4 _ y4 v1 HV1.out
 have j5 := HG.out 5 _ y5 v1 HV1.out
 have HT1 : Hid (Tab v1) := hidden (HTB.out.on HB1.out (by have := HBS.out; omega))
 have h01 : 0 < v1.heap.size := Nat.lt_of_le_of_lt (Nat.zero_le _) HSV.out
 have HV9 : Hid (Sl v1 vo vn vc v) := hidden (HV.out.on (Nat.le_refl _) HB1.out)
 have hrd : rd < 2305843009213693952 := by have := HLE.out.2.2.2.2; omega
 have hrd0 : 0 ≤ rd := HLE.out.2.2.2.1
 have HJ : Hid (∀ (F : Nat → Prop) (u : World), Cf F v1 u → (∀ q, F q → Mu x b m b2 m2 rb q) → ∀ i v, v1.cell? ⟨s, i, none⟩ = some v → u.cell? ⟨s, i, none⟩ = some v) := hidden (fun F u hc hF i v e => (World.cell?_of_block (hc.block s HSV.out (fun q => by have := (HMS.out s (hF s q)).1; omega))).trans e)
 clear HFI HG HG0 HV1 y0 y1 y2 y3 y4 y5 g0 g1 g2 g3 g4 g5 hz HSW
 obtain ⟨c0, c1⟩ := HS1.out.cells
 have HR : Hid (∀ u, Below v1.heap.size v1 u → Calls Tryd.prog 12 #[iB b, .int .i64 n0, .int .i64 n] u fun e w' => ∃ bo bn bc kk, e = .returned (.tuple #[.slice bo bn bc, .int .i64 kk]) ∧ Hid ((rdR M P n0 n rd).1 = kk ∧ OwnB w' v1.heap.size (.slice bo bn bc) (rdR M P n0 n rd).2.2.1 ∧ bn = (rdR M P n0 n rd).2.2.1.length ∧ Bn w' b m 2 (P : Int) ((T : Int) + 2) (rdR M P n0 n rd).2.2.2 M ct ∧ Cf (· = b) v1 w')) := hidden (fun u hu => by
  refine (read_g ((HS1.out.br).on hu) HPW.out n0 n HN0.out hrd hrd0 (HT1.out.on hu h01) (Nat.lt_of_lt_of_le h01 hu.size) (by have := (HMS.out b (.inl (.inr (.inl rfl)))).2; omega)).mono ?_
  rintro e w' ⟨bo, bn, bc, kk, rfl, hq⟩
  obtain ⟨q1, q2, q3, q4, q5⟩ := hq.out
  exact ⟨bo, bn, bc, kk, rfl, hidden ⟨q1, q2.low hu.size, q3, q4, (Cf.of_below hu).go q5⟩⟩)
 obtain ⟨X, hX⟩ : ∃ X, rdR M P n0 n rd = X := ⟨_, rfl⟩
 rw [hX] at HR
 have HXE := hidden hX
 have XW : Hid (X.2.2.1.length ≤ 65536 ∧ Wf X.2.2.1) := hidden (by rw [← hX]; exact ⟨(rdR_len (first := n0) (n := n) (rd := rd) HPW.out H.out.br.wfs).1, (rdR_len (first := n0) (n := n) (rd := rd) HPW.out H.out.br.wfs).2.1⟩)
 have XR : Hid (rd ≤ X.2.2.2 ∧ X.2.2.2 ≤ rd + 65536) := hidden (by rw [← hX]; exact rdR_reads HPW.out)
 clear hX
 have HSF : Hid (∀ (F : Nat → Prop) (u : World), Cf F v1 u → (∀ q, F q → q = b) → Sa9 x 0 (pB b) s n u) := hidden (fun F u hc hq => by
  have hxb : x < v1.heap.size := lt_some HS1.out.row
  have hxn : ¬ F x := fun e => absurd (hq x e) HS1.out.d1.1
  have hsn : ¬ F s := fun e => by have := hq s e; have := (HMS.out b (.inl (.inr (.inl rfl)))).1; omega
  have hsl : s < v1.heap.size := HSV.out
  exact ⟨(World.cell?_of_block (hc.block x hxb hxn)).trans c0, (World.cell?_of_block (hc.block s hsl hsn)).trans j2⟩)
 go_upto_region 6 with fail
 refine wp_region_held_drew (S := Sa9 x 0 (pB b) s n) (by kernel_rfl) (HSF.out (fun _ => False) _ (Cf.of_below (Below.refl _ _).drew) (fun _ e => e.elim)) (fun hHeld => ?_)
 refine wpAnyH_take (i := 0) (v := ?_) rfl (by kernel_rfl) (by kernel_rfl) (by kernel_rfl) (fun _ _ _ h => h) (Or.inl ⟨by rfl, ?_⟩) (by assumption) ?_
 rotate_left
 ·(intro w hSw; obtain ⟨q0, q1⟩ := hSw; go_simp; try (with_reducible rfl))
 try simp only [Act.put, List.getElem_toArray, List.getElem_cons_zero, List.setIfInBounds_toArray, List.set_cons_zero, List.set_cons_succ]
 refine wpAnyH_take (i := 1) (v := ?_) rfl (by kernel_rfl) (by kernel_rfl) (by kernel_rfl) (fun _ _ _ h => h) (Or.inl ⟨by rfl, ?_⟩) (by assumption) ?_
 rotate_left
 ·(intro w hSw; obtain ⟨q0, q1⟩ := hSw; go_simp; try (with_reducible rfl))
 try simp only [Act.put, List.getElem_toArray, List.getElem_cons_succ, List.getElem_cons_zero, List.setIfInBounds_toArray, List.set_cons_zero, List.set_cons_succ]
 refine wpAnyH_take (i := 2) (v := ?_) rfl (by kernel_rfl) (by kernel_rfl) (by kernel_rfl) (fun _ _ _ h => h) (Or.inl ⟨by rfl, ?_⟩) (by assumption) ?_
 rotate_left
 ·(intro w hSw; obtain ⟨q0, q1⟩ := hSw; go_simp; try (with_reducible rfl))
 try simp only [Act.put, List.getElem_toArray, List.getElem_cons_succ, List.getElem_cons_zero, List.setIfInBounds_toArray, List.set_cons_zero, List.set_cons_succ]
 refine wpAnyH_take (i := 3) (v := ?_) rfl (by kernel_rfl) (by kernel_rfl) (by kernel_rfl) (fun _ _ _ h => h) (Or.inl ⟨by rfl, ?_⟩) (by assumption) ?_
 rotate_left
 ·(intro w hSw; obtain ⟨q0, q1⟩ := hSw; go_simp; try (with_reducible rfl))
 try simp only [Act.put, List.getElem_toArray, List.getElem_cons_succ, List.getElem_cons_zero, List.setIfInBounds_toArray, List.set_cons_zero, List.set_cons_succ]
 refine wpAnyH_take (i := 4) (v := ?_) rfl (by kernel_rfl) (by kernel_rfl) (by kernel_rfl) (fun _ _ _ h => h) (Or.inl ⟨by rfl, ?_⟩) (by assumption) ?_
 rotate_left
 ·(intro w hSw; obtain ⟨q0, q1⟩ := hSw; go_simp; try (with_reducible rfl))
 try simp only [Act.put, List.getElem_toArray, List.getElem_cons_succ, List.getElem_cons_zero, List.setIfInBounds_toArray, List.set_cons_zero, List.set_cons_succ]
 refine wpAnyH_take (i := 5) (v := ?_) rfl (by kernel_rfl) (by kernel_rfl) (by kernel_rfl) (fun _ _ _ h => h) (Or.inl ⟨by rfl, ?_⟩) (by assumption) ?_
 rotate_left
 ·(intro w hSw; obtain ⟨q0, q1⟩ := hSw; go_simp; try (with_reducible rfl))
 try simp only [Act.put, List.getElem_toArray, List.getElem_cons_succ, List.getElem_cons_zero, List.setIfInBounds_toArray, List.set_cons_zero, List.set_cons_succ]
 refine wpAnyH_take (i := 6) (v := ?_) rfl (by kernel_rfl) (by kernel_rfl) (by kernel_rfl) (fun _ _ _ h => h) (Or.inl ⟨by rfl, ?_⟩) (by assumption) ?_
 rotate_left
 ·(intro w hSw; obtain ⟨q0, q1⟩ := hSw; go_simp; try (with_reducible rfl))
 try simp only [Act.put, List.getElem_toArray, List.getElem_cons_succ, List.getElem_cons_zero, List.setIfInBounds_toArray, List.set_cons_zero, List.set_cons_succ]
 refine wpAnyH_take (i := 7) (v := ?_) rfl (by kernel_rfl) (by kernel_rfl) (by kernel_rfl) (fun _ _ _ h => h) (Or.inl ⟨by rfl, ?_⟩) (by assumption) ?_
 rotate_left
 ·(intro w hSw; obtain ⟨q0, q1⟩ := hSw; go_simp; try (with_reducible rfl))
 try simp only [Act.put, List.getElem_toArray, List.getElem_cons_succ, List.getElem_cons_zero, List.setIfInBounds_toArray, List.set_cons_zero, List.set_cons_succ]
 refine wpAnyH_ready (rs := [8]) (by kernel_rfl) (by simp) ?_
 refine AllReadyH.cons rfl (fun K hK => ?_) AllReadyH.nil
 go_simp
 go_at_call 12
 refine (HR.out _ (Below.refl _ _).drew).mono ?_
 rintro e v2 ⟨bo, bn, bc, kk, rfl, HQ⟩
 dsimp only
 refine hK.out _ _ (HSF.out _ _ HQ.out.2.2.2.2 (fun _ e => e)) (fun hHeld => ?_)
 clear hK K
 try simp only [Act.put, List.getElem_toArray, List.getElem_cons_succ, List.getElem_cons_zero, List.setIfInBounds_toArray, List.set_cons_zero, List.set_cons_succ]
 refine wpAnyH_take (i := 9) (v := ?_) rfl (by kernel_rfl) (by kernel_rfl) (by kernel_rfl) (fun _ _ _ h => h) (Or.inl ⟨by rfl, ?_⟩) (by assumption) ?_
 rotate_left
 ·(intro w hSw; obtain ⟨q0, q1⟩ := hSw; go_simp; try (with_reducible rfl))
 try simp only [Act.put, List.getElem_toArray, List.getElem_cons_succ, List.getElem_cons_zero, List.setIfInBounds_toArray, List.set_cons_zero, List.set_cons_succ]
 refine wpAnyH_take (i := 10) (v := ?_) rfl (by kernel_rfl) (by kernel_rfl) (by kernel_rfl) (fun _ _ _ h => h) (Or.inl ⟨by rfl, ?_⟩) (by assumption) ?_
 rotate_left
 ·(intro w hSw; obtain ⟨q0, q1⟩ := hSw; go_simp; try (with_reducible rfl))
 try simp only [Act.put, List.getElem_toArray, List.getElem_cons_succ, List.getElem_cons_zero, List.setIfInBounds_toArray, List.set_cons_zero, List.set_cons_succ]
 refine wpAnyH_take (i := 11) (v := ?_) rfl (by kernel_rfl) (by kernel_rfl) (by kernel_rfl) (fun _ _ _ h => h) (Or.inl ⟨by rfl, ?_⟩) (by assumption) ?_
 rotate_left
 ·(intro w hSw; obtain ⟨q0, q1⟩ := hSw; go_simp; try (with_reducible rfl))
 try simp only [Act.put, List.getElem_toArray, List.getElem_cons_succ, List.getElem_cons_zero, List.setIfInBounds_toArray, List.set_cons_zero, List.set_cons_succ]
 refine wpAnyH_take (i := 12) (v := ?_) rfl (by kernel_rfl) (by kernel_rfl) (by kernel_rfl) (fun _ _ _ h => h) (Or.inl ⟨by rfl, ?_⟩) (by assumption) ?_
 rotate_left
 ·(intro w hSw; obtain ⟨q0, q1⟩ := hSw; go_simp; try (with_reducible rfl))
 try simp only [Act.put, List.getElem_toArray, List.getElem_cons_succ, List.getElem_cons_zero, List.setIfInBounds_toArray, List.set_cons_zero, List.set_cons_succ]
 refine wpAnyH_take (i := 13) (v := ?_) rfl (by kernel_rfl) (by kernel_rfl) (by kernel_rfl) (fun _ _ _ h => h) (Or.inl ⟨by rfl, ?_⟩) (by assumption) ?_
 rotate_left
 ·(intro w hSw; obtain ⟨q0, q1⟩ := hSw; go_simp; try (with_reducible rfl))
 try simp only [Act.put, List.getElem_toArray, List.getElem_cons_succ, List.getElem_cons_zero, List.setIfInBounds_toArray, List.set_cons_zero, List.set_cons_succ]
 refine wpAnyH_done (by kernel_rfl) ?_ _
 clear hHeld
 clear HR HSF
 have hs2 := HS1.out.actr HQ.out.2.2.2.1 (HQ.out.2.2.2.2.wide fun k e => .inl e) HS1.out.gM (Zs.refl _ _)
 have HS2 := hidden hs2
 have HQ2 := hidden HQ.out
 have k2 := HJ.out _ v2 (HQ.out.2.2.2.2.wide fun k e => .inl e) (Mu_r (m := m) (rb := rb)) 2 _ j2
 have k3 := HJ.out _ v2 (HQ.out.2.2.2.2.wide fun k e => .inl e) (Mu_r (m := m) (rb := rb)) 3 _ j3
 have k4 := HJ.out _ v2 (HQ.out.2.2.2.2.wide fun k e => .inl e) (Mu_r (m := m) (rb := rb)) 4 _ j4
 have HRD2 : Hid (∀ u, Below v2.heap.size v2 u → Calls Tryd.prog 21 #[pB b2, .int .i64 n0, .int .i64 n] u fun e w' => ∃ bo bn bc kk, e = .returned (.tuple #[.slice bo bn bc, .int .i64 kk]) ∧ Hid (X.1 = kk ∧ Sl w' bo bn bc X.2.2.1 ∧ (∀ p, bo = some p → v2.heap.size ≤ p.block) ∧ Bn w' b2 m2 2 (P : Int) ((T : Int) + 2) X.2.2.2 N ct ∧ Cf (· = b2) v2 w')) := hidden (fun u hu => by
  rw [← HXE.out]
  have XW : Hid ((rdR M P n0 n rd).2.2.1.length ≤ 65536 ∧ Wf (rdR M P n0 n rd).2.2.1) := hidden (by rw [HXE.out]; exact XW.out)
  refine (rread_g (HS2.out.bd.on hu) HPW.out n0 n HN0.out hrd hrd0).mono ?_
  rintro e w' ⟨bo, bn, bc, kk, rfl, hq⟩
  obtain ⟨q1, q2, q3, q4, q5⟩ := hq.out
  rw [← rdR_con HCO.out] at q1 q2 q3 q4
  obtain ⟨ao', c', e, hh, hlow⟩ := q2.sl XW.out.2 (by have := XW.out.1; omega)
  injection e with e1 e2 e3
  subst e1 e3
  rw [← q3] at hh
  exact ⟨_, bn, _, kk, rfl, hidden ⟨q1, hh, fun p e => Nat.le_trans hu.size (hlow p e), q4, (Cf.of_below hu).go q5⟩⟩)
 obtain ⟨_, d1⟩ := hs2.cells
 clear hs2 c0 c1 j0 j1 j2 j3 j4 j5 HQ
 have HSF2 : Hid (∀ (F : Nat → Prop) (u : World), Cf F v2 u → (∀ q, F q → q = b2) → Sa9 x 1 (pB b2) s n u) := hidden (fun F u hc hq => by
  have hxb : x < v2.heap.size := lt_some HS2.out.row
  have hxn : ¬ F x := fun e => absurd (hq x e) HS2.out.d1.2.2.1
  have hsn : ¬ F s := fun e => by have := hq s e; have := (HMS.out b2 (.inl (.inr (.inr (.inr (.inl rfl)))))).1; omega
  have hsl : s < v2.heap.size := Nat.lt_of_lt_of_le HSV.out HQ2.out.2.2.2.2.size
  exact ⟨(World.cell?_of_block (hc.block x hxb hxn)).trans d1, (World.cell?_of_block (hc.block s hsl hsn)).trans k2⟩)
 go_upto_region 7 with fail
 refine wp_region_held_drew (S := Sa9 x 1 (pB b2) s n) (by kernel_rfl) (HSF2.out (fun _ => False) _ (Cf.of_below (Below.refl _ _).drew) (fun _ e => e.elim)) (fun hHeld => ?_)
 refine wpAnyH_take (i := 0) (v := ?_) rfl (by kernel_rfl) (by kernel_rfl) (by kernel_rfl) (fun _ _ _ h => h) (Or.inl ⟨by rfl, ?_⟩) (by assumption) ?_
 rotate_left
 ·(intro w hSw; obtain ⟨q0, q1⟩ := hSw; go_simp; try (with_reducible rfl))
 try simp only [Act.put, List.getElem_toArray, List.getElem_cons_zero, List.setIfInBounds_toArray, List.set_cons_zero, List.set_cons_succ]
 refine wpAnyH_take (i := 1) (v := ?_) rfl (by kernel_rfl) (by kernel_rfl) (by kernel_rfl) (fun _ _ _ h => h) (Or.inl ⟨by rfl, ?_⟩) (by assumption) ?_
 rotate_left
 ·(intro w hSw; obtain ⟨q0, q1⟩ := hSw; go_simp; try (with_reducible rfl))
 try simp only [Act.put, List.getElem_toArray, List.getElem_cons_succ, List.getElem_cons_zero, List.setIfInBounds_toArray, List.set_cons_zero, List.set_cons_succ]
 refine wpAnyH_take (i := 2) (v := ?_) rfl (by kernel_rfl) (by kernel_rfl) (by kernel_rfl) (fun _ _ _ h => h) (Or.inl ⟨by rfl, ?_⟩) (by assumption) ?_
 rotate_left
 ·(intro w hSw; obtain ⟨q0, q1⟩ := hSw; go_simp; try (with_reducible rfl))
 try simp only [Act.put, List.getElem_toArray, List.getElem_cons_succ, List.getElem_cons_zero, List.setIfInBounds_toArray, List.set_cons_zero, List.set_cons_succ]
 refine wpAnyH_take (i := 3) (v := ?_) rfl (by kernel_rfl) (by kernel_rfl) (by kernel_rfl) (fun _ _ _ h => h) (Or.inl ⟨by rfl, ?_⟩) (by assumption) ?_
 rotate_left
 ·(intro w hSw; obtain ⟨q0, q1⟩ := hSw; go_simp; try (with_reducible rfl))
 try simp only [Act.put, List.getElem_toArray, List.getElem_cons_succ, List.getElem_cons_zero, List.setIfInBounds_toArray, List.set_cons_zero, List.set_cons_succ]
 refine wpAnyH_take (i := 4) (v := ?_) rfl (by kernel_rfl) (by kernel_rfl) (by kernel_rfl) (fun _ _ _ h => h) (Or.inl ⟨by rfl, ?_⟩) (by assumption) ?_
 rotate_left
 ·(intro w hSw; obtain ⟨q0, q1⟩ := hSw; go_simp; try (with_reducible rfl))
 try simp only [Act.put, List.getElem_toArray, List.getElem_cons_succ, List.getElem_cons_zero, List.setIfInBounds_toArray, List.set_cons_zero, List.set_cons_succ]
 refine wpAnyH_take (i := 5) (v := ?_) rfl (by kernel_rfl) (by kernel_rfl) (by kernel_rfl) (fun _ _ _ h => h) (Or.inl ⟨by rfl, ?_⟩) (by assumption) ?_
 rotate_left
 ·(intro w hSw; obtain ⟨q0, q1⟩ := hSw; go_simp; try (with_reducible rfl))
 try simp only [Act.put, List.getElem_toArray, List.getElem_cons_succ, List.getElem_cons_zero, List.setIfInBounds_toArray, List.set_cons_zero, List.set_cons_succ]
 refine wpAnyH_take (i := 6) (v := ?_) rfl (by kernel_rfl) (by kernel_rfl) (by kernel_rfl) (fun _ _ _ h => h) (Or.inl ⟨by rfl, ?_⟩) (by assumption) ?_
 rotate_left
 ·(intro w hSw; obtain ⟨q0, q1⟩ := hSw; go_simp; try (with_reducible rfl))
 try simp only [Act.put, List.getElem_toArray, List.getElem_cons_succ, List.getElem_cons_zero, List.setIfInBounds_toArray, List.set_cons_zero, List.set_cons_succ]
 refine wpAnyH_ready (rs := [7]) (by kernel_rfl) (by simp) ?_
 refine AllReadyH.cons rfl (fun K hK => ?_) AllReadyH.nil
 go_simp
 go_at_call 21
 refine (HRD2.out _ (Below.refl _ _).drew).mono ?_
 rintro e v3 ⟨po, pn, pc, k9, rfl, HQ3⟩
 dsimp only
 refine hK.out _ _ (HSF2.out _ _ HQ3.out.2.2.2.2 (fun _ e => e)) (fun hHeld => ?_)
 clear hK K
 try simp only [Act.put, List.getElem_toArray, List.getElem_cons_succ, List.getElem_cons_zero, List.setIfInBounds_toArray, List.set_cons_zero, List.set_cons_succ]
 refine wpAnyH_take (i := 8) (v := ?_) rfl (by kernel_rfl) (by kernel_rfl) (by kernel_rfl) (fun _ _ _ h => h) (Or.inl ⟨by rfl, ?_⟩) (by assumption) ?_
 rotate_left
 ·(intro w hSw; obtain ⟨q0, q1⟩ := hSw; go_simp; try (with_reducible rfl))
 try simp only [Act.put, List.getElem_toArray, List.getElem_cons_succ, List.getElem_cons_zero, List.setIfInBounds_toArray, List.set_cons_zero, List.set_cons_succ]
 refine wpAnyH_take (i := 9) (v := ?_) rfl (by kernel_rfl) (by kernel_rfl) (by kernel_rfl) (fun _ _ _ h => h) (Or.inl ⟨by rfl, ?_⟩) (by assumption) ?_
 rotate_left
 ·(intro w hSw; obtain ⟨q0, q1⟩ := hSw; go_simp; try (with_reducible rfl))
 try simp only [Act.put, List.getElem_toArray, List.getElem_cons_succ, List.getElem_cons_zero, List.setIfInBounds_toArray, List.set_cons_zero, List.set_cons_succ]
 refine wpAnyH_take (i := 10) (v := ?_) rfl (by kernel_rfl) (by kernel_rfl) (by kernel_rfl) (fun _ _ _ h => h) (Or.inl ⟨by rfl, ?_⟩) (by assumption) ?_
 rotate_left
 ·(intro w hSw; obtain ⟨q0, q1⟩ := hSw; go_simp; try (with_reducible rfl))
 try simp only [Act.put, List.getElem_toArray, List.getElem_cons_succ, List.getElem_cons_zero, List.setIfInBounds_toArray, List.set_cons_zero, List.set_cons_succ]
 refine wpAnyH_take (i := 11) (v := ?_) rfl (by kernel_rfl) (by kernel_rfl) (by kernel_rfl) (fun _ _ _ h => h) (Or.inl ⟨by rfl, ?_⟩) (by assumption) ?_
 rotate_left
 ·(intro w hSw; obtain ⟨q0, q1⟩ := hSw; go_simp; try (with_reducible rfl))
 try simp only [Act.put, List.getElem_toArray, List.getElem_cons_succ, List.getElem_cons_zero, List.setIfInBounds_toArray, List.set_cons_zero, List.set_cons_succ]
 refine wpAnyH_take (i := 12) (v := ?_) rfl (by kernel_rfl) (by kernel_rfl) (by kernel_rfl) (fun _ _ _ h => h) (Or.inl ⟨by rfl, ?_⟩) (by assumption) ?_
 rotate_left
 ·(intro w hSw; obtain ⟨q0, q1⟩ := hSw; go_simp; try (with_reducible rfl))
 try simp only [Act.put, List.getElem_toArray, List.getElem_cons_succ, List.getElem_cons_zero, List.setIfInBounds_toArray, List.set_cons_zero, List.set_cons_succ]
 refine wpAnyH_done (by kernel_rfl) ?_ _
 clear hHeld
 clear HRD2 HSF2 k2 k3 k4 d1
 have hs3 := HS2.out.actd HQ3.out.2.2.2.1 (HQ3.out.2.2.2.2.wide fun k e => .inl e) HS2.out.gN (Zs.refl _ _)
 have HS3 := hidden hs3
 obtain rfl : kk = k9 := HQ2.out.1.symm.trans HQ3.out.1
 have hpl := HQ3.out.2.1.hlen
 have hbl := HQ2.out.2.2.1
 obtain rfl : bn = pn := by omega
 have HO3 : Hid (OwnB v3 v1.heap.size (.slice bo bn bc) X.2.2.1) := hidden (HQ2.out.2.1.cf HQ3.out.2.2.2.2 (fun k hk e => by
  have h1 := (HQ2.out.2.1.blk hk).1
  have h2 := (HMS.out b2 (.inl (.inr (.inr (.inr (.inl rfl)))))).1
  have h3 := HSV.out
  omega))
 have HSA : Hid (Sl v3 bo bn bc X.2.2.1) := hidden (HO3.out.sl2 XW.out.2 (by have := XW.out.1; omega))
 have HDA : Hid (∀ p, bo = some p → ¬ Mu x b m b2 m2 rb p.block) := hidden (fun p e q => by
  subst e
  have h1 := (HO3.out.blk (k := p.block) rfl).1
  have h2 := (HMS.out _ q).1
  have h3 := HSV.out
  omega)
 have HDB : Hid (∀ p, po = some p → ¬ Mu x b m b2 m2 rb p.block) := hidden (fun p e q => by
  have h1 := HQ3.out.2.2.1 p e
  have h2 := (HMS.out _ q).1
  have h3 := HSV.out
  have h4 := HQ2.out.2.2.2.2.size
  omega)
 have HTO := hidden (told9 hs3 bo po bn bc pc _ HSA.out HQ3.out.2.1 HDA.out HDB.out (by rw [HIT.out.r1, List.length_map]; have := HLE.out.2.1; omega) (by rw [HIT.out.r2, List.length_map]; have := HLE.out.2.1; omega))
 have hkk : (kk == kk) = true := by simp
 have HC13 : Hid (Cf (Mu x b m b2 m2 rb) v1 v3) := hidden ((HQ2.out.2.2.2.2.wide fun k e => Mu_r k (.inl e)).go (HQ3.out.2.2.2.2.wide fun k e => Mu_d k (.inl e)))
 clear hs3 hpl hbl
 go_wp2_with (first
  | (go_at_call 22; refine HTO.out.mono ?_; rintro e v4 ⟨rfl, HT4⟩; refine Hid.out ?_))
 apply hidden
 clear HTO
 have HF : Hid (Pp9 v4 B x b m b2 m2 P T (t + 1) ∧ Cf (B ≤ ·) w v4) := hidden (by
  obtain ⟨u1, u2, p1, p2⟩ := HT4.out
  have hcw : Cf (Mu x b m b2 m2 rb) w v4 := ((Cf.of_below HB1.out).go HC13.out).go p2
  have hKM : ∀ k, K k → ¬ Mu x b m b2 m2 rb k := fun k hk => (H.out.kl k hk).2
  have hit4 := HIT.out.cf (L := K) hcw hKM (fun _ e => e)
  have hown : OwnB v4 B (.slice bo bn bc) X.2.2.1 := (HO3.out.cf p2 (fun k hk e => by
   have h1 := (HO3.out.blk hk).1
   have h2 := (HMS.out _ e).1
   have h3 := HSV.out
   omega)).low (by have := HBS.out; have := HB1.out.size; omega)
  have hin : ∀ g, (Value.slice bo bn bc).ownBlock = some g → Kx (Kx K v1 v2) v2 v3 g ∧ ¬ K g := fun g e => by
   have h1 := HQ2.out.2.1.blk e
   refine ⟨.inl (.inr h1), fun q => ?_⟩
   have h2 := HKS.out g q
   have h3 := HSV.out
   omega
  refine ⟨⟨_, M, N, ct, _, _, _, FL, its ++ [(.slice bo bn bc, X.2.2.1)], lss, p1, HCO.out, hit4.told _ _ hown XW.out.2 XW.out.1 (fun k e => .inl (.inl e)) hin, ?_⟩, Cf.muB H.out hcw (fun _ e => e)⟩
  have q1 := HLE.out
  have q2 := XR.out
  rw [List.length_append]
  simp only [List.length_cons, List.length_nil]
  refine ⟨by omega, by omega, by omega, by omega, by omega⟩)
 clear HT4
 go_wp2
 go_ret
 exact ⟨rfl, HF⟩
end Go.Proofs.YtoejadhlkamcjaaDoor
