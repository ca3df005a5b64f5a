import Derived.Test.YtbkhjeacmmbabaaGreatDoorJ36
import Derived.Deep.DeepCutAuto
import Derived.Deep.CutRange
import Derived.Deep.RegionHeld
namespace Go.Proofs.YtbkhjeacmmbabaaGreatDoor
set_option maxRecDepth 100000
set_option maxHeartbeats 4000000
open Go.RowKit
def ReadQ7 (l : List Int) (w : World) (e : Ending) (w' : World) : Prop :=
 ∃ po, e = .returned (.pointer po) ∧ Hid (Below w.heap.size w w') ∧ Hid ((po = none ∧ zay l = none) ∨ ∃ a qo qn qc vb vs P cs, po = some ⟨a, 0, none⟩ ∧ zay l = some (P, cs) ∧ (∃ gp, qo = some ⟨gp, 0, none⟩ ∧ w.heap.size ≤ gp) ∧ PO w' w.heap.size a (l.getD 0 0) l.length qo qn qc vb vs 0 P (qbd P.length (whl (l.getD 0 0)) cs) (qst P.length (whl (l.getD 0 0)) 0 cs))
theorem ReadQ7.no {l : List Int} {w w' : World} (hb : Below w.heap.size w w') (h : zay l = none) : ReadQ7 l w (.returned (.pointer none)) w' := ⟨none, rfl, zaa hb, zaa (.inl ⟨rfl, h⟩)⟩
theorem readQ_tail7 (ao : Option Addr) (n cap : Nat) (l : List Int) (w : World) (hs : Sl w ao n cap l) (hn : pw n) (hk : isKd (l.getD 0 0)) :
  Calls Tryz.prog 91 #[.slice ao n cap] w fun e w' => ReadQ7 l w e w' := by
 have hn2 := zao hn
 have hn3 := hn2.1
 have hn4 := hn2.2
 have hlen := hs.hlen
 have hcap := hs.hcap
 obtain ⟨b, off, rfl, hbl, hc⟩ : ∃ b off, ao = some ⟨b, off, none⟩ ∧ b < w.heap.size ∧ ∀ i, i < n → w.cell? ⟨b, off + i, none⟩ = some (.int .u8 (l.getD i 0)) := by
  rcases hs.hat with h | h
  ·omega
  ·exact h
 have c0 := hc 0 (by omega)
 rw [Nat.add_zero] at c0
 have HC0 : Hid (∀ u, Below w.heap.size w u → u.cell? ⟨b, off, none⟩ = some (.int .u8 (l.getD 0 0))) := zaa fun u hu => (hu.cell (p := ⟨b, off, none⟩) hbl).trans c0
 have hk0 := hs.wf.getD 0
 have hN := zbh l hs.wf 2 2
 have hG4 := zbh l hs.wf 4 2
 obtain ⟨N, hNe⟩ := Int.eq_ofNat_of_zero_le hN.1
 obtain ⟨G, hGe⟩ := Int.eq_ofNat_of_zero_le hG4.1
 obtain ⟨E, hEe⟩ : ∃ E, n - 4 = E := ⟨_, rfl⟩
 have hEI : (n : Int) - 4 = (E : Int) := by omega
 obtain ⟨SL, hSL⟩ : ∃ SL, 6 + G = SL := ⟨_, rfl⟩
 have hSLI : 6 + (G : Int) = (SL : Int) := by omega
 obtain ⟨F, hF⟩ : ∃ F, SL + N * 2 = F := ⟨_, rfl⟩
 have hFI : (SL : Int) + (N : Int) * 2 = (F : Int) := by omega
 have HE : Hid (zay l = (if (E : Int) < (F : Int) then none else (zba (l.getD 0 0) n ((l.drop 6).take G) N (whl (l.getD 0 0)) none ((l.drop F).take (E - F))).map fun x => ((l.drop 6).take G, x.1))) := by
  refine zaa ?_
  have e1 : frsQ l = (F : Int) := by unfold frsQ; rw [hNe, hGe]; omega
  unfold zay
  rw [hlen, if_pos ⟨hn, hk⟩, e1, hEI, hNe, hGe, Int.toNat_natCast, Int.toNat_natCast, Int.toNat_natCast, hEe]
 have hNb : N < 65536 := by omega
 have hGb : G < 65536 := by omega
 have HS2 : Hid (Calls Tryz.prog 131 #[.slice (some ⟨b, off, none⟩) n cap, .int .i64 2] w fun e u' => e = .returned (.int .i64 (N : Int)) ∧ Hid (Below w.heap.size w u')) := by
  have := zed w (some ⟨b, off, none⟩) n cap 2 l hs (by omega)
  rw [hNe] at this
  refine zaa ((show Calls Tryz.prog 131 #[.slice (some ⟨b, off, none⟩) n cap, .int .i64 2] w _ from this).mono ?_)
  rintro e u' ⟨rfl, q, rfl⟩
  exact ⟨rfl, zaa (zab Br _)⟩
 have HS4 : Hid (∀ u, Below w.heap.size w u → Calls Tryz.prog 131 #[.slice (some ⟨b, off, none⟩) n cap, .int .i64 4] u fun e u' => e = .returned (.int .i64 (G : Int)) ∧ Hid (Below w.heap.size w u')) := by
  refine zaa fun u hu => ?_
  have := zed u (some ⟨b, off, none⟩) n cap 4 l (hs.on Lr hu) (by omega)
  rw [hGe] at this
  refine (show Calls Tryz.prog 131 #[.slice (some ⟨b, off, none⟩) n cap, .int .i64 4] u _ from this).mono ?_
  rintro e u' ⟨rfl, q, rfl⟩
  exact ⟨rfl, zaa (zab hu _)⟩
 obtain ⟨k0, hk0e⟩ : ∃ k0, l.getD 0 0 = k0 := ⟨_, rfl⟩
 rw [hk0e] at c0 hk0 hk HE HC0
 have d1 : decide (pw (n : Int)) = true := decide_eq_true hn
 have d2 : decide (isKd k0) = true := decide_eq_true hk
 have hw0 : IntKind.i64.wrap k0 = k0 := by rw [IntKind.wrap_i64]; omega
 have HPW := zaa hn
 have HKE := zaa hk0e
 have HLEN := zaa hlen
 have HS := zaa hs
 have bN : (N : Int) < 65536 := by omega
 have bG : (G : Int) < 65536 := by omega
 have bE : (E : Int) ≤ 65536 := by omega
 have bS : (SL : Int) ≤ 131072 := by omega
 have bF : (F : Int) ≤ 262144 := by omega
 have k01 := hk0.1
 have k02 := hk0.2
 have hn0 : (0 : Int) < (n : Int) := by omega
 clear hs hc hk hn hNe hGe hN hG4 hk0e hlen hk0 hn2 hbl
 go_enter Tryz.func91, Tryz.ntmps91
 go_wp2_with (first | (go_at_call 31; refine zac (zbi _ _) ?_; rw [d1]) | (go_at_call 78; refine zac (zbv _ _) ?_; rw [d2]) | (go_at_call 131; refine HS2.out.mono ?_; rintro e u1 ⟨rfl, HB1⟩; refine Hid.out ?_))
 apply zaa
 have HS4' := zaa (HS4.out u1 HB1.out)
 clear HS2 HS4 c0
 go_wp2_with (go_at_call 131; refine HS4'.out.mono ?_; rintro e u2 ⟨rfl, HB2⟩; refine Hid.out ?_)
 apply zaa
 clear HS4' HB1
 by_cases h1 : (E : Int) < (F : Int)
 ·have HNO : Hid (zay l = none) := zaa (by rw [HE.out, if_pos h1])
  go_wp2
  go_ret
  exact ReadQ7.no HB2.out HNO.out
 ·obtain ⟨bn, hbn⟩ : ∃ bn, E - F = bn := ⟨_, rfl⟩
  obtain ⟨BD, hBD⟩ : ∃ BD, (l.drop F).take (E - F) = BD := ⟨_, rfl⟩
  obtain ⟨P, hP⟩ : ∃ P, (l.drop 6).take G = P := ⟨_, rfl⟩
  have HRM : Hid (zay l = (zba k0 n P N (whl k0) none BD).map fun x => (P, x.1)) := zaa (by rw [HE.out, if_neg h1, hBD, hP])
  have HBL : Hid (BD.length = bn) := zaa (by rw [← hBD, zJ, zK, HLEN.out]; omega)
  have HPL : Hid (P.length = G) := zaa (by rw [← hP, zJ, zK, HLEN.out]; omega)
  have HBW : Hid (Wf BD) := zaa (by rw [← hBD]; exact (HS.out.wf.drop _).take _)
  have HPWF : Hid (Wf P) := zaa (by rw [← hP]; exact (HS.out.wf.drop _).take _)
  have e0 : F ≤ E := by omega
  have e1 : (F : Int) ≤ (E : Int) := by omega
  have e2 : E ≤ cap := by omega
  have e3 : (E : Int) ≤ (cap : Int) := by omega
  have e4 : ¬ cap = F := by omega
  have e5 : 6 ≤ SL := by omega
  have e6 : (6 : Int) ≤ (SL : Int) := by omega
  have e7 : SL ≤ cap := by omega
  have e8 : (SL : Int) ≤ (cap : Int) := by omega
  have e9 : ¬ cap = 6 := by omega
  have eA : SL - 6 = G := by omega
  have eB : ¬ cap - 6 = 0 := by omega
  have eC : ¬ cap - F = 0 := by omega
  have HCN : Hid (∀ (X : List Int) (o m c : Nat) u, ((X = P ∧ o = off + 6 ∧ m = G ∧ c = cap - 6) ∨ (X = BD ∧ o = off + F ∧ m = bn ∧ c = cap - F)) → Below w.heap.size w u → Calls Tryz.prog 132 #[.slice (some ⟨b, o, none⟩) m c] u fun e u' => ∃ g c', e = .returned (.slice (some ⟨g, 0, none⟩) m c') ∧ u'.cell? ⟨b, off, none⟩ = some (.int .u8 k0) ∧ Hid (Cl1 w u u' X g m c') ∧ Hid (Below w.heap.size w u')) := by
   refine zaa fun X o m c u hX hu => ?_
   have hsl : Sl u (some ⟨b, o, none⟩) m c X := by
    have hsu := HS.out.on Lr hu
    rcases hX with ⟨x1, x2, x3, x4⟩ | ⟨x1, x2, x3, x4⟩
    ·rw [x1, x2, x3, x4, ← hP]
     exact hsu.piece 6 G (cap - 6) (by omega) (by omega)
    ·rw [x1, x2, x3, x4, ← hBD, hbn]
     exact hsu.piece F bn (cap - F) (by omega) (by omega)
   refine (clone_any _ m c X u hsl).mono ?_
   rintro e u' ⟨g, c', rfl, HO, HB⟩
   have hb := zae hu Lr HB.out
   exact ⟨g, c', rfl, HC0.out u' hb, zaa ⟨HO.out.1.low hu.size, HO.out.2.1, HO.out.2.2, HB.out⟩, zaa hb⟩
  have hn0N : 0 < n := by omega
  have c0 := HC0.out u2 HB2.out
  have hbn2 : bn ≤ 65536 := by omega
  clear hBD hP HE
  go_upto_region 8 with fail
  go_cut [7] from 35 to 51 (fun v u => ∃ a gp pc gb bc, v = .pointer (some ⟨a, 0, none⟩) ∧ Hid (Rz w u a k0 n gp G pc gb bn bc P BD))
  case first =>
   go_wp2_with fail
   refine wp_region_held_drew (S := (fun u => u.cell? ⟨b, off, none⟩ = some (.int .u8 k0))) (by kernel_rfl) (HC0.out _ HB2.out.drew) (fun hHeld => ?_)
   refine zT (i := 0) (v := ?_) rfl ?_ (fun _ _ _ h => h) ?_
   rotate_left
   ·(intro w hSw; (try dsimp only at hSw); go_simp; try (with_reducible rfl))
   try simp only [Act.put, zA, zC, zD, zE, zF]
   refine zT (i := 1) (v := ?_) rfl ?_ (fun _ _ _ h => h) ?_
   rotate_left
   ·(intro w hSw; (try dsimp only at hSw); go_simp; try (with_reducible rfl))
   try simp only [Act.put, zA, zB, zC, zD, zE, zF]
   refine zT (i := 2) (v := ?_) rfl ?_ (fun _ _ _ h => h) ?_
   rotate_left
   ·(intro w hSw; (try dsimp only at hSw); go_simp; try (with_reducible rfl))
   try simp only [Act.put, zA, zB, zC, zD, zE, zF]
   refine zT (i := 3) (v := ?_) rfl ?_ (fun _ _ _ h => h) ?_
   rotate_left
   ·(intro w hSw; (try dsimp only at hSw); go_simp; try (with_reducible rfl))
   try simp only [Act.put, zA, zB, zC, zD, zE, zF]
   refine zT (i := 4) (v := ?_) rfl ?_ (fun _ _ _ h => h) ?_
   rotate_left
   ·(intro w hSw; (try dsimp only at hSw); go_simp; try (with_reducible rfl))
   try simp only [Act.put, zA, zB, zC, zD, zE, zF]
   refine zT (i := 5) (v := ?_) rfl ?_ (fun _ _ _ h => h) ?_
   rotate_left
   ·(intro w hSw; (try dsimp only at hSw); go_simp; try (with_reducible rfl))
   try simp only [Act.put, zA, zB, zC, zD, zE, zF]
   refine zT (i := 6) (v := ?_) rfl ?_ (fun _ _ _ h => h) ?_
   rotate_left
   ·(intro w hSw; (try dsimp only at hSw); go_simp; try (with_reducible rfl))
   try simp only [Act.put, zA, zB, zC, zD, zE, zF]
   refine zT (i := 7) (v := ?_) rfl ?_ (fun _ _ _ h => h) ?_
   rotate_left
   ·(intro w hSw; (try dsimp only at hSw); go_simp; try (with_reducible rfl))
   try simp only [Act.put, zA, zB, zC, zD, zE, zF]
   refine zT (i := 8) (v := ?_) rfl ?_ (fun _ _ _ h => h) ?_
   rotate_left
   ·(intro w hSw; (try dsimp only at hSw); go_simp; try (with_reducible rfl))
   try simp only [Act.put, zA, zB, zC, zD, zE, zF]
   refine zT (i := 10) (v := ?_) rfl ?_ (fun _ _ _ h => h) ?_
   rotate_left
   ·(intro w hSw; (try dsimp only at hSw); go_simp; try (with_reducible rfl))
   try simp only [Act.put, zA, zB, zC, zD, zE, zF]
   refine zT (i := 11) (v := ?_) rfl ?_ (fun _ _ _ h => h) ?_
   rotate_left
   ·(intro w hSw; (try dsimp only at hSw); go_simp; try (with_reducible rfl))
   try simp only [Act.put, zA, zB, zC, zD, zE, zF]
   refine zT (i := 12) (v := ?_) rfl ?_ (fun _ _ _ h => h) ?_
   rotate_left
   ·(intro w hSw; (try dsimp only at hSw); go_simp; try (with_reducible rfl))
   try simp only [Act.put, zA, zB, zC, zD, zE, zF]
   refine zT (i := 13) (v := ?_) rfl ?_ (fun _ _ _ h => h) ?_
   rotate_left
   ·(intro w hSw; (try dsimp only at hSw); go_simp; try (with_reducible rfl))
   try simp only [Act.put, zA, zB, zC, zD, zE, zF]
   refine zY (i := 9) rfl fun K hK => ?_
   ·go_simp
    go_at_call 132
    refine (HCN.out P (off + 6) G (cap - 6) _ (.inl ⟨rfl, rfl, rfl, rfl⟩) (by first | exact HB2.out | exact HB2.out.drew | exact zab HB2.out _)).mono ?_
    rintro e u3 ⟨g1, c1, rfl, z1, HQ1, HX1⟩
    dsimp only
    refine hK.out _ _ z1 (fun hHeld => ?_)
    clear hK K
    try simp only [Act.put, zA, zB, zC, zD, zE, zF]
    refine zY (i := 14) rfl fun K hK => ?_
    go_simp
    go_at_call 132
    refine (HCN.out BD (off + F) bn (cap - F) _ (.inr ⟨rfl, rfl, rfl, rfl⟩) HX1.out).mono ?_
    rintro e u4 ⟨g2, c2, rfl, z2, HQ2, HX2⟩
    dsimp only
    refine hK.out _ _ z2 (fun hHeld => ?_)
    clear hK K
    try simp only [Act.put, zA, zB, zC, zD, zE, zF]
    refine zT (i := 15) (v := ?_) rfl ?_ (fun _ _ _ h => h) ?_
    rotate_left
    ·(intro w hSw; (try dsimp only at hSw); go_simp; try (with_reducible rfl))
    try simp only [Act.put, zA, zB, zC, zD, zE, zF]
    refine zY (i := 16) rfl fun K hK => ?_
    go_simp
    refine hK.out _ _ (HC0.out _ (zad HX2.out Lr _)) (fun hHeld => ?_)
    clear hK K
    try simp only [Act.put, zA, zB, zC, zD, zE, zF]
    refine zT (i := 17) (v := ?_) rfl ?_ (fun _ _ _ h => h) ?_
    rotate_left
    ·(intro w hSw; (try dsimp only at hSw); go_simp; try (with_reducible rfl))
    try simp only [Act.put, zA, zB, zC, zD, zE, zF]
    refine wpAnyH_done (by kernel_rfl) ?_ _
    try go_wp2_with fail
    go_meet
    exact ⟨_, g1, c1, g2, c2, rfl, zaa (Rz.of (by first | exact HB2.out | exact HB2.out.drew | exact zab HB2.out _) HQ1.out Br HQ2.out Br)⟩
  obtain ⟨a, gp, pc, gb, bc, rfl, HRZ⟩ := hcut
  obtain ⟨u5, hu5⟩ : ∃ u5, u5 = wc := ⟨_, rfl⟩
  subst hu5
  obtain ⟨q1, q2, q3, q4, q5, q6, q7, q8⟩ := HRZ.out
  have hsp : Sl u5 (some ⟨gp, 0, none⟩) G pc P := by
   obtain ⟨x1, x2, x3, x4, _⟩ := q2.sl HPWF.out (by rw [HPL.out]; omega)
   injection x3 with i1 i2 i3
   subst i1 i3
   rwa [HPL.out] at x4
  have hsb : Sl u5 (some ⟨gb, 0, none⟩) bn bc BD := by
   obtain ⟨x1, x2, x3, x4, _⟩ := q3.sl HBW.out (by rw [HBL.out]; omega)
   injection x3 with i1 i2 i3
   subst i1 i3
   rwa [HBL.out] at x4
  have HPT := zaa (partedQ_any N u5 a k0 n (some ⟨gp, 0, none⟩) G pc gb bn bc P BD _ q1 hsp hsb (.inr fun p hp => by injection hp with hp; subst hp; exact q4) q5 HPW.out hbn2 (by omega) (by omega))
  have HSP := zaa hsp
  clear c0 HCN HC0 q1 q2 q3 q4 q5 q6 q7 q8 hsp hsb HB2 e0 e1 e2 e3 e4 e5 e6 e7 e8 e9 eA eB eC
  go_wp2_with (go_at_call 133; refine HPT.out.mono ?_; rintro e u6 ⟨bb, rfl, HC6, HP6⟩; refine Hid.out ?_)
  apply zaa
  obtain ⟨q1, q2, q3, q4, q5, q6, q7, q8⟩ := HRZ.out
  have HBE6 : Hid (Below w.heap.size w u6) := zaa (q8.trans (HC6.out.below q8.size (by intro i hi e; omega)))
  cases bb with
  | true =>
   go_wp2
   go_ret
   rcases HP6.out with ⟨_, cs, vs, h3, h4, h5, h6⟩ | ⟨h3, _⟩
   ·refine ⟨some ⟨a, 0, none⟩, rfl, HBE6, zaa (.inr ⟨a, some ⟨gp, 0, none⟩, G, pc, .slice (some ⟨gb, 0, none⟩) (qbd P.length (whl k0) cs).length bc, vs, P, cs, rfl, by rw [HRM.out, h3]; rfl, ⟨gp, rfl, (q2.blk rfl).1⟩, ?_⟩)⟩
    rw [HKE.out, HLEN.out]
    have hbd : BD.take (qbd P.length (whl k0) cs).length = qbd P.length (whl k0) cs := by
     have := (partQ_inv P HPWF.out _ _ _ _ _ _ HBW.out h3).2.1
     conv => lhs; rw [this]
     exact List.take_left
    have hob : OwnB u6 w.heap.size (.slice (some ⟨gb, 0, none⟩) bn bc) BD := q3.same fun i e => by
     have ei : gb = i := by injection e
     subst ei
     exact HC6.out.block gb (by have := zaf q1; omega) (by omega)
    have hot := hob.take (qbd P.length (whl k0) cs).length (by rw [← HBL.out]; exact h4)
    rw [hbd] at hot
    refine ⟨h5, HSP.out.cfa HC6.out (.inr fun p hp => by injection hp with hp; subst hp; exact q4), hot, ?_, .inr fun p hp e => ?_, q7⟩
    ·have h7 := q8.size
     unfold OwnN at h6 ⊢
     rcases h6.2 with h8 | ⟨g, c, cur, e, hg, r⟩
     ·exact ⟨h6.1, .inl h8⟩
     ·exact ⟨h6.1, .inr ⟨g, c, cur, e, zN h7 hg, r⟩⟩
    ·injection hp with hp
     subst hp
     injection e with e
     exact q6 e.symm
   ·cases h3
  | false =>
   go_wp2
   go_ret
   rcases HP6.out with ⟨h3, _⟩ | ⟨_, h3⟩
   ·cases h3
   ·exact ReadQ7.no HBE6.out (by rw [HRM.out, h3]; rfl)
theorem readQ_any7 (ao : Option Addr) (n cap : Nat) (l : List Int) (w : World) (hs : Sl w ao n cap l) :
  Calls Tryz.prog 91 #[.slice ao n cap] w fun e w' => ReadQ7 l w e w' := by
 by_cases hn : pw n
 ·by_cases hk : isKd (l.getD 0 0)
  ·exact readQ_tail7 ao n cap l w hs hn hk
  ·have hn2 := zao hn
   have hlen := hs.hlen
   obtain ⟨b, off, rfl, hbl, hc⟩ : ∃ b off, ao = some ⟨b, off, none⟩ ∧ b < w.heap.size ∧ ∀ i, i < n → w.cell? ⟨b, off + i, none⟩ = some (.int .u8 (l.getD i 0)) := by
    rcases hs.hat with h | h
    ·omega
    ·exact h
   have c0 := hc 0 (by omega)
   rw [Nat.add_zero] at c0
   have hk0 := hs.wf.getD 0
   have HNO : Hid (zay l = none) := zaa (by unfold zay; rw [if_neg (fun h => hk h.2)])
   have d1 : decide (pw (n : Int)) = true := decide_eq_true hn
   have d2 : decide (isKd (l.getD 0 0)) = false := decide_eq_false hk
   generalize l.getD 0 0 = k0 at *
   have hw0 : IntKind.i64.wrap k0 = k0 := by rw [IntKind.wrap_i64]; omega
   have hn0 : (0 : Int) < (n : Int) := by omega
   have k01 := hk0.1
   have k02 := hk0.2
   clear hs hc hk hn
   go_enter Tryz.func91, Tryz.ntmps91
   go_wp2_with (first | (go_at_call 31; refine zac (zbi _ _) ?_; rw [d1]) | (go_at_call 78; refine zac (zbv _ _) ?_; rw [d2]))
   go_ret
   exact ReadQ7.no Br HNO.out
 ·have hlen := hs.hlen
  have HNO : Hid (zay l = none) := zaa (by unfold zay; rw [hlen, if_neg (fun h => hn h.1)])
  have d1 : decide (pw (n : Int)) = false := decide_eq_false hn
  clear hs hn
  go_enter Tryz.func91, Tryz.ntmps91
  go_wp2_with (go_at_call 31; refine zac (zbi _ _) ?_; rw [d1])
  go_ret
  exact ReadQ7.no Br HNO.out
def OpenQ7 (l : List Int) (w : World) (e : Ending) (w' : World) : Prop :=
 ∃ po k, e = .returned (.tuple #[.pointer po, .int .i64 k]) ∧ Hid (Below w.heap.size w w') ∧ Hid ((po = none ∧ k = 60 ∧ ¬ ∃ cs, IsQ (l.getD 0 0) l.length cs l) ∨ ∃ a qo qn qc vb vs cs, po = some ⟨a, 0, none⟩ ∧ k = 0 ∧ IsQ (l.getD 0 0) l.length cs l ∧ (∀ c ∈ cs, c.Wf) ∧ (∃ gp, qo = some ⟨gp, 0, none⟩ ∧ w.heap.size ≤ gp) ∧ PO w' w.heap.size a (l.getD 0 0) l.length qo qn qc vb vs 0 (shP (l.getD 0 0) cs) (qbd (shP (l.getD 0 0) cs).length (whl (l.getD 0 0)) cs) (qst (shP (l.getD 0 0) cs).length (whl (l.getD 0 0)) 0 cs))
theorem openQ_any7 (ao : Option Addr) (n cap : Nat) (l : List Int) (w : World) (hs : Sl w ao n cap l) (ht : Tab w) (h0 : 1 < w.heap.size) :
  Calls Tryz.prog 49 #[.slice ao n cap] w fun e w' => OpenQ7 l w e w' := by
 have HR := zaa (readQ_any7 ao n cap l w hs)
 have HS := zaa hs
 have HT := zaa ht
 clear hs ht
 go_enter Tryz.func49, Tryz.ntmps49
 go_wp2_with (go_at_call 91; refine HR.out.mono ?_; rintro e w1 ⟨po, rfl, HB1, HQ⟩; refine Hid.out ?_)
 apply zaa
 clear HR
 rcases HQ.out with ⟨rfl, hno⟩ | ⟨a, qo, qn, qc, vb, vs, P, cs, rfl, hrm, hgp, hpo⟩
 ·have HNO : Hid (¬ ∃ cs, IsQ (l.getD 0 0) l.length cs l) := zaa (by
   rintro ⟨cs, h⟩
   have := (zdl h).1
   rw [hno] at this
   cases this)
  clear HQ hno
  go_wp2
  go_ret2
  exact ⟨none, 60, rfl, HB1, zaa (.inl ⟨rfl, rfl, HNO.out⟩)⟩
 ·have HRM := zaa hrm
  have HGP := zaa hgp
  clear hgp
  have HPO := zaa hpo
  obtain ⟨i1, i2, i3, i4, i5, i6, i7⟩ := readQ_inv HS.out.wf hrm
  have hf := zda i3 i2
  have hwf : ∀ c ∈ cs, c.Wf ∧ c.fit := fun c hc => ⟨i5 c hc, hf c hc⟩
  have hz := zbn (l.getD 0 0) P.length cs
  have hn2 := zao i2
  have hfit : szQ (l.getD 0 0) (shP (l.getD 0 0) cs).length cs ≤ l.length := zN (szQ_less i6) i4
  have HWF := zaa i5
  obtain ⟨bo, bc, so, sc, rfl, rfl, hpg⟩ := hpo.pg (qbd_wf _ _ _ hwf) (by omega) (by rw [zbm]; omega)
  have HBY := zaa (bytesQ_any w1 a _ _ qo qn qc bo _ bc so _ sc 0 P _ _ cs hpg (layQ_of i6 hf) (chk_rs i3) i1 i2 hfit (HT.out.on HB1.out h0) (zO h0 HB1.out.size))
  have HPL : Hid ((pkB (l.getD 0 0) l.length cs).length = l.length) := zaa (zdw _ _ _ hfit)
  have HPWF : Hid (Wf (pkB (l.getD 0 0) l.length cs)) := zaa (pkB_wf (by unfold isKd at i1; omega) hwf)
  have hnr := HS.out.hroom
  have HLEN := zaa HS.out.hlen
  clear hrm hpo HQ i1 i2 i3 i4 i5 i6 i7 hf hwf hz hn2 hfit hpg
  obtain ⟨PB, hPB⟩ : ∃ PB, pkB (l.getD 0 0) l.length cs = PB := ⟨_, rfl⟩
  rw [hPB] at HBY HPL HPWF
  have HPB := zaa hPB
  clear hPB
  rw [HLEN.out] at HBY HPL
  cases hd : decide (PB = l) with
  | true =>
   have HEQ : Hid (PB = l) := zaa (by simpa using hd)
   go_wp2_with (first | (go_at_call 92; refine HBY.out.mono ?_; rintro e w2 ⟨g, rfl, HBK, HB2⟩) | (go_at_call 80; refine zac (equal7 _ _ _ _ _ _ PB l _ (HBK.out.2.sl HPL.out HPWF.out hnr) (HS.out.on Lr (zae HB1.out Lr HB2.out))) ?_; rw [hd]))
   go_ret2
   have his : IsQ (l.getD 0 0) l.length cs l := (isQ_iff HS.out.wf cs).2 ⟨⟨P, HRM.out⟩, by rw [HPB.out]; exact HEQ.out⟩
   have hPP : P = shP (l.getD 0 0) cs := by
    have := (zdl his).1
    rw [HRM.out] at this
    injection this with this
    injection this
   have hpo := HPO.out.go HB2.out
   rw [hPP] at hpo
   refine ⟨some ⟨a, 0, none⟩, 0, rfl, zaa (zae HB1.out Lr HB2.out), zaa (.inr ⟨a, qo, qn, qc, _, _, cs, rfl, rfl, his, HWF.out, HGP.out, hpo⟩)⟩
  | false =>
   have HNO : Hid (¬ ∃ cs, IsQ (l.getD 0 0) l.length cs l) := zaa (by
    rintro ⟨ds, h⟩
    obtain ⟨⟨P', h1⟩, h2⟩ := (isQ_iff HS.out.wf ds).1 h
    rw [HRM.out] at h1
    injection h1 with h1
    injection h1 with _ h1
    subst h1
    rw [HPB.out] at h2
    simp [h2] at hd)
   go_wp2_with (first | (go_at_call 92; refine HBY.out.mono ?_; rintro e w2 ⟨g, rfl, HBK, HB2⟩) | (go_at_call 80; refine zac (equal7 _ _ _ _ _ _ PB l _ (HBK.out.2.sl HPL.out HPWF.out hnr) (HS.out.on Lr (zae HB1.out Lr HB2.out))) ?_; rw [hd]))
   go_ret2
   exact ⟨none, 60, rfl, zaa (zae HB1.out Lr HB2.out), zaa (.inl ⟨rfl, rfl, HNO.out⟩)⟩
theorem zcb {fn : Func} {t u v x : Tmp} (h : fn.results = #[.tmp t, .tmp u, .tmp v, .tmp x]) (tmps : Array Value) (P : Program) (w : World) :
  (results fn tmps).run P w = .ok (.tuple #[tmps.getD t undef, tmps.getD u undef, tmps.getD v undef, tmps.getD x undef]) w := by
 simp [results, h]
def Yes (l : List Int) (cs : List Cl) : Prop := (egO l = 1 ∧ Is (l.getD 0 0) l.length cs l) ∨ (egO l = 2 ∧ IsQ (l.getD 0 0) l.length cs l)
theorem Yes.one {l : List Int} {cs ds : List Cl} (h : Yes l cs) (g : Yes l ds) : cs = ds := by
 rcases h with ⟨e, h⟩ | ⟨e, h⟩ <;> rcases g with ⟨e2, g⟩ | ⟨e2, g⟩
 ·exact (h.one g).2.2
 ·omega
 ·omega
 ·exact (h.one g).2.2
theorem Yes.len {l : List Int} {cs : List Cl} (h : Yes l cs) : cs.length ≤ 65536 ∧ ∀ d ∈ cs, d.key.length ≤ 65536 ∧ d.val.length ≤ 65536 := by
 rcases h with ⟨e, h⟩ | ⟨e, h⟩
 ·refine ⟨h.few.1, fun d hd => ?_⟩
  have h3 := (h.fits d hd).key
  have h4 := (h.fits d hd).val
  omega
 ·have hp := zao h.sz
  have h2 := zbn (l.getD 0 0) (shP (l.getD 0 0) cs).length cs
  have h3 := h.fit
  refine ⟨by omega, fun d hd => ?_⟩
  have h4 := (zda h.ok h.sz d hd).key
  have h5 := (zda h.ok h.sz d hd).val
  omega
noncomputable def csE (l : List Int) : List Cl := @dite _ (∃ cs, Yes l cs) (Classical.propDecidable _) (fun h => h.choose) (fun _ => [])
noncomputable def cE (l : List Int) : Int := @ite _ (∃ cs, Yes l cs) (Classical.propDecidable _) 0 60
noncomputable def eE (l : List Int) : Int := @ite _ (∃ cs, Yes l cs) (Classical.propDecidable _) (egO l) 0
noncomputable def kE (l : List Int) : Int := @ite _ (∃ cs, Yes l cs) (Classical.propDecidable _) (l.getD 0 0) 0
theorem yes_E {l : List Int} {cs : List Cl} (h : Yes l cs) : csE l = cs ∧ cE l = 0 ∧ eE l = egO l ∧ kE l = l.getD 0 0 := by
 have hx : ∃ cs, Yes l cs := ⟨cs, h⟩
 refine ⟨?_, if_pos hx, if_pos hx, if_pos hx⟩
 unfold csE
 rw [dif_pos hx]
 exact hx.choose_spec.one h
theorem no_E {l : List Int} (h : ¬ ∃ cs, Yes l cs) : csE l = [] ∧ cE l = 60 ∧ eE l = 0 ∧ kE l = 0 := ⟨dif_neg h, if_neg h, if_neg h, if_neg h⟩
theorem csE_len (l : List Int) : (csE l).length ≤ 65536 ∧ ∀ d ∈ csE l, d.key.length ≤ 65536 ∧ d.val.length ≤ 65536 := by
 by_cases h : ∃ cs, Yes l cs
 ·obtain ⟨cs, h⟩ := h
  rw [(yes_E h).1]
  exact h.len
 ·rw [(no_E h).1]
  exact ⟨by simp, fun d hd => by simp at hd⟩
theorem OwnC.got {w : World} {B g : Nat} {cs : List Cl} {P : Nat → Nat} (h : OwnC w B g cs P) (hl : ∀ d ∈ cs, d.key.length ≤ 65536 ∧ d.val.length ≤ 65536) : Got w B w.heap.size (some ⟨g, 0, none⟩) cs.length cs.length cs :=
 ⟨P, ⟨rfl, .inr ⟨g, rfl, rfl, ⟨h.row, h.hg, h.p0, h.up, h.top, fun i d hd => (h.at_ i d hd).dg (hl d (List.mem_of_getElem? hd))⟩⟩⟩, h.top, fun z hz => by injection hz with hz; rw [← hz]; exact ⟨h.hg, h.row.lt⟩⟩
def DecG (l : List Int) (w : World) (e : Ending) (w' : World) : Prop :=
 ∃ co cc, e = .returned (.tuple #[.int .i64 (eE l), .int .i64 (kE l), .slice co (csE l).length cc, .int .i64 (cE l)]) ∧ Hid (Below w.heap.size w w') ∧ Hid (Got w' w.heap.size w'.heap.size co (csE l).length cc (csE l) ∧ ∀ d ∈ csE l, d.Wf)
theorem DecG.no {l : List Int} {w w' : World} (h : ¬ ∃ cs, Yes l cs) (hb : Below w.heap.size w w') : DecG l w (.returned (.tuple #[.int .i64 0, .int .i64 0, .slice none 0 0, .int .i64 60])) w' := by
 obtain ⟨q1, q2, q3, q4⟩ := no_E h
 exact ⟨none, 0, by rw [q1, q2, q3, q4]; rfl, zaa hb, zaa ⟨by rw [q1]; exact Got.nil hb.size, fun d hd => by rw [q1] at hd; simp at hd⟩⟩
theorem DecG.yes {l : List Int} {cs : List Cl} {w w' : World} {co : Option Addr} {cc : Nat} {x k : Int} (h : Yes l cs) (hx : x = egO l) (hk : k = l.getD 0 0) (hb : Below w.heap.size w w') (hg : Got w' w.heap.size w'.heap.size co cs.length cc cs) (hw : ∀ d ∈ cs, d.Wf) : DecG l w (.returned (.tuple #[.int .i64 x, .int .i64 k, .slice co cs.length cc, .int .i64 0])) w' := by
 obtain ⟨q1, q2, q3, q4⟩ := yes_E h
 exact ⟨co, cc, by rw [q1, q2, q3, q4, hx, hk], zaa hb, zaa ⟨by rw [q1]; exact hg, by rw [q1]; exact hw⟩⟩
theorem ndecode_1 (ao : Option Addr) (n cap : Nat) (l : List Int) (w : World) (hs : Sl w ao n cap l) (ht : Tab w) (h0 : 1 < w.heap.size) (he : egO l = 1) : Calls Tryz.prog 6 #[.slice ao n cap] w (DecG l w) := by
 have HE := zaa (zds ao n cap l w hs)
 rw [he] at HE
 have HL := zaa (layout_1 w)
 have HM : Hid (∀ u, Below w.heap.size w u → Calls Tryz.prog 36 #[.slice ao n cap] u fun e w' => ∃ k co cn cc c, e = .returned (.tuple #[.int .i64 k, .slice co cn cc, .int .i64 c]) ∧ Hid (Below w.heap.size w w') ∧ Hid ((c = 60 ∧ ¬ ∃ cs, Yes l cs) ∨ (c = 0 ∧ DecG l w (.returned (.tuple #[.int .i64 1, .int .i64 k, .slice co cn cc, .int .i64 0])) w'))) := zaa fun u hu => by
  refine (decode_own ao n cap l u (hs.on Lr hu) (ht.on hu h0) (zO h0 hu.size)).mono ?_
  rintro e w' ⟨k, co, cn, cc, c, rfl, HB, HQ⟩
  have hb := zae hu Lr HB.out
  refine ⟨k, co, cn, cc, c, rfl, zaa hb, zaa ?_⟩
  rcases HQ.out with ⟨rfl, rfl, rfl, rfl, rfl, h6⟩ | ⟨cs, g, P, rfl, rfl, rfl, rfl, rfl, h6, h7, h8⟩
  ·refine .inl ⟨rfl, ?_⟩
   rintro ⟨cs, ⟨e, h⟩ | ⟨e, h⟩⟩
   ·exact h6 ⟨cs, h⟩
   ·omega
  ·have hy : Yes l cs := .inl ⟨he, h6⟩
   exact .inr ⟨rfl, DecG.yes hy he.symm rfl hb ((h8.got hy.len.2).low hu.size) h7⟩
 clear hs ht h0 he
 go_enter Tryz.func6, Tryz.ntmps6
 go_wp2_with (first | (go_at_call 18; refine zac HE.out ?_) | (go_at_call 17; refine HL.out.mono ?_; rintro e w1 ⟨rfl, HB1⟩) | (go_at_call 36; refine (HM.out _ (zad HB1.out Lr _)).mono ?_; rintro e w2 ⟨k, co, cn, cc, c, rfl, HB2, HQ2⟩; refine Hid.out ?_))
 apply zaa
 rcases HQ2.out with ⟨rfl, h6⟩ | ⟨rfl, h6⟩
 ·have H6 := zaa h6
  clear HQ2 h6
  go_wp2
  (try simp only [Exit.inBlock, Exit.then])
  refine bodyPost_ret (zcb rfl _ _ _) rfl ?_
  exact DecG.no H6.out HB2.out
 ·have H6 := zaa h6
  clear HQ2 h6
  go_wp2
  (try simp only [Exit.inBlock, Exit.then])
  refine bodyPost_ret (zcb rfl _ _ _) rfl ?_
  exact H6.out
theorem ndecode_2 (ao : Option Addr) (n cap : Nat) (l : List Int) (w : World) (hs : Sl w ao n cap l) (ht : Tab w) (h0 : 1 < w.heap.size) (he : egO l = 2) : Calls Tryz.prog 6 #[.slice ao n cap] w (DecG l w) := by
 have HE := zaa (zds ao n cap l w hs)
 rw [he] at HE
 have HL := zaa (layout_2 w)
 have HM : Hid (∀ u, Below w.heap.size w u → Calls Tryz.prog 44 #[.slice ao n cap] u fun e w' => ∃ k co cn cc c, e = .returned (.tuple #[.int .i64 k, .slice co cn cc, .int .i64 c]) ∧ Hid (Below w.heap.size w w') ∧ Hid ((c = 60 ∧ ¬ ∃ cs, Yes l cs) ∨ (c = 0 ∧ DecG l w (.returned (.tuple #[.int .i64 2, .int .i64 k, .slice co cn cc, .int .i64 0])) w'))) := zaa fun u hu => by
  refine (decodeQ_own ao n cap l u (hs.on Lr hu) (ht.on hu h0) (zO h0 hu.size)).mono ?_
  rintro e w' ⟨k, co, cn, cc, c, rfl, HB, HQ⟩
  have hb := zae hu Lr HB.out
  refine ⟨k, co, cn, cc, c, rfl, zaa hb, zaa ?_⟩
  rcases HQ.out with ⟨rfl, rfl, rfl, rfl, rfl, h6⟩ | ⟨cs, g, P, rfl, rfl, rfl, rfl, rfl, h6, h7, h8, h9, ⟨p1, p2, p3⟩, h10⟩
  ·refine .inl ⟨rfl, ?_⟩
   rintro ⟨cs, ⟨e, h⟩ | ⟨e, h⟩⟩
   ·omega
   ·exact h6 ⟨cs, h⟩
  ·have hy : Yes l cs := .inr ⟨he, h6⟩
   have hg : Got w' u.heap.size w'.heap.size (some ⟨g, 0, none⟩) cs.length cs.length cs := ⟨P, ⟨rfl, .inr ⟨g, rfl, rfl, ⟨h9, h8, p1, p2, p3, fun i d hd => (h10 i d hd).dg (hy.len.2 d (List.mem_of_getElem? hd)).2⟩⟩⟩, p3, fun z hz => by injection hz with hz; rw [← hz]; exact ⟨h8, h9.lt⟩⟩
   exact .inr ⟨rfl, DecG.yes hy he.symm rfl hb (hg.low hu.size) h7⟩
 clear hs ht h0 he
 go_enter Tryz.func6, Tryz.ntmps6
 go_wp2_with (first | (go_at_call 18; refine zac HE.out ?_) | (go_at_call 17; refine HL.out.mono ?_; rintro e w1 ⟨rfl, HB1⟩) | (go_at_call 44; refine (HM.out _ (zad HB1.out Lr _)).mono ?_; rintro e w2 ⟨k, co, cn, cc, c, rfl, HB2, HQ2⟩; refine Hid.out ?_))
 apply zaa
 rcases HQ2.out with ⟨rfl, h6⟩ | ⟨rfl, h6⟩
 ·have H6 := zaa h6
  clear HQ2 h6
  go_wp2
  (try simp only [Exit.inBlock, Exit.then])
  refine bodyPost_ret (zcb rfl _ _ _) rfl ?_
  exact DecG.no H6.out HB2.out
 ·have H6 := zaa h6
  clear HQ2 h6
  go_wp2
  (try simp only [Exit.inBlock, Exit.then])
  refine bodyPost_ret (zcb rfl _ _ _) rfl ?_
  exact H6.out
theorem yes_eg {l : List Int} (h1 : ¬ egO l = 1) (h2 : ¬ egO l = 2) : ¬ ∃ cs, Yes l cs := by
 rintro ⟨cs, ⟨e, h⟩ | ⟨e, h⟩⟩
 ·exact h1 e
 ·exact h2 e
theorem ndecode_0 (ao : Option Addr) (n cap : Nat) (l : List Int) (w : World) (hs : Sl w ao n cap l) (h1 : ¬ egO l = 1) (h2 : ¬ egO l = 2) : Calls Tryz.prog 6 #[.slice ao n cap] w (DecG l w) := by
 have HE := zaa (zds ao n cap l w hs)
 have HL := zaa (layout_0 w (egO l) h1 h2)
 have HN := zaa (yes_eg h1 h2)
 generalize egO l = x at *
 clear hs h1 h2
 go_enter Tryz.func6, Tryz.ntmps6
 go_wp2_with (first | (go_at_call 18; refine zac HE.out ?_) | (go_at_call 17; refine HL.out.mono ?_; rintro e w1 ⟨rfl, HB1⟩))
 (try simp only [Exit.inBlock, Exit.then])
 refine bodyPost_ret (zcb rfl _ _ _) rfl ?_
 exact DecG.no HN.out (zad HB1.out Lr _)
theorem ndecode_any (ao : Option Addr) (n cap : Nat) (l : List Int) (w : World) (hs : Sl w ao n cap l) (ht : Tab w) (h0 : 1 < w.heap.size) : Calls Tryz.prog 6 #[.slice ao n cap] w (DecG l w) := by
 by_cases h1 : egO l = 1
 ·exact ndecode_1 ao n cap l w hs ht h0 h1
 by_cases h2 : egO l = 2
 ·exact ndecode_2 ao n cap l w hs ht h0 h2
 exact ndecode_0 ao n cap l w hs h1 h2
def PgX (w : World) (B : Nat) (v : Value) (l : List Int) (cs : List Cl) : Prop :=
 (∃ a bo bn bc so sn sc, v = iP a ∧ egO l = 1 ∧ Is (l.getD 0 0) l.length cs l ∧ B ≤ a ∧ Po w B a (l.getD 0 0) l.length (.slice bo bn bc) (.slice so sn sc) cs) ∨
 (∃ a gp qn qc vb vs, v = iQ a ∧ egO l = 2 ∧ IsQ (l.getD 0 0) l.length cs l ∧ B ≤ gp ∧ PO w B a (l.getD 0 0) l.length (some ⟨gp, 0, none⟩) qn qc vb vs 0 (shP (l.getD 0 0) cs) (qbd (shP (l.getD 0 0) cs).length (whl (l.getD 0 0)) cs) (qst (shP (l.getD 0 0) cs).length (whl (l.getD 0 0)) 0 cs))
theorem PgX.yes {w : World} {B : Nat} {v : Value} {l : List Int} {cs : List Cl} (h : PgX w B v l cs) : Yes l cs := by
 rcases h with ⟨_, _, _, _, _, _, _, _, h1, h2, _⟩ | ⟨_, _, _, _, _, _, _, h1, h2, _⟩
 ·exact .inl ⟨h1, h2⟩
 ·exact .inr ⟨h1, h2⟩
theorem PgX.low {w : World} {B C : Nat} {v : Value} {l : List Int} {cs : List Cl} (h : PgX w C v l cs) (hB : B ≤ C) : PgX w B v l cs := by
 rcases h with ⟨a, bo, bn, bc, so, sn, sc, h0, h1, h2, h3, h4⟩ | ⟨a, gp, qn, qc, vb, vs, h0, h1, h2, h3, h4⟩
 ·exact .inl ⟨a, bo, bn, bc, so, sn, sc, h0, h1, h2, zN hB h3, h4.low hB⟩
 ·exact .inr ⟨a, gp, qn, qc, vb, vs, h0, h1, h2, zN hB h3, ⟨h4.row, h4.pre, h4.ob.low hB, h4.on.lowN hB, h4.far, zN hB h4.ha⟩⟩
theorem PgX.cf {w w' : World} {F : Nat → Prop} {B : Nat} {v : Value} {l : List Int} {cs : List Cl} (h : PgX w B v l cs) (hc : Cf F w w') (hf : ∀ z, F z → z < B) : PgX w' B v l cs := by
 have hN : ∀ {u : Value} {st : List Nat}, OwnN w B u st → OwnN w' B u st := by
  intro u st h
  unfold OwnN at *
  rcases h.2 with h2 | ⟨g, cap, cur, e, hg, hh, rest⟩
  ·exact ⟨h.1, .inl h2⟩
  ·refine ⟨h.1, .inr ⟨g, cap, cur, e, hg, ?_, rest⟩⟩
   rw [hc.block g (zaf hh) (fun hF => by have := hf g hF; omega)]
   exact hh
 have hO : ∀ {u : Value} {b : List Int}, OwnB w B u b → OwnB w' B u b := fun h => h.cfX hc (fun z hz hF => by have := (h.blk hz).1; have := hf z hF; omega)
 rcases h with ⟨a, bo, bn, bc, so, sn, sc, h0, h1, h2, h3, h4⟩ | ⟨a, gp, qn, qc, vb, vs, h0, h1, h2, h3, h4⟩
 ·exact .inl ⟨a, bo, bn, bc, so, sn, sc, h0, h1, h2, h3, ⟨(hc.block a (zaf h4.row) (fun hF => by have := hf a hF; omega)).trans h4.row, hO h4.body, hN h4.starts⟩⟩
 ·exact .inr ⟨a, gp, qn, qc, vb, vs, h0, h1, h2, h3, ⟨(hc.block a (zaf h4.row) (fun hF => by have := hf a hF; have := h4.ha; omega)).trans h4.row, h4.pre.cf hc (.inr fun p hp hF => by cases hp; have := hf _ hF; simp only at this; omega), hO h4.ob, hN h4.on, h4.far, h4.ha⟩⟩
def OpG (l : List Int) (w : World) (e : Ending) (w' : World) : Prop :=
 ∃ v, e = .returned (.tuple #[v, .int .i64 (cE l)]) ∧ Hid (Below w.heap.size w w') ∧ Hid ((v = .nilIface ∧ ¬ ∃ cs, Yes l cs) ∨ ((∀ d ∈ csE l, d.Wf) ∧ PgX w' w.heap.size v l (csE l)))
theorem OpG.from {l : List Int} {w u w' : World} {e : Ending} (h : OpG l u e w') (hb : Below w.heap.size w u) : OpG l w e w' := by
 obtain ⟨v, rfl, HB, HQ⟩ := h
 refine ⟨v, rfl, zaa (zae hb Lr HB.out), zaa ?_⟩
 rcases HQ.out with h | ⟨h1, h2⟩
 ·exact .inl h
 ·exact .inr ⟨h1, h2.low hb.size⟩
theorem OpG.no {l : List Int} {w w' : World} (h : ¬ ∃ cs, Yes l cs) (hb : Below w.heap.size w w') : OpG l w (.returned (.tuple #[.nilIface, .int .i64 60])) w' := ⟨.nilIface, by rw [(no_E h).2.1], zaa hb, zaa (.inl ⟨rfl, h⟩)⟩
theorem OpG.yes {l : List Int} {cs : List Cl} {v : Value} {w w' : World} (h : PgX w' w.heap.size v l cs) (hw : ∀ d ∈ cs, d.Wf) (hb : Below w.heap.size w w') : OpG l w (.returned (.tuple #[v, .int .i64 0])) w' := by
 obtain ⟨q1, q2, q3, q4⟩ := yes_E h.yes
 exact ⟨v, by rw [q2], zaa hb, zaa (.inr ⟨by rw [q1]; exact hw, by rw [q1]; exact h⟩)⟩
theorem nopenG_1 (ao : Option Addr) (n cap : Nat) (l : List Int) (w : World) (hs : Sl w ao n cap l) (ht : Tab w) (h0 : 1 < w.heap.size) (he : egO l = 1) : Calls Tryz.prog 5 #[.slice ao n cap] w (OpG l w) := by
 refine (nopen_1 ao n cap l w hs ht h0 he).mono ?_
 rintro e w' ⟨v, c, rfl, HB, HQ⟩
 rcases HQ.out with ⟨rfl, rfl, hn⟩ | ⟨a, bo, bn, bc, so, sn, sc, cs, rfl, rfl, h1, h2, h3, h4⟩
 ·refine OpG.no ?_ HB.out
  rintro ⟨cs, ⟨e, h⟩ | ⟨e, h⟩⟩
  ·exact hn ⟨cs, h⟩
  ·omega
 ·exact OpG.yes (.inl ⟨a, bo, bn, bc, so, sn, sc, rfl, he, h2, h1, h4⟩) h3 HB.out
theorem openQ8_any (ao : Option Addr) (n cap : Nat) (l : List Int) (w : World) (hs : Sl w ao n cap l) (ht : Tab w) (h0 : 1 < w.heap.size) (he : egO l = 2) : Calls Tryz.prog 48 #[.slice ao n cap] w (OpG l w) := by
 have HN := zaa (openQ_any7 ao n cap l w hs ht h0)
 have HE := zaa he
 clear hs ht h0 he
 go_enter Tryz.func48, Tryz.ntmps48
 go_wp2_with (go_at_call 49; refine HN.out.mono ?_; rintro e w1 ⟨po, c, rfl, HB, HQ⟩; refine Hid.out ?_)
 apply zaa
 clear HN
 rcases HQ.out with ⟨rfl, rfl, hn⟩ | ⟨a, qo, qn, qc, vb, vs, cs, rfl, rfl, h1, h2, ⟨gp, rfl, h3⟩, h4⟩
 ·have H1 := zaa hn
  clear HQ hn
  go_wp2_with (go_at_call 46; refine zac (asQ_no _ _ (by decide) _) ?_)
  go_ret2
  refine OpG.no ?_ HB.out
  rintro ⟨cs, ⟨e, h⟩ | ⟨e, h⟩⟩
  ·have := HE.out; omega
  ·exact H1.out ⟨cs, h⟩
 ·have H1 := zaa (And.intro h1 (And.intro h2 (And.intro h3 h4)))
  clear HQ h1 h2 h3 h4
  go_wp2_with (go_at_call 46; refine zac (asQ_yes _ _) ?_)
  go_ret2
  obtain ⟨h1, h2, h3, h4⟩ := H1.out
  exact OpG.yes (.inr ⟨a, gp, qn, qc, vb, vs, rfl, HE.out, h1, h3, h4⟩) h2 HB.out
theorem nopenG_2 (ao : Option Addr) (n cap : Nat) (l : List Int) (w : World) (hs : Sl w ao n cap l) (ht : Tab w) (h0 : 1 < w.heap.size) (he : egO l = 2) : Calls Tryz.prog 5 #[.slice ao n cap] w (OpG l w) := by
 have HE := zaa (zds ao n cap l w hs)
 have HM : Hid (∀ u, Below w.heap.size w u → Calls Tryz.prog 48 #[.slice ao n cap] u fun e w' => ∃ v c, e = .returned (.tuple #[v, .int .i64 c]) ∧ Hid (OpG l w e w')) := zaa fun u hu => by
  refine (openQ8_any ao n cap l u (hs.on Lr hu) (ht.on hu h0) (zO h0 hu.size) he).mono ?_
  intro e w' h
  obtain ⟨v, hv, _⟩ := id h
  exact ⟨v, _, hv, zaa (h.from hu)⟩
 rw [he] at HE
 have HL := zaa (layout_2 w)
 clear hs ht h0 he
 go_enter Tryz.func5, Tryz.ntmps5
 go_wp2_with (first | (go_at_call 18; refine zac HE.out ?_) | (go_at_call 17; refine HL.out.mono ?_; rintro e w1 ⟨rfl, HB1⟩) | (go_at_call 48; refine (HM.out _ (zad HB1.out Lr _)).mono ?_; rintro e w2 ⟨v, c, rfl, HQ2⟩; refine Hid.out ?_))
 apply zaa
 go_wp2
 go_ret2
 exact HQ2.out
theorem nopenG_any (ao : Option Addr) (n cap : Nat) (l : List Int) (w : World) (hs : Sl w ao n cap l) (ht : Tab w) (h0 : 1 < w.heap.size) : Calls Tryz.prog 5 #[.slice ao n cap] w (OpG l w) := by
 by_cases h1 : egO l = 1
 ·exact nopenG_1 ao n cap l w hs ht h0 h1
 by_cases h2 : egO l = 2
 ·exact nopenG_2 ao n cap l w hs ht h0 h2
 refine (nopen_0 ao n cap l w hs h1 h2).mono ?_
 rintro e w' ⟨rfl, HB⟩
 exact OpG.no (yes_eg h1 h2) HB.out
theorem below_sets (B g o : Nat) (vs : List Value) (w : World) (hg : B ≤ g) (hB : B ≤ w.heap.size) : Below B w (w.setCells g o vs) := by
 have h := zaz g vs o w
 exact ⟨h.os, h.tape, h.output, h.size, fun k hk => h.block k (by omega) (by intro e; injection e with e; omega)⟩
end Go.Proofs.YtbkhjeacmmbabaaGreatDoor
