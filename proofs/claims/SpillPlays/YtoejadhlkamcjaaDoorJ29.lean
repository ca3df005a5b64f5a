import Derived.Deep.RegionHeld
import Derived.Deep.Cut
import Derived.Test.YtoejadhlkamcjaaDoorJ19
import Derived.Test.YtoejadhlkamcjaaDoorJ28
namespace Go.Proofs.YtoejadhlkamcjaaDoor
set_option maxRecDepth 100000
open Go.RowKit Go.Maps
theorem nxl_get {l : List Int} {j C : Nat} (hl : l.length = C) (hj : j < C) : (l ++ [0]).getD (j + 1) 0 = nxl l j := by
 unfold nxl
 by_cases e : j + 1 < l.length
 ·rw [if_pos e]
  simp [List.getD, List.getElem?_append_left e]
 ·rw [if_neg e]
  have : j + 1 = l.length := by omega
  rw [this]
  simp [List.getD]
theorem lst_get {l : List Int} {j C : Nat} (hl : l.length = C) (hj : j < C) : (l ++ [0]).getD j 0 = l.getD j 0 := by
 simp [List.getD, List.getElem?_append_left (show j < l.length by omega)]
def Sf9 (pb i : Nat) (nx : Int) (u : World) : Prop := u.cell? ⟨pb, i, none⟩ = some (.int .i64 nx) ∧ True
set_option maxHeartbeats 4000000 in
theorem rwrite_g {w : World} {b m : Nat} {en ps rd : Int} {P : Nat} {M : Int → Option Pf} {ct : Nat} (h : Bn w b m en (P : Int) ps rd M ct) (hp : pw P) (T : Nat) (hps : ps = (T : Int) + 2) (hT : T ≤ 65534) (hg : Gd9 M T ct)
  (vo : Option Addr) (N vc : Nat) (v : List Int) (hv : Sl w vo N vc v) (hNb : N ≤ 200000) :
  Calls Tryd.prog 46 #[pB b, .slice vo N vc] w fun e u => ∃ a k, e = .returned (.tuple #[.int .i64 a, .int .i64 k]) ∧ Hid (WrM w b m en ps rd P T M ct v a k u) := by
 have hvl := hv.hlen
 have hNI : (N : Int) ≤ 200000 := by omega
 have HB := hidden h
 have HG := hidden hg
 by_cases hN : 1 ≤ N ∧ N ≤ 65536
 ·obtain ⟨hN1, hN3⟩ := hN
  have e1 : decide ((N : Int) < 1) = false := by simp; omega
  have e2 : decide ((65536 : Int) < (N : Int)) = false := by simp; omega
  obtain ⟨C, hC, hC1, hC2, hNa, hNc⟩ := pgN_nat hp hN1 hN3
  have HS := hidden (size_any h)
  have HP := fun u => refPages_any (P : Int) (N : Int) (by omega) u
  rw [hC] at HP
  have hgl := hg.le
  have HSP := hidden (spare_any h (C : Int) (by omega) (by omega) (by omega))
  have HCN : Hid ((pgN P v.length).toNat = C) := hidden (by rw [hvl, hC]; rfl)
  have HVL := hidden hvl
  have hCI : (C : Int) ≤ 65536 := by omega
  by_cases hroom : ct + C ≤ T
  ·have e3 : decide ((C : Int) ≤ ps - 2 - (ct : Int)) = true := by simp; omega
   rw [e3] at HSP
   have HPW := hidden hp
   have HV := hidden hv
   have HVN := hidden (hv.nomap h)
   have HPS := hidden hps
   have HBS := hidden (And.intro h.lt h.mlt)
   have hpl := pw_le hp
   have hps2 : ps ≤ 65536 := by omega
   obtain ⟨H, hH⟩ : ∃ H, P - 16 = H := ⟨_, rfl⟩
   have HH := hidden hH
   have hPH : (P : Int) - 16 = (H : Int) := by omega
   have hHI : (H : Int) ≤ 65520 := by omega
   rw [hH] at hNa hNc
   clear h hp hv hg hps hvl hC hH
   go_enter Tryd.func46, Tryd.ntmps46
   go_wp2_with (first
    | (go_at_call 49; refine same_call HS.out ?_)
    | (go_at_call 48; refine same_call (HP _) ?_)
    | (go_at_call 61; refine HSP.out.mono ?_; rintro e w0 ⟨rfl, q, rfl⟩))
   clear HS HP HSP
   have hq0 : (w.drewN q).heap.size = w.heap.size := rfl
   go_loopw [7, 8] (fun v i wr => ∃ (j : Nat) (ao : Option Addr) (ac : Nat), j ≤ C ∧ i = .int .i64 (j : Int) ∧ v = .slice ao j ac ∧ Hid (∃ l M', l.length = j ∧ OwnJ wr w.heap.size (.slice ao j ac) l ∧ Tks P (con M) l (con M') ∧ (∀ a ∈ l, 2 ≤ a ∧ a < ps) ∧ Bn wr b m en (P : Int) ps rd M' (ct + j) ∧ Gd9 M' T (ct + j) ∧ Zs w M M' ∧ Cf (· = m) w wr ∧ Apt (.slice ao j ac) M')) (fun _ i _ => C - (intOf i).toNat)
   case atStart => exact ⟨0, none, 0, by omega, rfl, rfl, hidden ⟨[], M, rfl, OwnJ.nil _ _, rfl, fun a ha => absurd ha List.not_mem_nil, HB.out.on (bl_dr (Below.refl _ w) _), HG.out, Zs.refl _ _, Cf.drew _ _ _, fun k f _ => .inr (by simp [Value.ownBlock])⟩⟩
   case round =>
    obtain ⟨j, ao, ac, hj, rfl, rfl, HM⟩ := hrel
    by_cases hlt : j < C
    ·have hltI : (j : Int) < (C : Int) := by omega
     obtain ⟨l, M1, hl, hjo, htk, hin, hb1, hg1, hz1, hc1, ha1⟩ := HM.out
     obtain ⟨y, hal, hyT⟩ := alc_is M1 T (by rw [hg1.cnt]; omega)
     have hno := con_none hal.2.1
     have HAL := hidden (alloc_yes hb1 HPW.out hps2 y hal.1 (by rw [HPS.out]; exact hyT) hno (fun k h1 h2 => by rw [← con_some]; exact hal.2.2 k h1 h2) (by omega))
     rw [Int.toNat_natCast] at HAL
     have HM1 := hidden (And.intro hl (And.intro hjo (And.intro htk (And.intro hin (And.intro hb1 (And.intro hg1 (And.intro hz1 (And.intro hc1 ha1))))))))
     have HA := hidden hal
     have HNO := hidden hno
     have hyI : y < 65536 := by omega
     have hy2 : 2 ≤ y := hal.1
     clear hl hjo htk hin hb1 hg1 hz1 hc1 ha1 hal hno HM
     go_wp2_with (first
      | (go_at_call 62; refine HAL.out.mono ?_; rintro e w1 ⟨rfl, HX⟩; refine Hid.out ?_))
     apply hidden
     clear HAL
     obtain ⟨f, hfl, hfg, hb2, hc2⟩ := HX.out
     obtain ⟨hl, hjo, htk, hin, hb1, hg1, hz1, hc1, ha1⟩ := HM1.out
     have hJ1 : OwnJ w1 w.heap.size (.slice ao j ac) l := hjo.cf hc2 (fun k hk e => by
      have h1 := (hjo.lt hk).1
      have h2 := HBS.out.2
      omega)
     have hA1 : Apt (.slice ao j ac) (putM M1 y f) := by
      intro k f' hk
      unfold putM at hk
      by_cases e : k = y
      ·rw [if_pos e] at hk
       cases hk
       right
       intro e2
       have := (hjo.lt e2).2
       omega
      ·rw [if_neg e] at hk
       exact ha1 k f' hk
     obtain ⟨x, hx⟩ : ∃ x, w1.alloc (.cells #[.int .i64 y] 3) = x := ⟨_, rfl⟩
     have hbx : Below w1.heap.size w1 x := by rw [← hx]; exact bl_al (Below.refl _ _) (Nat.le_refl _) _
     have hcx : x.cell? ⟨w1.heap.size, 0, none⟩ = some (.int .i64 y) := by rw [← hx]; simp
     have hw1 : w.heap.size ≤ w1.heap.size := Nat.le_trans hc1.size hc2.size
     have hxs : w.heap.size ≤ x.heap.size := Nat.le_trans hw1 hbx.size
     have HJX := hidden (hJ1.below hbx)
     have HBX := hidden (hb2.on hbx)
     have HAX := hidden hA1
     have HCX : Hid (Cf (· = m) w x) := hidden ((hc1.go hc2).go (Cf.of_below hbx))
     have HTK : Hid (Tks P (con M) (l ++ [y]) (con (putM M1 y f))) := hidden (by
      rw [con_put, hfl]
      exact htk.snoc HA.out)
     have HIN : Hid (∀ a ∈ l ++ [y], 2 ≤ a ∧ a < ps) := hidden (fun a ha => by
      rcases List.mem_append.1 ha with h | h
      ·exact hin a h
      ·obtain rfl : a = y := by simpa using h
       exact ⟨HA.out.1, by rw [HPS.out]; exact hyT⟩)
     have HG2 : Hid (Gd9 (putM M1 y f) T (ct + j + 1)) := hidden (hg1.put HNO.out HA.out.1 hyT)
     have HZ2 : Hid (Zs w M (putM M1 y f)) := hidden (hz1.put (Nat.le_trans hc1.size hfg))
     have hlb : l.length + 1 ≤ 4000000 := by omega
     have HL2 : Hid ((l ++ [y]).length = j + 1) := hidden (by rw [List.length_append, hl]; rfl)
     clear hb2 hc2 hb1 hg1 hz1 hc1 ha1 hJ1 hA1 hbx HX HM1 hfl hfg hjo htk hin hl
     go_wp2_with (at_builtin; refine app_j _ rfl _ _ rfl w.heap.size l y _ w1.heap.size rfl rfl HJX.out hcx hlb hxs ?_; refine Hid.out ?_)
     apply hidden
     intro v' w2 hj2 hg2
     have HB2 : Hid (Bn w2 b m en (P : Int) ps rd (putM M1 y f) (ct + j + 1)) := hidden (HBX.out.gr hg2 HAX.out (fun e => by
      have h1 := (HJX.out.lt e).1
      have h2 := HBS.out.1
      omega) (fun e => by
      have h1 := (HJX.out.lt e).1
      have h2 := HBS.out.2
      omega))
     have HA2 : Hid (Apt v' (putM M1 y f)) := hidden (HAX.out.gr HBX.out hg2)
     have HC2 : Hid (Cf (· = m) w w2) := hidden (HCX.out.thenB (own_below HJX.out hxs hg2.grow))
     obtain ⟨ao2, ac2, rfl, hs2⟩ := hj2.sl
     rw [HL2.out] at hj2 HA2 ⊢
     have HJ2 : Hid (OwnJ w2 w.heap.size (.slice ao2 (j + 1) ac2) (l ++ [y])) := hidden hj2
     clear hj2 hg2 hs2 hx hcx
     go_wp2
     go_roundw
     case rel => exact ⟨j + 1, ao2, ac2, by omega, by go_num, rfl, hidden ⟨l ++ [y], _, HL2.out, HJ2.out, HTK.out, HIN.out, HB2.out, HG2.out, HZ2.out, HC2.out, HA2.out⟩⟩
     case measure => simp [intOf]; omega
    ·obtain rfl : j = C := by omega
     have hlI : ¬ (j : Int) < (j : Int) := by omega
     obtain ⟨l, M1, hl, hjo, htk, hin, hb1, hg1, hz1, hc1, ha1⟩ := HM.out
     obtain ⟨x, hx⟩ : ∃ x, wr.alloc (.cells #[.int .i64 0] 3) = x := ⟨_, rfl⟩
     have hbx : Below wr.heap.size wr x := by rw [← hx]; exact bl_al (Below.refl _ _) (Nat.le_refl _) _
     have hcx : x.cell? ⟨wr.heap.size, 0, none⟩ = some (.int .i64 0) := by rw [← hx]; simp
     have hxs : w.heap.size ≤ x.heap.size := Nat.le_trans hc1.size hbx.size
     have HJX := hidden (hjo.below hbx)
     have HBX := hidden (hb1.on hbx)
     have HAX := hidden ha1
     have HCX : Hid (Cf (· = m) w x) := hidden (hc1.go (Cf.of_below hbx))
     have HTK := hidden htk
     have HIN : Hid (∀ a ∈ l, 2 ≤ a ∧ a < 65536) := hidden (fun a ha => ⟨(hin a ha).1, by have := (hin a ha).2; omega⟩)
     have HG1 := hidden hg1
     have HZ1 := hidden hz1
     have HLL := hidden hl
     have hlb : l.length + 1 ≤ 4000000 := by omega
     have HHE : Hid (∀ a ∈ l, (M1 a).isSome = true) := hidden (fun a ha => by rw [← con_some]; exact (htk.held ha).1)
     clear hl hjo htk hin hb1 hg1 hz1 hc1 ha1 hbx HM
     go_wp2_with (at_builtin; refine app_j _ rfl _ _ rfl w.heap.size l 0 _ wr.heap.size rfl rfl HJX.out hcx hlb hxs ?_; refine Hid.out ?_)
     apply hidden
     intro v' w2 hj2 hg2
     have HB2 : Hid (Bn w2 b m en (P : Int) ps rd M1 (ct + j)) := hidden (HBX.out.gr hg2 HAX.out (fun e => by
      have h1 := (HJX.out.lt e).1
      have h2 := HBS.out.1
      omega) (fun e => by
      have h1 := (HJX.out.lt e).1
      have h2 := HBS.out.2
      omega))
     have HC2 : Hid (Cf (· = m) w w2) := hidden (HCX.out.thenB (own_below HJX.out hxs hg2.grow))
     obtain ⟨ao2, ac2, rfl, hs2⟩ := hj2.sl
     have hl2 : (l ++ [0]).length = j + 1 := by rw [List.length_append, HLL.out]; rfl
     rw [hl2] at hs2 ⊢
     have HPN := hidden (hs2.nomap HB2.out)
     obtain ⟨pb, rfl, hpb, hpcs⟩ : ∃ b, ao2 = some ⟨b, 0, none⟩ ∧ b < w2.heap.size ∧ ∀ i, i < j + 1 → w2.cell? ⟨b, i, none⟩ = some (.int .i64 ((l ++ [0]).getD i 0)) := by
      rcases hs2.hat with h0 | h0
      ·omega
      ·exact h0
     have HPC := hidden hpcs
     have HV2 : Hid (Sl w2 vo N vc v) := hidden (HV.out.cf HC2.out HVN.out)
     have hpc := hs2.hcap
     have hpcI : ((j : Int) + 1) ≤ (ac2 : Int) := by omega
     have HVN2 := hidden (HV2.out.nomap HB2.out)
     obtain ⟨vb, voff, rfl, hvb, hvcs⟩ : ∃ b off, vo = some ⟨b, off, none⟩ ∧ b < w2.heap.size ∧ ∀ i, i < N → w2.cell? ⟨b, off + i, none⟩ = some (.int .u8 (v.getD i 0)) := by
      rcases HV2.out.hat with h | h
      ·omega
      ·exact h
     have hvcap := HV2.out.hcap
     have HS2 := fun (M' : Int → Option Pf) (u : World) (hb : Bn u b m en (P : Int) ps rd M' (ct + j)) => size_any hb
     clear hj2 hg2 hs2 hx hcx hpcs hvcs HJX HBX HAX HCX
     have HSZ0 := hidden (size_any HB2.out)
     go_wp2_with (first
      | (go_at_call 49; refine same_call HSZ0.out ?_))
     clear HSZ0
     go_loopw [12] (fun i wq => ∃ t : Nat, t ≤ j ∧ i = .int .i64 (t : Int) ∧ Hid (∃ M', Bn wq b m en (P : Int) ps rd M' (ct + j) ∧ con M' = lyC P l v (con M1) t ∧ Gd9 M' T (ct + j) ∧ Zs w M M' ∧ Cf (· = m) w2 wq)) (fun i _ => j - (intOf i).toNat)
     case atStart => exact ⟨0, by omega, rfl, hidden ⟨M1, HB2.out, rfl, HG1.out, HZ1.out, Cf.refl _ _⟩⟩
     case round =>
      obtain ⟨t, ht, rfl, HQ⟩ := hrel
      obtain ⟨M2, hb3, hcon3, hg3, hz3, hc3⟩ := HQ.out
      have hct0 : ∀ i, i < j + 1 → wr.cell? ⟨pb, i, none⟩ = some (.int .i64 ((l ++ [0]).getD i 0)) := fun i hi => by
       rw [← HPC.out i hi]
       exact World.cell?_of_block (hc3.block pb hpb (by
        rcases HPN.out with h | h
        ·omega
        ·exact h _ rfl))
      by_cases hlt3 : t < j
      ·have hltI3 : (t : Int) < (j : Int) := by omega
       have hk0 : H * t ≤ H * (j - 1) := Nat.mul_le_mul_left _ (by omega)
       have hk1 : H * (t + 1) = H * t + H := Nat.mul_succ _ _
       obtain ⟨k0, hk0e⟩ : ∃ k0, H * t = k0 := ⟨_, rfl⟩
       obtain ⟨k1, hk1e⟩ : ∃ k1, H * (t + 1) = k1 := ⟨_, rfl⟩
       have hm0 : (H : Int) * (t : Int) = (k0 : Int) := by rw [← hk0e]; exact (Int.natCast_mul H t).symm
       have hm1 : (H : Int) * ((t : Int) + 1) = (k1 : Int) := by rw [← hk1e, Int.natCast_mul]; rfl
       obtain ⟨to, hto⟩ : ∃ to, min k1 N = to := ⟨_, rfl⟩
       have hmin : min (k1 : Int) (N : Int) = (to : Int) := by omega
       have ha : k0 < to := by omega
       have hb : to ≤ N := by omega
       have hc : to - k0 + 16 ≤ P := by have := HH.out; omega
       have HSD : Hid (∀ u, Below wr.heap.size wr u → Sl u (some ⟨vb, voff + k0, none⟩) (to - k0) (vc - k0) (ckN (P - 16) v t)) := hidden (fun u hu => by
        have h1 : Sl wr (some ⟨vb, voff, none⟩) N vc v := HV2.out.cf hc3 HVN2.out
        have h2 := (h1.on (Nat.le_refl _) hu).cut9 k0 (to - k0) (by omega)
        have h3 : (v.drop k0).take (to - k0) = ckN (P - 16) v t := by
         unfold ckN
         rw [HH.out, hk0e]
         by_cases e : k1 ≤ N
         ·rw [show to - k0 = H by omega]
         ·rw [List.take_of_length_le (by rw [List.length_drop, HVL.out]; omega), List.take_of_length_le (by rw [List.length_drop, HVL.out]; omega)]
        rw [h3] at h2
        exact h2)
       have HNX : Hid (nxt (nxl l t)) := hidden (nxl_ok HIN.out t)
       have cn := hct0 (t + 1) (by omega)
       rw [nxl_get HLL.out hlt3] at cn
       have cy := hct0 t (by omega)
       rw [lst_get HLL.out hlt3] at cy
       have hym : l.getD t 0 ∈ l := getD_mem (by rw [HLL.out]; exact hlt3)
       have hyI := HIN.out _ hym
       have hpj : (M2 (l.getD t 0)).isSome = true := by
        rw [← con_some, hcon3]
        exact lyC_some (by rw [con_some]; exact HHE.out _ hym) t
       obtain ⟨y, hy⟩ : ∃ y, l.getD t 0 = y := ⟨_, rfl⟩
       have HY := hidden hy
       rw [hy] at cy hyI hpj
       obtain ⟨nx, hnx⟩ : ∃ nx, nxl l t = nx := ⟨_, rfl⟩
       have HNX2 := hidden hnx
       rw [hnx] at cn HNX
       have HENC : Hid (∀ u, Below wr.heap.size wr u → Calls Tryd.prog 53 #[.int .i64 nx, .slice (some ⟨vb, voff + k0, none⟩) (to - k0) (vc - k0), .int .i64 (P : Int)] u fun e w' => ∃ ro rc, e = .returned (.tuple #[.slice ro P rc, .int .i64 0]) ∧ Hid (Sl w' ro P rc (spB nx (ckN (P - 16) v t) P) ∧ Below wr.heap.size wr w')) := hidden (fun u hu => by
        have hsd := HSD.out u hu
        refine (refEnc_yes nx P _ (to - k0) (vc - k0) _ u hsd HPW.out HNX.out (by omega) hc).mono ?_
        rintro e w' ⟨ro, rc, rfl, ho, hbl⟩
        refine ⟨ro, rc, rfl, hidden ⟨?_, bl_go hu (Nat.le_refl _) hbl.out⟩⟩
        exact ho.out.sl2 (spB_wf P hsd.wf) (by rw [spB_length _ _ _ (by rw [hsd.hlen]; exact hc)]; omega))
       have HSZ : Hid (∀ u, Below wr.heap.size wr u → Calls Tryd.prog 49 #[pB b] u fun e w' => e = .returned (.int .i64 (P : Int)) ∧ w' = u) := hidden (fun u hu => size_any (hb3.on hu))
       have HBQ := hidden hb3
       have HST := hidden (And.intro hcon3 (And.intro hg3 (And.intro hz3 hc3)))
       have HPJ := hidden hpj
       obtain ⟨dn, hdn⟩ : ∃ dn, to - k0 = dn := ⟨_, rfl⟩
       obtain ⟨dc, hdc⟩ : ∃ dc, vc - k0 = dc := ⟨_, rfl⟩
       have hdnI : (to : Int) - (k0 : Int) = (dn : Int) := by omega
       have hdcI : (vc : Int) - (k0 : Int) = (dc : Int) := by omega
       rw [hdn, hdc] at HENC
       have toI : (to : Int) ≤ 65536 := by omega
       have k0I : (k0 : Int) ≤ 65536 := by omega
       have k1I : (k1 : Int) ≤ 200000 := by omega
       have q1 : (k0 : Int) ≤ (to : Int) := by omega
       have q2 : (to : Int) ≤ (vc : Int) := by omega
       have q3 : to ≤ vc := by omega
       have q4 : k0 ≤ to := by omega
       have q5 : ¬ vc = k0 := by omega
       have q6 : (t : Int) + 1 < (j : Int) + 1 := by omega
       have q7 : (t : Int) < (j : Int) + 1 := by omega
       have q8 : t + 1 < j + 1 := by omega
       have q9 : t < j + 1 := by omega
       clear hb3 hcon3 hg3 hz3 hc3 hct0 hym hpj hy hnx hk0 hk1 hk0e hk1e hto HQ HSD ha hb hc
       have HSF : Hid (∀ u, Below wr.heap.size wr u → Sf9 pb (t + 1) nx u) := hidden (fun u hu => ⟨(hu.cell (p := ⟨pb, t + 1, none⟩) (Nat.lt_of_lt_of_le hpb HST.out.2.2.2.size)).trans cn, trivial⟩)
       have HBD := hidden (And.intro hpb cy)
       clear cn
       have wt : IntKind.i64.wrap ((t : Int) + 1) = (t : Int) + 1 := by rw [IntKind.wrap_i64]; omega
       have wk : IntKind.i64.wrap (k0 : Int) = (k0 : Int) := by rw [IntKind.wrap_i64]; omega
       have q10 : (0 : Int) ≤ (t : Int) + 1 := by omega
       have q11 : ((t : Int) + 1).toNat = t + 1 := by omega
       go_upto_region 20 with fail
       refine wp_region_held_drew (S := Sf9 pb (t + 1) nx) (by kernel_rfl) (HSF.out _ (Below.refl _ _).drew) (fun hHeld => ?_)
       refine wpAnyH_take (i := 0) (v := ?_) rfl (by kernel_rfl) (by kernel_rfl) (by kernel_rfl) (fun _ _ _ h => h) (Or.inl ⟨by rfl, ?_⟩) (by assumption) ?_
       rotate_left
       ·(intro w hSw; obtain ⟨q0, _⟩ := hSw; go_simp; try (with_reducible rfl))
       try simp only [Act.put, List.getElem_toArray, List.getElem_cons_zero, List.setIfInBounds_toArray, List.set_cons_zero, List.set_cons_succ]
       refine wpAnyH_take (i := 1) (v := ?_) rfl (by kernel_rfl) (by kernel_rfl) (by kernel_rfl) (fun _ _ _ h => h) (Or.inl ⟨by rfl, ?_⟩) (by assumption) ?_
       rotate_left
       ·(intro w hSw; obtain ⟨q0, _⟩ := hSw; go_simp; try (with_reducible rfl))
       try simp only [Act.put, List.getElem_toArray, List.getElem_cons_succ, List.getElem_cons_zero, List.setIfInBounds_toArray, List.set_cons_zero, List.set_cons_succ]
       refine wpAnyH_take (i := 2) (v := ?_) rfl (by kernel_rfl) (by kernel_rfl) (by kernel_rfl) (fun _ _ _ h => h) (Or.inl ⟨by rfl, ?_⟩) (by assumption) ?_
       rotate_left
       ·(intro w hSw; obtain ⟨q0, _⟩ := hSw; go_simp; try (with_reducible rfl))
       try simp only [Act.put, List.getElem_toArray, List.getElem_cons_succ, List.getElem_cons_zero, List.setIfInBounds_toArray, List.set_cons_zero, List.set_cons_succ]
       refine wpAnyH_take (i := 3) (v := ?_) rfl (by kernel_rfl) (by kernel_rfl) (by kernel_rfl) (fun _ _ _ h => h) (Or.inl ⟨by rfl, ?_⟩) (by assumption) ?_
       rotate_left
       ·(intro w hSw; obtain ⟨q0, _⟩ := hSw; go_simp; try (with_reducible rfl))
       try simp only [Act.put, List.getElem_toArray, List.getElem_cons_succ, List.getElem_cons_zero, List.setIfInBounds_toArray, List.set_cons_zero, List.set_cons_succ]
       refine wpAnyH_take (i := 4) (v := ?_) rfl (by kernel_rfl) (by kernel_rfl) (by kernel_rfl) (fun _ _ _ h => h) (Or.inl ⟨by rfl, ?_⟩) (by assumption) ?_
       rotate_left
       ·(intro w hSw; obtain ⟨q0, _⟩ := hSw; go_simp; try (with_reducible rfl))
       try simp only [Act.put, List.getElem_toArray, List.getElem_cons_succ, List.getElem_cons_zero, List.setIfInBounds_toArray, List.set_cons_zero, List.set_cons_succ]
       refine wpAnyH_take (i := 5) (v := ?_) rfl (by kernel_rfl) (by kernel_rfl) (by kernel_rfl) (fun _ _ _ h => h) (Or.inl ⟨by rfl, ?_⟩) (by assumption) ?_
       rotate_left
       ·(intro w hSw; obtain ⟨q0, _⟩ := hSw; go_simp; try (with_reducible rfl))
       try simp only [Act.put, List.getElem_toArray, List.getElem_cons_succ, List.getElem_cons_zero, List.setIfInBounds_toArray, List.set_cons_zero, List.set_cons_succ]
       refine wpAnyH_take (i := 6) (v := ?_) rfl (by kernel_rfl) (by kernel_rfl) (by kernel_rfl) (fun _ _ _ h => h) (Or.inl ⟨by rfl, ?_⟩) (by assumption) ?_
       rotate_left
       ·(intro w hSw; obtain ⟨q0, _⟩ := hSw; go_simp; try (with_reducible rfl))
       try simp only [Act.put, List.getElem_toArray, List.getElem_cons_succ, List.getElem_cons_zero, List.setIfInBounds_toArray, List.set_cons_zero, List.set_cons_succ]
       refine wpAnyH_take (i := 7) (v := ?_) rfl (by kernel_rfl) (by kernel_rfl) (by kernel_rfl) (fun _ _ _ h => h) (Or.inl ⟨by rfl, ?_⟩) (by assumption) ?_
       rotate_left
       ·(intro w hSw; obtain ⟨q0, _⟩ := hSw; go_simp; try (with_reducible rfl))
       try simp only [Act.put, List.getElem_toArray, List.getElem_cons_succ, List.getElem_cons_zero, List.setIfInBounds_toArray, List.set_cons_zero, List.set_cons_succ]
       refine wpAnyH_take (i := 8) (v := ?_) rfl (by kernel_rfl) (by kernel_rfl) (by kernel_rfl) (fun _ _ _ h => h) (Or.inl ⟨by rfl, ?_⟩) (by assumption) ?_
       rotate_left
       ·(intro w hSw; obtain ⟨q0, _⟩ := hSw; go_simp; try (with_reducible rfl))
       try simp only [Act.put, List.getElem_toArray, List.getElem_cons_succ, List.getElem_cons_zero, List.setIfInBounds_toArray, List.set_cons_zero, List.set_cons_succ]
       refine wpAnyH_take (i := 9) (v := ?_) rfl (by kernel_rfl) (by kernel_rfl) (by kernel_rfl) (fun _ _ _ h => h) (Or.inl ⟨by rfl, ?_⟩) (by assumption) ?_
       rotate_left
       ·(intro w hSw; obtain ⟨q0, _⟩ := hSw; go_simp; try (with_reducible rfl))
       try simp only [Act.put, List.getElem_toArray, List.getElem_cons_succ, List.getElem_cons_zero, List.setIfInBounds_toArray, List.set_cons_zero, List.set_cons_succ]
       refine wpAnyH_take (i := 10) (v := ?_) rfl (by kernel_rfl) (by kernel_rfl) (by kernel_rfl) (fun _ _ _ h => h) (Or.inl ⟨by rfl, ?_⟩) (by assumption) ?_
       rotate_left
       ·(intro w hSw; obtain ⟨q0, _⟩ := hSw; go_simp; try (with_reducible rfl))
       try simp only [Act.put, List.getElem_toArray, List.getElem_cons_succ, List.getElem_cons_zero, List.setIfInBounds_toArray, List.set_cons_zero, List.set_cons_succ]
       refine wpAnyH_take (i := 11) (v := ?_) rfl (by kernel_rfl) (by kernel_rfl) (by kernel_rfl) (fun _ _ _ h => h) (Or.inl ⟨by rfl, ?_⟩) (by assumption) ?_
       rotate_left
       ·(intro w hSw; obtain ⟨q0, _⟩ := hSw; go_simp; try (with_reducible rfl))
       try simp only [Act.put, List.getElem_toArray, List.getElem_cons_succ, List.getElem_cons_zero, List.setIfInBounds_toArray, List.set_cons_zero, List.set_cons_succ]
       refine wpAnyH_ready (rs := [12]) (by kernel_rfl) (by simp) ?_
       refine AllReadyH.cons rfl (fun K hK => ?_) AllReadyH.nil
       go_simp
       go_at_call 49
       refine (HSZ.out _ (Below.refl _ _).drew).mono ?_
       rintro e w4 ⟨rfl, rfl⟩
       dsimp only
       refine hK.out _ _ (HSF.out _ (Below.refl _ _).drew) (fun hHeld => ?_)
       clear hK K
       try simp only [Act.put, List.getElem_toArray, List.getElem_cons_succ, List.getElem_cons_zero, List.setIfInBounds_toArray, List.set_cons_zero, List.set_cons_succ]
       refine wpAnyH_ready (rs := [13]) (by kernel_rfl) (by simp) ?_
       refine AllReadyH.cons rfl (fun K hK => ?_) AllReadyH.nil
       go_simp
       go_at_call 53
       refine (HENC.out _ (Below.refl _ _).drew).mono ?_
       rintro e w4 ⟨ro, rc, rfl, HE⟩
       dsimp only
       refine hK.out _ _ (HSF.out _ HE.out.2) (fun hHeld => ?_)
       clear hK K
       try simp only [Act.put, List.getElem_toArray, List.getElem_cons_succ, List.getElem_cons_zero, List.setIfInBounds_toArray, List.set_cons_zero, List.set_cons_succ]
       refine wpAnyH_take (i := 14) (v := ?_) rfl (by kernel_rfl) (by kernel_rfl) (by kernel_rfl) (fun _ _ _ h => h) (Or.inl ⟨by rfl, ?_⟩) (by assumption) ?_
       rotate_left
       ·(intro w hSw; obtain ⟨q0, _⟩ := hSw; go_simp; try (with_reducible rfl))
       try simp only [Act.put, List.getElem_toArray, List.getElem_cons_succ, List.getElem_cons_zero, List.setIfInBounds_toArray, List.set_cons_zero, List.set_cons_succ]
       refine wpAnyH_take (i := 15) (v := ?_) rfl (by kernel_rfl) (by kernel_rfl) (by kernel_rfl) (fun _ _ _ h => h) (Or.inl ⟨by rfl, ?_⟩) (by assumption) ?_
       rotate_left
       ·(intro w hSw; obtain ⟨q0, _⟩ := hSw; go_simp; try (with_reducible rfl))
       try simp only [Act.put, List.getElem_toArray, List.getElem_cons_succ, List.getElem_cons_zero, List.setIfInBounds_toArray, List.set_cons_zero, List.set_cons_succ]
       refine wpAnyH_take (i := 16) (v := ?_) rfl (by kernel_rfl) (by kernel_rfl) (by kernel_rfl) (fun _ _ _ h => h) (Or.inl ⟨by rfl, ?_⟩) (by assumption) ?_
       rotate_left
       ·(intro w hSw; obtain ⟨q0, _⟩ := hSw; go_simp; try (with_reducible rfl))
       try simp only [Act.put, List.getElem_toArray, List.getElem_cons_succ, List.getElem_cons_zero, List.setIfInBounds_toArray, List.set_cons_zero, List.set_cons_succ]
       refine wpAnyH_take (i := 17) (v := ?_) rfl (by kernel_rfl) (by kernel_rfl) (by kernel_rfl) (fun _ _ _ h => h) (Or.inl ⟨by rfl, ?_⟩) (by assumption) ?_
       rotate_left
       ·(intro w hSw; obtain ⟨q0, _⟩ := hSw; go_simp; try (with_reducible rfl))
       try simp only [Act.put, List.getElem_toArray, List.getElem_cons_succ, List.getElem_cons_zero, List.setIfInBounds_toArray, List.set_cons_zero, List.set_cons_succ]
       refine wpAnyH_take (i := 18) (v := ?_) rfl (by kernel_rfl) (by kernel_rfl) (by kernel_rfl) (fun _ _ _ h => h) (Or.inl ⟨by rfl, ?_⟩) (by assumption) ?_
       rotate_left
       ·(intro w hSw; obtain ⟨q0, _⟩ := hSw; go_simp; try (with_reducible rfl))
       try simp only [Act.put, List.getElem_toArray, List.getElem_cons_succ, List.getElem_cons_zero, List.setIfInBounds_toArray, List.set_cons_zero, List.set_cons_succ]
       refine wpAnyH_done (by kernel_rfl) ?_ _
       clear hHeld HSF
       have HW := hidden (bwrite_any (HBQ.out.on HE.out.2) y (wf64 _ (by omega) (by omega)) _ P rc _ HE.out.1 (by have := HG.out.le; omega))
       have cy4 : w4.cell? ⟨pb, t, none⟩ = some (.int .i64 y) := (HE.out.2.cell (p := ⟨pb, t, none⟩) (Nat.lt_of_lt_of_le hpb HST.out.2.2.2.size)).trans cy
       go_wp2_with (first
        | (go_at_call 63; refine HW.out.mono ?_; rintro e w5 ⟨k9, rfl, HK9⟩; refine Hid.out ?_))
       apply hidden
       obtain ⟨_, _, rfl, f, hfl, hfg, hb5, hc5⟩ : (M2 y).isSome = true ∧ True ∧ k9 = 0 ∧ ∃ f : Pf, f.l = spB nx (ckN (P - 16) v t) P ∧ w4.heap.size ≤ f.g ∧ Bn w5 b m en (P : Int) ps rd (putM M2 y f) (ct + j) ∧ Cf (· = m) w4 w5 := by
        rcases HK9.out with ⟨h1, _⟩ | ⟨_, h1, _⟩ | h1
        ·have := HPJ.out
         rw [h1] at this
         cases this
        ·exact absurd rfl h1
        ·exact h1
       have HF : Hid (∃ M', Bn w5 b m en (P : Int) ps rd M' (ct + j) ∧ con M' = lyC P l v (con M1) (t + 1) ∧ Gd9 M' T (ct + j) ∧ Zs w M M' ∧ Cf (· = m) w2 w5) := hidden ⟨_, hb5, by
        rw [con_put, hfl, HST.out.1, ← HY.out]
        show _ = putC _ _ (spB (nxl l t) _ _)
        rw [HNX2.out], HST.out.2.1.set HPJ.out, HST.out.2.2.1.put (Nat.le_trans HC2.out.size (Nat.le_trans HST.out.2.2.2.size (Nat.le_trans HE.out.2.size hfg))), (HST.out.2.2.2.go (Cf.of_below HE.out.2)).go hc5⟩
       clear HK9 hb5 hc5 hfl hfg HW HE
       go_wp2
       go_roundw
       case rel => exact ⟨t + 1, by omega, by go_num, HF⟩
       case measure => simp [intOf]; omega
      ·obtain rfl : t = j := by omega
       have hlI3 : ¬ (t : Int) < (t : Int) := by omega
       have cy := hct0 0 (by omega)
       rw [lst_get HLL.out (by omega)] at cy
       have q9 : (0 : Int) < (t : Int) + 1 := by omega
       have q8 : 0 < t + 1 := by omega
       have HFI : Hid (2 ≤ l.getD 0 0 ∧ l.getD 0 0 < 65536) := hidden (HIN.out _ (getD_mem (by rw [HLL.out]; omega)))
       have HF : Hid (WrM w b m en ps rd P T M ct v (l.getD 0 0) 0 wr) := hidden ⟨M2, ct + t, .inr (.inr ⟨by rw [HVL.out]; exact ⟨hN1, hN3⟩, by rw [HCN.out]; exact hroom, rfl, by rw [HCN.out], l, con M1, by rw [HCN.out]; exact HLL.out, HTK.out, rfl, by rw [HCN.out]; exact hcon3⟩), hb3, hg3, hz3, HC2.out.go hc3, fun _ => HFI.out⟩
       clear hb3 hcon3 hg3 hz3 hc3 hct0 HQ
       generalize l.getD 0 0 = y at *
       go_wp2
       go_ret2
       exact ⟨_, _, rfl, HF⟩
  ·have e3 : decide ((C : Int) ≤ ps - 2 - (ct : Int)) = false := by simp; omega
   rw [e3] at HSP
   clear h hp hv hg hps hvl hC
   go_enter Tryd.func46, Tryd.ntmps46
   go_wp2_with (first
    | (go_at_call 49; refine same_call HS.out ?_)
    | (go_at_call 48; refine same_call (HP _) ?_)
    | (go_at_call 61; refine HSP.out.mono ?_; rintro e w0 ⟨rfl, q, rfl⟩))
   go_ret2
   exact ⟨_, _, rfl, hidden ⟨M, ct, .inr (.inl ⟨by rw [HVL.out]; exact ⟨hN1, hN3⟩, by rw [HCN.out]; omega, rfl, rfl, rfl, rfl⟩), HB.out.on (bl_dr (Below.refl _ w) _), HG.out, Zs.refl _ _, Cf.drew _ _ _, fun h => (by cases h)⟩⟩
 ·have HNN : Hid (¬ (1 ≤ v.length ∧ v.length ≤ 65536)) := hidden (by rw [hvl]; exact hN)
  have HF : Hid (WrM w b m en ps rd P T M ct v 0 31 w) := hidden ⟨M, ct, .inl ⟨HNN.out, rfl, rfl, rfl, rfl⟩, HB.out, HG.out, Zs.refl _ _, Cf.refl _ _, fun h => (by cases h)⟩
  by_cases h0 : N < 1
  ·have e1 : decide ((N : Int) < 1) = true := by simp; omega
   clear h hp hv hg hps hvl
   go_enter Tryd.func46, Tryd.ntmps46
   go_wp2
   go_ret2
   exact ⟨_, _, rfl, HF⟩
  ·have e1 : decide ((N : Int) < 1) = false := by simp; omega
   have e2 : decide ((65536 : Int) < (N : Int)) = true := by simp; omega
   clear h hp hv hg hps hvl
   go_enter Tryd.func46, Tryd.ntmps46
   go_wp2
   go_ret2
   exact ⟨_, _, rfl, HF⟩
end Go.Proofs.YtoejadhlkamcjaaDoor
