import Derived.Test.YtoejadhlkamcjaaDoorJ16
namespace Go.Proofs.YtoejadhlkamcjaaDoor
set_option maxRecDepth 100000
open Go.RowKit Go.Maps
def TkM (w : World) (b m : Nat) (en pg ps rd : Int) (T : Nat) (M : Int → Option Pf) (ct C : Nat) (v : Value) (u : World) : Prop :=
 ∃ l M', l.length = C ∧ OwnJ u w.heap.size v l ∧ Tks pg.toNat (con M) l (con M') ∧ (∀ a ∈ l, 2 ≤ a ∧ a < ps) ∧ Bn u b m en pg ps rd M' (ct + C) ∧ Gd9 M' T (ct + C) ∧ Zs w M M' ∧ Cf (· = m) w u
set_option maxHeartbeats 2000000 in
theorem take_g {w : World} {b m : Nat} {en pg ps rd : Int} {M : Int → Option Pf} {ct : Nat} (h : Bn w b m en pg ps rd M ct) (hp : pw pg) (T : Nat) (hps : ps = (T : Int) + 2) (hT : T ≤ 65534) (hg : Gd9 M T ct) (C : Nat) (hC : ct + C ≤ T) :
  Calls Tryd.prog 33 #[iB b, .int .i64 (C : Int)] w fun e u => ∃ ao ac, e = .returned (.tuple #[.slice ao C ac, .int .i64 0]) ∧
   Hid (TkM w b m en pg ps rd T M ct C (.slice ao C ac) u) := by
 have HB := hidden h
 have HPW := hidden hp
 have HG := hidden hg
 have h2 : ps ≤ 65536 := by omega
 have HPS := hidden hps
 have HBS := hidden (And.intro h.lt h.mlt)
 have hCI : (C : Int) ≤ 65536 := by omega
 clear h hp hg hps
 go_enter Tryd.func33, Tryd.ntmps33
 go_wp2_with fail
 go_loopw [6, 10] (fun v i wr => ∃ (j : Nat) (ao : Option Addr) (ac : Nat), j ≤ C ∧ i = .int .i64 (j : Int) ∧ v = .slice ao j ac ∧ Hid (∃ l M', l.length = j ∧ OwnJ wr w.heap.size (.slice ao j ac) l ∧ Tks pg.toNat (con M) l (con M') ∧ (∀ a ∈ l, 2 ≤ a ∧ a < ps) ∧ Bn wr b m en pg ps rd M' (ct + j) ∧ Gd9 M' T (ct + j) ∧ Zs w M M' ∧ Cf (· = m) w wr ∧ Apt (.slice ao j ac) M')) (fun _ i _ => C - (intOf i).toNat)
 case atStart => exact ⟨0, none, 0, by omega, rfl, rfl, hidden ⟨[], M, rfl, OwnJ.nil _ _, rfl, fun a ha => absurd ha List.not_mem_nil, HB.out, HG.out, Zs.refl _ _, Cf.refl _ _, fun k f _ => .inr (by simp [Value.ownBlock])⟩⟩
 case round =>
  obtain ⟨j, ao, ac, hj, rfl, rfl, HM⟩ := hrel
  by_cases hlt : j < C
  ·have hltI : (j : Int) < (C : Int) := by omega
   obtain ⟨l, M1, hl, hjo, htk, hin, hb1, hg1, hz1, hc1, ha1⟩ := HM.out
   obtain ⟨y, hal, hyT⟩ := alc_is M1 T (by rw [hg1.cnt]; omega)
   have hno := con_none hal.2.1
   have HAL := hidden (alloc_yes hb1 HPW.out h2 y hal.1 (by rw [HPS.out]; exact hyT) hno (fun k h1 h2 => by rw [← con_some]; exact hal.2.2 k h1 h2) (by omega))
   have HM1 := hidden (And.intro hl (And.intro hjo (And.intro htk (And.intro hin (And.intro hb1 (And.intro hg1 (And.intro hz1 (And.intro hc1 ha1))))))))
   have HA := hidden hal
   have HNO := hidden hno
   have hyI : y < 65536 := by omega
   have hy2 : 2 ≤ y := hal.1
   clear hl hjo htk hin hb1 hg1 hz1 hc1 ha1 hal hno HM
   go_wp2_with (first
    | (go_at_call 62; refine HAL.out.mono ?_; rintro e w1 ⟨rfl, HX⟩; refine Hid.out ?_))
   apply hidden
   clear HAL
   obtain ⟨f, hfl, hfg, hb2, hc2⟩ := HX.out
   obtain ⟨hl, hjo, htk, hin, hb1, hg1, hz1, hc1, ha1⟩ := HM1.out
   have hJ1 : OwnJ w1 w.heap.size (.slice ao j ac) l := hjo.cf hc2 (fun k hk e => by
    have h1 := (hjo.lt hk).1
    have h2 := HBS.out.2
    omega)
   have hA1 : Apt (.slice ao j ac) (putM M1 y f) := by
    intro k f' hk
    unfold putM at hk
    by_cases e : k = y
    ·rw [if_pos e] at hk
     cases hk
     right
     intro e2
     have := (hjo.lt e2).2
     omega
    ·rw [if_neg e] at hk
     exact ha1 k f' hk
   obtain ⟨x, hx⟩ : ∃ x, w1.alloc (.cells #[.int .i64 y] 3) = x := ⟨_, rfl⟩
   have hbx : Below w1.heap.size w1 x := by rw [← hx]; exact bl_al (Below.refl _ _) (Nat.le_refl _) _
   have hcx : x.cell? ⟨w1.heap.size, 0, none⟩ = some (.int .i64 y) := by rw [← hx]; simp
   have hw1 : w.heap.size ≤ w1.heap.size := Nat.le_trans hc1.size hc2.size
   have hxs : w.heap.size ≤ x.heap.size := Nat.le_trans hw1 hbx.size
   have HJX := hidden (hJ1.below hbx)
   have HBX := hidden (hb2.on hbx)
   have HAX := hidden hA1
   have HCX : Hid (Cf (· = m) w x) := hidden ((hc1.go hc2).go (Cf.of_below hbx))
   have HTK : Hid (Tks pg.toNat (con M) (l ++ [y]) (con (putM M1 y f))) := hidden (by
    rw [con_put, hfl]
    exact htk.snoc HA.out)
   have HIN : Hid (∀ a ∈ l ++ [y], 2 ≤ a ∧ a < ps) := hidden (fun a ha => by
    rcases List.mem_append.1 ha with h | h
    ·exact hin a h
    ·obtain rfl : a = y := by simpa using h
     exact ⟨HA.out.1, by rw [HPS.out]; exact hyT⟩)
   have HG2 : Hid (Gd9 (putM M1 y f) T (ct + j + 1)) := hidden (hg1.put HNO.out HA.out.1 hyT)
   have HZ2 : Hid (Zs w M (putM M1 y f)) := hidden (hz1.put (Nat.le_trans hc1.size hfg))
   have hlb : l.length + 1 ≤ 4000000 := by omega
   have HL2 : Hid ((l ++ [y]).length = j + 1) := hidden (by rw [List.length_append, hl]; rfl)
   clear hb2 hc2 hb1 hg1 hz1 hc1 ha1 hJ1 hA1 hbx HX HM1 hfl hfg hjo htk hin hl
   go_wp2_with (at_builtin; refine app_j _ rfl _ _ rfl w.heap.size l y _ w1.heap.size rfl rfl HJX.out hcx hlb hxs ?_; refine Hid.out ?_)
   apply hidden
   intro v' w2 hj2 hg2
   have HB2 : Hid (Bn w2 b m en pg ps rd (putM M1 y f) (ct + j + 1)) := hidden (HBX.out.gr hg2 HAX.out (fun e => by
    have h1 := (HJX.out.lt e).1
    have h2 := HBS.out.1
    omega) (fun e => by
    have h1 := (HJX.out.lt e).1
    have h2 := HBS.out.2
    omega))
   have HA2 : Hid (Apt v' (putM M1 y f)) := hidden (HAX.out.gr HBX.out hg2)
   have HC2 : Hid (Cf (· = m) w w2) := hidden (HCX.out.thenB (own_below HJX.out hxs hg2.grow))
   obtain ⟨ao2, ac2, rfl, hs2⟩ := hj2.sl
   rw [HL2.out] at hj2 HA2 ⊢
   have HJ2 : Hid (OwnJ w2 w.heap.size (.slice ao2 (j + 1) ac2) (l ++ [y])) := hidden hj2
   clear hj2 hg2 hs2 hx hcx
   go_wp2
   go_roundw
   case rel => exact ⟨j + 1, ao2, ac2, by omega, by go_num, rfl, hidden ⟨l ++ [y], _, HL2.out, HJ2.out, HTK.out, HIN.out, HB2.out, HG2.out, HZ2.out, HC2.out, HA2.out⟩⟩
   case measure => simp [intOf]; omega
  ·obtain rfl : j = C := by omega
   have hlI : ¬ (j : Int) < (j : Int) := by omega
   have HF : Hid (TkM w b m en pg ps rd T M ct j (.slice ao j ac) wr) := hidden (by
    obtain ⟨l, M1, a1, a2, a3, a4, a5, a6, a7, a8, _⟩ := HM.out
    exact ⟨l, M1, a1, a2, a3, a4, a5, a6, a7, a8⟩)
   clear HM
   go_wp2
   go_ret2
   exact ⟨_, _, rfl, HF⟩
end Go.Proofs.YtoejadhlkamcjaaDoor

namespace Go.Proofs.YtoejadhlkamcjaaDoor
set_option maxRecDepth 100000
open Go.RowKit Go.Maps
def LyM (w : World) (b m : Nat) (en ps rd : Int) (P T : Nat) (M : Int → Option Pf) (ct : Nat) (l v : List Int) (C : Nat) (u : World) : Prop :=
 ∃ M', Bn u b m en (P : Int) ps rd M' ct ∧ con M' = lyC P l v (con M) C ∧ Gd9 M' T ct ∧ Zs w M M' ∧ Cf (· = m) w u
set_option maxHeartbeats 4000000 in
theorem lay_g {w : World} {b m : Nat} {en ps rd : Int} {P : Nat} {M : Int → Option Pf} {ct : Nat} (h : Bn w b m en (P : Int) ps rd M ct) (hp : pw P) (T : Nat) (hg : Gd9 M T ct) (C : Nat) (l : List Int) (hll : l.length = C) (hin : ∀ a ∈ l, 2 ≤ a ∧ a < 65536) (hheld : ∀ a ∈ l, (M a).isSome = true) (hct : ct < 1000000)
  (po : Option Addr) (pc : Nat) (hpg : SlJ w po C pc l) (vo : Option Addr) (N vc : Nat) (v : List Int) (hv : Sl w vo N vc v) (hN1 : (P - 16) * (C - 1) < N) (hN2 : N ≤ (P - 16) * C) (hN3 : N ≤ 65536) (hC : 1 ≤ C) (hC2 : C ≤ 65536) (htb : Tab w) (h0 : 0 < w.heap.size) (hm0 : m ≠ 0) :
  Calls Tryd.prog 34 #[iB b, .slice po C pc, .slice vo N vc] w fun e u => e = .returned (.int .i64 0) ∧ Hid (LyM w b m en ps rd P T M ct l v C u) := by
 have hpl := pw_le hp
 have hpl2 : 512 ≤ P ∧ P ≤ 65536 := by omega
 obtain ⟨H, hH⟩ : ∃ H, P - 16 = H := ⟨_, rfl⟩
 have HH := hidden hH
 rw [hH] at hN1 hN2
 have HS := hidden (size_any h)
 have HB := hidden h
 have HTB := hidden htb
 have HPG := hidden hpg
 have HV := hidden hv
 have HG := hidden hg
 have HIN := hidden hin
 have HHE := hidden hheld
 have HLL := hidden hll
 have HPN := hidden (hpg.nomap h)
 have HVN := hidden (hv.nomap h)
 have HPW := hidden hp
 have hvl := hv.hlen
 have HVL := hidden hvl
 have HSH := fun z u => share_any (P : Int) z (by omega) (by omega) u
 have hCI : (C : Int) ≤ 65536 := by omega
 have hPI : (P : Int) ≤ 65536 := by omega
 clear h hpg hv hg hp htb hvl hin hheld hll
 obtain ⟨pb, rfl, hpb, hpcs⟩ : ∃ b, po = some ⟨b, 0, none⟩ ∧ b < w.heap.size ∧ ∀ i, i < C → w.cell? ⟨b, i, none⟩ = some (.int .i64 (l.getD i 0)) := by
  rcases HPG.out.hat with h0 | h0
  ·omega
  ·exact h0
 have HPC := hidden hpcs
 clear hpcs
 go_enter Tryd.func34, Tryd.ntmps34
 go_wp2_with (first
  | (go_at_call 49; refine same_call HS.out ?_))
 go_loopw [2, 19] (fun x i wr => ∃ (j : Nat) (xo : Option Addr) (xc : Nat), j ≤ C ∧ i = .int .i64 (j : Int) ∧ x = .slice xo (N - H * j) xc ∧ Hid (Sl wr xo (N - H * j) xc (v.drop (H * j))) ∧
  Hid (∃ M', Bn wr b m en (P : Int) ps rd M' ct ∧ con M' = lyC P l v (con M) j ∧ Gd9 M' T ct ∧ Zs w M M' ∧ Cf (· = m) w wr)) (fun _ i _ => C - (intOf i).toNat)
 case atStart => exact ⟨0, vo, vc, by omega, rfl, by simp, hidden (by simpa using HV.out), hidden ⟨M, HB.out, rfl, HG.out, Zs.refl _ _, Cf.refl _ _⟩⟩
 case round =>
  obtain ⟨j, xo, xc, hj, rfl, rfl, HX, HM⟩ := hrel
  by_cases hlt : j < C
  ·have hltI : (j : Int) < (C : Int) := by omega
   obtain ⟨M1, hb1, hcon1, hg1, hz1, hc1⟩ := HM.out
   have HB1 := hidden hb1
   have HQ1 := hidden (And.intro hcon1 (And.intro hg1 hz1))
   have HC1 := hidden hc1
   have hjm : H * j ≤ H * (C - 1) := Nat.mul_le_mul_left _ (by omega)
   obtain ⟨xn, hxn⟩ : ∃ xn, N - H * j = xn := ⟨_, rfl⟩
   have hx1 : 1 ≤ xn := by omega
   have hx2 : xn ≤ 65536 := by omega
   rw [hxn] at HX ⊢
   have hcj : wr.cell? ⟨pb, j, none⟩ = some (.int .i64 (l.getD j 0)) := by
    rw [← HPC.out j hlt]
    exact World.cell?_of_block (hc1.block pb hpb (by
     rcases HPN.out with h | h
     ·omega
     ·exact h _ rfl))
   obtain ⟨xb, xoff, rfl, hxb, hxcs⟩ : ∃ b off, xo = some ⟨b, off, none⟩ ∧ b < wr.heap.size ∧ ∀ i, i < xn → wr.cell? ⟨b, off + i, none⟩ = some (.int .u8 ((v.drop (H * j)).getD i 0)) := by
    rcases HX.out.hat with h | h
    ·omega
    ·exact h
   clear hxcs
   obtain ⟨nn, hnn⟩ : ∃ nn, min H xn = nn := ⟨_, rfl⟩
   have hnI : min ((P : Int) - 16) (xn : Int) = (nn : Int) := by omega
   have hn1 : 1 ≤ nn := by omega
   have hn2 : nn ≤ xn := by omega
   have hn3 : nn + 16 ≤ P := by omega
   have HCK : Hid ((v.drop (H * j)).take nn = ckN (P - 16) v j) := hidden (by
    unfold ckN
    rw [HH.out]
    by_cases e : H ≤ xn
    ·rw [show nn = H by omega]
    ·rw [List.take_of_length_le (by rw [List.length_drop, HVL.out]; omega), List.take_of_length_le (by rw [List.length_drop, HVL.out]; omega)])
   have HSD : Hid (Sl wr (some ⟨xb, xoff, none⟩) nn xc (ckN (P - 16) v j)) := hidden (by rw [← HCK.out]; exact HX.out.head9 nn hn2)
   have HTR : Hid (Tab wr) := hidden (fun i hi => (World.cell?_of_block (hc1.block 0 h0 (fun e => hm0 e.symm))).trans (HTB.out i hi))
   have h0r : 0 < wr.heap.size := Nat.lt_of_lt_of_le h0 hc1.size
   have hxcap := HX.out.hcap
   have HND := fun u => HSH (xn : Int) u
   rw [hnI] at HND
   have q1 : (nn : Int) ≤ (xc : Int) := by omega
   have q2 : nn ≤ xc := by omega
   have q3 : (nn : Int) ≤ (xn : Int) := by omega
   have q4 : (xn : Int) ≤ 65536 := by omega
   have HNX : Hid (nxt (nxl l j)) := hidden (nxl_ok HIN.out j)
   have HENC := hidden (encS_yes (nxl l j) P xb xoff nn xc (ckN (P - 16) v j) wr HSD.out HPW.out HNX.out hn1 hn3 HTR.out h0r)
   have HSP : Hid ((spB (nxl l j) (ckN (P - 16) v j) P).length = P) := hidden (spB_length _ _ _ (by rw [HSD.out.hlen]; exact hn3))
   have HSW : Hid (Wf (spB (nxl l j) (ckN (P - 16) v j) P)) := hidden (spB_wf P HSD.out.wf)
   have hjm2 : l.getD j 0 ∈ l := getD_mem (by rw [HLL.out]; exact hlt)
   have hpj : (M1 (l.getD j 0)).isSome = true := by
    rw [← con_some, hcon1]
    exact lyC_some (by rw [con_some]; exact HHE.out _ hjm2) j
   have HPJ := hidden hpj
   have hyI := HIN.out _ hjm2
   obtain ⟨y, hy⟩ : ∃ y, l.getD j 0 = y := ⟨_, rfl⟩
   have HY := hidden hy
   rw [hy] at hcj HPJ hyI
   have HXN := hidden hxn
   have HNN := hidden hnn
   have hcap4 : xc = nn ∨ ¬ xc = nn := by omega
   clear hb1 hcon1 hg1 hz1 hc1 hpj hy HM hxn hnn hjm2
   by_cases hjC : j + 1 < C
   ·have hjI : (j : Int) + 1 < (C : Int) := by omega
    have hnc : ¬ xc = nn := by
     have h1 : H * (j + 1) ≤ H * (C - 1) := Nat.mul_le_mul_left _ (by omega)
     have h2 : H * (j + 1) = H * j + H := Nat.mul_succ _ _
     have h3 := HXN.out
     have h4 := HNN.out
     omega
    have hnxe : nxl l j = l.getD (j + 1) 0 := by unfold nxl; rw [if_pos (by rw [HLL.out]; exact hjC)]
    have hnr := HIN.out _ (getD_mem (l := l) (j := j + 1) (by rw [HLL.out]; exact hjC))
    rw [← hnxe] at hnr
    have hc2 : wr.cell? ⟨pb, j + 1, none⟩ = some (.int .i64 (nxl l j)) := by
     rw [hnxe, ← HPC.out (j + 1) hjC]
     exact World.cell?_of_block (HC1.out.block pb hpb (by
      rcases HPN.out with h | h
      ·omega
      ·exact h _ rfl))
    clear hnxe
    obtain ⟨nx, hnx⟩ : ∃ nx, nxl l j = nx := ⟨_, rfl⟩
    have HNX2 := hidden hnx
    rw [hnx] at hc2 HENC HSP HSW hnr
    clear hnx
    go_wp2_with (first
     | (go_at_call 55; refine same_call (HND _) ?_)
     | (go_at_call 15; refine HENC.out.mono ?_; rintro e w1 ⟨g, rfl, hg, hk, hb⟩; have HE := hidden (And.intro hg (And.intro hk hb)); clear hg hk hb; refine Hid.out ?_))
    apply hidden
    clear HENC HND hcj hc2
    have HW := hidden (bwrite_any (HB1.out.on HE.out.2.2) y (wf64 _ (by omega) (by omega)) _ P P _ (HE.out.2.1.sl HSP.out HSW.out (by omega)) hct)
    go_wp2_with (first
     | (go_at_call 63; refine HW.out.mono ?_; rintro e w2 ⟨k9, rfl, HK9⟩; refine Hid.out ?_))
    apply hidden
    obtain ⟨_, _, rfl, f, hfl, hfg, hb2, hc3⟩ : (M1 y).isSome = true ∧ True ∧ k9 = 0 ∧ ∃ f : Pf, f.l = spB nx (ckN (P - 16) v j) P ∧ w1.heap.size ≤ f.g ∧ Bn w2 b m en (P : Int) ps rd (putM M1 y f) ct ∧ Cf (· = m) w1 w2 := by
     rcases HK9.out with ⟨h1, _⟩ | ⟨_, h1, _⟩ | h1
     ·have := HPJ.out
      rw [h1] at this
      cases this
     ·exact absurd rfl h1
     ·exact h1
    have HB2 := hidden hb2
    have HCW : Hid (Cf (· = m) wr w2) := hidden ((Cf.of_below HE.out.2.2).go hc3)
    have HX2 : Hid (Sl w2 (some ⟨xb, xoff, none⟩) xn xc (v.drop (H * j))) := hidden (HX.out.cf HCW.out (HX.out.nomap HB1.out))
    have HSUB : Hid (N - H * (j + 1) = xn - nn ∧ (v.drop (H * j)).drop nn = v.drop (H * (j + 1))) := hidden (lay_sub HXN.out HNN.out HVL.out)
    have HST : Hid (con (putM M1 y f) = lyC P l v (con M) (j + 1) ∧ Gd9 (putM M1 y f) T ct ∧ Zs w M (putM M1 y f)) := hidden ⟨by
     rw [con_put, hfl, HQ1.out.1, ← HY.out]
     show _ = putC _ _ (spB (nxl l j) _ _)
     rw [HNX2.out], HQ1.out.2.1.set HPJ.out, HQ1.out.2.2.put (Nat.le_trans HC1.out.size (Nat.le_trans HE.out.2.2.size hfg))⟩
    clear HK9 hb2 hc3 HW HX HSD hfl hfg
    go_wp2
    go_roundw
    case rel =>
     refine ⟨j + 1, _, _, by omega, by go_num, by rw [HSUB.out.1], hidden ?_, hidden ⟨_, HB2.out, HST.out.1, HST.out.2.1, HST.out.2.2, HC1.out.go HCW.out⟩⟩
     rw [HSUB.out.1, ← HSUB.out.2]
     exact HX2.out.tail9 nn hn2 _ (fun _ => rfl) (by simp)
    case measure => simp [intOf]; omega
   ·have hjI : ¬ (j : Int) + 1 < (C : Int) := by omega
    have hnx : nxl l j = 0 := by unfold nxl; rw [if_neg (by rw [HLL.out]; exact hjC)]
    have HNX2 := hidden hnx
    rw [hnx] at HENC HSP HSW
    clear hnx
    go_wp2_with (first
     | (go_at_call 55; refine same_call (HND _) ?_)
     | (go_at_call 15; refine HENC.out.mono ?_; rintro e w1 ⟨g, rfl, hg, hk, hb⟩; have HE := hidden (And.intro hg (And.intro hk hb)); clear hg hk hb; refine Hid.out ?_))
    apply hidden
    clear HENC HND hcj
    have HW := hidden (bwrite_any (HB1.out.on HE.out.2.2) y (wf64 _ (by omega) (by omega)) _ P P _ (HE.out.2.1.sl HSP.out HSW.out (by omega)) hct)
    go_wp2_with (first
     | (go_at_call 63; refine HW.out.mono ?_; rintro e w2 ⟨k9, rfl, HK9⟩; refine Hid.out ?_))
    apply hidden
    obtain ⟨_, _, rfl, f, hfl, hfg, hb2, hc3⟩ : (M1 y).isSome = true ∧ True ∧ k9 = 0 ∧ ∃ f : Pf, f.l = spB 0 (ckN (P - 16) v j) P ∧ w1.heap.size ≤ f.g ∧ Bn w2 b m en (P : Int) ps rd (putM M1 y f) ct ∧ Cf (· = m) w1 w2 := by
     rcases HK9.out with ⟨h1, _⟩ | ⟨_, h1, _⟩ | h1
     ·have := HPJ.out
      rw [h1] at this
      cases this
     ·exact absurd rfl h1
     ·exact h1
    have HB2 := hidden hb2
    have HCW : Hid (Cf (· = m) wr w2) := hidden ((Cf.of_below HE.out.2.2).go hc3)
    have HX2 : Hid (Sl w2 (some ⟨xb, xoff, none⟩) xn xc (v.drop (H * j))) := hidden (HX.out.cf HCW.out (HX.out.nomap HB1.out))
    have HSUB : Hid (N - H * (j + 1) = xn - nn ∧ (v.drop (H * j)).drop nn = v.drop (H * (j + 1))) := hidden (lay_sub HXN.out HNN.out HVL.out)
    have HST : Hid (con (putM M1 y f) = lyC P l v (con M) (j + 1) ∧ Gd9 (putM M1 y f) T ct ∧ Zs w M (putM M1 y f)) := hidden ⟨by
     rw [con_put, hfl, HQ1.out.1, ← HY.out]
     show _ = putC _ _ (spB (nxl l j) _ _)
     rw [HNX2.out], HQ1.out.2.1.set HPJ.out, HQ1.out.2.2.put (Nat.le_trans HC1.out.size (Nat.le_trans HE.out.2.2.size hfg))⟩
    clear HK9 hb2 hc3 HW HX HSD hfl hfg
    by_cases hcc : xc = nn
    all_goals
     go_wp2
     go_roundw
     case rel =>
      refine ⟨j + 1, _, _, by omega, by go_num, by rw [HSUB.out.1], hidden ?_, hidden ⟨_, HB2.out, HST.out.1, HST.out.2.1, HST.out.2.2, HC1.out.go HCW.out⟩⟩
      rw [HSUB.out.1, ← HSUB.out.2]
      first
       | exact HX2.out.tail9 nn hn2 _ (fun _ => rfl) (by simp)
       | (have hq := HX2.out.tail9 nn hn2 (some ⟨xb, xoff, none⟩) (fun h => absurd hcc h) (by simp); rwa [show xc - nn = 0 by omega] at hq)
     case measure => simp [intOf]; omega
  ·obtain rfl : j = C := by omega
   have hlI : ¬ (j : Int) < (j : Int) := by omega
   go_wp2
   go_ret
   exact ⟨rfl, HM⟩
end Go.Proofs.YtoejadhlkamcjaaDoor
