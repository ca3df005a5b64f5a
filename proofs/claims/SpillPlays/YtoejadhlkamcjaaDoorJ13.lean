import Derived.Test.YtoejadhlkamcjaaDoorJ12
namespace Go.Proofs.YtoejadhlkamcjaaDoor
set_option maxRecDepth 100000
open Go.RowKit Go.Maps
theorem cell_notmap {w : World} {m n : Nat} {D : DataW Unit} (h : MapIs w m n D) {b i : Nat} {v : Value} (hc : w.cell? ⟨b, i, none⟩ = some v) : b ≠ m := by
 rintro rfl
 obtain ⟨es, clock, hb, _⟩ := h
 simp [World.cell?, hb] at hc
theorem SlJ.nomap {w : World} {ao : Option Addr} {n cap : Nat} {l : List Int} (h : SlJ w ao n cap l) {b m : Nat} {en pg ps rd : Int} {M : Int → Option Pf} {ct : Nat} (hb : Bn w b m en pg ps rd M ct) : n = 0 ∨ ∀ p, ao = some p → ¬ p.block = m := by
 rcases h.hat with h0 | ⟨b', e, hlt, hcc⟩
 ·exact .inl h0
 ·rcases Nat.eq_zero_or_pos n with h0 | h0
  ·exact .inl h0
  ·right
   intro p hp
   rw [e] at hp
   cases hp
   obtain ⟨D, h1, _⟩ := hb.mp
   exact cell_notmap h1 (hcc 0 h0)
theorem Sl.nomap {w : World} {ao : Option Addr} {n cap : Nat} {l : List Int} (h : Sl w ao n cap l) {b m : Nat} {en pg ps rd : Int} {M : Int → Option Pf} {ct : Nat} (hb : Bn w b m en pg ps rd M ct) : n = 0 ∨ ∀ p, ao = some p → ¬ p.block = m := by
 rcases h.hat with h0 | ⟨b', o, e, hlt, hcc⟩
 ·exact .inl h0
 ·rcases Nat.eq_zero_or_pos n with h0 | h0
  ·exact .inl h0
  ·right
   intro p hp
   rw [e] at hp
   cases hp
   obtain ⟨D, h1, _⟩ := hb.mp
   exact cell_notmap h1 (hcc 0 h0)
theorem Sl.head9 {w : World} {b off n cap : Nat} {l : List Int} (h : Sl w (some ⟨b, off, none⟩) n cap l) (c : Nat) (hk : c ≤ n) : Sl w (some ⟨b, off, none⟩) c cap (l.take c) := by
 have h1 := h.hlen
 have h2 := h.hcap
 have h3 := h.hroom
 refine ⟨by rw [List.length_take]; omega, by omega, by omega, h.wf.take _, (by intro h; cases h), ?_⟩
 rcases h.hat with h0 | ⟨b', o', e, hlt, hc⟩
 ·left; omega
 ·cases e
  refine .inr ⟨b, off, rfl, hlt, fun i hi => ?_⟩
  rw [hc i (by omega)]
  simp [List.getD, hi]
theorem Sl.tail9 {w : World} {b off n cap : Nat} {l : List Int} (h : Sl w (some ⟨b, off, none⟩) n cap l) (c : Nat) (hk : c ≤ n) (ao : Option Addr) (hao : ¬ cap = c → ao = some ⟨b, off + c, none⟩) (hn : ao ≠ none) : Sl w ao (n - c) (cap - c) (l.drop c) := by
 have h1 := h.hlen
 have h2 := h.hcap
 have h3 := h.hroom
 refine ⟨by rw [List.length_drop]; omega, by omega, by omega, h.wf.drop _, fun e => absurd e hn, ?_⟩
 by_cases e : n = c
 ·left; omega
 ·rcases h.hat with h0 | ⟨b', o', e2, hlt, hc⟩
  ·left; omega
  ·cases e2
   refine .inr ⟨b, off + c, hao (by omega), hlt, fun i hi => ?_⟩
   rw [Nat.add_assoc, hc (c + i) (by omega)]
   simp [List.getD]
def nxC (t C i : Nat) : Int := if i + 1 < C then ((t + i + 1 : Nat) : Int) else 0
def ckN (h : Nat) (v : List Int) (i : Nat) : List Int := (v.drop (h * i)).take h
def LaidJ (M : Int → Option Pf) (P t C : Nat) (v : List Int) (j : Nat) : Prop := ∀ i, i < j → ∃ f, M ((t + i : Nat) : Int) = some f ∧ f.l = spB (nxC t C i) (ckN (P - 16) v i) P
theorem nxC_ok {t C i : Nat} (ht : 2 ≤ t) (hC : t + C ≤ 65536) : nxt (nxC t C i) := by
 unfold nxC nxt
 split <;> omega
theorem lay_sub {N H j xn nn : Nat} {v : List Int} (hx : N - H * j = xn) (hn : min H xn = nn) (hv : v.length = N) : N - H * (j + 1) = xn - nn ∧ (v.drop (H * j)).drop nn = v.drop (H * (j + 1)) := by
 have e : H * (j + 1) = H * j + H := Nat.mul_succ _ _
 constructor
 ·omega
 ·rw [List.drop_drop]
  by_cases h : H ≤ xn
  ·rw [show H * j + nn = H * (j + 1) by omega]
  ·rw [List.drop_eq_nil_of_le (by omega), List.drop_eq_nil_of_le (by omega)]
theorem lay_put {M1 M : Int → Option Pf} {P t C j : Nat} {v : List Int} {y : Int} {f : Pf} (h1 : Pre M1 (t + C)) (h2 : LaidJ M1 P t C v j) (h3 : ∀ k, k < (t : Int) → M1 k = M k) (hs : (M1 y).isSome = true) (hy : ((t + j : Nat) : Int) = y) (hf : f.l = spB (nxC t C j) (ckN (P - 16) v j) P) :
  Pre (putM M1 y f) (t + C) ∧ LaidJ (putM M1 y f) P t C v (j + 1) ∧ ∀ k, k < (t : Int) → putM M1 y f k = M k := by
 refine ⟨fun k => ?_, fun i hi => ?_, fun k hk => ?_⟩
 ·unfold putM
  by_cases e : k = y
  ·rw [if_pos e, e, ← h1 y, hs]
   simp
  ·rw [if_neg e]
   exact h1 k
 ·unfold putM
  by_cases e : i = j
  ·subst e
   exact ⟨f, by rw [if_pos hy], hf⟩
  ·rw [if_neg (by omega)]
   exact h2 i (by omega)
 ·unfold putM
  rw [if_neg (by omega)]
  exact h3 k hk
set_option maxHeartbeats 4000000 in
theorem lay_pre {w : World} {b m : Nat} {en ps rd : Int} {P : Nat} {M : Int → Option Pf} {ct : Nat} (h : Bn w b m en (P : Int) ps rd M ct) (hp : pw P) (t C : Nat) (ht : 2 ≤ t) (htC : t + C ≤ 65536) (hpre : Pre M (t + C)) (hct : ct < 1000000)
  (po : Option Addr) (pc : Nat) (hpg : SlJ w po C pc (rng t C)) (vo : Option Addr) (N vc : Nat) (v : List Int) (hv : Sl w vo N vc v) (hN1 : (P - 16) * (C - 1) < N) (hN2 : N ≤ (P - 16) * C) (hN3 : N ≤ 65536) (hC : 1 ≤ C) (htb : Tab w) (h0 : 0 < w.heap.size) (hm0 : m ≠ 0) :
  Calls Tryd.prog 34 #[iB b, .slice po C pc, .slice vo N vc] w fun e u => e = .returned (.int .i64 0) ∧ Hid (∃ M', Bn u b m en (P : Int) ps rd M' ct ∧ Pre M' (t + C) ∧ LaidJ M' P t C v C ∧ (∀ k, k < (t : Int) → M' k = M k) ∧ Cf (· = m) w u) := by
 have hpl := pw_le hp
 have hpl2 : 512 ≤ P ∧ P ≤ 65536 := by omega
 obtain ⟨H, hH⟩ : ∃ H, P - 16 = H := ⟨_, rfl⟩
 have HH := hidden hH
 rw [hH] at hN1 hN2
 have HS := hidden (size_any h)
 have HB := hidden h
 have HTB := hidden htb
 have HPG := hidden hpg
 have HV := hidden hv
 have HPRE := hidden hpre
 have HPN := hidden (hpg.nomap h)
 have HVN := hidden (hv.nomap h)
 have HPW := hidden hp
 have hvl := hv.hlen
 have HVL := hidden hvl
 have HSH := fun z u => share_any (P : Int) z (by omega) (by omega) u
 have hCI : (C : Int) ≤ 65536 := by omega
 have hPI : (P : Int) ≤ 65536 := by omega
 clear h hpg hv hpre hp htb hvl
 obtain ⟨pb, rfl, hpb, hpcs⟩ : ∃ b, po = some ⟨b, 0, none⟩ ∧ b < w.heap.size ∧ ∀ i, i < C → w.cell? ⟨b, i, none⟩ = some (.int .i64 ((rng t C).getD i 0)) := by
  rcases HPG.out.hat with h0 | h0
  ·omega
  ·exact h0
 have HPC := hidden hpcs
 clear hpcs
 go_enter Tryd.func34, Tryd.ntmps34
 go_wp2_with (first
  | (go_at_call 49; refine same_call HS.out ?_))
 go_loopw [2, 19] (fun x i wr => ∃ (j : Nat) (xo : Option Addr) (xc : Nat), j ≤ C ∧ i = .int .i64 (j : Int) ∧ x = .slice xo (N - H * j) xc ∧ Hid (Sl wr xo (N - H * j) xc (v.drop (H * j))) ∧
  Hid (∃ M', Bn wr b m en (P : Int) ps rd M' ct ∧ Pre M' (t + C) ∧ LaidJ M' P t C v j ∧ (∀ k, k < (t : Int) → M' k = M k) ∧ Cf (· = m) w wr)) (fun _ i _ => C - (intOf i).toNat)
 case atStart => exact ⟨0, vo, vc, by omega, rfl, by simp, hidden (by simpa using HV.out), hidden ⟨M, HB.out, HPRE.out, fun i hi => by omega, fun _ _ => rfl, Cf.refl _ _⟩⟩
 case round =>
  obtain ⟨j, xo, xc, hj, rfl, rfl, HX, HM⟩ := hrel
  by_cases hlt : j < C
  ·have hltI : (j : Int) < (C : Int) := by omega
   obtain ⟨M1, hb1, hpre1, hlaid1, hold1, hc1⟩ := HM.out
   have HB1 := hidden hb1
   have HQ1 := hidden (And.intro hpre1 (And.intro hlaid1 hold1))
   have HC1 := hidden hc1
   have hjm : H * j ≤ H * (C - 1) := Nat.mul_le_mul_left _ (by omega)
   obtain ⟨xn, hxn⟩ : ∃ xn, N - H * j = xn := ⟨_, rfl⟩
   have hx1 : 1 ≤ xn := by omega
   have hx2 : xn ≤ 65536 := by omega
   rw [hxn] at HX ⊢
   have hcj : wr.cell? ⟨pb, j, none⟩ = some (.int .i64 ((t + j : Nat) : Int)) := by
    rw [← rng_get t C j hlt, ← HPC.out j hlt]
    exact World.cell?_of_block (hc1.block pb hpb (by
     rcases HPN.out with h | h
     ·omega
     ·exact h _ rfl))
   obtain ⟨xb, xoff, rfl, hxb, hxcs⟩ : ∃ b off, xo = some ⟨b, off, none⟩ ∧ b < wr.heap.size ∧ ∀ i, i < xn → wr.cell? ⟨b, off + i, none⟩ = some (.int .u8 ((v.drop (H * j)).getD i 0)) := by
    rcases HX.out.hat with h | h
    ·omega
    ·exact h
   clear hxcs
   obtain ⟨nn, hnn⟩ : ∃ nn, min H xn = nn := ⟨_, rfl⟩
   have hnI : min ((P : Int) - 16) (xn : Int) = (nn : Int) := by omega
   have hn1 : 1 ≤ nn := by omega
   have hn2 : nn ≤ xn := by omega
   have hn3 : nn + 16 ≤ P := by omega
   have HCK : Hid ((v.drop (H * j)).take nn = ckN (P - 16) v j) := hidden (by
    unfold ckN
    rw [HH.out]
    by_cases e : H ≤ xn
    ·rw [show nn = H by omega]
    ·rw [List.take_of_length_le (by rw [List.length_drop, HVL.out]; omega), List.take_of_length_le (by rw [List.length_drop, HVL.out]; omega)])
   have HSD : Hid (Sl wr (some ⟨xb, xoff, none⟩) nn xc (ckN (P - 16) v j)) := hidden (by rw [← HCK.out]; exact HX.out.head9 nn hn2)
   have HTR : Hid (Tab wr) := hidden (fun i hi => (World.cell?_of_block (hc1.block 0 h0 (fun e => hm0 e.symm))).trans (HTB.out i hi))
   have h0r : 0 < wr.heap.size := Nat.lt_of_lt_of_le h0 hc1.size
   have hxcap := HX.out.hcap
   have HND := fun u => HSH (xn : Int) u
   rw [hnI] at HND
   have q1 : (nn : Int) ≤ (xc : Int) := by omega
   have q2 : nn ≤ xc := by omega
   have q3 : (nn : Int) ≤ (xn : Int) := by omega
   have q4 : (xn : Int) ≤ 65536 := by omega
   have HNX : Hid (nxt (nxC t C j)) := hidden (nxC_ok ht htC)
   have HENC := hidden (encS_yes (nxC t C j) P xb xoff nn xc (ckN (P - 16) v j) wr HSD.out HPW.out HNX.out hn1 hn3 HTR.out h0r)
   have HSP : Hid ((spB (nxC t C j) (ckN (P - 16) v j) P).length = P) := hidden (spB_length _ _ _ (by rw [HSD.out.hlen]; exact hn3))
   have HSW : Hid (Wf (spB (nxC t C j) (ckN (P - 16) v j) P)) := hidden (spB_wf P HSD.out.wf)
   have hpj : (M1 ((t + j : Nat) : Int)).isSome = true := (hpre1 _).2 ⟨by omega, by omega⟩
   have HPJ := hidden hpj
   obtain ⟨y, hy⟩ : ∃ y, ((t + j : Nat) : Int) = y := ⟨_, rfl⟩
   have HY := hidden hy
   have hyI : 2 ≤ y ∧ y < 65536 := by omega
   rw [hy] at hcj HPJ
   have HXN := hidden hxn
   have HNN := hidden hnn
   have hcap4 : xc = nn ∨ ¬ xc = nn := by omega
   clear hb1 hpre1 hlaid1 hold1 hc1 hpj hy HM hxn hnn
   by_cases hjC : j + 1 < C
   ·have hjI : (j : Int) + 1 < (C : Int) := by omega
    have hnc : ¬ xc = nn := by
     have h1 : H * (j + 1) ≤ H * (C - 1) := Nat.mul_le_mul_left _ (by omega)
     have h2 : H * (j + 1) = H * j + H := Nat.mul_succ _ _
     have h3 := HXN.out
     have h4 := HNN.out
     omega
    have hc2 : wr.cell? ⟨pb, j + 1, none⟩ = some (.int .i64 (nxC t C j)) := by
     rw [show nxC t C j = ((t + (j + 1) : Nat) : Int) from by unfold nxC; rw [if_pos hjC]; rfl, ← rng_get t C (j + 1) hjC, ← HPC.out (j + 1) hjC]
     exact World.cell?_of_block (HC1.out.block pb hpb (by
      rcases HPN.out with h | h
      ·omega
      ·exact h _ rfl))
    obtain ⟨nx, hnx⟩ : ∃ nx, nxC t C j = nx := ⟨_, rfl⟩
    have HNX2 := hidden hnx
    rw [hnx] at hc2 HENC HSP HSW
    clear hnx
    go_wp2_with (first
     | (go_at_call 55; refine same_call (HND _) ?_)
     | (go_at_call 15; refine HENC.out.mono ?_; rintro e w1 ⟨g, rfl, hg, hk, hb⟩; have HE := hidden (And.intro hg (And.intro hk hb)); clear hg hk hb; refine Hid.out ?_))
    apply hidden
    clear HENC HND hcj hc2
    have HW := hidden (bwrite_any (HB1.out.on HE.out.2.2) y (wf64 _ (by omega) (by omega)) _ P P _ (HE.out.2.1.sl HSP.out HSW.out (by omega)) hct)
    go_wp2_with (first
     | (go_at_call 63; refine HW.out.mono ?_; rintro e w2 ⟨k9, rfl, HK9⟩; refine Hid.out ?_))
    apply hidden
    obtain ⟨_, _, rfl, f, hfl, hfg, hb2, hc3⟩ : (M1 y).isSome = true ∧ True ∧ k9 = 0 ∧ ∃ f : Pf, f.l = spB nx (ckN (P - 16) v j) P ∧ w1.heap.size ≤ f.g ∧ Bn w2 b m en (P : Int) ps rd (putM M1 y f) ct ∧ Cf (· = m) w1 w2 := by
     rcases HK9.out with ⟨h1, _⟩ | ⟨_, h1, _⟩ | h1
     ·have := HPJ.out
      rw [h1] at this
      cases this
     ·exact absurd rfl h1
     ·exact h1
    have HB2 := hidden hb2
    have HCW : Hid (Cf (· = m) wr w2) := hidden ((Cf.of_below HE.out.2.2).go hc3)
    have HX2 : Hid (Sl w2 (some ⟨xb, xoff, none⟩) xn xc (v.drop (H * j))) := hidden (HX.out.cf HCW.out (HX.out.nomap HB1.out))
    have HSUB : Hid (N - H * (j + 1) = xn - nn ∧ (v.drop (H * j)).drop nn = v.drop (H * (j + 1))) := hidden (lay_sub HXN.out HNN.out HVL.out)
    have HST : Hid (Pre (putM M1 y f) (t + C) ∧ LaidJ (putM M1 y f) P t C v (j + 1) ∧ ∀ k, k < (t : Int) → putM M1 y f k = M k) := hidden (lay_put HQ1.out.1 HQ1.out.2.1 HQ1.out.2.2 HPJ.out HY.out (by rw [HNX2.out]; exact hfl))
    clear HK9 hb2 hc3 HW HX HSD hfl hfg
    go_wp2
    go_roundw
    case rel =>
     refine ⟨j + 1, _, _, by omega, by go_num, by rw [HSUB.out.1], hidden ?_, hidden ⟨_, HB2.out, HST.out.1, HST.out.2.1, HST.out.2.2, HC1.out.go HCW.out⟩⟩
     rw [HSUB.out.1, ← HSUB.out.2]
     exact HX2.out.tail9 nn hn2 _ (fun _ => rfl) (by simp)
    case measure => simp [intOf]; omega
   ·have hjI : ¬ (j : Int) + 1 < (C : Int) := by omega
    have hnx : nxC t C j = 0 := by unfold nxC; rw [if_neg hjC]
    have HNX2 := hidden hnx
    rw [hnx] at HENC HSP HSW
    clear hnx
    go_wp2_with (first
     | (go_at_call 55; refine same_call (HND _) ?_)
     | (go_at_call 15; refine HENC.out.mono ?_; rintro e w1 ⟨g, rfl, hg, hk, hb⟩; have HE := hidden (And.intro hg (And.intro hk hb)); clear hg hk hb; refine Hid.out ?_))
    apply hidden
    clear HENC HND hcj
    have HW := hidden (bwrite_any (HB1.out.on HE.out.2.2) y (wf64 _ (by omega) (by omega)) _ P P _ (HE.out.2.1.sl HSP.out HSW.out (by omega)) hct)
    go_wp2_with (first
     | (go_at_call 63; refine HW.out.mono ?_; rintro e w2 ⟨k9, rfl, HK9⟩; refine Hid.out ?_))
    apply hidden
    obtain ⟨_, _, rfl, f, hfl, hfg, hb2, hc3⟩ : (M1 y).isSome = true ∧ True ∧ k9 = 0 ∧ ∃ f : Pf, f.l = spB 0 (ckN (P - 16) v j) P ∧ w1.heap.size ≤ f.g ∧ Bn w2 b m en (P : Int) ps rd (putM M1 y f) ct ∧ Cf (· = m) w1 w2 := by
     rcases HK9.out with ⟨h1, _⟩ | ⟨_, h1, _⟩ | h1
     ·have := HPJ.out
      rw [h1] at this
      cases this
     ·exact absurd rfl h1
     ·exact h1
    have HB2 := hidden hb2
    have HCW : Hid (Cf (· = m) wr w2) := hidden ((Cf.of_below HE.out.2.2).go hc3)
    have HX2 : Hid (Sl w2 (some ⟨xb, xoff, none⟩) xn xc (v.drop (H * j))) := hidden (HX.out.cf HCW.out (HX.out.nomap HB1.out))
    have HSUB : Hid (N - H * (j + 1) = xn - nn ∧ (v.drop (H * j)).drop nn = v.drop (H * (j + 1))) := hidden (lay_sub HXN.out HNN.out HVL.out)
    have HST : Hid (Pre (putM M1 y f) (t + C) ∧ LaidJ (putM M1 y f) P t C v (j + 1) ∧ ∀ k, k < (t : Int) → putM M1 y f k = M k) := hidden (lay_put HQ1.out.1 HQ1.out.2.1 HQ1.out.2.2 HPJ.out HY.out (by rw [HNX2.out]; exact hfl))
    clear HK9 hb2 hc3 HW HX HSD hfl hfg
    by_cases hcc : xc = nn
    all_goals
     go_wp2
     go_roundw
     case rel =>
      refine ⟨j + 1, _, _, by omega, by go_num, by rw [HSUB.out.1], hidden ?_, hidden ⟨_, HB2.out, HST.out.1, HST.out.2.1, HST.out.2.2, HC1.out.go HCW.out⟩⟩
      rw [HSUB.out.1, ← HSUB.out.2]
      first
       | exact HX2.out.tail9 nn hn2 _ (fun _ => rfl) (by simp)
       | (have hq := HX2.out.tail9 nn hn2 (some ⟨xb, xoff, none⟩) (fun h => absurd hcc h) (by simp); rwa [show xc - nn = 0 by omega] at hq)
     case measure => simp [intOf]; omega
  ·obtain rfl : j = C := by omega
   have hlI : ¬ (j : Int) < (j : Int) := by omega
   go_wp2
   go_ret
   exact ⟨rfl, HM⟩
end Go.Proofs.YtoejadhlkamcjaaDoor
