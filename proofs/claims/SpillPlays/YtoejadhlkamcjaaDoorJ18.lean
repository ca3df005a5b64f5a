import Derived.Test.YtoejadhlkamcjaaDoorJ17
namespace Go.Proofs.YtoejadhlkamcjaaDoor
set_option maxRecDepth 100000
open Go.RowKit Go.Maps
def WrTo (P T : Nat) (v : List Int) (C : Int → Option (List Int)) (ct : Nat) (a k : Int) (C' : Int → Option (List Int)) (ct' : Nat) : Prop :=
 (¬ (1 ≤ v.length ∧ v.length ≤ 65536) ∧ a = 0 ∧ k = 31 ∧ C' = C ∧ ct' = ct) ∨
 ((1 ≤ v.length ∧ v.length ≤ 65536) ∧ T < ct + (pgN P v.length).toNat ∧ a = 0 ∧ k = 5 ∧ C' = C ∧ ct' = ct) ∨
 ((1 ≤ v.length ∧ v.length ≤ 65536) ∧ ct + (pgN P v.length).toNat ≤ T ∧ k = 0 ∧ ct' = ct + (pgN P v.length).toNat ∧ ∃ l C1, l.length = (pgN P v.length).toNat ∧ Tks P C l C1 ∧ a = l.getD 0 0 ∧ C' = lyC P l v C1 (pgN P v.length).toNat)
theorem WrTo.one {P T : Nat} {v : List Int} {C C1 C2 : Int → Option (List Int)} {ct c1 c2 : Nat} {a b k j : Int} (h : WrTo P T v C ct a k C1 c1) (h2 : WrTo P T v C ct b j C2 c2) : a = b ∧ k = j ∧ C1 = C2 ∧ c1 = c2 := by
 rcases h with ⟨x1, rfl, rfl, rfl, rfl⟩ | ⟨x1, x2, rfl, rfl, rfl, rfl⟩ | ⟨x1, x2, rfl, rfl, l, D, hl, ht, rfl, rfl⟩
 ·rcases h2 with ⟨_, rfl, rfl, rfl, rfl⟩ | ⟨y, _⟩ | ⟨y, _⟩
  ·exact ⟨rfl, rfl, rfl, rfl⟩
  ·exact absurd y x1
  ·exact absurd y x1
 ·rcases h2 with ⟨y, _⟩ | ⟨_, _, rfl, rfl, rfl, rfl⟩ | ⟨_, y, _⟩
  ·exact absurd x1 y
  ·exact ⟨rfl, rfl, rfl, rfl⟩
  ·omega
 ·rcases h2 with ⟨y, _⟩ | ⟨_, y, _⟩ | ⟨_, _, rfl, rfl, l', D', hl', ht', rfl, rfl⟩
  ·exact absurd x1 y
  ·omega
  ·obtain ⟨rfl, rfl⟩ := ht.one ht' (by omega)
   exact ⟨rfl, rfl, rfl, rfl⟩
def WrM (w : World) (b m : Nat) (en ps rd : Int) (P T : Nat) (M : Int → Option Pf) (ct : Nat) (v : List Int) (a k : Int) (u : World) : Prop :=
 ∃ M' ct', WrTo P T v (con M) ct a k (con M') ct' ∧ Bn u b m en (P : Int) ps rd M' ct' ∧ Gd9 M' T ct' ∧ Zs w M M' ∧ Cf (· = m) w u ∧ (k = 0 → 2 ≤ a ∧ a < 65536)
set_option maxHeartbeats 2000000 in
theorem write_g {w : World} {b m : Nat} {en ps rd : Int} {P : Nat} {M : Int → Option Pf} {ct : Nat} (h : Bn w b m en (P : Int) ps rd M ct) (hp : pw P) (T : Nat) (hps : ps = (T : Int) + 2) (hT : T ≤ 65534) (hg : Gd9 M T ct)
  (vo : Option Addr) (N vc : Nat) (v : List Int) (hv : Sl w vo N vc v) (htb : Tab w) (h0 : 0 < w.heap.size) (hm0 : m ≠ 0) :
  Calls Tryd.prog 11 #[iB b, .slice vo N vc] w fun e u => ∃ a k, e = .returned (.tuple #[.int .i64 a, .int .i64 k]) ∧ Hid (WrM w b m en ps rd P T M ct v a k u) := by
 have HL := hidden (mayLie_any h hp (N : Int))
 have hvl := hv.hlen
 by_cases hN : 1 ≤ N ∧ N ≤ 65536
 ·obtain ⟨hN1, hN3⟩ := hN
  have e1 : decide (1 ≤ (N : Int) ∧ (N : Int) ≤ 65536) = true := by simp; omega
  obtain ⟨C, hC, hC1, hC2, hNa, hNb⟩ := pgN_nat hp hN1 hN3
  have HS := hidden (size_any h)
  have HP := fun u => pages_any (P : Int) (N : Int) (by omega) u
  rw [hC] at HP
  have hgl := hg.le
  have HSP := hidden (spare_any h (C : Int) (by omega) (by omega) (by omega))
  have HCN : Hid ((pgN P v.length).toNat = C) := hidden (by rw [hvl, hC]; rfl)
  have HB := hidden h
  have HG := hidden hg
  have HVL := hidden hvl
  have hCI : (C : Int) ≤ 65536 := by omega
  have hNI : (N : Int) ≤ 65536 := by omega
  by_cases hroom : ct + C ≤ T
  ·have e2 : decide ((C : Int) ≤ ps - 2 - (ct : Int)) = true := by simp; omega
   rw [e2] at HSP
   have HTK := fun q => hidden (take_g (h.on (bl_dr (Below.refl _ w) q)) hp T hps hT hg C hroom)
   have HPW := hidden hp
   have HV := hidden hv
   have HVN := hidden (hv.nomap h)
   have HTB := hidden htb
   have HPS := hidden hps
   have HBS := hidden (And.intro h.lt h.mlt)
   clear h hp hv htb hg hps hvl hC
   go_enter Tryd.func11, Tryd.ntmps11
   go_wp2_with (first
    | (go_at_call 32; refine same_call HL.out ?_; rw [e1])
    | (go_at_call 49; refine same_call HS.out ?_)
    | (go_at_call 18; refine same_call (HP _) ?_)
    | (go_at_call 61; refine HSP.out.mono ?_; rintro e w0 ⟨rfl, q, rfl⟩)
    | (go_at_call 33; refine (HTK _).out.mono ?_; rintro e w1 ⟨ao, ac, rfl, HM⟩; refine Hid.out ?_))
   apply hidden
   obtain ⟨l, M1, hl, hjo, htk, hin, hb1, hg1, hz1, hc1⟩ := HM.out
   have htk2 : Tks P (con M) l (con M1) := by rw [Int.toNat_natCast] at htk; exact htk
   have hc0 : Cf (· = m) w w1 := (Cf.drew (· = m) w q).go hc1
   have HSJ : Hid (SlJ w1 ao C ac l) := hidden (by
    obtain ⟨ao', c', e, hs⟩ := hjo.sl
    injection e with e1 e2 e3
    subst e1 e3
    rw [hl] at hs
    exact hs)
   have HV1 : Hid (Sl w1 vo N vc v) := hidden (HV.out.cf hc0 HVN.out)
   have HT1 : Hid (Tab w1) := hidden (fun i hi => (World.cell?_of_block (hc0.block 0 h0 (fun e => hm0 e.symm))).trans (HTB.out i hi))
   have HIN : Hid (∀ a ∈ l, 2 ≤ a ∧ a < 65536) := hidden (fun a ha => ⟨(hin a ha).1, by have := (hin a ha).2; have := HPS.out; omega⟩)
   have HLY := hidden (lay_g hb1 HPW.out T hg1 C l hl HIN.out (fun a ha => by rw [← con_some]; exact (htk2.held ha).1) (by omega) ao ac HSJ.out vo N vc v HV1.out hNa hNb hN3 hC1 hC2 HT1.out (Nat.lt_of_lt_of_le h0 hc0.size) hm0)
   have HC0 := hidden hc0
   have HTK2 := hidden htk2
   have HLL := hidden hl
   have HZ1 := hidden hz1
   have HPN := hidden (HSJ.out.nomap hb1)
   obtain ⟨ab, rfl, hab, hcs⟩ : ∃ b, ao = some ⟨b, 0, none⟩ ∧ b < w1.heap.size ∧ ∀ i, i < C → w1.cell? ⟨b, i, none⟩ = some (.int .i64 (l.getD i 0)) := by
    rcases HSJ.out.hat with h | h
    ·omega
    ·exact h
   have hc00 : w1.cell? ⟨ab, 0, none⟩ = some (.int .i64 (l.getD 0 0)) := hcs 0 (by omega)
   have hC0 : (0 : Int) < (C : Int) := by omega
   have hC00 : 0 < C := by omega
   have HFI : Hid (2 ≤ l.getD 0 0 ∧ l.getD 0 0 < 65536) := hidden (HIN.out _ (getD_mem (by rw [hl]; exact hC00)))
   obtain ⟨y, hy⟩ : ∃ y, l.getD 0 0 = y := ⟨_, rfl⟩
   have HY := hidden hy
   rw [hy] at hc00 HFI
   clear hb1 hg1 hz1 hc1 hc0 hcs HM HTK HL HS HP HSP hl hjo htk htk2 hin hy
   go_wp2_with (first
    | (go_at_call 34; refine HLY.out.mono ?_; rintro e w2 ⟨rfl, HQ⟩; refine Hid.out ?_))
   apply hidden
   obtain ⟨M2, hb2, hcon2, hg2, hz2, hc2⟩ := HQ.out
   have hce : w2.cell? ⟨ab, 0, none⟩ = some (.int .i64 y) := by
    rw [← hc00]
    exact World.cell?_of_block (hc2.block ab hab (by
     rcases HPN.out with h | h
     ·omega
     ·exact h _ rfl))
   have HF : Hid (WrM w b m en ps rd P T M ct v y 0 w2) := hidden ⟨M2, ct + C, .inr (.inr ⟨by rw [HVL.out]; exact ⟨hN1, hN3⟩, by rw [HCN.out]; exact hroom, rfl, by rw [HCN.out], l, con M1, by rw [HCN.out]; exact HLL.out, HTK2.out, HY.out.symm, by rw [HCN.out]; exact hcon2⟩), hb2, hg2, HZ1.out.trans hz2 HC0.out.size, HC0.out.go hc2, fun _ => HFI.out⟩
   clear hb2 hcon2 hg2 hz2 hc2 HQ HLY hc00
   go_wp2
   go_ret2
   exact ⟨_, _, rfl, HF⟩
  ·have e2 : decide ((C : Int) ≤ ps - 2 - (ct : Int)) = false := by simp; omega
   rw [e2] at HSP
   clear h hp hv htb hg hps hvl hC
   go_enter Tryd.func11, Tryd.ntmps11
   go_wp2_with (first
    | (go_at_call 32; refine same_call HL.out ?_; rw [e1])
    | (go_at_call 49; refine same_call HS.out ?_)
    | (go_at_call 18; refine same_call (HP _) ?_)
    | (go_at_call 61; refine HSP.out.mono ?_; rintro e w0 ⟨rfl, q, rfl⟩))
   go_ret2
   exact ⟨_, _, rfl, hidden ⟨M, ct, .inr (.inl ⟨by rw [HVL.out]; exact ⟨hN1, hN3⟩, by rw [HCN.out]; omega, rfl, rfl, rfl, rfl⟩), HB.out.on (bl_dr (Below.refl _ w) _), HG.out, Zs.refl _ _, Cf.drew _ _ _, fun h => (by cases h)⟩⟩
 ·have e1 : decide (1 ≤ (N : Int) ∧ (N : Int) ≤ 65536) = false := by simp; omega
  have HB := hidden h
  have HG := hidden hg
  have HNN : Hid (¬ (1 ≤ v.length ∧ v.length ≤ 65536)) := hidden (by rw [hvl]; exact hN)
  clear h hp hv htb hg hps hvl
  go_enter Tryd.func11, Tryd.ntmps11
  go_wp2_with (first
   | (go_at_call 32; refine same_call HL.out ?_; rw [e1]))
  go_ret2
  exact ⟨_, _, rfl, hidden ⟨M, ct, .inl ⟨HNN.out, rfl, rfl, rfl, rfl⟩, HB.out, HG.out, Zs.refl _ _, Cf.refl _ _, fun h => (by cases h)⟩⟩
end Go.Proofs.YtoejadhlkamcjaaDoor
