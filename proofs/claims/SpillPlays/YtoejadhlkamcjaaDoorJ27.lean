import Derived.Test.YtoejadhlkamcjaaDoorJ26
namespace Go.Proofs.YtoejadhlkamcjaaDoor
set_option maxRecDepth 100000
open Go.RowKit
def lnOf : Value → Nat
 | .slice _ n _ => n
 | _ => 0
theorem refFix (n : Int) (h0 : 0 ≤ n) (hn : n < 18446744073709551616) (w : World) : Calls Tryd.prog 67 #[.int .u64 n, .int .i64 4] w fun e w' => ∃ fo fc, e = .returned (.slice fo 4 fc) ∧ Hid (Sl w' fo 4 fc (fB 4 n)) ∧ Hid (Below w.heap.size w w') := by
 refine (refFixed_yes n 4 w h0 hn (by omega) (by omega)).mono ?_
 rintro e w' ⟨v, rfl, ho, hb⟩
 obtain ⟨ao, cap, rfl, hs, _⟩ := ho.sl (fB_wf _ _) (by rw [fB_length]; decide)
 rw [fB_length] at hs ⊢
 exact ⟨ao, cap, rfl, hs, hb⟩
theorem own_grow {w u : World} {B : Nat} {v : Value} {l : List Int} (h : OwnB w B v l) (hb : Below w.heap.size w u) : OwnB u B v l := h.on (Nat.le_refl _) hb
set_option maxHeartbeats 4000000 in
theorem refEnc_yes (n : Int) (P : Nat) (ao : Option Addr) (dn cap : Nat) (d : List Int) (w : World) (hs : Sl w ao dn cap d) (hp : pw P) (hn : nxt n) (h1 : 1 ≤ dn) (h2 : dn + 16 ≤ P) :
  Calls Tryd.prog 53 #[.int .i64 n, .slice ao dn cap, .int .i64 (P : Int)] w fun e w' => ∃ ro rc, e = .returned (.tuple #[.slice ro P rc, .int .i64 0]) ∧ Hid (OwnB w' w.heap.size (.slice ro P rc) (spB n d P)) ∧ Hid (Below w.heap.size w w') := by
 have hpl := pw_le hp
 have hn0 : 0 ≤ n ∧ n < 65536 ∧ n ≠ 1 := by unfold nxt at hn; omega
 have e1 : decide (pw (P : Int)) = true := by simpa using hp
 have HI := hidden (refIsPage_any (P : Int) w)
 have a1 : decide (n < 0) = false := by simp; omega
 have a2 : (n == 1) = false := by rw [beq_eq_false_iff_ne]; omega
 have a3 : decide (65536 ≤ n) = false := by simp; omega
 have a4 : decide ((dn : Int) < 1) = false := by simp; omega
 have a5 : decide ((P : Int) - 16 < (dn : Int)) = false := by simp; omega
 have hwn : IntKind.u64.wrap n = n := by rw [IntKind.wrap_u64]; omega
 have hwd : IntKind.u64.wrap (dn : Int) = (dn : Int) := by rw [IntKind.wrap_u64]; omega
 have HL := hidden hs.hlen
 have HS := hidden hs
 have hPI : (P : Int) ≤ 65536 := by omega
 have hdI : (dn : Int) ≤ 65536 := by omega
 obtain ⟨x, hx⟩ : ∃ x, w.alloc (.cells #[.int .u8 4, .int .u8 0, .int .u8 0, .int .u8 0] 5) = x := ⟨_, rfl⟩
 have hbx : Below w.heap.size w x := by rw [← hx]; exact bl_al (Below.refl _ _) (Nat.le_refl _) _
 have HO0 : Hid (OwnB x w.heap.size (.slice (some ⟨w.heap.size, 0, none⟩) 4 4) [4, 0, 0, 0]) := hidden (own_of_heap (l := [4, 0, 0, 0]) (by rw [← hx]; exact heap_alloc_last w _) (Nat.le_refl _) (by decide))
 have HBX := hidden hbx
 have HF1 := hidden (refFix n hn0.1 (by omega) x)
 clear hs hp hn hbx
 go_enter Tryd.func53, Tryd.ntmps53
 go_wp2_with (first
  | (go_at_call 65; refine same_call HI.out ?_; rw [e1])
  | (go_at_call 67; refine HF1.out.mono ?_; rintro e w1 ⟨fo, fc, rfl, HSF, HBF⟩; refine Hid.out ?_))
 apply hidden
 have HO1 := hidden (own_grow HO0.out HBF.out)
 have HB1 := hidden (bl_go HBX.out (Nat.le_refl _) HBF.out)
 have hw1 : w.heap.size ≤ w1.heap.size := HB1.out.size
 clear HF1 HO0 HBX HBF hx HI
 go_wp2_with (at_builtin; refine app_sl _ rfl _ _ rfl w.heap.size [4, 0, 0, 0] (fB 4 n) _ fo 4 fc rfl rfl HO1.out HSF.out (by simp) hw1 ?_; refine Hid.out ?_)
 apply hidden
 intro v2 w2 ho2 hg2
 have HB2 : Hid (Below w.heap.size w w2) := hidden (HB1.out.trans (hg2.below HO1.out hw1))
 obtain ⟨X1, hX1⟩ : ∃ X, ([4, 0, 0, 0] : List Int) ++ fB 4 n = X := ⟨_, rfl⟩
 have HX1L : Hid (X1.length = 8) := hidden (by rw [← hX1]; simp [fB_length])
 have HX1 := hidden hX1
 have HO2 : Hid (OwnB w2 w.heap.size v2 X1) := hidden (by rw [← hX1]; exact ho2)
 clear ho2 hg2 HO1 HSF HB1 hX1
 have HF2 := hidden (refFix (dn : Int) (by omega) (by omega) w2)
 go_wp2_with (first
  | (go_at_call 67; refine HF2.out.mono ?_; rintro e w3 ⟨fo2, fc2, rfl, HSF, HBF⟩; refine Hid.out ?_))
 apply hidden
 have HO3 := hidden (own_grow HO2.out HBF.out)
 have HB3 := hidden (bl_go HB2.out (Nat.le_refl _) HBF.out)
 have hw3 : w.heap.size ≤ w3.heap.size := HB3.out.size
 clear HF2 HO2 HB2 HBF
 go_wp2_with (at_builtin; refine app_sl _ rfl _ _ rfl w.heap.size X1 (fB 4 (dn : Int)) _ fo2 4 fc2 rfl rfl HO3.out HSF.out (by rw [HX1L.out]; decide) hw3 ?_; refine Hid.out ?_)
 apply hidden
 intro v4 w4 ho4 hg4
 have HB4 : Hid (Below w.heap.size w w4) := hidden (HB3.out.trans (hg4.below HO3.out hw3))
 obtain ⟨X2, hX2⟩ : ∃ X, X1 ++ fB 4 (dn : Int) = X := ⟨_, rfl⟩
 have HX2L : Hid (X2.length = 12) := hidden (by rw [← hX2, List.length_append, HX1L.out, fB_length])
 have HX2 := hidden hX2
 have HO4 : Hid (OwnB w4 w.heap.size v4 X2) := hidden (by rw [← hX2]; exact ho4)
 clear hX2
 have hd12 : 12 + dn ≤ 140737488355328 := by omega
 have hw4 : w.heap.size ≤ w4.heap.size := HB4.out.size
 have HSD : Hid (Sl w4 ao dn cap d) := hidden (HS.out.on (Nat.le_refl _) HB4.out)
 clear ho4 hg4 HO3 HSF HB3
 go_wp2_with (at_builtin; refine app_sl _ rfl _ _ rfl w.heap.size X2 d _ ao dn cap rfl rfl HO4.out HSD.out (by rw [HX2L.out]; exact hd12) hw4 ?_; refine Hid.out ?_)
 apply hidden
 intro v5 w5 ho5 hg5
 have HB5 : Hid (Below w.heap.size w w5) := hidden (HB4.out.trans (hg5.below HO4.out hw4))
 obtain ⟨X, hX'⟩ : ∃ X, X2 ++ d = X := ⟨_, rfl⟩
 rw [hX'] at ho5
 have hX : ([4, 0, 0, 0] : List Int) ++ fB 4 n ++ fB 4 (dn : Int) ++ d = X := by rw [HX1.out, HX2.out, hX']
 have HXL : Hid (X.length = 12 + dn) := hidden (by rw [← hX]; simp [fB_length, HL.out]; omega)
 have HXE := hidden hX
 have HXW : Hid (Wf X) := hidden (by
  rw [← hX]
  refine ((Wf.append ?_ (fB_wf _ _)).append (fB_wf _ _)).append HS.out.wf
  intro z hz
  simp only [List.mem_cons, List.not_mem_nil, or_false] at hz
  omega)
 obtain ⟨yo, yc, rfl, _⟩ := own_shape ho5
 have HO5 := hidden ho5
 rw [HXL.out] at HO5 ⊢
 clear ho5 hg5 HO4 HSD HB4 hX hX'
 obtain ⟨pad, hpad⟩ : ∃ pad, P - 16 - dn = pad := ⟨_, rfl⟩
 go_wp2_with fail
 go_loopw [9] (fun v wr => ∃ (j : Nat) (vo : Option Addr) (vc : Nat), j ≤ pad ∧ v = .slice vo (12 + dn + j) vc ∧ Hid (OwnB wr w.heap.size (.slice vo (12 + dn + j) vc) (X ++ zs j)) ∧ Hid (Below w.heap.size w wr)) (fun v _ => P - lnOf v)
 case atStart => exact ⟨0, yo, yc, by omega, rfl, hidden (by simpa [zs] using HO5.out), HB5⟩
 case round =>
  obtain ⟨j, vo, vc, hj, rfl, HO, HB⟩ := hrel
  obtain ⟨m, hm⟩ : ∃ m, 12 + dn + j = m := ⟨_, rfl⟩
  have HXZ : Hid ((X ++ zs j).length = m) := hidden (by rw [List.length_append, HXL.out, zs_length, hm])
  obtain ⟨Y, hY⟩ : ∃ Y, X ++ zs j = Y := ⟨_, rfl⟩
  have HYE := hidden hY
  have HYW : Hid (Wf Y) := hidden (by rw [← hY]; exact HXW.out.append (zs_wf j))
  rw [hY] at HXZ HO
  rw [hm] at HO ⊢
  clear hY
  by_cases hlt : j < pad
  ·have hltI : (m : Int) < (P : Int) - 4 := by omega
   obtain ⟨x, hx⟩ : ∃ x, wr.alloc (.cells #[.int .u8 0] 5) = x := ⟨_, rfl⟩
   have hbx : Below wr.heap.size wr x := by rw [← hx]; exact bl_al (Below.refl _ _) (Nat.le_refl _) _
   have hslx : Sl x (some ⟨wr.heap.size, 0, none⟩) 1 1 [0] := by
    refine ⟨rfl, Nat.le_refl _, by omega, Wf.cons (by omega) Wf.nil, (by intro h; cases h), .inr ⟨wr.heap.size, 0, rfl, by rw [← hx]; simp, fun i hi => ?_⟩⟩
    obtain rfl : i = 0 := by omega
    rw [← hx]
    simp
   have HOX := hidden (own_grow HO.out hbx)
   have HSX := hidden hslx
   have hxs : w.heap.size ≤ x.heap.size := Nat.le_trans HB.out.size hbx.size
   have HBX := hidden (bl_go HB.out (Nat.le_refl _) hbx)
   have hmb : m + 1 ≤ 140737488355328 := by omega
   clear hslx hbx
   go_wp2_with (at_builtin; refine app_sl _ rfl _ _ rfl w.heap.size Y [0] _ (some ⟨wr.heap.size, 0, none⟩) 1 1 rfl rfl HOX.out HSX.out (by rw [HXZ.out]; exact hmb) hxs ?_; refine Hid.out ?_)
   apply hidden
   intro v' w' ho hg
   have HB2 : Hid (Below w.heap.size w w') := hidden (HBX.out.trans (hg.below HOX.out hxs))
   obtain ⟨vo2, vc2, rfl, _⟩ := own_shape ho
   have hl2 : (Y ++ [0]).length = m + 1 := by rw [List.length_append, HXZ.out]; rfl
   rw [hl2] at ho ⊢
   have HO2 : Hid (OwnB w' w.heap.size (.slice vo2 (12 + dn + (j + 1)) vc2) (X ++ zs (j + 1))) := hidden (by
    rw [show 12 + dn + (j + 1) = m + 1 by omega, show zs (j + 1) = zs j ++ [0] from zs_add j 1, ← List.append_assoc, HYE.out]
    exact ho)
   clear ho hg hx HOX HSX
   go_wp2
   go_roundw
   case rel => exact ⟨j + 1, vo2, vc2, by omega, by rw [show 12 + dn + (j + 1) = m + 1 by omega], HO2, HB2⟩
   case measure => simp [lnOf]; omega
  ·have hltI : ¬ (m : Int) < (P : Int) - 4 := by omega
   have HH : Hid (Y = spH n d P) := hidden (by
    unfold spH
    rw [← HYE.out, ← HXE.out, HL.out, show P - 16 - dn = j by omega]
    simp only [List.append_assoc])
   have HSH : Hid (Sl wr vo m vc Y) := hidden (HO.out.sl2 HYW.out (by rw [HXZ.out]; omega))
   have HSUM := hidden (rSumOf_any vo m vc Y wr HSH.out)
   rw [HH.out] at HSUM
   have hs32 := sumN_lt (spH n d P) (by rw [← HH.out]; exact HYW.out)
   obtain ⟨SN, hS⟩ : ∃ SN, sumN [spH n d P] = SN := ⟨_, rfl⟩
   rw [hS] at hs32 HSUM
   have HSS := hidden hS
   have hws : IntKind.u64.wrap ((SN : Nat) : Int) = (SN : Int) := by rw [IntKind.wrap_u64]; omega
   have HF3 := hidden (refFix (SN : Int) (by omega) (by omega) wr)
   clear hS HSH
   go_wp2_with (first
    | (go_at_call 68; refine same_call HSUM.out ?_)
    | (go_at_call 67; refine HF3.out.mono ?_; rintro e w6 ⟨fo3, fc3, rfl, HSF, HBF⟩; refine Hid.out ?_))
   apply hidden
   have HO6 := hidden (own_grow HO.out HBF.out)
   have HB6 := hidden (bl_go HB.out (Nat.le_refl _) HBF.out)
   have hw6 : w.heap.size ≤ w6.heap.size := HB6.out.size
   have hm4 : m + 4 ≤ 140737488355328 := by omega
   clear HF3 HSUM HO HB HBF
   go_wp2_with (at_builtin; refine app_sl _ rfl _ _ rfl w.heap.size Y (fB 4 (SN : Int)) _ fo3 4 fc3 rfl rfl HO6.out HSF.out (by rw [HXZ.out]; exact hm4) hw6 ?_; refine Hid.out ?_)
   apply hidden
   intro v7 w7 ho7 hg7
   have HB7 : Hid (Below w.heap.size w w7) := hidden (HB6.out.trans (hg7.below HO6.out hw6))
   obtain ⟨ro, rc, rfl, _⟩ := own_shape ho7
   have hl7 : (Y ++ fB 4 (SN : Int)).length = P := by rw [List.length_append, HXZ.out, fB_length]; omega
   rw [hl7] at ho7 ⊢
   have HO7 : Hid (OwnB w7 w.heap.size (.slice ro P rc) (spB n d P)) := hidden (by
    unfold spB sealB
    rw [HSS.out, ← HH.out]
    exact ho7)
   clear ho7 hg7
   go_wp2
   go_ret2
   exact ⟨ro, rc, rfl, HO7, HB7⟩
end Go.Proofs.YtoejadhlkamcjaaDoor

namespace Go.Proofs.YtoejadhlkamcjaaDoor
set_option maxRecDepth 100000
open Go.RowKit
def REn (n : Int) (d : List Int) (p : Int) (w : World) (e : Ending) (w' : World) : Prop :=
 ∃ ro rn rc k, e = .returned (.tuple #[.slice ro rn rc, .int .i64 k]) ∧ Hid (Below w.heap.size w w') ∧ Hid (spE n d p = k ∧ ((k = 0 ∧ Sl w' ro rn rc (spB n d p.toNat)) ∨ (k ≠ 0 ∧ ro = none ∧ rn = 0 ∧ rc = 0)))
theorem refEnc_any (n p : Int) (ao : Option Addr) (dn cap : Nat) (d : List Int) (w : World) (hs : Sl w ao dn cap d) :
  Calls Tryd.prog 53 #[.int .i64 n, .slice ao dn cap, .int .i64 p] w fun e w' => REn n d p w e w' := by
 have hl := hs.hlen
 have hr := hs.hroom
 have HI := hidden (refIsPage_any p w)
 by_cases hz : spE n d p = 0
 ·obtain ⟨h1, h2, h3, h4⟩ := spE_zero.1 hz
  have hp := pw_le h1
  obtain ⟨P, rfl⟩ : ∃ P : Nat, p = P := ⟨p.toNat, by omega⟩
  refine (refEnc_yes n P ao dn cap d w hs h1 h2 (by omega) (by omega)).mono ?_
  rintro e w' ⟨ro, rc, rfl, ho, hb⟩
  exact ⟨_, _, _, _, rfl, hb, hidden ⟨hz, .inl ⟨rfl, ho.out.sl2 (spB_wf P hs.wf) (by rw [spB_length _ _ _ (by omega)]; omega)⟩⟩⟩
 ·refine Calls.mono (R := fun e w' => e = .returned (.tuple #[.slice none 0 0, .int .i64 (spE n d p)]) ∧ w' = w) ?_ ?_
  ·by_cases hp : pw p
   ·have e1 : decide (pw p) = true := by simpa using hp
    have hpl := pw_le hp
    by_cases hn : nxt n
    ·have hn0 : 0 ≤ n ∧ n < 65536 ∧ n ≠ 1 := by unfold nxt at hn; omega
     have a1 : decide (n < 0) = false := by simp; omega
     have a2 : (n == 1) = false := by rw [beq_eq_false_iff_ne]; omega
     have a3 : decide (65536 ≤ n) = false := by simp; omega
     have hq : dn = 0 ∨ p - 16 < dn := by
      rw [spE_zero] at hz
      by_cases h3 : 1 ≤ d.length ∧ (d.length : Int) ≤ p - 16
      ·exact absurd ⟨hp, hn, h3⟩ hz
      ·omega
     have he : spE n d p = 31 := by
      unfold spE
      rw [if_neg (by simp [hp, hn]), if_pos (by omega)]
     rw [he]
     clear he hz hp hn hs
     by_cases hd : (dn : Int) < 1
     ·have a4 : decide ((dn : Int) < 1) = true := by simpa using hd
      clear hq
      go_enter Tryd.func53, Tryd.ntmps53
      go_wp2_with (first | (go_at_call 65; refine same_call HI.out ?_; rw [e1]))
      go_ret2
      exact ⟨rfl, rfl⟩
     ·have a4 : decide ((dn : Int) < 1) = false := by simpa using hd
      have a5 : decide (p - 16 < (dn : Int)) = true := by simp; omega
      clear hq
      go_enter Tryd.func53, Tryd.ntmps53
      go_wp2_with (first | (go_at_call 65; refine same_call HI.out ?_; rw [e1]))
      go_ret2
      exact ⟨rfl, rfl⟩
    ·have he : spE n d p = 1 := by unfold spE; rw [if_pos (.inr hn)]
     rw [he]
     have hbad : n < 0 ∨ n = 1 ∨ 65536 ≤ n := by unfold nxt at hn; omega
     clear he hz hp hn hs
     by_cases g1 : n < 0
     ·have a1 : decide (n < 0) = true := by simpa using g1
      go_enter Tryd.func53, Tryd.ntmps53
      go_wp2_with (first | (go_at_call 65; refine same_call HI.out ?_; rw [e1]))
      go_ret2
      exact ⟨rfl, rfl⟩
     ·have a1 : decide (n < 0) = false := by simpa using g1
      by_cases g2 : n = 1
      ·subst g2
       go_enter Tryd.func53, Tryd.ntmps53
       go_wp2_with (first | (go_at_call 65; refine same_call HI.out ?_; rw [e1]))
       go_ret2
       exact ⟨rfl, rfl⟩
      ·have a2 : (n == 1) = false := by rw [beq_eq_false_iff_ne]; exact g2
       have a3 : decide (65536 ≤ n) = true := by simp; omega
       go_enter Tryd.func53, Tryd.ntmps53
       go_wp2_with (first | (go_at_call 65; refine same_call HI.out ?_; rw [e1]))
       go_ret2
       exact ⟨rfl, rfl⟩
   ·have e1 : decide (pw p) = false := by simpa using hp
    have he : spE n d p = 1 := by unfold spE; rw [if_pos (.inl hp)]
    rw [he]
    clear he hz hp hs
    go_enter Tryd.func53, Tryd.ntmps53
    go_wp2_with (first | (go_at_call 65; refine same_call HI.out ?_; rw [e1]))
    go_ret2
    exact ⟨rfl, rfl⟩
  ·rintro e w' ⟨rfl, rfl⟩
   exact ⟨_, _, _, _, rfl, hidden (Below.refl _ _), hidden ⟨rfl, .inr ⟨hz, rfl, rfl, rfl⟩⟩⟩
end Go.Proofs.YtoejadhlkamcjaaDoor

namespace Go.Proofs.YtoejadhlkamcjaaDoor
set_option maxRecDepth 100000
open Go.RowKit
def pgL (n : Int) (d : List Int) (p : Int) : List Int := if spE n d p = 0 then spB n d p.toNat else []
theorem refU (n p : Int) (ao : Option Addr) (dn cap : Nat) (d : List Int) (w : World) (hs : Sl w ao dn cap d) :
  Calls Tryd.prog 53 #[.int .i64 n, .slice ao dn cap, .int .i64 p] w fun e w' => ∃ ro rn rc, e = .returned (.tuple #[.slice ro rn rc, .int .i64 (spE n d p)]) ∧ Hid (Sl w' ro rn rc (pgL n d p)) ∧ Hid (Below w.heap.size w w') := by
 refine (refEnc_any n p ao dn cap d w hs).mono ?_
 rintro e w' ⟨ro, rn, rc, k, rfl, hb, hq⟩
 obtain ⟨rfl, ⟨hk, hsl⟩ | ⟨hk, rfl, rfl, rfl⟩⟩ := hq.out
 ·refine ⟨_, _, _, rfl, ?_, hb⟩
  unfold pgL
  rw [if_pos hk]
  exact hsl
 ·refine ⟨_, _, _, rfl, ?_, hb⟩
  unfold pgL
  rw [if_neg hk]
  exact ⟨rfl, Nat.le_refl _, by omega, Wf.nil, fun _ => rfl, .inl rfl⟩
theorem bk_lent {w : World} {g n : Nat} {l : List Int} (h : Bk w g (l ++ mks 9)) (hl : l.length = n) (hw : Wf l) (hn : n ≤ 140737488355328) : Sl w (some ⟨g, 0, none⟩) n (n + 9) l := by
 refine ⟨hl, by omega, hn, hw, (by intro h; cases h), .inr ⟨g, 0, rfl, lt_some h, fun i hi => ?_⟩⟩
 rw [Nat.zero_add, h.cell i (by rw [List.length_append]; omega)]
 simp [List.getD, List.getElem?_append_left (show i < l.length by omega)]
theorem box9 {w : World} {B bk : Nat} (h : w.heap[bk]? = some (.cells #[.slice none 0 0] 70 (0, 0))) : Bo9 w B bk (.slice none 0 0) [] (fun _ => []) :=
 ⟨h, OwnX.nil _ _, fun t u ht => by simp at ht, fun t t' u u' ht => by simp at ht⟩
end Go.Proofs.YtoejadhlkamcjaaDoor
