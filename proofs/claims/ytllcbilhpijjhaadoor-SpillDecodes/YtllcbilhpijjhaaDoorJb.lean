/- The document's Encode of a spill page. -/
import Derived.Test.YtllcbilhpijjhaaDoorJa
namespace Go.Proofs.YtllcbilhpijjhaaDoor
open Go.RowKit

def lnOf : Value → Nat
  | .slice _ n _ => n
  | _ => 0
set_option maxRecDepth 100000 in
theorem refFix (n : Int) (h0 : 0 ≤ n) (hn : n < 18446744073709551616) (w : World) : Calls Tryd.prog 29 #[.int .u64 n, .int .i64 4] w fun e w' => ∃ fo fc, e = .returned (.slice fo 4 fc) ∧ Hid (Sl w' fo 4 fc (fB 4 n)) ∧ Hid (Below w.heap.size w w') := by
  refine (refFixed_yes n 4 w h0 hn (by omega) (by omega)).mono ?_
  rintro e w' ⟨v, rfl, ho, hb⟩
  obtain ⟨ao, cap, rfl, hs, _⟩ := ho.sl (fB_wf _ _) (by rw [fB_length]; decide)
  rw [fB_length] at hs ⊢
  exact ⟨ao, cap, rfl, hs, hb⟩
set_option maxRecDepth 100000 in
theorem own_grow {w u : World} {B : Nat} {v : Value} {l : List Int} (h : OwnB w B v l) (hb : Below w.heap.size w u) : OwnB u B v l := h.on (Nat.le_refl _) hb
set_option maxRecDepth 100000 in
set_option maxHeartbeats 4000000 in
theorem refEnc_yes (n : Int) (P : Nat) (ao : Option Addr) (dn cap : Nat) (d : List Int) (w : World) (hs : Sl w ao dn cap d) (hp : pw P) (hn : nxt n) (h1 : 1 ≤ dn) (h2 : dn + 16 ≤ P) :
    Calls Tryd.prog 7 #[.int .i64 n, .slice ao dn cap, .int .i64 (P : Int)] w fun e w' => ∃ ro rc, e = .returned (.tuple #[.slice ro P rc, .int .i64 0]) ∧ Hid (OwnB w' w.heap.size (.slice ro P rc) (spB n d P)) ∧ Hid (Below w.heap.size w w') := by
  have hpl := pw_le hp
  have hn0 : 0 ≤ n ∧ n < 65536 ∧ n ≠ 1 := by unfold nxt at hn; omega
  have e1 : decide (pw (P : Int)) = true := by simpa using hp
  have HI := hidden (refIsPage_any (P : Int) w)
  have a1 : decide (n < 0) = false := by simp; omega
  have a2 : (n == 1) = false := by rw [beq_eq_false_iff_ne]; omega
  have a3 : decide (65536 ≤ n) = false := by simp; omega
  have a4 : decide ((dn : Int) < 1) = false := by simp; omega
  have a5 : decide ((P : Int) - 16 < (dn : Int)) = false := by simp; omega
  have hwn : IntKind.u64.wrap n = n := by rw [IntKind.wrap_u64]; omega
  have hwd : IntKind.u64.wrap (dn : Int) = (dn : Int) := by rw [IntKind.wrap_u64]; omega
  have HL := hidden hs.hlen
  have HS := hidden hs
  have hPI : (P : Int) ≤ 65536 := by omega
  have hdI : (dn : Int) ≤ 65536 := by omega
  obtain ⟨x, hx⟩ : ∃ x, w.alloc (.cells #[.int .u8 4, .int .u8 0, .int .u8 0, .int .u8 0] 5) = x := ⟨_, rfl⟩
  have hbx : Below w.heap.size w x := by rw [← hx]; exact bl_al (Below.refl _ _) (Nat.le_refl _) _
  have HO0 : Hid (OwnB x w.heap.size (.slice (some ⟨w.heap.size, 0, none⟩) 4 4) [4, 0, 0, 0]) := hidden (own_of_heap (l := [4, 0, 0, 0]) (by rw [← hx]; exact heap_alloc_last w _) (Nat.le_refl _) (by decide))
  have HBX := hidden hbx
  have HF1 := hidden (refFix n hn0.1 (by omega) x)
  clear hs hp hn hbx
  go_enter Tryd.func7, Tryd.ntmps7
  go_wp2_with (first
    | (go_at_call 28; refine same_call HI.out ?_; rw [e1])
    | (go_at_call 29; refine HF1.out.mono ?_; rintro e w1 ⟨fo, fc, rfl, HSF, HBF⟩; refine Hid.out ?_))
  apply hidden
  have HO1 := hidden (own_grow HO0.out HBF.out)
  have HB1 := hidden (bl_go HBX.out (Nat.le_refl _) HBF.out)
  have hw1 : w.heap.size ≤ w1.heap.size := HB1.out.size
  clear HF1 HO0 HBX HBF hx HI
  go_wp2_with (at_builtin; refine app_sl _ rfl _ _ rfl w.heap.size [4, 0, 0, 0] (fB 4 n) _ fo 4 fc rfl rfl HO1.out HSF.out (by simp) hw1 ?_; refine Hid.out ?_)
  apply hidden
  intro v2 w2 ho2 hg2
  have HB2 : Hid (Below w.heap.size w w2) := hidden (HB1.out.trans (hg2.below HO1.out hw1))
  obtain ⟨X1, hX1⟩ : ∃ X, ([4, 0, 0, 0] : List Int) ++ fB 4 n = X := ⟨_, rfl⟩
  have HX1L : Hid (X1.length = 8) := hidden (by rw [← hX1]; simp [fB_length])
  have HX1 := hidden hX1
  have HO2 : Hid (OwnB w2 w.heap.size v2 X1) := hidden (by rw [← hX1]; exact ho2)
  clear ho2 hg2 HO1 HSF HB1 hX1
  have HF2 := hidden (refFix (dn : Int) (by omega) (by omega) w2)
  go_wp2_with (first
    | (go_at_call 29; refine HF2.out.mono ?_; rintro e w3 ⟨fo2, fc2, rfl, HSF, HBF⟩; refine Hid.out ?_))
  apply hidden
  have HO3 := hidden (own_grow HO2.out HBF.out)
  have HB3 := hidden (bl_go HB2.out (Nat.le_refl _) HBF.out)
  have hw3 : w.heap.size ≤ w3.heap.size := HB3.out.size
  clear HF2 HO2 HB2 HBF
  go_wp2_with (at_builtin; refine app_sl _ rfl _ _ rfl w.heap.size X1 (fB 4 (dn : Int)) _ fo2 4 fc2 rfl rfl HO3.out HSF.out (by rw [HX1L.out]; decide) hw3 ?_; refine Hid.out ?_)
  apply hidden
  intro v4 w4 ho4 hg4
  have HB4 : Hid (Below w.heap.size w w4) := hidden (HB3.out.trans (hg4.below HO3.out hw3))
  obtain ⟨X2, hX2⟩ : ∃ X, X1 ++ fB 4 (dn : Int) = X := ⟨_, rfl⟩
  have HX2L : Hid (X2.length = 12) := hidden (by rw [← hX2, List.length_append, HX1L.out, fB_length])
  have HX2 := hidden hX2
  have HO4 : Hid (OwnB w4 w.heap.size v4 X2) := hidden (by rw [← hX2]; exact ho4)
  clear hX2
  have hd12 : 12 + dn ≤ 140737488355328 := by omega
  have hw4 : w.heap.size ≤ w4.heap.size := HB4.out.size
  have HSD : Hid (Sl w4 ao dn cap d) := hidden (HS.out.on (Nat.le_refl _) HB4.out)
  clear ho4 hg4 HO3 HSF HB3
  go_wp2_with (at_builtin; refine app_sl _ rfl _ _ rfl w.heap.size X2 d _ ao dn cap rfl rfl HO4.out HSD.out (by rw [HX2L.out]; exact hd12) hw4 ?_; refine Hid.out ?_)
  apply hidden
  intro v5 w5 ho5 hg5
  have HB5 : Hid (Below w.heap.size w w5) := hidden (HB4.out.trans (hg5.below HO4.out hw4))
  obtain ⟨X, hX'⟩ : ∃ X, X2 ++ d = X := ⟨_, rfl⟩
  rw [hX'] at ho5
  have hX : ([4, 0, 0, 0] : List Int) ++ fB 4 n ++ fB 4 (dn : Int) ++ d = X := by rw [HX1.out, HX2.out, hX']
  have HXL : Hid (X.length = 12 + dn) := hidden (by rw [← hX]; simp [fB_length, HL.out]; omega)
  have HXE := hidden hX
  have HXW : Hid (Wf X) := hidden (by
    rw [← hX]
    refine ((Wf.append ?_ (fB_wf _ _)).append (fB_wf _ _)).append HS.out.wf
    intro z hz
    simp only [List.mem_cons, List.not_mem_nil, or_false] at hz
    omega)
  obtain ⟨yo, yc, rfl, _⟩ := own_shape ho5
  have HO5 := hidden ho5
  rw [HXL.out] at HO5 ⊢
  clear ho5 hg5 HO4 HSD HB4 hX hX'
  obtain ⟨pad, hpad⟩ : ∃ pad, P - 16 - dn = pad := ⟨_, rfl⟩
  go_wp2_with fail
  go_loopw [9] (fun v wr => ∃ (j : Nat) (vo : Option Addr) (vc : Nat), j ≤ pad ∧ v = .slice vo (12 + dn + j) vc ∧ Hid (OwnB wr w.heap.size (.slice vo (12 + dn + j) vc) (X ++ zs j)) ∧ Hid (Below w.heap.size w wr)) (fun v _ => P - lnOf v)
  case atStart => exact ⟨0, yo, yc, by omega, rfl, hidden (by simpa [zs] using HO5.out), HB5⟩
  case round =>
    obtain ⟨j, vo, vc, hj, rfl, HO, HB⟩ := hrel
    obtain ⟨m, hm⟩ : ∃ m, 12 + dn + j = m := ⟨_, rfl⟩
    have HXZ : Hid ((X ++ zs j).length = m) := hidden (by rw [List.length_append, HXL.out, zs_length, hm])
    obtain ⟨Y, hY⟩ : ∃ Y, X ++ zs j = Y := ⟨_, rfl⟩
    have HYE := hidden hY
    have HYW : Hid (Wf Y) := hidden (by rw [← hY]; exact HXW.out.append (zs_wf j))
    rw [hY] at HXZ HO
    rw [hm] at HO ⊢
    clear hY
    by_cases hlt : j < pad
    · have hltI : (m : Int) < (P : Int) - 4 := by omega
      obtain ⟨x, hx⟩ : ∃ x, wr.alloc (.cells #[.int .u8 0] 5) = x := ⟨_, rfl⟩
      have hbx : Below wr.heap.size wr x := by rw [← hx]; exact bl_al (Below.refl _ _) (Nat.le_refl _) _
      have hslx : Sl x (some ⟨wr.heap.size, 0, none⟩) 1 1 [0] := by
        refine ⟨rfl, Nat.le_refl _, by omega, Wf.cons (by omega) Wf.nil, (by intro h; cases h), .inr ⟨wr.heap.size, 0, rfl, by rw [← hx]; simp, fun i hi => ?_⟩⟩
        obtain rfl : i = 0 := by omega
        rw [← hx]
        simp
      have HOX := hidden (own_grow HO.out hbx)
      have HSX := hidden hslx
      have hxs : w.heap.size ≤ x.heap.size := Nat.le_trans HB.out.size hbx.size
      have HBX := hidden (bl_go HB.out (Nat.le_refl _) hbx)
      have hmb : m + 1 ≤ 140737488355328 := by omega
      clear hslx hbx
      go_wp2_with (at_builtin; refine app_sl _ rfl _ _ rfl w.heap.size Y [0] _ (some ⟨wr.heap.size, 0, none⟩) 1 1 rfl rfl HOX.out HSX.out (by rw [HXZ.out]; exact hmb) hxs ?_; refine Hid.out ?_)
      apply hidden
      intro v' w' ho hg
      have HB2 : Hid (Below w.heap.size w w') := hidden (HBX.out.trans (hg.below HOX.out hxs))
      obtain ⟨vo2, vc2, rfl, _⟩ := own_shape ho
      have hl2 : (Y ++ [0]).length = m + 1 := by rw [List.length_append, HXZ.out]; rfl
      rw [hl2] at ho ⊢
      have HO2 : Hid (OwnB w' w.heap.size (.slice vo2 (12 + dn + (j + 1)) vc2) (X ++ zs (j + 1))) := hidden (by
        rw [show 12 + dn + (j + 1) = m + 1 by omega, show zs (j + 1) = zs j ++ [0] from zs_add j 1, ← List.append_assoc, HYE.out]
        exact ho)
      clear ho hg hx HOX HSX
      go_wp2
      go_roundw
      case rel => exact ⟨j + 1, vo2, vc2, by omega, by rw [show 12 + dn + (j + 1) = m + 1 by omega], HO2, HB2⟩
      case measure => simp [lnOf]; omega
    · have hltI : ¬ (m : Int) < (P : Int) - 4 := by omega
      have HH : Hid (Y = spH n d P) := hidden (by
        unfold spH
        rw [← HYE.out, ← HXE.out, HL.out, show P - 16 - dn = j by omega]
        simp only [List.append_assoc])
      have HSH : Hid (Sl wr vo m vc Y) := hidden (HO.out.sl2 HYW.out (by rw [HXZ.out]; omega))
      have HSUM := hidden (rSumOf_any vo m vc Y wr HSH.out)
      rw [HH.out] at HSUM
      have hs32 := sumN_lt (spH n d P) (by rw [← HH.out]; exact HYW.out)
      obtain ⟨SN, hS⟩ : ∃ SN, sumN [spH n d P] = SN := ⟨_, rfl⟩
      rw [hS] at hs32 HSUM
      have HSS := hidden hS
      have hws : IntKind.u64.wrap ((SN : Nat) : Int) = (SN : Int) := by rw [IntKind.wrap_u64]; omega
      have HF3 := hidden (refFix (SN : Int) (by omega) (by omega) wr)
      clear hS HSH
      go_wp2_with (first
        | (go_at_call 30; refine same_call HSUM.out ?_)
        | (go_at_call 29; refine HF3.out.mono ?_; rintro e w6 ⟨fo3, fc3, rfl, HSF, HBF⟩; refine Hid.out ?_))
      apply hidden
      have HO6 := hidden (own_grow HO.out HBF.out)
      have HB6 := hidden (bl_go HB.out (Nat.le_refl _) HBF.out)
      have hw6 : w.heap.size ≤ w6.heap.size := HB6.out.size
      have hm4 : m + 4 ≤ 140737488355328 := by omega
      clear HF3 HSUM HO HB HBF
      go_wp2_with (at_builtin; refine app_sl _ rfl _ _ rfl w.heap.size Y (fB 4 (SN : Int)) _ fo3 4 fc3 rfl rfl HO6.out HSF.out (by rw [HXZ.out]; exact hm4) hw6 ?_; refine Hid.out ?_)
      apply hidden
      intro v7 w7 ho7 hg7
      have HB7 : Hid (Below w.heap.size w w7) := hidden (HB6.out.trans (hg7.below HO6.out hw6))
      obtain ⟨ro, rc, rfl, _⟩ := own_shape ho7
      have hl7 : (Y ++ fB 4 (SN : Int)).length = P := by rw [List.length_append, HXZ.out, fB_length]; omega
      rw [hl7] at ho7 ⊢
      have HO7 : Hid (OwnB w7 w.heap.size (.slice ro P rc) (spB n d P)) := hidden (by
        unfold spB sealB
        rw [HSS.out, ← HH.out]
        exact ho7)
      clear ho7 hg7
      go_wp2
      go_ret2
      exact ⟨ro, rc, rfl, HO7, HB7⟩
end Go.Proofs.YtllcbilhpijjhaaDoor

/- The document's Encode of a spill page, whatever is asked. -/

namespace Go.Proofs.YtllcbilhpijjhaaDoor
open Go.RowKit

/-- What the document's Encode comes to. -/
def REn (n : Int) (d : List Int) (p : Int) (w : World) (e : Ending) (w' : World) : Prop :=
  ∃ ro rn rc k, e = .returned (.tuple #[.slice ro rn rc, .int .i64 k]) ∧ Hid (Below w.heap.size w w') ∧ Hid (spE n d p = k ∧ ((k = 0 ∧ Sl w' ro rn rc (spB n d p.toNat)) ∨ (k ≠ 0 ∧ ro = none ∧ rn = 0 ∧ rc = 0)))
set_option maxRecDepth 100000 in
theorem refEnc_any (n p : Int) (ao : Option Addr) (dn cap : Nat) (d : List Int) (w : World) (hs : Sl w ao dn cap d) :
    Calls Tryd.prog 7 #[.int .i64 n, .slice ao dn cap, .int .i64 p] w fun e w' => REn n d p w e w' := by
  have hl := hs.hlen
  have hr := hs.hroom
  have HI := hidden (refIsPage_any p w)
  by_cases hz : spE n d p = 0
  · obtain ⟨h1, h2, h3, h4⟩ := spE_zero.1 hz
    have hp := pw_le h1
    obtain ⟨P, rfl⟩ : ∃ P : Nat, p = P := ⟨p.toNat, by omega⟩
    refine (refEnc_yes n P ao dn cap d w hs h1 h2 (by omega) (by omega)).mono ?_
    rintro e w' ⟨ro, rc, rfl, ho, hb⟩
    exact ⟨_, _, _, _, rfl, hb, hidden ⟨hz, .inl ⟨rfl, ho.out.sl2 (spB_wf P hs.wf) (by rw [spB_length _ _ _ (by omega)]; omega)⟩⟩⟩
  · refine Calls.mono (R := fun e w' => e = .returned (.tuple #[.slice none 0 0, .int .i64 (spE n d p)]) ∧ w' = w) ?_ ?_
    · by_cases hp : pw p
      · have e1 : decide (pw p) = true := by simpa using hp
        have hpl := pw_le hp
        by_cases hn : nxt n
        · have hn0 : 0 ≤ n ∧ n < 65536 ∧ n ≠ 1 := by unfold nxt at hn; omega
          have a1 : decide (n < 0) = false := by simp; omega
          have a2 : (n == 1) = false := by rw [beq_eq_false_iff_ne]; omega
          have a3 : decide (65536 ≤ n) = false := by simp; omega
          have hq : dn = 0 ∨ p - 16 < dn := by
            rw [spE_zero] at hz
            by_cases h3 : 1 ≤ d.length ∧ (d.length : Int) ≤ p - 16
            · exact absurd ⟨hp, hn, h3⟩ hz
            · omega
          have he : spE n d p = 31 := by
            unfold spE
            rw [if_neg (by simp [hp, hn]), if_pos (by omega)]
          rw [he]
          clear he hz hp hn hs
          by_cases hd : (dn : Int) < 1
          · have a4 : decide ((dn : Int) < 1) = true := by simpa using hd
            clear hq
            go_enter Tryd.func7, Tryd.ntmps7
            go_wp2_with (first | (go_at_call 28; refine same_call HI.out ?_; rw [e1]))
            go_ret2
            exact ⟨rfl, rfl⟩
          · have a4 : decide ((dn : Int) < 1) = false := by simpa using hd
            have a5 : decide (p - 16 < (dn : Int)) = true := by simp; omega
            clear hq
            go_enter Tryd.func7, Tryd.ntmps7
            go_wp2_with (first | (go_at_call 28; refine same_call HI.out ?_; rw [e1]))
            go_ret2
            exact ⟨rfl, rfl⟩
        · have he : spE n d p = 1 := by unfold spE; rw [if_pos (.inr hn)]
          rw [he]
          have hbad : n < 0 ∨ n = 1 ∨ 65536 ≤ n := by unfold nxt at hn; omega
          clear he hz hp hn hs
          by_cases g1 : n < 0
          · have a1 : decide (n < 0) = true := by simpa using g1
            go_enter Tryd.func7, Tryd.ntmps7
            go_wp2_with (first | (go_at_call 28; refine same_call HI.out ?_; rw [e1]))
            go_ret2
            exact ⟨rfl, rfl⟩
          · have a1 : decide (n < 0) = false := by simpa using g1
            by_cases g2 : n = 1
            · subst g2
              go_enter Tryd.func7, Tryd.ntmps7
              go_wp2_with (first | (go_at_call 28; refine same_call HI.out ?_; rw [e1]))
              go_ret2
              exact ⟨rfl, rfl⟩
            · have a2 : (n == 1) = false := by rw [beq_eq_false_iff_ne]; exact g2
              have a3 : decide (65536 ≤ n) = true := by simp; omega
              go_enter Tryd.func7, Tryd.ntmps7
              go_wp2_with (first | (go_at_call 28; refine same_call HI.out ?_; rw [e1]))
              go_ret2
              exact ⟨rfl, rfl⟩
      · have e1 : decide (pw p) = false := by simpa using hp
        have he : spE n d p = 1 := by unfold spE; rw [if_pos (.inl hp)]
        rw [he]
        clear he hz hp hs
        go_enter Tryd.func7, Tryd.ntmps7
        go_wp2_with (first | (go_at_call 28; refine same_call HI.out ?_; rw [e1]))
        go_ret2
        exact ⟨rfl, rfl⟩
    · rintro e w' ⟨rfl, rfl⟩
      exact ⟨_, _, _, _, rfl, hidden (Below.refl _ _), hidden ⟨rfl, .inr ⟨hz, rfl, rfl, rfl⟩⟩⟩
set_option maxRecDepth 100000 in
theorem spE_len {n p : Int} {d e : List Int} (h : d.length = e.length) : spE n d p = spE n e p := by unfold spE; rw [h]
end Go.Proofs.YtllcbilhpijjhaaDoor

/- The walk of the law SpillEncodes. -/

namespace Go.Proofs.YtllcbilhpijjhaaDoor
open Go.RowKit

/-- The page, or none. -/
def pgL (n : Int) (d : List Int) (p : Int) : List Int := if spE n d p = 0 then spB n d p.toNat else []
set_option maxRecDepth 100000 in
theorem pgL_wf {n : Int} {d : List Int} {p : Int} (h : Wf d) : Wf (pgL n d p) := by
  unfold pgL
  split
  · exact spB_wf _ h
  · exact Wf.nil
set_option maxRecDepth 100000 in
theorem pgL_len {n : Int} {d : List Int} {p : Int} : (pgL n d p).length ≤ 65536 := by
  unfold pgL
  split
  · rename_i h
    obtain ⟨h1, _, h3, h4⟩ := spE_zero.1 h
    have := pw_le h1
    rw [spB_length _ _ _ (by omega)]
    omega
  · simp
set_option maxRecDepth 100000 in
theorem encU (n p : Int) (ao : Option Addr) (dn cap : Nat) (d : List Int) (w : World) (hs : Sl w ao dn cap d) (ht : Tab w) (h0 : 0 < w.heap.size) :
    Calls Tryd.prog 10 #[.int .i64 n, .slice ao dn cap, .int .i64 p] w fun e w' => ∃ eo en, e = .returned (.tuple #[.slice eo en en, .int .i64 (spE n d p)]) ∧ Hid (OwnB w' w.heap.size (.slice eo en en) (pgL n d p)) ∧ Hid (Below w.heap.size w w') := by
  refine (encS_any n p ao dn cap d w hs ht h0).mono ?_
  intro e w' hE
  obtain ⟨eo, en, k, rfl, hb, hk⟩ := hE.shape
  rcases hk.out with ⟨hz, rfl, g, rfl, rfl, hg, hbk⟩ | ⟨hz, hk0, rfl, rfl⟩
  · obtain ⟨h1, _, h3, h4⟩ := spE_zero.1 hz
    have hp := pw_le h1
    refine ⟨_, _, by rw [hz], ?_, hb⟩
    have hl := spB_length n d p.toNat (by omega)
    have := own_of_heap (l := spB n d p.toNat) hbk hg (by rw [hl]; unfold maxLen; omega)
    rw [hl] at this
    unfold pgL
    rw [if_pos hz]
    exact this
  · refine ⟨_, _, by rw [hz], ?_, hb⟩
    unfold pgL
    rw [if_neg (by rw [hz]; exact hk0)]
    exact OwnB.nil _ _
set_option maxRecDepth 100000 in
theorem refU (n p : Int) (ao : Option Addr) (dn cap : Nat) (d : List Int) (w : World) (hs : Sl w ao dn cap d) :
    Calls Tryd.prog 7 #[.int .i64 n, .slice ao dn cap, .int .i64 p] w fun e w' => ∃ ro rn rc, e = .returned (.tuple #[.slice ro rn rc, .int .i64 (spE n d p)]) ∧ Hid (Sl w' ro rn rc (pgL n d p)) ∧ Hid (Below w.heap.size w w') := by
  refine (refEnc_any n p ao dn cap d w hs).mono ?_
  rintro e w' ⟨ro, rn, rc, k, rfl, hb, hq⟩
  obtain ⟨rfl, ⟨hk, hsl⟩ | ⟨hk, rfl, rfl, rfl⟩⟩ := hq.out
  · refine ⟨_, _, _, rfl, ?_, hb⟩
    unfold pgL
    rw [if_pos hk]
    exact hsl
  · refine ⟨_, _, _, rfl, ?_, hb⟩
    unfold pgL
    rw [if_neg hk]
    exact ⟨rfl, Nat.le_refl _, by omega, Wf.nil, fun _ => rfl, .inl rfl⟩
set_option maxRecDepth 100000 in
theorem bk_lent {w : World} {g n : Nat} {l : List Int} (h : Bk w g (l ++ mks 9)) (hl : l.length = n) (hw : Wf l) (hn : n ≤ 140737488355328) : Sl w (some ⟨g, 0, none⟩) n (n + 9) l := by
  refine ⟨hl, by omega, hn, hw, (by intro h; cases h), .inr ⟨g, 0, rfl, lt_some h, fun i hi => ?_⟩⟩
  rw [Nat.zero_add, h.cell i (by rw [List.length_append]; omega)]
  simp [List.getD, List.getElem?_append_left (show i < l.length by omega)]
set_option maxRecDepth 100000 in
theorem own_in {w : World} {B : Nat} {v : Value} {l : List Int} {k : Nat} (h : OwnB w B v l) (hk : v.ownBlock = some k) : B ≤ k ∧ k < w.heap.size := by
  unfold OwnB at h
  rcases h.2 with ⟨rfl, _⟩ | ⟨g, cap, cur, rfl, hg, hh, _⟩
  · cases hk
  · cases hk
    exact ⟨hg, lt_some hh⟩
set_option maxRecDepth 100000 in
theorem ownX_in {w : World} {B : Nat} {v : Value} {l : List Value} {k : Nat} (h : OwnX w B v l) (hk : v.ownBlock = some k) : B ≤ k ∧ k < w.heap.size := by
  unfold OwnX at h
  rcases h.2 with ⟨rfl, _⟩ | ⟨g, cap, cur, rfl, hg, hh, _⟩
  · cases hk
  · cases hk
    exact ⟨hg, lt_some hh⟩
set_option maxRecDepth 100000 in
/-- Two blocks, the one made behind the other. -/
theorem own_two {w u : World} {B C : Nat} {v x : Value} {l m : List Int} (h : OwnB w B v l) (k : OwnB u C x m) (hC : w.heap.size ≤ C) : v.ownBlock = none ∨ v.ownBlock ≠ x.ownBlock := by
  cases hv : v.ownBlock with
  | none => exact .inl rfl
  | some a =>
    right
    intro e
    have h1 := own_in h hv
    have h2 := own_in k e.symm
    omega
set_option maxRecDepth 100000 in
/-- copy into a block that is known whole: nothing else turns. -/
theorem copy_cf {w : World} {ops : Array Oper} {rest : List Oper} {o : Oper} {a : Act} {Q : Exit → Act → World → Prop} (hgd : o.guard = none) (d s : Operand) (dT sT : TypeId)
    (ho : o.op = .call { callee := .builtin .copy, args := #[d, s], argTypes := #[dT, sT] }) (elem : TypeId) (hu : Tryd.prog.underlying dT = some (.slice elem)) (hsz : (Tryd.prog.info? elem).map (·.size) = some 1)
    (dp sp : Option Addr) (dLen dCap sLen sCap : Nat) (hd : a.eval d = .slice dp dLen dCap) (hs : a.eval s = .slice sp sLen sCap)
    (g off : Nat) (cur : List Value) (t : TypeId) (hg : w.heap[g]? = some (.cells cur.toArray t (0, 0))) (cs : List Value) (hn : cs.length = Nat.min sLen dLen)
    (hpos : 0 < cs.length → dp = some ⟨g, off, none⟩ ∧ ∃ ad, sp = some ad ∧ ∀ j v, cs[j]? = some v → w.cell? (ad.add j) = some v)
    (hfit : off + cs.length ≤ cur.length) (h1 : ∀ v ∈ cs, v.oneCell' = true)
    (h : ∀ w', Hid (w'.heap[g]? = some (.cells (splice cur off cs).toArray t (0, 0))) → Hid (Cf (· = g) w w') → wpList Tryd.prog ops Q rest (a.put o.dst (goInt cs.length)) w') :
    wpList Tryd.prog ops Q (o :: rest) a w := by
  by_cases h0 : cs.length = 0
  · obtain rfl : cs = [] := List.eq_nil_of_length_eq_zero h0
    refine wpList_copy_nothing hgd d s dT sT ho elem hu hsz dp sp dLen dCap sLen sCap hd hs (by simpa using hn.symm) ?_
    exact h w (show _ = _ by simpa [splice] using hg) (hidden (Cf.refl _ _))
  · obtain ⟨rfl, ad, rfl, hsrc⟩ := hpos (by omega)
    refine wpList_copy_own hgd d s dT sT ho elem hu hsz g off dLen dCap ad sLen sCap hd hs cur.toArray t hg cs hn hsrc (by simpa using hfit) h1 ?_
    exact h _ (show _ = _ by simpa [splice] using setRow_heap w g _ _ t _ hg) (hidden ⟨rfl, rfl, rfl, by simp [World.setRow], fun k _ hf => setRow_other _ _ _ _ hf⟩)
set_option maxRecDepth 100000 in
/-- Take, with what it keeps. -/
theorem take9B (w : World) (B bk : Nat) (v : Value) (V : List Value) (D : Nat → List Int) (ao : Option Addr) (n c : Nat) (l : List Int) (h : Bo9 w B bk v V D) (hn : V.length ≤ 1000) (hB : B ≤ w.heap.size) (hbk : B ≤ bk) (ho : OwnB w B (.slice ao n c) l) (hw : Wf l) (hl : l.length ≤ 65536)
    (hne : ∀ (t : Nat) (u : Value), V[t]? = some u → u.ownBlock = none ∨ u.ownBlock ≠ (Value.slice ao n c).ownBlock) :
    Calls Tryd.prog 12 #[.pointer (some ⟨bk, 0, none⟩), .slice ao n c] w fun e w' => e = .returned (.tuple #[]) ∧ ∃ v' D', Hid (Bo9 w' B bk v' (V ++ [.slice ao n c]) D') ∧ Hid (Cf (B ≤ ·) w w') ∧ Hid (∀ C u m, OwnB w C u m → OwnB w' C u m) := by
  refine (take9 w B bk v V D ao n c l h hn hB ho hw hl hne).mono ?_
  rintro e w' ⟨rfl, hq⟩
  obtain ⟨v', hb, hc⟩ := hq.out
  refine ⟨rfl, v', _, hidden hb, hidden (hc.wide ?_), hidden ?_⟩
  · rintro k (rfl | hk)
    · exact hbk
    · exact (ownX_in h.row hk).1
  · intro C u m hu
    refine hu.cf hc ?_
    rintro k hk (rfl | hv)
    · exact hu.noty h.box bk_ne8 hk
    · rcases h.row.noB hu with e | e
      · rw [hv] at e; cases e
      · exact e (by rw [hv, hk])
set_option maxRecDepth 100000 in
theorem box9 {w : World} {B bk : Nat} (h : w.heap[bk]? = some (.cells #[.slice none 0 0] 32 (0, 0))) : Bo9 w B bk (.slice none 0 0) [] (fun _ => []) :=
  ⟨h, OwnX.nil _ _, fun t u ht => by simp at ht, fun t t' u u' ht => by simp at ht⟩
set_option maxRecDepth 100000 in
set_option maxHeartbeats 16000000 in
theorem walk_SpillEncodes (n : Int) (ao : Option Addr) (dn cap : Nat) (d : List Int) (p : Int) (w : World) (ht : Tab w) (h0 : 0 < w.heap.size) (hs : Sl w ao dn cap d) :
    Calls Tryd.prog 3 #[.int .i64 n, .slice ao dn cap, .int .i64 p] w fun e w' => e = .returned (.bool true) ∧ Below w.heap.size w w' := by
  obtain ⟨i0, hi, hz0, hz1, hz2⟩ := info_parts info5
  have hsz : (Tryd.prog.info? 5).map (·.size) = some 1 := by rw [hi]; simp [hz1]
  have HAW := hidden (awake_any w ht h0)
  have HT := hidden ht
  have HS := hidden hs
  have HL := hidden hs.hlen
  have hr := hs.hroom
  have HWD := hidden hs.wf
  clear ht hs hi hz0 hz1 hz2
  obtain ⟨T, hT⟩ : ∃ T, trn d dn = T := ⟨_, rfl⟩
  have HTL : Hid (T.length = dn) := hidden (by rw [← hT, trn_length])
  have HTW : Hid (Wf T) := hidden (by rw [← hT]; exact trn_wf HWD.out dn)
  have HTE := hidden hT
  have HEQ : Hid (spE n T p = spE n d p) := hidden (spE_len (by rw [HTL.out, HL.out]))
  clear hT
  go_enter Tryd.func3, Tryd.ntmps3
  go_wp2_with (first
    | (go_at_call 6; refine HAW.out.mono ?_; rintro e w1 ⟨rfl, HB1⟩; refine Hid.out ?_))
  apply hidden
  have HR1 := hidden (refU n p ao dn cap d w1 (HS.out.on (Nat.le_refl _) HB1.out))
  clear HAW
  go_wp2_with (first
    | (go_at_call 7; refine HR1.out.mono ?_; rintro e w2 ⟨ro, rn, rc, rfl, HW2, HBa⟩; refine Hid.out ?_))
  apply hidden
  have HB2 := hidden (bl_go HB1.out (Nat.le_refl _) HBa.out)
  have HTU := hidden (turned_any ao dn cap d w2 (HS.out.on (Nat.le_refl _) HB2.out))
  rw [HTE.out] at HTU
  clear HR1 HBa HB1
  go_wp2_with (first
    | (go_at_call 8; refine HTU.out.mono ?_; rintro e w3 ⟨to, tc, rfl, HOT, HBa⟩; refine Hid.out ?_))
  apply hidden
  have HB3 := hidden (bl_go HB2.out (Nat.le_refl _) HBa.out)
  have HW3 : Hid (Sl w3 ro rn rc (pgL n d p)) := hidden (HW2.out.on (Nat.le_refl _) HBa.out)
  have HT3 : Hid (Sl w3 to dn tc T) := hidden (HOT.out.sl2 HTW.out (by rw [HTL.out]; exact hr))
  have HR2 := hidden (refU n p to dn tc T w3 HT3.out)
  rw [HEQ.out] at HR2
  clear HTU HBa HB2 HW2 HOT
  go_wp2_with (first
    | (go_at_call 7; refine HR2.out.mono ?_; rintro e w4 ⟨qo, qn, qc, rfl, HQ4, HBa⟩; refine Hid.out ?_))
  apply hidden
  have HB4 := hidden (bl_go HB3.out (Nat.le_refl _) HBa.out)
  have HW4 : Hid (Sl w4 ro rn rc (pgL n d p)) := hidden (HW3.out.on (Nat.le_refl _) HBa.out)
  have HT4 : Hid (Sl w4 to dn tc T) := hidden (HT3.out.on (Nat.le_refl _) HBa.out)
  have HLE := hidden (Lent_any ao dn cap d w4 (HS.out.on (Nat.le_refl _) HB4.out))
  clear HR2 HBa HB3 HW3 HT3
  obtain ⟨g, hg⟩ : ∃ g, w4.heap.size = g := ⟨_, rfl⟩
  rw [hg] at HLE
  go_wp2_with (first
    | (go_at_call 9; refine HLE.out.mono ?_; rintro e w5 ⟨rfl, hk5, hb5⟩; have HK5 := hidden hk5; have HBa := hidden hb5; clear hk5 hb5; refine Hid.out ?_))
  apply hidden
  rw [← hg] at HBa
  have HG : Hid (w.heap.size ≤ g) := hidden (by rw [← hg]; exact HB4.out.size)
  have HB5 := hidden (bl_go HB4.out (Nat.le_refl _) HBa.out)
  have HW5 : Hid (Sl w5 ro rn rc (pgL n d p)) := hidden (HW4.out.on (Nat.le_refl _) HBa.out)
  have HQ5 : Hid (Sl w5 qo qn qc (pgL n T p)) := hidden (HQ4.out.on (Nat.le_refl _) HBa.out)
  have HT5 : Hid (Sl w5 to dn tc T) := hidden (HT4.out.on (Nat.le_refl _) HBa.out)
  have HFT : Hid (dn = 0 ∨ ∀ p, to = some p → ¬ p.block = g) := hidden (by
    rcases HT4.out.hat with h | ⟨b, o, rfl, hlt, _⟩
    · exact .inl h
    · right; intro p hp e; cases hp; simp only at e; omega)
  have HFW : Hid (rn = 0 ∨ ∀ p, ro = some p → ¬ p.block = g) := hidden (by
    rcases HW4.out.hat with h | ⟨b, o, rfl, hlt, _⟩
    · exact .inl h
    · right; intro p hp e; cases hp; simp only at e; omega)
  have HFQ : Hid (qn = 0 ∨ ∀ p, qo = some p → ¬ p.block = g) := hidden (by
    rcases HQ4.out.hat with h | ⟨b, o, rfl, hlt, _⟩
    · exact .inl h
    · right; intro p hp e; cases hp; simp only at e; omega)
  have HG5 : Hid (g < w5.heap.size) := hidden (lt_some HK5.out)
  have HT0 : Hid (Tab w5) := HT.out.on HB5.out h0
  have HE1 := hidden (encU n p _ dn (dn + 9) d w5 (bk_lent HK5.out HL.out HWD.out hr) HT0.out (Nat.lt_of_lt_of_le h0 HB5.out.size))
  clear HLE HBa HW4 HQ4 HT4 hg
  go_wp2_with (first
    | (go_at_call 10; refine HE1.out.mono ?_; rintro e w6 ⟨eo, en, rfl, HA6, HBb⟩; refine Hid.out ?_))
  apply hidden
  have HB6 := hidden (bl_go HB5.out (Nat.le_refl _) HBb.out)
  have HK6 : Hid (Bk w6 g (d ++ mks 9)) := hidden (Bk.on HK5.out HBb.out)
  have HE2 := hidden (encU n p _ dn (dn + 9) d w6 (bk_lent HK6.out HL.out HWD.out hr) (HT.out.on HB6.out h0) (Nat.lt_of_lt_of_le h0 HB6.out.size))
  clear HE1 HK5
  obtain ⟨sd, hsd⟩ : ∃ sd, strOfNums d = sd := ⟨_, rfl⟩
  go_wp2_with (first
    | (go_at_call 10; refine HE2.out.mono ?_; rintro e w7 ⟨fo, fn, rfl, HF7, HBc⟩; refine Hid.out ?_))
  apply hidden
  have HB7 := hidden (bl_go HB6.out (Nat.le_refl _) HBc.out)
  have HBd := hidden (bl_go HBb.out (Nat.le_refl _) HBc.out)
  have HK7 : Hid (Bk w7 g (d ++ mks 9)) := hidden (HK6.out.on HBc.out)
  have HA7 : Hid (OwnB w7 w5.heap.size (.slice eo en en) (pgL n d p)) := hidden (HA6.out.on (Nat.le_refl _) HBc.out)
  have k1 := conv_sl (bk_lent HK7.out HL.out HWD.out hr)
  have k2 := conv_sl (HS.out.on (Nat.le_refl _) HB7.out)
  rw [hsd] at k1 k2
  have eS : (sd.toList == sd.toList) = true := by simp
  have HT7 : Hid (Sl w7 to dn tc T) := hidden (HT5.out.on (Nat.le_refl _) HBd.out)
  have HPP : Hid (0 < (By T).length → some (⟨g, 0, none⟩ : Addr) = some ⟨g, 0, none⟩ ∧ ∃ ad, to = some ad ∧ ∀ j v, (By T)[j]? = some v → w7.cell? (ad.add j) = some v) := hidden (by
    intro h
    rw [By_length, HTL.out] at h
    rcases HT7.out.hat with h1 | ⟨b, o, rfl, _, _⟩
    · omega
    · exact ⟨rfl, _, rfl, sl_src5 HT7.out⟩)
  have HNA : Hid (∀ (u : World) (C : Nat) (x : Value) (m : List Int), OwnB u C x m → w6.heap.size ≤ C → Hid ((Value.slice eo en en).ownBlock = none ∨ (Value.slice eo en en).ownBlock ≠ x.ownBlock)) := hidden (fun u C x m hx hC => hidden (own_two HA6.out hx hC))
  have HS56 : Hid (w5.heap.size ≤ w6.heap.size) := hidden HBb.out.size
  have HSW5 : Hid (w.heap.size ≤ w5.heap.size) := hidden HB5.out.size
  clear HE2 HK6 HA6
  have HNab : Hid ((Value.slice eo en en).ownBlock = none ∨ (Value.slice eo en en).ownBlock ≠ (Value.slice fo fn fn).ownBlock) := HNA.out _ _ _ _ HF7.out (Nat.le_refl _)
  go_wp2_with (refine copy_cf rfl _ _ 22 22 rfl 5 Tryd.underlying22 hsz _ _ dn (dn + 9) dn tc rfl rfl g 0 (By (d ++ mks 9)) 5 HK7.out (By T) (by rw [By_length, HTL.out]; exact (Nat.min_self dn).symm) HPP.out (by rw [By_length, By_length, HTL.out, List.length_append, HL.out]; omega) (By_one T) ?_; refine Hid.out ?_)
  apply hidden
  intro w8 HH HC8
  have HK8 : Hid (Bk w8 g (T ++ mks 9)) := hidden (by
    have e := HH.out
    rw [By_splice5] at e
    have e2 : splice (d ++ mks 9) 0 T = T ++ mks 9 := by
      simp only [splice, List.take_zero, List.nil_append, Nat.zero_add, HTL.out]
      rw [← HL.out, List.drop_left]
    rw [e2] at e
    exact e)
  have HB8 : Hid (Below w.heap.size w w8) := hidden (HB7.out.trans (HC8.out.below HB7.out.size (fun k hk e => by have := HG.out; omega)))
  have HS58 : Hid (w5.heap.size ≤ w8.heap.size) := hidden (Nat.le_trans HBd.out.size HC8.out.size)
  have HS68 : Hid (w6.heap.size ≤ w8.heap.size) := hidden (Nat.le_trans HBc.out.size HC8.out.size)
  have HS78 : Hid (w7.heap.size ≤ w8.heap.size) := hidden HC8.out.size
  have HG6 : Hid (g < w6.heap.size) := hidden (Nat.lt_of_lt_of_le HG5.out HBb.out.size)
  have HA8 : Hid (OwnB w8 w5.heap.size (.slice eo en en) (pgL n d p)) := hidden (HA7.out.cf HC8.out (fun k hk e => by have := own_in HA7.out hk; have := HG5.out; omega))
  have HF8 : Hid (OwnB w8 w6.heap.size (.slice fo fn fn) (pgL n d p)) := hidden (HF7.out.cf HC8.out (fun k hk e => by have := own_in HF7.out hk; have := HG6.out; omega))
  have HW8 : Hid (Sl w8 ro rn rc (pgL n d p)) := hidden ((HW5.out.on (Nat.le_refl _) HBd.out).cf HC8.out HFW.out)
  have HQ8 : Hid (Sl w8 qo qn qc (pgL n T p)) := hidden ((HQ5.out.on (Nat.le_refl _) HBd.out).cf HC8.out HFQ.out)
  have HT8 : Hid (Sl w8 to dn tc T) := hidden (HT7.out.cf HC8.out HFT.out)
  have HE3 := hidden (encU n p _ dn (dn + 9) T w8 (bk_lent HK8.out HTL.out HTW.out hr) (HT.out.on HB8.out h0) (Nat.lt_of_lt_of_le h0 HB8.out.size))
  rw [HEQ.out] at HE3
  clear HH HC8 HK7 HA7 HT7 HPP HBb HBc HBd k1 k2 HW5 HQ5 HT5 HB5 HB6 HB7 HT0
  go_wp2_with (first
    | (go_at_call 10; refine HE3.out.mono ?_; rintro e w9 ⟨co, cn, rfl, HC9, HBe⟩; refine Hid.out ?_))
  apply hidden
  have HB9 := hidden (bl_go HB8.out (Nat.le_refl _) HBe.out)
  have HNac : Hid ((Value.slice eo en en).ownBlock = none ∨ (Value.slice eo en en).ownBlock ≠ (Value.slice co cn cn).ownBlock) := hidden (own_two HA8.out HC9.out (Nat.le_refl _))
  have HNbc : Hid ((Value.slice fo fn fn).ownBlock = none ∨ (Value.slice fo fn fn).ownBlock ≠ (Value.slice co cn cn).ownBlock) := hidden (own_two HF8.out HC9.out (Nat.le_refl _))
  have HAS := hidden (AsLent_any g dn to tc T w9 (HK8.out.on HBe.out) (HT8.out.on (Nat.le_refl _) HBe.out))
  go_wp2_with (first
    | (go_at_call 11; refine HAS.out.mono ?_; rintro e w10 ⟨rfl, hc10⟩; have HC10 := hidden hc10; clear hc10; refine Hid.out ?_))
  apply hidden
  have HB10 : Hid (Below w.heap.size w w10) := hidden (HB9.out.trans (HC10.out.below HB9.out.size (fun k hk e => by have := HG.out; omega)))
  have HA : Hid (OwnB w10 w5.heap.size (.slice eo en en) (pgL n d p)) := hidden ((HA8.out.on (Nat.le_refl _) HBe.out).cf HC10.out (fun k hk e => by have := own_in HA8.out hk; have := HG5.out; omega))
  have HF : Hid (OwnB w10 w5.heap.size (.slice fo fn fn) (pgL n d p)) := hidden (((HF8.out.on (Nat.le_refl _) HBe.out).cf HC10.out (fun k hk e => by have := own_in HF8.out hk; have := HG6.out; omega)).low HS56.out)
  have HC : Hid (OwnB w10 w5.heap.size (.slice co cn cn) (pgL n T p)) := hidden ((HC9.out.cf HC10.out (fun k hk e => by have := own_in HC9.out hk; have := HG6.out; have := HS68.out; omega)).low HS58.out)
  have HW : Hid (Sl w10 ro rn rc (pgL n d p)) := hidden ((HW8.out.on (Nat.le_refl _) HBe.out).cf HC10.out HFW.out)
  have HQ : Hid (Sl w10 qo qn qc (pgL n T p)) := hidden ((HQ8.out.on (Nat.le_refl _) HBe.out).cf HC10.out HFQ.out)
  have HSZ : Hid (w5.heap.size ≤ w10.heap.size) := hidden (Nat.le_trans HS58.out (Nat.le_trans HBe.out.size HC10.out.size))
  have HWB : Hid (w.heap.size ≤ w5.heap.size) := HSW5
  clear HE3 HAS HA8 HF8 HC9 HW8 HQ8 HT8 HK8 HC10 HBe HB9 HB8 HS58 HS68 HS78 HG6 HG5 HFT HFW HFQ HNA HS56
  have HLn : Hid ((pgL n d p).length ≤ 65536) := hidden pgL_len
  have HLt : Hid ((pgL n T p).length ≤ 65536) := hidden pgL_len
  have HWn : Hid (Wf (pgL n d p)) := hidden (pgL_wf HWD.out)
  have HWt : Hid (Wf (pgL n T p)) := hidden (pgL_wf HTW.out)
  have k3 := conv_sl (HA.out.sl2 HWn.out (by have := HLn.out; omega))
  have k4 := conv_sl (HF.out.sl2 HWn.out (by have := HLn.out; omega))
  have k5 := conv_sl (HC.out.sl2 HWt.out (by have := HLt.out; omega))
  have k6 := conv_sl HW.out
  have k7 := conv_sl HQ.out
  obtain ⟨sa, hsa⟩ : ∃ sa, strOfNums (pgL n d p) = sa := ⟨_, rfl⟩
  obtain ⟨sb, hsb⟩ : ∃ sb, strOfNums (pgL n T p) = sb := ⟨_, rfl⟩
  rw [hsa] at k3 k4 k6
  rw [hsb] at k5 k7
  clear hsa hsb
  generalize spE n d p = ek at *
  have eA : (sa.toList == sa.toList) = true := by simp
  have eB : (sb.toList == sb.toList) = true := by simp
  have eK : (ek == ek) = true := by simp
  clear HEQ
  obtain ⟨B, hB⟩ : ∃ B, w5.heap.size = B := ⟨_, rfl⟩
  rw [hB] at HA HF HC HSZ HWB
  clear hB
  go_wp2_with (first
    | (go_at_call 12; refine Hid.out ?_))
  apply hidden
  clear k3 k4 k5 k6 k7 HW HQ eA eB eK eS
  obtain ⟨bk, hbk⟩ : ∃ bk, w10.heap.size = bk := ⟨_, rfl⟩
  obtain ⟨x, hx⟩ : ∃ x, w10.alloc (.cells #[.slice none 0 0] 32) = x := ⟨_, rfl⟩
  have hbx : Below w10.heap.size w10 x := by rw [← hx]; exact bl_al (Below.refl _ _) (Nat.le_refl _) _
  have HX0 : Hid (Bo9 x B bk (.slice none 0 0) [] (fun _ => [])) := hidden (box9 (by rw [← hx, ← hbk]; exact Array.getElem?_push_size))
  have HBX := hidden (bl_go HB10.out (Nat.le_refl _) hbx)
  have HAx : Hid (OwnB x B (.slice eo en en) (pgL n d p)) := hidden (HA.out.on (Nat.le_refl _) hbx)
  have HFx : Hid (OwnB x B (.slice fo fn fn) (pgL n d p)) := hidden (HF.out.on (Nat.le_refl _) hbx)
  have HCx : Hid (OwnB x B (.slice co cn cn) (pgL n T p)) := hidden (HC.out.on (Nat.le_refl _) hbx)
  have HSx : Hid (B ≤ x.heap.size) := hidden (Nat.le_trans HSZ.out hbx.size)
  have HBk : Hid (B ≤ bk) := hidden (by rw [← hbk]; exact HSZ.out)
  rw [hx, hbk]
  clear hx hbk hbx HA HF HC HSZ HB10
  have HT1 := hidden (take9B x B bk _ _ _ eo en en _ HX0.out (by simp) HSx.out HBk.out HAx.out HWn.out HLn.out (fun t u ht => by simp at ht))
  refine HT1.out.mono ?_
  rintro e x1 ⟨rfl, v1, D1', HX1, HY1, HO1⟩
  clear HT1 HX0
  have HB1 : Hid (Below w.heap.size w x1) := hidden (HBX.out.trans (HY1.out.below HBX.out.size (fun k hk e => by have := HWB.out; omega)))
  have HS1 : Hid (B ≤ x1.heap.size) := hidden (Nat.le_trans HSx.out HY1.out.size)
  have HT2 := hidden (take9B x1 B bk _ _ _ fo fn fn _ HX1.out (by simp) HS1.out HBk.out (HO1.out _ _ _ HFx.out) HWn.out HLn.out (fun t u ht => by
    have ht0 : t = 0 := by have := (List.getElem?_eq_some_iff.1 ht).1; simpa using this
    subst ht0
    simp at ht
    subst ht
    exact HNab.out))
  have HCx1 : Hid (OwnB x1 B (.slice co cn cn) (pgL n T p)) := hidden (HO1.out _ _ _ HCx.out)
  clear HY1 HO1 HX1 HBX HAx HFx HCx HSx
  go_wp2_with (first
    | (go_at_call 12; refine HT2.out.mono ?_; rintro e x2 ⟨rfl, v2, D2', HX2, HY2, HO2⟩; refine Hid.out ?_))
  apply hidden
  have HB2 : Hid (Below w.heap.size w x2) := hidden (HB1.out.trans (HY2.out.below HB1.out.size (fun k hk e => by have := HWB.out; omega)))
  have HS2 : Hid (B ≤ x2.heap.size) := hidden (Nat.le_trans HS1.out HY2.out.size)
  have HT3 := hidden (take9B x2 B bk _ _ _ co cn cn _ HX2.out (by simp) HS2.out HBk.out (HO2.out _ _ _ HCx1.out) HWt.out HLt.out (fun t u ht => by
    have ht2 : t < 2 := by have := (List.getElem?_eq_some_iff.1 ht).1; simpa using this
    have : t = 0 ∨ t = 1 := by omega
    rcases this with rfl | rfl
    · simp at ht
      subst ht
      exact HNac.out
    · simp at ht
      subst ht
      exact HNbc.out))
  clear HY2 HO2 HX2 HB1 HS1 HCx1 HT2
  go_wp2_with (first
    | (go_at_call 12; refine HT3.out.mono ?_; rintro e x3 ⟨rfl, v3, D3', HX3, HY3, HO3⟩; refine Hid.out ?_))
  apply hidden
  have HB3 : Hid (Below w.heap.size w x3) := hidden (HB2.out.trans (HY3.out.below HB2.out.size (fun k hk e => by have := HWB.out; omega)))
  have HS3 : Hid (B ≤ x3.heap.size) := hidden (Nat.le_trans HS2.out HY3.out.size)
  have HOW := hidden (owned9 x3 B bk 3 _ _ _ HX3.out (by simp) (by omega) HS3.out)
  clear HY3 HO3 HX3 HB2 HS2 HT3
  go_wp2_with (first
    | (go_at_call 13; refine HOW.out.mono ?_; rintro e x4 ⟨rfl, HY4⟩))
  go_ret
  exact ⟨rfl, HB3.out.trans (HY4.out.below HB3.out.size (fun k hk e => by have := HWB.out; omega))⟩
end Go.Proofs.YtllcbilhpijjhaaDoor

/- The document's Decode of a spill page; what both Decodes come to, without cases. -/

namespace Go.Proofs.YtllcbilhpijjhaaDoor
open Go.RowKit

def dNx (l : List Int) : Int := match spD l with | some (n, _) => n | none => 0
def dBy (l : List Int) : List Int := match spD l with | some (_, d) => d | none => []
def dKy (l : List Int) : Int := match spD l with | some _ => 0 | none => 60
set_option maxRecDepth 100000 in
theorem d_yes {l : List Int} (h : spIs l) : dNx l = rdN l 4 4 ∧ dBy l = spT l ∧ dKy l = 0 := by unfold dNx dBy dKy; rw [spD_yes h]; exact ⟨rfl, rfl, rfl⟩
set_option maxRecDepth 100000 in
theorem d_no {l : List Int} (h : ¬ spIs l) : dNx l = 0 ∧ dBy l = [] ∧ dKy l = 60 := by unfold dNx dBy dKy; rw [spD_no h]; exact ⟨rfl, rfl, rfl⟩
set_option maxRecDepth 100000 in
theorem dBy_wf {l : List Int} (h : Wf l) : Wf (dBy l) := by
  by_cases hd : spIs l
  · rw [(d_yes hd).2.1]; exact (h.drop _).take _
  · rw [(d_no hd).2.1]; exact Wf.nil
set_option maxRecDepth 100000 in
theorem dBy_len {l : List Int} : (dBy l).length ≤ 65536 := by
  by_cases hd : spIs l
  · rw [(d_yes hd).2.1]
    have := pw_le hd.1
    unfold spT
    rw [List.length_take, List.length_drop]
    omega
  · rw [(d_no hd).2.1]; simp
set_option maxRecDepth 100000 in
theorem decU (ao : Option Addr) (n cap : Nat) (l : List Int) (w : World) (hs : Sl w ao n cap l) (ht : Tab w) (h0 : 0 < w.heap.size) :
    Calls Tryd.prog 15 #[.slice ao n cap] w fun e w' => ∃ eo en ec, e = .returned (.tuple #[.int .i64 (dNx l), .slice eo en ec, .int .i64 (dKy l)]) ∧ Hid (OwnB w' w.heap.size (.slice eo en ec) (dBy l)) ∧ Hid (Below w.heap.size w w') := by
  refine (decS_any ao n cap l w hs ht h0).mono ?_
  rintro e w' ⟨nx, eo, en, ec, k, rfl, hb, hk⟩
  rcases hk.out with ⟨hd, rfl, rfl, rfl, rfl, rfl⟩ | ⟨d, hd, rfl, rfl, g, rfl, _, ho⟩
  · exact ⟨_, _, _, by unfold dNx dKy; rw [hd], hidden (by unfold dBy; rw [hd]; exact OwnB.nil _ _), hb⟩
  · exact ⟨_, _, _, by unfold dNx dKy; rw [hd], hidden (by unfold dBy; rw [hd]; exact ho), hb⟩
set_option maxRecDepth 100000 in
set_option maxHeartbeats 2000000 in
theorem refD (ao : Option Addr) (n cap : Nat) (l : List Int) (w : World) (hs : Sl w ao n cap l) :
    Calls Tryd.prog 14 #[.slice ao n cap] w fun e w' => ∃ eo en ec, e = .returned (.tuple #[.int .i64 (dNx l), .slice eo en ec, .int .i64 (dKy l)]) ∧ Hid (Sl w' eo en ec (dBy l)) ∧ Hid (Below w.heap.size w w') := by
  have hl := hs.hlen
  have hr := hs.hroom
  have HI := hidden (refIsPage_any (n : Int) w)
  have hnil : ∀ u : World, Sl u none 0 0 [] := fun u => ⟨rfl, Nat.le_refl _, by omega, Wf.nil, fun _ => rfl, .inl rfl⟩
  by_cases hp : pw (n : Int)
  · have e1 : decide (pw (n : Int)) = true := by simpa using hp
    have hpl := pw_le hp
    rcases hs.hat with h | ⟨b, off, rfl, hlt, hc⟩
    · omega
    have e4 : rF l 4 4 = (rdN l 4 4, 0) := by
      unfold rF
      rw [if_neg (by omega), if_neg (by omega)]
      rfl
    have e8 : rF l 8 4 = (rdN l 8 4, 0) := by
      unfold rF
      rw [if_neg (by omega), if_neg (by omega)]
      rfl
    have h4 := refReadFixed_all _ n cap l 4 4 w hs
    have h8 := refReadFixed_all _ n cap l 8 4 w hs
    rw [e4] at h4
    rw [e8] at h8
    have HN4 := hidden h4
    have HN8 := hidden h8
    have r4 := rdN_bound l hs.wf 4 4
    have r8 := rdN_bound l hs.wf 8 4
    simp only [Int.reducePow] at r4 r8
    obtain ⟨cnt, hcnt⟩ : ∃ cnt : Nat, rdN l 8 4 = (cnt : Int) := ⟨(rdN l 8 4).toNat, by omega⟩
    have HS := hidden hs
    have hcap := hs.hcap
    have HPW : Hid (pw (l.length : Int)) := hidden (by rw [hl]; exact hp)
    have HL := hidden hl
    have HCN := hidden hcnt
    obtain ⟨nx, hnx⟩ : ∃ nx, rdN l 4 4 = nx := ⟨_, rfl⟩
    have HNX := hidden hnx
    rw [hnx] at HN4 r4
    rw [hcnt] at HN8 r8
    have hcI : (n : Int) ≤ 65536 := by omega
    have hnI : 512 ≤ (n : Int) := by omega
    have hc2 : ¬ cap = 12 := by omega
    have hc3 : (12 : Int) ≤ (cap : Int) := by omega
    have w4 : IntKind.i64.wrap nx = nx := by rw [IntKind.wrap_i64]; omega
    have w8 : IntKind.i64.wrap (cnt : Int) = (cnt : Int) := by rw [IntKind.wrap_i64]; omega
    clear hs hp hc hl hcnt hnx hpl h4 h8 e4 e8
    by_cases hq : (n : Int) - 16 < (cnt : Int)
    · have HNO : Hid (¬ spIs l) := hidden (by
        rintro ⟨_, h2, _⟩
        rw [HCN.out, HL.out] at h2
        omega)
      rw [(d_no HNO.out).1, (d_no HNO.out).2.1, (d_no HNO.out).2.2]
      go_enter Tryd.func14, Tryd.ntmps14
      go_wp2_with (first
        | (go_at_call 28; refine same_call HI.out ?_; rw [e1])
        | (go_at_call 37; refine same_call HN4.out ?_; refine Hid.out ?_))
      apply hidden
      go_wp2_with (first
        | (go_at_call 37; refine same_call HN8.out ?_))
      go_returns
      exact ⟨_, _, _, rfl, hidden (hnil _), hidden (Below.refl _ _)⟩
    · have hq2 : (cnt : Int) ≤ (n : Int) - 16 := by omega
      have hq3 : 12 + cnt ≤ n := by omega
      have HD : Hid (Sl w (some ⟨b, off + 12, none⟩) cnt (cap - 12) (spT l)) := hidden (by
        have := HS.out.cut9 12 cnt hq3
        unfold spT
        rw [HCN.out, Int.toNat_natCast]
        exact this)
      have HLT : Hid ((spT l).length = cnt) := hidden HD.out.hlen
      have HWT : Hid (Wf (spT l)) := hidden HD.out.wf
      have HIS : Hid (spIs l ↔ spE nx (spT l) n = 0 ∧ spB nx (spT l) n = l) := hidden (by
        unfold spIs
        rw [HNX.out, HCN.out, HL.out]
        exact ⟨fun h => h.2.2, fun h => ⟨by have := HPW.out; rwa [HL.out] at this, by omega, h⟩⟩)
      obtain ⟨z, hz⟩ : ∃ z, 12 + cnt = z := ⟨_, rfl⟩
      have hzI : 12 + (cnt : Int) = (z : Int) := by omega
      have z1 : (z : Int) ≤ (cap : Int) := by omega
      have z2 : (12 : Int) ≤ (z : Int) := by omega
      have z3 : z - 12 = cnt := by omega
      have z4 : z ≤ cap := by omega
      have z5 : 12 ≤ z := by omega
      have HB0 : Hid (OwnB w w.heap.size (.slice none 0 0) []) := hidden (OwnB.nil _ _)
      have hc9 : 0 + cnt ≤ 140737488355328 := by omega
      have hww : w.heap.size ≤ w.heap.size := Nat.le_refl _
      clear hz
      go_enter Tryd.func14, Tryd.ntmps14
      go_wp2_with (first
        | (go_at_call 28; refine same_call HI.out ?_; rw [e1])
        | (go_at_call 37; refine same_call HN4.out ?_; refine Hid.out ?_))
      apply hidden
      go_wp2_with (first
        | (go_at_call 37; refine same_call HN8.out ?_; refine Hid.out ?_))
      apply hidden
      go_wp2_with (at_builtin; refine app_sl _ rfl _ _ rfl w.heap.size [] (spT l) _ (some ⟨b, off + 12, none⟩) cnt (cap - 12) rfl rfl HB0.out HD.out hc9 hww ?_; refine Hid.out ?_)
      apply hidden
      intro v1 w1 ho1 hg1
      have HB1 : Hid (Below w.heap.size w w1) := hidden (hg1.below HB0.out hww)
      obtain ⟨vo, vc, rfl, _⟩ := own_shape ho1
      rw [HLT.out] at ho1 ⊢
      have HSD : Hid (Sl w1 vo cnt vc (spT l)) := hidden (ho1.sl2 HWT.out (by rw [HLT.out]; omega))
      have HE := hidden (refU nx (n : Int) vo cnt vc (spT l) w1 HSD.out)
      clear ho1 hg1 HN4 HN8 HI HB0 HD
      go_wp2_with (first
        | (go_at_call 7; refine HE.out.mono ?_; rintro e w2 ⟨ro, rn, rc, rfl, HP, HB2⟩; refine Hid.out ?_))
      apply hidden
      have HS2 : Hid (Sl w2 (some ⟨b, off, none⟩) n cap l) := hidden ((HS.out.on (Nat.le_refl _) HB1.out).on (Nat.le_refl _) HB2.out)
      have HD2 : Hid (Sl w2 vo cnt vc (spT l)) := hidden (HSD.out.on (Nat.le_refl _) HB2.out)
      have HBE : Hid (Below w.heap.size w w2) := hidden (bl_go HB1.out (Nat.le_refl _) HB2.out)
      by_cases hk : spE nx (spT l) n = 0
      · have hpg : pgL nx (spT l) n = spB nx (spT l) n := by unfold pgL; rw [if_pos hk, Int.toNat_natCast]
        have k1 := conv_sl HP.out
        have k2 := conv_sl HS2.out
        have kq := str_beq HP.out.wf HS2.out.wf
        obtain ⟨s1, hs1⟩ : ∃ s1, strOfNums (pgL nx (spT l) n) = s1 := ⟨_, rfl⟩
        obtain ⟨s2, hs2⟩ : ∃ s2, strOfNums l = s2 := ⟨_, rfl⟩
        rw [hs1] at k1 kq
        rw [hs2] at k2 kq
        rw [hpg] at kq
        cases hq5 : decide (spB nx (spT l) n = l) with
        | true =>
          rw [hq5] at kq
          have HYE : Hid (spIs l) := hidden (by rw [HIS.out]; exact ⟨hk, by simpa using hq5⟩)
          have HD3 : Hid (Sl w2 vo cnt vc (dBy l)) := hidden (by rw [(d_yes HYE.out).2.1]; exact HD2.out)
          have HDN : Hid (dNx l = nx ∧ dKy l = 0) := hidden ⟨by rw [(d_yes HYE.out).1, HNX.out], (d_yes HYE.out).2.2⟩
          rw [hk]
          clear hq5 hk hpg hs1 hs2 HE HP HIS
          go_wp2_with fail
          go_returns
          exact ⟨vo, cnt, vc, (by rw [HDN.out.1, HDN.out.2]; rfl), HD3, HBE⟩
        | false =>
          rw [hq5] at kq
          have HNO : Hid (¬ spIs l) := hidden (by rw [HIS.out]; rintro ⟨_, h⟩; rw [decide_eq_false_iff_not] at hq5; exact hq5 h)
          rw [hk]
          clear hq5 hk hpg hs1 hs2 HE HP HIS
          go_wp2_with fail
          go_returns
          exact ⟨none, 0, 0, (by rw [(d_no HNO.out).1, (d_no HNO.out).2.2]; rfl), hidden (by rw [(d_no HNO.out).2.1]; exact hnil _), HBE⟩
      · have HNO : Hid (¬ spIs l) := hidden (by rw [HIS.out]; rintro ⟨h, _⟩; exact hk h)
        have hz2 : (spE nx (spT l) n == 0) = false := by rw [beq_eq_false_iff_ne]; exact hk
        clear HE HP HIS
        generalize spE nx (spT l) n = ek at *
        go_wp2_with fail
        go_returns
        exact ⟨none, 0, 0, (by rw [(d_no HNO.out).1, (d_no HNO.out).2.2]; rfl), hidden (by rw [(d_no HNO.out).2.1]; exact hnil _), HBE⟩
  · have e1 : decide (pw (n : Int)) = false := by simpa using hp
    have HNO : Hid (¬ spIs l) := hidden (by
      rintro ⟨h1, _⟩
      rw [hl] at h1
      exact hp h1)
    rw [(d_no HNO.out).1, (d_no HNO.out).2.1, (d_no HNO.out).2.2]
    clear hs hp
    go_enter Tryd.func14, Tryd.ntmps14
    go_wp2_with (first
      | (go_at_call 28; refine same_call HI.out ?_; rw [e1]))
    go_returns
    exact ⟨_, _, _, rfl, hidden (hnil _), hidden (Below.refl _ _)⟩
end Go.Proofs.YtllcbilhpijjhaaDoor
