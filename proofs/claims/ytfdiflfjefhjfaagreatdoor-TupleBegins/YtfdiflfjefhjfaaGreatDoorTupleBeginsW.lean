/- The walk of TupleBegins. -/
import Derived.Test.YtfdiflfjefhjfaaGreatDoorJa
import Derived.Test.YtfdiflfjefhjfaaGreatDoorJb
import Derived.Test.YtfdiflfjefhjfaaGreatDoorKeptI2
import Derived.Test.YtfdiflfjefhjfaaGreatDoorWeigh2
import Derived.Test.YtfdiflfjefhjfaaGreatDoorAwake
namespace Go.Proofs.YtfdiflfjefhjfaaGreatDoor
open Go.RowKit
open Ow

set_option maxRecDepth 100000 in
theorem Outs.below {b hi B : Nat} {w w' : World} (h : Outs b hi w w') (h1 : B ≤ b) (h2 : B ≤ w.heap.size) : Below B w w' := ⟨h.os, h.tape, h.output, h.size, fun k hk => h.block k (by omega) (by omega)⟩
set_option maxRecDepth 100000 in
theorem SlI.apart {w w' : World} {ao : Option Addr} {n c : Nat} {l : Its} (h : SlI w Tp ao n c l) (hb : Below w.heap.size w w') {b hi : Nat} (h1 : w.heap.size ≤ b) : SlI w' (fun k => k < b ∨ hi ≤ k) ao n c l :=
  ((h.low (Nat.le_refl _)).onB hb).mono (Nat.le_refl _) (fun _ _ _ => rfl) (fun _ hk _ => .inl (Nat.lt_of_lt_of_le hk h1))
set_option maxRecDepth 100000 in
theorem LentS.bel {w w' : World} {l : Its} {b hi : Nat} (h : LentS w l b hi) (hh : hi ≤ w.heap.size) (hb : Below w.heap.size w w') : LentS w' l b hi := h.keep fun k _ h2 => hb.block k (by omega)
set_option maxRecDepth 100000 in
/-- What is one's own beyond what was lent stays. -/
theorem OwnB.outs {w w' : World} {B b hi : Nat} {v : Value} {l : List Int} (h : OwnB w B v l) (ho : Outs b hi w w') (hB : hi ≤ B) : OwnB w' B v l := by
  refine ⟨h.1, ?_⟩
  rcases h.2 with h0 | ⟨g, cap, cur, e1, hg, hh, rest⟩
  · exact .inl h0
  · exact .inr ⟨g, cap, cur, e1, hg, (ho.block g (Ow.lt_some hh) (.inr (by omega))).trans hh, rest⟩
set_option maxRecDepth 100000 in
theorem own_far2 {w u : World} {B C : Nat} {v x : Value} {l m : List Int} (h : OwnB w B v l) (k : OwnB u C x m) (hC : w.heap.size ≤ C) : v.ownBlock = none ∨ v.ownBlock ≠ x.ownBlock := by
  cases hv : v.ownBlock with
  | none => exact .inl rfl
  | some a =>
    right
    intro e
    have h1 := World.ownsRow.lt (show w.ownsRow B 5 1 _ _ _ from h) a hv
    have h2 := World.ownsRow.lt (show u.ownsRow C 5 1 _ _ _ from k) a e.symm
    omega
set_option maxRecDepth 100000 in
theorem ne_turn {u v : Value} (h : u.ownBlock = none ∨ u.ownBlock ≠ v.ownBlock) : v.ownBlock = none ∨ v.ownBlock ≠ u.ownBlock := by
  rcases h with h | h
  · rw [h]
    cases v.ownBlock with
    | none => exact .inl rfl
    | some _ => exact .inr (by simp)
  · exact .inr fun e => h e.symm
set_option maxRecDepth 100000 in
theorem four_apart {u1 u2 u3 u4 : Value} (p12 : u1.ownBlock = none ∨ u1.ownBlock ≠ u2.ownBlock) (p13 : u1.ownBlock = none ∨ u1.ownBlock ≠ u3.ownBlock) (p14 : u1.ownBlock = none ∨ u1.ownBlock ≠ u4.ownBlock) (p23 : u2.ownBlock = none ∨ u2.ownBlock ≠ u3.ownBlock) (p24 : u2.ownBlock = none ∨ u2.ownBlock ≠ u4.ownBlock) (p34 : u3.ownBlock = none ∨ u3.ownBlock ≠ u4.ownBlock) :
    ∀ (t t' : Nat) (u u' : Value), [u1, u2, u3, u4][t]? = some u → [u1, u2, u3, u4][t']? = some u' → t ≠ t' → u.ownBlock = none ∨ u.ownBlock ≠ u'.ownBlock := by
  intro t t' u u' ht ht' hne
  have l1 : t < 4 := by have := (List.getElem?_eq_some_iff.1 ht).1; simpa using this
  have l2 : t' < 4 := by have := (List.getElem?_eq_some_iff.1 ht').1; simpa using this
  have e1 : t = 0 ∨ t = 1 ∨ t = 2 ∨ t = 3 := by omega
  have e2 : t' = 0 ∨ t' = 1 ∨ t' = 2 ∨ t' = 3 := by omega
  have q12 := ne_turn p12
  have q13 := ne_turn p13
  have q14 := ne_turn p14
  have q23 := ne_turn p23
  have q24 := ne_turn p24
  have q34 := ne_turn p34
  rcases e1 with rfl | rfl | rfl | rfl <;> rcases e2 with rfl | rfl | rfl | rfl <;> first | (exact absurd rfl hne) | (simp at ht ht'; subst ht; subst ht'; first | exact p12 | exact q12 | exact p13 | exact q13 | exact p14 | exact q14 | exact p23 | exact q23 | exact p24 | exact q24 | exact p34 | exact q34)
set_option maxRecDepth 100000 in
theorem OwnB.ownP {w : World} {B n t : Nat} {ao : Option Addr} {c : Nat} {l : List Int} (h : OwnB w B (.slice ao n c) l) : OwnP w B (.slice ao n c) n 0 t := by
  have hn : l.length = n := by
    rcases h.2 with ⟨e, h0⟩ | ⟨g, cap, cur, e, _⟩
    · injection e with _ e2 _
      omega
    · injection e with _ e2 _
      exact e2.symm
  unfold OwnB at h
  rw [hn] at h
  exact ⟨_, h, fun a ha => by omega⟩
set_option maxRecDepth 100000 in
theorem own_len {w : World} {B n : Nat} {ao : Option Addr} {c : Nat} {l : List Int} (h : OwnB w B (.slice ao n c) l) : n = l.length := by
  rcases h.2 with ⟨e, h0⟩ | ⟨g, cap, cur, e, _⟩
  · injection e with _ e2 _
    omega
  · injection e with _ e2 _
set_option maxRecDepth 100000 in
theorem own_sl2 {w : World} {B n : Nat} {ao : Option Addr} {c : Nat} {l : List Int} (h : OwnB w B (.slice ao n c) l) (hw : Wf l) (hl : l.length ≤ 65536) : Sl w ao n c l := by
  obtain ⟨xo, xc, e, hs, _⟩ := h.sl hw (by omega)
  injection e with e1 e2 e3
  subst e1
  subst e2
  subst e3
  exact hs
set_option maxHeartbeats 8000000 in
set_option maxRecDepth 100000 in
theorem walk_TupleBegins (w : World) (hT : Tb w) (ao : Option Addr) (n c : Nat) (a : Its) (ha : SlI w Tp ao n c a) :
    Calls Tryz.prog 4 #[.slice ao n c] w fun e w' => e = .returned (.bool true) ∧ Below w.heap.size w w' := by
  have hla := ha.hlen
  have hra := ha.hroom
  have HA := hidden ha
  have HTB := hidden hT
  have HLA := hidden hla
  clear ha hT hla
  go_enter Tryz.func4, Tryz.ntmps4
  go_wp2_with fail
  refine (awake_any w).mono ?_
  rintro e w1 ⟨rfl, hb1⟩
  have H1 := hidden hb1
  clear hb1
  go_wp2_with fail
  refine (great_any a ao n c w1 (HA.out.on (Nat.le_refl _) H1.out)).mono ?_
  rintro e w2 ⟨rfl, q2, hw2⟩
  have H2 : Hid (Below w.heap.size w w2) := (by rw [hw2]; exact hidden (below_draws H1.out _))
  clear hw2 H1
  by_cases ga : 100000 < wgh a 0
  · have ga' : decide (100000 < wgh a 0) = true := by simp [ga]
    rw [ga']
    clear ga ga'
    go_wp2_with fail
    go_ret
    exact ⟨rfl, H2.out⟩
  have ga' : decide (100000 < wgh a 0) = false := by simp; omega
  have hsa : a.sz ≤ 100000 := by have := wgh_sz a 0 (by omega) (by omega); omega
  have HWG : Hid (wgh a 0 ≤ 100000) := hidden (by omega)
  rw [ga']
  clear ga ga'
  have HSz := hidden hsa
  clear hsa
  go_wp2_with fail
  refine (lent_any a ao n c w2 (HA.out.on (Nat.le_refl _) H2.out) HSz.out).mono ?_
  rintro e w4 ⟨rfl, hl4, hb4⟩
  have hg2 : w.heap.size ≤ w2.heap.size := H2.out.size
  have hg4 : w2.heap.size ≤ w4.heap.size := hb4.size
  have HX := hidden hl4
  have H4 : Hid (Below w.heap.size w w4) := hidden (H2.out.trans (hb4.mono hg2))
  clear hl4 hb4 H2
  generalize hx : w2.heap.size = X at *
  clear hx w2
  obtain ⟨Y, hY⟩ : ∃ Y, Y = w4.heap.size := ⟨_, rfl⟩
  rw [← hY] at HX
  have SX : Hid (∀ u, Below w4.heap.size w4 u → SlI u Tp (some ⟨X, 0, none⟩) n (n + 2) a) := hidden (by
    intro u hu
    have := (HX.out.sl (by omega) HA.out.ok (by have := HLA.out; omega)).on (Nat.le_refl _) hu
    rwa [HLA.out] at this)
  have HWP := hidden (prP_wf a HA.out.ok)
  have HP1 := hidden (preA a _ n (n + 2) w4 (HTB.out.on H4.out) (SX.out _ (Below.refl _ _)) HSz.out)
  have HPU := hidden (fun (u : World) (hu : Below w4.heap.size w4 u) (ht : Tb u) => preA a _ n (n + 2) u ht (SX.out _ hu) HSz.out)
  have HPR := hidden (fun (u : World) (hu : SlI u Tp ao n c a) => preR a ao n c u hu HWG.out)
  obtain ⟨LO, hLO⟩ : ∃ z, (prP a).1 = z := ⟨_, rfl⟩
  obtain ⟨HI, hHI⟩ : ∃ z, (prP a).2.1 = z := ⟨_, rfl⟩
  obtain ⟨OP, hOP⟩ : ∃ z, (prP a).2.2.1 = z := ⟨_, rfl⟩
  obtain ⟨CD, hCD⟩ : ∃ z, (prP a).2.2.2 = z := ⟨_, rfl⟩
  rw [hLO, hHI] at HWP
  rw [hLO, hHI, hOP, hCD] at HP1 HPU HPR
  clear hLO hHI hOP hCD
  have HY0 : Hid (Y = w4.heap.size) := hidden hY
  have HWY : Hid (w.heap.size ≤ Y) := hidden (by rw [hY]; exact H4.out.size)
  clear hY
  go_wp2_with (first | (go_at_call 14; refine HP1.out.mono ?_; rintro e w5 ⟨lo, ln, lc, io, hn, ic, rfl, HL5, HI5, HN12, HB5⟩; refine Hid.out ?_))
  apply hidden
  have H5 : Hid (Below w.heap.size w w5) := hidden (H4.out.trans (HB5.out.mono H4.out.size))
  have HP2 := hidden (HPU.out w5 HB5.out (HTB.out.on H5.out))
  have HS45 : Hid (w4.heap.size ≤ w5.heap.size) := hidden HB5.out.size
  clear HP1 HPU
  go_wp2_with (first | (go_at_call 14; refine HP2.out.mono ?_; rintro e w6 ⟨ro, rn, rc, so, sn, sc, rfl, HR6, HS6, HN34, HB6⟩; refine Hid.out ?_))
  apply hidden
  have H6 : Hid (Below w.heap.size w w6) := hidden (H5.out.trans (HB6.out.mono H5.out.size))
  have HL6 : Hid (OwnB w6 Y (.slice lo ln lc) LO) := hidden (by rw [HY0.out]; exact HL5.out.on (Nat.le_refl _) HB6.out)
  have HI6 : Hid (OwnB w6 Y (.slice io hn ic) HI) := hidden (by rw [HY0.out]; exact HI5.out.on (Nat.le_refl _) HB6.out)
  have HN13 : Hid ((Value.slice lo ln lc).ownBlock = none ∨ (Value.slice lo ln lc).ownBlock ≠ (Value.slice ro rn rc).ownBlock) := hidden (own_far2 HL5.out HR6.out (Nat.le_refl _))
  have HN14 : Hid ((Value.slice lo ln lc).ownBlock = none ∨ (Value.slice lo ln lc).ownBlock ≠ (Value.slice so sn sc).ownBlock) := hidden (own_far2 HL5.out HS6.out (Nat.le_refl _))
  have HN23 : Hid ((Value.slice io hn ic).ownBlock = none ∨ (Value.slice io hn ic).ownBlock ≠ (Value.slice ro rn rc).ownBlock) := hidden (own_far2 HI5.out HR6.out (Nat.le_refl _))
  have HN24 : Hid ((Value.slice io hn ic).ownBlock = none ∨ (Value.slice io hn ic).ownBlock ≠ (Value.slice so sn sc).ownBlock) := hidden (own_far2 HI5.out HS6.out (Nat.le_refl _))
  have HR6b : Hid (OwnB w6 Y (.slice ro rn rc) LO) := hidden (HR6.out.base (by rw [HY0.out]; exact HS45.out))
  have HS6b : Hid (OwnB w6 Y (.slice so sn sc) HI) := hidden (HS6.out.base (by rw [HY0.out]; exact HS45.out))
  have HX6 : Hid (LentS w6 a X Y) := hidden ((HX.out.bel (by rw [HY0.out]; exact Nat.le_refl _) HB5.out).bel (by rw [HY0.out]; exact HS45.out) HB6.out)
  have HY6 : Hid (Y ≤ w6.heap.size) := hidden (by rw [HY0.out]; exact Nat.le_trans HS45.out HB6.out.size)
  clear HP2 HL5 HI5 HR6 HS6 HX SX HB5 HB6 H4 H5 HS45 HY0
  have hY6 := HY6.out
  have HKP := hidden (kept_any a X Y ao n c w6 HX6.out hY6 (HA.out.apart H6.out hg2) HSz.out)
  go_wp2_with (first | (go_at_call 12; refine HKP.out.mono ?_; rintro e w7 ⟨rfl, ho7⟩; refine Hid.out ?_))
  apply hidden
  have H7 : Hid (Below w.heap.size w w7) := hidden (H6.out.trans (ho7.below hg2 H6.out.size))
  have HL7 := hidden (OwnB.outs HL6.out ho7 (Nat.le_refl _))
  have HI7 := hidden (OwnB.outs HI6.out ho7 (Nat.le_refl _))
  have HR7 := hidden (OwnB.outs HR6b.out ho7 (Nat.le_refl _))
  have HS7 := hidden (OwnB.outs HS6b.out ho7 (Nat.le_refl _))
  have HY7 : Hid (Y ≤ w7.heap.size) := hidden (Nat.le_trans HY6.out ho7.size)
  have HPF := hidden (HPR.out w7 (HA.out.on (Nat.le_refl _) H7.out))
  clear HKP ho7 HL6 HI6 HR6b HS6b HX6 H6 HPR HY6 hY6
  go_wp2_with (first | (go_at_call 15; refine HPF.out.mono ?_; rintro e w8 ⟨po, pn, pc, qo, qn, qc, rfl, HP8, HQ8, HB8⟩; refine Hid.out ?_))
  apply hidden
  have H8 : Hid (Below w.heap.size w w8) := hidden (H7.out.trans (HB8.out.mono H7.out.size))
  have HL8 := hidden (HL7.out.on (Nat.le_refl _) HB8.out)
  have HI8 := hidden (HI7.out.on (Nat.le_refl _) HB8.out)
  have HR8 := hidden (HR7.out.on (Nat.le_refl _) HB8.out)
  have HS8 := hidden (HS7.out.on (Nat.le_refl _) HB8.out)
  have HY8 : Hid (Y ≤ w8.heap.size) := hidden (Nat.le_trans HY7.out HB8.out.size)
  have k1 := conv_st (own_sl2 HL8.out HWP.out.1.1 HWP.out.1.2)
  have k2 := conv_st (own_sl2 HI8.out HWP.out.2.1 HWP.out.2.2)
  have k3 := conv_st (own_sl2 HR8.out HWP.out.1.1 HWP.out.1.2)
  have k4 := conv_st (own_sl2 HS8.out HWP.out.2.1 HWP.out.2.2)
  have k5 := conv_st (own_sl2 HP8.out HWP.out.1.1 HWP.out.1.2)
  have k6 := conv_st (own_sl2 HQ8.out HWP.out.2.1 HWP.out.2.2)
  obtain ⟨sl, hsl⟩ : ∃ z, strOfNums LO = z := ⟨_, rfl⟩
  obtain ⟨sh, hsh⟩ : ∃ z, strOfNums HI = z := ⟨_, rfl⟩
  rw [hsl] at k1 k3 k5
  rw [hsh] at k2 k4 k6
  have e1 : (sl.toList != sl.toList) = false := by simp
  have e2 : (sh.toList != sh.toList) = false := by simp
  have e3 : (OP != OP) = false := by simp
  have e4 : (CD != CD) = false := by simp
  clear HPF HL7 HI7 HR7 HS7 HP8 HQ8 HB8 H7 HY7 hsl hsh
  go_wp2_with (first | (go_at_call 13; refine Hid.out ?_))
  apply hidden
  clear k1 k2 k3 k4 k5 k6 e1 e2 e3 e4
  obtain ⟨x, hx⟩ : ∃ x, w8.alloc (.cells #[.slice lo ln lc, .slice io hn ic, .slice ro rn rc, .slice so sn sc] 30) = x := ⟨_, rfl⟩
  have hbx : Below w8.heap.size w8 x := by rw [← hx]; exact (Below.refl _ _).alloc (Nat.le_refl _) _
  have HRW : Hid (OwnY x Y (.slice (some ⟨w8.heap.size, 0, none⟩) 4 4) [.slice lo ln lc, .slice io hn ic, .slice ro rn rc, .slice so sn sc]) := hidden (by
    rw [← hx]
    exact World.ownsRow_lit w8 #[.slice lo ln lc, .slice io hn ic, .slice ro rn rc, .slice so sn sc] 4 HY8.out (by unfold maxLen; omega) rfl)
  have HL9 := hidden (HL8.out.on (Nat.le_refl _) hbx)
  have HI9 := hidden (HI8.out.on (Nat.le_refl _) hbx)
  have HR9 := hidden (HR8.out.on (Nat.le_refl _) hbx)
  have HS9 := hidden (HS8.out.on (Nat.le_refl _) hbx)
  have H9 : Hid (Below w.heap.size w x) := hidden (H8.out.trans (hbx.mono H8.out.size))
  have HYx : Hid (Y ≤ x.heap.size) := hidden (Nat.le_trans HY8.out hbx.size)
  have b1 := own_len HL9.out
  have b2 := own_len HI9.out
  have b3 := own_len HR9.out
  have b4 := own_len HS9.out
  have b5 := HWP.out
  try rw [hx]
  clear hx hbx HL8 HI8 HR8 HS8 H8 HY8
  have HBY := hidden (bytes_any x Y 4 (some ⟨w8.heap.size, 0, none⟩) 4 _ (fun t => if t = 0 then ln else if t = 1 then hn else if t = 2 then rn else if t = 3 then sn else 0) HRW.out rfl (by omega) (fun t u ht => by
    have ht2 : t < 4 := by have := (List.getElem?_eq_some_iff.1 ht).1; simpa using this
    have h4 : t = 0 ∨ t = 1 ∨ t = 2 ∨ t = 3 := by omega
    rcases h4 with rfl | rfl | rfl | rfl
    · simp at ht
      subst ht
      exact HL9.out.ownP
    · simp at ht
      subst ht
      exact HI9.out.ownP
    · simp at ht
      subst ht
      exact HR9.out.ownP
    · simp at ht
      subst ht
      exact HS9.out.ownP) (four_apart HN12.out HN13.out HN14.out HN23.out HN24.out HN34.out) (fun t => by
    split
    · omega
    · split
      · omega
      · split
        · omega
        · split <;> omega) HYx.out)
  refine HBY.out.mono ?_
  rintro e w10 ⟨rfl, HB10⟩
  have H10 : Hid (Below w.heap.size w w10) := hidden (H9.out.trans (HB10.out.mono HWY.out))
  clear HBY HB10 b1 b2 b3 b4 b5
  go_wp2
  go_ret
  exact ⟨rfl, H10.out⟩
end Go.Proofs.YtfdiflfjefhjfaaGreatDoor
