import Derived.Test.YtjpmfgoodcldcaaGreatDoorJ18
import Derived.Test.YtjpmfgoodcldcaaGreatDoorJ22
namespace Go.Proofs.YtjpmfgoodcldcaaGreatDoor
set_option maxRecDepth 100000
open Go.RowKit
theorem OwnN.lowN {w : World} {B C : Nat} {v : Value} {l : List Nat} (h : OwnN w C v l) (hB : B ≤ C) : OwnN w B v l := by
 unfold OwnN at *
 refine ⟨h.1, ?_⟩
 rcases h.2 with h2 | ⟨g, c, cur, e, hg, h4⟩
 ·exact .inl h2
 ·exact .inr ⟨g, c, cur, e, Nat.le_trans hB hg, h4⟩
def ReadPo (l : List Int) (w : World) (e : Ending) (w' : World) : Prop :=
 ∃ po, e = .returned (.pointer po) ∧ Hid (Below w.heap.size w w') ∧ Hid ((po = none ∧ readM l = none) ∨ ∃ a bo bn bc so sn sc cs, po = some ⟨a, 0, none⟩ ∧ w.heap.size ≤ a ∧ readM l = some cs ∧ (∃ gb, bo = some ⟨gb, 0, none⟩ ∧ w.heap.size ≤ gb) ∧ (PgAt w' a (l.getD 0 0) l.length bo bn bc so sn sc cs ∧ Po w' w.heap.size a (l.getD 0 0) l.length (.slice bo bn bc) (.slice so sn sc) cs))
theorem ReadPo.no {l : List Int} {w w' : World} (hb : Below w.heap.size w w') (h : readM l = none) : ReadPo l w (.returned (.pointer none)) w' := ⟨none, rfl, hidden hb, hidden (.inl ⟨rfl, h⟩)⟩
set_option maxHeartbeats 2000000 in
theorem read_tailP (ao : Option Addr) (n cap : Nat) (l : List Int) (w : World) (hs : Sl w ao n cap l) (hn : pw n) (hk : isKd (l.getD 0 0)) :
  Calls Tryz.prog 85 #[.slice ao n cap] w fun e w' => ReadPo l w e w' := by
 have hn2 := pw_nat hn
 have hn3 := hn2.1
 have hn4 := hn2.2
 have hlen := hs.hlen
 have hcap := hs.hcap
 obtain ⟨b, off, rfl, hbl, hc⟩ : ∃ b off, ao = some ⟨b, off, none⟩ ∧ b < w.heap.size ∧ ∀ i, i < n → w.cell? ⟨b, off + i, none⟩ = some (.int .u8 (l.getD i 0)) := by
  rcases hs.hat with h | h
  ·omega
  ·exact h
 have c0 := hc 0 (by omega)
 rw [Nat.add_zero] at c0
 have hk0 := hs.wf.getD 0
 have HE : Hid (readM l = (if frst l < 4 + rdN l 2 2 * 2 ∨ (n : Int) - 4 < frst l then none else part (l.getD 0 0) n (rdN l 2 2).toNat none ((l.drop (frst l).toNat).take (n - 4 - (frst l).toNat)))) := by
  refine hidden ?_
  unfold readM
  rw [hlen, if_pos ⟨hn, hk⟩]
 have hN := rdN_bound l hs.wf 2 2
 have hF4 := rdN_bound l hs.wf 4 2
 obtain ⟨N, hNe⟩ := Int.eq_ofNat_of_zero_le hN.1
 obtain ⟨G, hGe⟩ := Int.eq_ofNat_of_zero_le hF4.1
 obtain ⟨E, hEe⟩ : ∃ E, n - 4 = E := ⟨_, rfl⟩
 have hEI : (n : Int) - 4 = (E : Int) := by omega
 obtain ⟨F, hFe⟩ : ∃ F : Nat, frst l = (F : Int) := by
  unfold frst
  rw [hlen]
  split
  ·exact ⟨G, hGe⟩
  ·exact ⟨E, hEI⟩
 have HFD : Hid (frst l = if 0 < N then (G : Int) else (E : Int)) := by
  refine hidden ?_
  unfold frst
  rw [hNe, hGe, hlen, hEI]
  simp
 rw [hNe, hFe, hEI, Int.toNat_natCast, Int.toNat_natCast] at HE
 rw [hFe] at HFD
 have hNb : N < 65536 := by omega
 have hGb : G < 65536 := by omega
 obtain ⟨k0, hk0e⟩ : ∃ k0, l.getD 0 0 = k0 := ⟨_, rfl⟩
 rw [hk0e] at c0 hk0 hk HE
 obtain ⟨a, ha⟩ : ∃ a, w.heap.size = a := ⟨_, rfl⟩
 have HS2 : Hid (∀ u, Rq w u a k0 n b off cap l → Calls Tryz.prog 112 #[.slice (some ⟨b, off, none⟩) n cap, .int .i64 2] u fun e u' => e = .returned (.int .i64 (N : Int)) ∧ Hid (Rq w u' a k0 n b off cap l)) := by
  refine hidden fun u hu => ?_
  have := shortAt_any u (some ⟨b, off, none⟩) n cap 2 l hu.sl (by omega)
  rw [hNe] at this
  refine (show Calls Tryz.prog 112 #[.slice (some ⟨b, off, none⟩) n cap, .int .i64 2] u _ from this).mono ?_
  rintro e u' ⟨rfl, q, rfl⟩
  exact ⟨rfl, hidden (hu.on (bl_dr (Below.refl _ _) _))⟩
 have HS4 : Hid (∀ u, Rq w u a k0 n b off cap l → Calls Tryz.prog 112 #[.slice (some ⟨b, off, none⟩) n cap, .int .i64 4] u fun e u' => e = .returned (.int .i64 (G : Int)) ∧ Hid (Rq w u' a k0 n b off cap l)) := by
  refine hidden fun u hu => ?_
  have := shortAt_any u (some ⟨b, off, none⟩) n cap 4 l hu.sl (by omega)
  rw [hGe] at this
  refine (show Calls Tryz.prog 112 #[.slice (some ⟨b, off, none⟩) n cap, .int .i64 4] u _ from this).mono ?_
  rintro e u' ⟨rfl, q, rfl⟩
  exact ⟨rfl, hidden (hu.on (bl_dr (Below.refl _ _) _))⟩
 have HR0 : Hid (Rq w (w.alloc (.cells #[.int .i64 k0, .int .i64 (n : Int), .slice none 0 0, .slice none 0 0] 116)) a k0 n b off cap l) := by
  refine hidden ⟨?_, hs.on (Nat.le_refl _) (bl_al (Below.refl _ _) (Nat.le_refl _) _), bl_al (Below.refl _ _) (Nat.le_refl _) _⟩
  rw [← ha]
  exact heap_alloc_last w _
 have d1 : decide (pw (n : Int)) = true := decide_eq_true hn
 have d2 : decide (isKd k0) = true := decide_eq_true hk
 have hw0 : IntKind.i64.wrap k0 = k0 := by rw [IntKind.wrap_i64]; omega
 have HKD := hidden hk
 have HPW := hidden hn
 have HWFL := hidden hs.wf
 have HKE := hidden hk0e
 have HLEN := hidden hlen
 have HEE := hidden hEe
 have bN : (N : Int) < 65536 := by omega
 have bE : (E : Int) ≤ 65536 := by omega
 have k01 := hk0.1
 have k02 := hk0.2
 have hn0 : (0 : Int) < (n : Int) := by omega
 clear hs hc hk hn hNe hGe hN hF4 hFe hk0e hlen hEe hk0 hn2
 go_enter Tryz.func85, Tryz.ntmps85
 go_wp2_with (first | (go_at_call 84; refine same_call (isSize_any _ _) ?_; rw [d1]) | (go_at_call 83; refine same_call (isKind_any _ _) ?_; rw [d2]) | (go_at_call 112; refine (HS2.out _ HR0.out).mono ?_; rintro e u1 ⟨rfl, HR1⟩; refine Hid.out ?_))
 apply hidden
 clear HS2 HR0 c0 hbl
 go_upto_if 36 with fail
 go_cut [5] (fun v u => v = .int .i64 (F : Int) ∧ Hid (Rq w u a k0 n b off cap l))
 case first =>
  by_cases h0 : 0 < N
  ·have h0I : 0 < (N : Int) := by omega
   have HFG : Hid ((F : Int) = (G : Int)) := hidden (by rw [HFD.out, if_pos h0])
   have C4 := hidden (HS4.out _ HR1.out)
   clear h0I HS4 HR1 HE HFD ha d1 d2 hEI bN bE hNb hn0
   obtain ⟨M, rfl⟩ : ∃ M, N = M + 1 := ⟨N - 1, by omega⟩
   clear h0
   go_wp2_with (first | (go_at_call 112; refine C4.out.mono ?_; rintro e u2 ⟨rfl, HR2⟩; refine Hid.out ?_))
   apply hidden
   go_wp2
   go_meet
   exact ⟨by rw [HFG.out], HR2⟩
  ·obtain rfl : N = 0 := by omega
   have HFG : Hid ((F : Int) = (E : Int)) := hidden (by rw [HFD.out]; simp)
   go_wp2
   go_meet
   exact ⟨by rw [HFG.out], HR1⟩
 obtain ⟨rfl, HR2⟩ := hcut
 obtain ⟨u2, hu2⟩ : ∃ u2, u2 = wc := ⟨_, rfl⟩
 subst hu2
 have bF : (F : Int) ≤ 65536 := by
  have := HFD.out
  split at this <;> omega
 clear HR1 HS4 HFD
 by_cases h1 : (F : Int) < 4 + (N : Int) * 2
 ·have HNO : Hid (readM l = none) := hidden (by rw [HE.out, if_pos (.inl h1)])
  go_wp2
  go_ret
  exact ReadPo.no HR2.out.be HNO.out
 ·by_cases h2 : (E : Int) < (F : Int)
  ·have HNO : Hid (readM l = none) := hidden (by rw [HE.out, if_pos (.inr h2)])
   go_wp2
   go_ret
   exact ReadPo.no HR2.out.be HNO.out
  ·have HRM : Hid (readM l = part k0 n N none ((l.drop F).take (E - F))) := hidden (by rw [HE.out, if_neg (by omega), HEE.out])
   clear HE
   have e1 : F ≤ E := by omega
   have e2 : (F : Int) ≤ (E : Int) := by omega
   have e3 : E ≤ cap := by omega
   have e4 : (E : Int) ≤ (cap : Int) := by omega
   have e5 : ¬ cap = F := by omega
   have HCB := hidden (copiedBytes_any (some ⟨b, off + F, none⟩) (E - F) (cap - F) _ u2 (HR2.out.sl.piece F (E - F) (cap - F) (by omega) (by omega)))
   obtain ⟨bn, hbn⟩ : ∃ bn, E - F = bn := ⟨_, rfl⟩
   obtain ⟨BD, hBD⟩ : ∃ BD, (l.drop F).take (E - F) = BD := ⟨_, rfl⟩
   rw [hBD] at HCB HRM
   have HBL : Hid (BD.length = bn) := hidden (by rw [← hBD, List.length_take, List.length_drop, HLEN.out]; omega)
   have HBW : Hid (Wf BD) := hidden (by rw [← hBD]; exact (HWFL.out.drop _).take _)
   rw [hbn] at HCB
   have hbn2 : bn ≤ 65536 := by omega
   obtain ⟨x0, x1, x2, x3⟩ := HR2.out.row.cells
   clear hBD
   go_wp2_with (first | (go_at_call 109; refine HCB.out.mono ?_; rintro e u3 ⟨rfl, HBK, HB3⟩; refine Hid.out ?_))
   apply hidden
   clear HCB x0 x1 x2 x3
   have HRW3 : Hid (PR u3 a k0 n (.slice none 0 0) (.slice none 0 0)) := hidden (box_on HR2.out.row HB3.out)
   obtain ⟨x0, x1, x2, x3⟩ := HRW3.out.cells
   have x4 := HRW3.out.free 2
   obtain ⟨gb, hgb⟩ : ∃ gb, u2.heap.size = gb := ⟨_, rfl⟩
   have HGW : Hid (w.heap.size ≤ gb) := hidden (by rw [← hgb]; exact HR2.out.be.size)
   rw [hgb] at HBK ⊢
   have hga : ¬ gb = a := by
    have := lt_some HR2.out.row
    omega
   have HRW4 : Hid (PR (u3.setCell ⟨a, 2, none⟩ (.slice (some ⟨gb, 0, none⟩) bn bn)) a k0 n (.slice (some ⟨gb, 0, none⟩) bn bn) (.slice none 0 0)) := hidden (HRW3.out.set2 _)
   have HBK4 : Hid (Bk (u3.setCell ⟨a, 2, none⟩ (.slice (some ⟨gb, 0, none⟩) bn bn)) gb BD) := hidden (HBK.out.cf (Cf.set _ _ _ _) hga)
   have HBE4 : Hid (Below w.heap.size w (u3.setCell ⟨a, 2, none⟩ (.slice (some ⟨gb, 0, none⟩) bn bn))) := hidden ((bl_go HR2.out.be (Nat.le_refl _) HB3.out).setCell (p := ⟨a, 2, none⟩) (by simp only; omega) _)
   have HPT := hidden (parted_any N _ a k0 n gb bn BD _ HRW4.out HBK4.out HBL.out HBW.out HPW.out hbn2 (by omega))
   clear HRW3 HBK HB3 HR2 hgb hbn
   go_wp2_with (first | (go_at_call 113; refine HPT.out.mono ?_; rintro e u5 ⟨bb, rfl, HC5, HP5⟩; refine Hid.out ?_))
   apply hidden
   have HBE5 : Hid (Below w.heap.size w u5) := hidden (HBE4.out.trans (HC5.out.below HBE4.out.size (by intro i hi e; omega)))
   have hws : w.heap.size ≤ (u3.setCell ⟨a, 2, none⟩ (.slice (some ⟨gb, 0, none⟩) bn bn)).heap.size := HBE4.out.size
   cases bb with
   | true =>
    go_wp2
    go_ret
    rcases HP5.out with ⟨_, cs, vs, h3, h4, h5, h6⟩ | ⟨h3, _⟩
    ·have hcl := (part_inv _ _ _ _ HBW.out h3).1
     have hb2 := (part_inv _ _ _ _ HBW.out h3).2.1
     obtain ⟨so, sc, rfl, hsn⟩ := h5.sln (by rw [sts_length, hcl]; omega)
     have hbl0 := HBL.out
     have hlen0 := HLEN.out
     refine ⟨some ⟨a, 0, none⟩, rfl, HBE5, hidden (.inr ⟨a, some ⟨gb, 0, none⟩, bn, bn, so, (sts 0 cs).length, sc, cs, rfl, by omega, HRM.out.trans h3, ⟨gb, rfl, HGW.out⟩, ?_⟩)⟩
     rw [HKE.out, HLEN.out]
     refine ⟨⟨h4, by rw [← hb2]; exact h6.sl HBL.out HBW.out (by omega), hsn⟩, ⟨h4, ?_, h5.lowN (by omega)⟩⟩
     rw [← hb2]
     have h7 := own_of_heap h6 HGW.out (by rw [HBL.out]; unfold maxLen; omega)
     rw [HBL.out] at h7
     exact h7
    ·cases h3
   | false =>
    go_wp2
    go_ret
    rcases HP5.out with ⟨h3, _⟩ | ⟨_, h3⟩
    ·cases h3
    ·exact ReadPo.no HBE5.out (HRM.out.trans h3)
theorem read_po (ao : Option Addr) (n cap : Nat) (l : List Int) (w : World) (hs : Sl w ao n cap l) :
  Calls Tryz.prog 85 #[.slice ao n cap] w fun e w' => ReadPo l w e w' := by
 by_cases hn : pw n
 ·by_cases hk : isKd (l.getD 0 0)
  ·exact read_tailP ao n cap l w hs hn hk
  ·have hn2 := pw_nat hn
   have hlen := hs.hlen
   obtain ⟨b, off, rfl, hbl, hc⟩ : ∃ b off, ao = some ⟨b, off, none⟩ ∧ b < w.heap.size ∧ ∀ i, i < n → w.cell? ⟨b, off + i, none⟩ = some (.int .u8 (l.getD i 0)) := by
    rcases hs.hat with h | h
    ·omega
    ·exact h
   have c0 := hc 0 (by omega)
   rw [Nat.add_zero] at c0
   have hk0 := hs.wf.getD 0
   have HNO : Hid (readM l = none) := hidden (by unfold readM; rw [if_neg (fun h => hk h.2)])
   have d1 : decide (pw (n : Int)) = true := decide_eq_true hn
   have d2 : decide (isKd (l.getD 0 0)) = false := decide_eq_false hk
   generalize l.getD 0 0 = k0 at *
   have hw0 : IntKind.i64.wrap k0 = k0 := by rw [IntKind.wrap_i64]; omega
   have hn0 : (0 : Int) < (n : Int) := by omega
   have k01 := hk0.1
   have k02 := hk0.2
   clear hs hc hk hn
   go_enter Tryz.func85, Tryz.ntmps85
   go_wp2_with (first | (go_at_call 84; refine same_call (isSize_any _ _) ?_; rw [d1]) | (go_at_call 83; refine same_call (isKind_any _ _) ?_; rw [d2]))
   go_ret
   exact ReadPo.no (Below.refl _ _) HNO.out
 ·have hlen := hs.hlen
  have HNO : Hid (readM l = none) := hidden (by unfold readM; rw [hlen, if_neg (fun h => hn h.1)])
  have d1 : decide (pw (n : Int)) = false := decide_eq_false hn
  clear hs hn
  go_enter Tryz.func85, Tryz.ntmps85
  go_wp2_with (first | (go_at_call 84; refine same_call (isSize_any _ _) ?_; rw [d1]))
  go_ret
  exact ReadPo.no (Below.refl _ _) HNO.out
def OpenPo (l : List Int) (w : World) (e : Ending) (w' : World) : Prop :=
 ∃ po k, e = .returned (.tuple #[.pointer po, .int .i64 k]) ∧ Hid (Below w.heap.size w w') ∧ Hid ((po = none ∧ k = 60 ∧ ¬ ∃ cs, Is (l.getD 0 0) l.length cs l) ∨ ∃ a bo bn bc so sn sc cs, po = some ⟨a, 0, none⟩ ∧ k = 0 ∧ w.heap.size ≤ a ∧ Is (l.getD 0 0) l.length cs l ∧ (∀ c ∈ cs, c.Wf) ∧ (∃ gb, bo = some ⟨gb, 0, none⟩ ∧ w.heap.size ≤ gb) ∧ (PgAt w' a (l.getD 0 0) l.length bo bn bc so sn sc cs ∧ Po w' w.heap.size a (l.getD 0 0) l.length (.slice bo bn bc) (.slice so sn sc) cs))
set_option maxHeartbeats 1000000 in
theorem open_po (ao : Option Addr) (n cap : Nat) (l : List Int) (w : World) (hs : Sl w ao n cap l) (ht : Tab w) (h0 : 1 < w.heap.size) :
  Calls Tryz.prog 66 #[.slice ao n cap] w fun e w' => OpenPo l w e w' := by
 have HR := hidden (read_po ao n cap l w hs)
 have HS := hidden hs
 have HT := hidden ht
 clear hs ht
 go_enter Tryz.func66, Tryz.ntmps66
 go_wp2_with (first | (go_at_call 85; refine HR.out.mono ?_; rintro e w1 ⟨po, rfl, HB1, HQ⟩; refine Hid.out ?_))
 apply hidden
 clear HR
 rcases HQ.out with ⟨rfl, hno⟩ | ⟨a, bo, bn, bc, so, sn, sc, cs, rfl, hal, hrm, hbo, hpg⟩
 ·have HNO : Hid (¬ ∃ cs, Is (l.getD 0 0) l.length cs l) := hidden (by
   rintro ⟨cs, h⟩
   have := (readM_of h).1
   rw [hno] at this
   cases this)
  clear HQ hno
  go_wp2
  go_ret2
  exact ⟨none, 60, rfl, HB1, hidden (.inl ⟨rfl, rfl, HNO.out⟩)⟩
 ·have HRM := hidden hrm
  have HPG := hidden hpg
  have HBO := hidden hbo
  have HAL := hidden hal
  obtain ⟨i1, i2, i3, i4, i5, _⟩ := readM_inv HS.out.wf hrm
  have HI := hidden (And.intro i1 (And.intro i2 (And.intro i3 (And.intro i4 i5))))
  have HBY := hidden (bytes_any w1 a _ _ bo bn bc so sn sc cs hpg.1 i1 i2 i4 (HT.out.on HB1.out h0) (Nat.lt_of_lt_of_le h0 HB1.out.size) i5)
  clear hrm hpg hal hbo HQ i1 i2 i3 i4 i5
  have hlen := HS.out.hlen
  have HLEN := hidden hlen
  rw [hlen] at HBY
  clear hlen
  have HPL : Hid ((pgB (l.getD 0 0) n cs).length = n) := hidden (by have := HI.out.2.2.2.1; rw [HLEN.out] at this; exact pgB_length _ _ _ this)
  have HPWF : Hid (Wf (pgB (l.getD 0 0) n cs)) := hidden (pgB_wf (by have := HI.out.1; unfold isKd at this; omega) HI.out.2.2.2.2)
  have hnr := HS.out.hroom
  obtain ⟨PB, hPB⟩ : ∃ PB, pgB (l.getD 0 0) n cs = PB := ⟨_, rfl⟩
  rw [hPB] at HBY HPL HPWF
  have HPB := hidden hPB
  clear hPB
  cases hd : decide (PB = l) with
  | true =>
   have hpl : PB = l := by simpa using hd
   go_wp2_with (first | (go_at_call 79; refine HBY.out.mono ?_; rintro e w2 ⟨g, rfl, hg, HBK, HB2⟩) | (go_at_call 86; refine same_call (equal6 _ _ _ _ _ _ PB l _ (HBK.out.sl HPL.out HPWF.out hnr) (HS.out.on (Nat.le_refl _) (bl_go HB1.out (Nat.le_refl _) HB2.out))) ?_; rw [hd]))
   go_ret2
   refine ⟨some ⟨a, 0, none⟩, 0, rfl, hidden (bl_go HB1.out (Nat.le_refl _) HB2.out), hidden (.inr ⟨a, bo, bn, bc, so, sn, sc, cs, rfl, rfl, HAL.out, ?_, HI.out.2.2.2.2, HBO.out, HPG.out.1.on HB2.out, HPG.out.2.on HB2.out⟩)⟩
   refine (is_iff HS.out.wf cs).2 ⟨HRM.out, ?_⟩
   rw [HLEN.out, HPB.out]
   exact hpl
  | false =>
   have hpl : ¬ PB = l := by simpa using hd
   have HNO : Hid (¬ ∃ cs, Is (l.getD 0 0) l.length cs l) := hidden (by
    rintro ⟨ds, h⟩
    obtain ⟨h1, h2⟩ := (is_iff HS.out.wf ds).1 h
    rw [HRM.out] at h1
    injection h1 with h1
    subst h1
    rw [HLEN.out, HPB.out] at h2
    exact hpl h2)
   go_wp2_with (first | (go_at_call 79; refine HBY.out.mono ?_; rintro e w2 ⟨g, rfl, hg, HBK, HB2⟩) | (go_at_call 86; refine same_call (equal6 _ _ _ _ _ _ PB l _ (HBK.out.sl HPL.out HPWF.out hnr) (HS.out.on (Nat.le_refl _) (bl_go HB1.out (Nat.le_refl _) HB2.out))) ?_; rw [hd]))
   go_ret2
   exact ⟨none, 60, rfl, hidden (bl_go HB1.out (Nat.le_refl _) HB2.out), hidden (.inl ⟨rfl, rfl, HNO.out⟩)⟩
end Go.Proofs.YtjpmfgoodcldcaaGreatDoor
