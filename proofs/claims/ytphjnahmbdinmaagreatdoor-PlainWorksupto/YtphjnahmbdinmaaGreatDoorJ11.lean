/- plain.read: what it reads of bytes. -/
import Derived.Test.YtphjnahmbdinmaaGreatDoorFo
namespace Go.Proofs.YtphjnahmbdinmaaGreatDoor
open Go.RowKit

/-- What read comes to. -/
def ReadTo (l : List Int) (w : World) (e : Ending) (w' : World) : Prop :=
  ∃ po, e = .returned (.pointer po) ∧ Hid (Below w.heap.size w w') ∧ Hid ((po = none ∧ readM l = none) ∨ ∃ a bo bn bc so sn sc cs, po = some ⟨a, 0, none⟩ ∧ w.heap.size ≤ a ∧ readM l = some cs ∧ PgAt w' a (l.getD 0 0) l.length bo bn bc so sn sc cs)
set_option maxRecDepth 100000 in
theorem ReadTo.no {l : List Int} {w w' : World} (hb : Below w.heap.size w w') (h : readM l = none) : ReadTo l w (.returned (.pointer none)) w' := ⟨none, rfl, hidden hb, hidden (.inl ⟨rfl, h⟩)⟩

/-- read, ahead of the body. -/
structure Rq (w u : World) (a : Nat) (k0 : Int) (n b off cap : Nat) (l : List Int) : Prop where
  row : PR u a k0 n (.slice none 0 0) (.slice none 0 0)
  sl : Sl u (some ⟨b, off, none⟩) n cap l
  be : Below w.heap.size w u
set_option maxRecDepth 100000 in
theorem Rq.on {w u v : World} {a : Nat} {k0 : Int} {n b off cap : Nat} {l : List Int} (h : Rq w u a k0 n b off cap l) (hb : Below u.heap.size u v) : Rq w v a k0 n b off cap l := ⟨box_on h.row hb, h.sl.on (Nat.le_refl _) hb, bl_go h.be (Nat.le_refl _) hb⟩
set_option maxRecDepth 100000 in
set_option maxHeartbeats 2000000 in
theorem read_tail (ao : Option Addr) (n cap : Nat) (l : List Int) (w : World) (hs : Sl w ao n cap l) (hn : pw n) (hk : isKd (l.getD 0 0)) :
    Calls Tryz.prog 62 #[.slice ao n cap] w fun e w' => ReadTo l w e w' := by
  have hn2 := pw_nat hn
  have hn3 := hn2.1
  have hn4 := hn2.2
  have hlen := hs.hlen
  have hcap := hs.hcap
  obtain ⟨b, off, rfl, hbl, hc⟩ : ∃ b off, ao = some ⟨b, off, none⟩ ∧ b < w.heap.size ∧ ∀ i, i < n → w.cell? ⟨b, off + i, none⟩ = some (.int .u8 (l.getD i 0)) := by
    rcases hs.hat with h | h
    · omega
    · exact h
  have c0 := hc 0 (by omega)
  rw [Nat.add_zero] at c0
  have hk0 := hs.wf.getD 0
  have HE : Hid (readM l = (if frst l < 4 + rdN l 2 2 * 2 ∨ (n : Int) - 4 < frst l then none else part (l.getD 0 0) n (rdN l 2 2).toNat none ((l.drop (frst l).toNat).take (n - 4 - (frst l).toNat)))) := by
    refine hidden ?_
    unfold readM
    rw [hlen, if_pos ⟨hn, hk⟩]
  have hN := rdN_bound l hs.wf 2 2
  have hF4 := rdN_bound l hs.wf 4 2
  obtain ⟨N, hNe⟩ := Int.eq_ofNat_of_zero_le hN.1
  obtain ⟨G, hGe⟩ := Int.eq_ofNat_of_zero_le hF4.1
  obtain ⟨E, hEe⟩ : ∃ E, n - 4 = E := ⟨_, rfl⟩
  have hEI : (n : Int) - 4 = (E : Int) := by omega
  obtain ⟨F, hFe⟩ : ∃ F : Nat, frst l = (F : Int) := by
    unfold frst
    rw [hlen]
    split
    · exact ⟨G, hGe⟩
    · exact ⟨E, hEI⟩
  have HFD : Hid (frst l = if 0 < N then (G : Int) else (E : Int)) := by
    refine hidden ?_
    unfold frst
    rw [hNe, hGe, hlen, hEI]
    simp
  rw [hNe, hFe, hEI, Int.toNat_natCast, Int.toNat_natCast] at HE
  rw [hFe] at HFD
  have hNb : N < 65536 := by omega
  have hGb : G < 65536 := by omega
  obtain ⟨k0, hk0e⟩ : ∃ k0, l.getD 0 0 = k0 := ⟨_, rfl⟩
  rw [hk0e] at c0 hk0 hk HE
  obtain ⟨a, ha⟩ : ∃ a, w.heap.size = a := ⟨_, rfl⟩
  have HS2 : Hid (∀ u, Rq w u a k0 n b off cap l → Calls Tryz.prog 81 #[.slice (some ⟨b, off, none⟩) n cap, .int .i64 2] u fun e u' => e = .returned (.int .i64 (N : Int)) ∧ Hid (Rq w u' a k0 n b off cap l)) := by
    refine hidden fun u hu => ?_
    have := shortAt_any u (some ⟨b, off, none⟩) n cap 2 l hu.sl (by omega)
    rw [hNe] at this
    refine (show Calls Tryz.prog 81 #[.slice (some ⟨b, off, none⟩) n cap, .int .i64 2] u _ from this).mono ?_
    rintro e u' ⟨rfl, q, rfl⟩
    exact ⟨rfl, hidden (hu.on (bl_dr (Below.refl _ _) _))⟩
  have HS4 : Hid (∀ u, Rq w u a k0 n b off cap l → Calls Tryz.prog 81 #[.slice (some ⟨b, off, none⟩) n cap, .int .i64 4] u fun e u' => e = .returned (.int .i64 (G : Int)) ∧ Hid (Rq w u' a k0 n b off cap l)) := by
    refine hidden fun u hu => ?_
    have := shortAt_any u (some ⟨b, off, none⟩) n cap 4 l hu.sl (by omega)
    rw [hGe] at this
    refine (show Calls Tryz.prog 81 #[.slice (some ⟨b, off, none⟩) n cap, .int .i64 4] u _ from this).mono ?_
    rintro e u' ⟨rfl, q, rfl⟩
    exact ⟨rfl, hidden (hu.on (bl_dr (Below.refl _ _) _))⟩
  have HR0 : Hid (Rq w (w.alloc (.cells #[.int .i64 k0, .int .i64 (n : Int), .slice none 0 0, .slice none 0 0] 56)) a k0 n b off cap l) := by
    refine hidden ⟨?_, hs.on (Nat.le_refl _) (bl_al (Below.refl _ _) (Nat.le_refl _) _), bl_al (Below.refl _ _) (Nat.le_refl _) _⟩
    rw [← ha]
    exact heap_alloc_last w _
  have d1 : decide (pw (n : Int)) = true := decide_eq_true hn
  have d2 : decide (isKd k0) = true := decide_eq_true hk
  have hw0 : IntKind.i64.wrap k0 = k0 := by rw [IntKind.wrap_i64]; omega
  have HKD := hidden hk
  have HPW := hidden hn
  have HWFL := hidden hs.wf
  have HKE := hidden hk0e
  have HLEN := hidden hlen
  have HEE := hidden hEe
  have bN : (N : Int) < 65536 := by omega
  have bE : (E : Int) ≤ 65536 := by omega
  have k01 := hk0.1
  have k02 := hk0.2
  have hn0 : (0 : Int) < (n : Int) := by omega
  clear hs hc hk hn hNe hGe hN hF4 hFe hk0e hlen hEe hk0 hn2
  go_enter Tryz.func62, Tryz.ntmps62
  go_wp2_with (first | (go_at_call 21; refine same_call (isSize_any _ _) ?_; rw [d1]) | (go_at_call 20; refine same_call (isKind_any _ _) ?_; rw [d2]) | (go_at_call 81; refine (HS2.out _ HR0.out).mono ?_; rintro e u1 ⟨rfl, HR1⟩; refine Hid.out ?_))
  apply hidden
  clear HS2 HR0 c0 hbl
  go_upto_if 36 with fail
  go_cut [5] (fun v u => v = .int .i64 (F : Int) ∧ Hid (Rq w u a k0 n b off cap l))
  case first =>
    by_cases h0 : 0 < N
    · have h0I : 0 < (N : Int) := by omega
      have HFG : Hid ((F : Int) = (G : Int)) := hidden (by rw [HFD.out, if_pos h0])
      have C4 := hidden (HS4.out _ HR1.out)
      clear h0I HS4 HR1 HE HFD ha d1 d2 hEI bN bE hNb hn0
      obtain ⟨M, rfl⟩ : ∃ M, N = M + 1 := ⟨N - 1, by omega⟩
      clear h0
      go_wp2_with (first | (go_at_call 81; refine C4.out.mono ?_; rintro e u2 ⟨rfl, HR2⟩; refine Hid.out ?_))
      apply hidden
      go_wp2
      go_meet
      exact ⟨by rw [HFG.out], HR2⟩
    · obtain rfl : N = 0 := by omega
      have HFG : Hid ((F : Int) = (E : Int)) := hidden (by rw [HFD.out]; simp)
      go_wp2
      go_meet
      exact ⟨by rw [HFG.out], HR1⟩
  obtain ⟨rfl, HR2⟩ := hcut
  obtain ⟨u2, hu2⟩ : ∃ u2, u2 = wc := ⟨_, rfl⟩
  subst hu2
  have bF : (F : Int) ≤ 65536 := by
    have := HFD.out
    split at this <;> omega
  clear HR1 HS4 HFD
  by_cases h1 : (F : Int) < 4 + (N : Int) * 2
  · have HNO : Hid (readM l = none) := hidden (by rw [HE.out, if_pos (.inl h1)])
    go_wp2
    go_ret
    exact ReadTo.no HR2.out.be HNO.out
  · by_cases h2 : (E : Int) < (F : Int)
    · have HNO : Hid (readM l = none) := hidden (by rw [HE.out, if_pos (.inr h2)])
      go_wp2
      go_ret
      exact ReadTo.no HR2.out.be HNO.out
    · have HRM : Hid (readM l = part k0 n N none ((l.drop F).take (E - F))) := hidden (by rw [HE.out, if_neg (by omega), HEE.out])
      clear HE
      have e1 : F ≤ E := by omega
      have e2 : (F : Int) ≤ (E : Int) := by omega
      have e3 : E ≤ cap := by omega
      have e4 : (E : Int) ≤ (cap : Int) := by omega
      have e5 : ¬ cap = F := by omega
      have HCB := hidden (copiedBytes_any (some ⟨b, off + F, none⟩) (E - F) (cap - F) _ u2 (HR2.out.sl.piece F (E - F) (cap - F) (by omega) (by omega)))
      obtain ⟨bn, hbn⟩ : ∃ bn, E - F = bn := ⟨_, rfl⟩
      obtain ⟨BD, hBD⟩ : ∃ BD, (l.drop F).take (E - F) = BD := ⟨_, rfl⟩
      rw [hBD] at HCB HRM
      have HBL : Hid (BD.length = bn) := hidden (by rw [← hBD, List.length_take, List.length_drop, HLEN.out]; omega)
      have HBW : Hid (Wf BD) := hidden (by rw [← hBD]; exact (HWFL.out.drop _).take _)
      rw [hbn] at HCB
      have hbn2 : bn ≤ 65536 := by omega
      obtain ⟨x0, x1, x2, x3⟩ := HR2.out.row.cells
      clear hBD
      go_wp2_with (first | (go_at_call 73; refine HCB.out.mono ?_; rintro e u3 ⟨rfl, HBK, HB3⟩; refine Hid.out ?_))
      apply hidden
      clear HCB x0 x1 x2 x3
      have HRW3 : Hid (PR u3 a k0 n (.slice none 0 0) (.slice none 0 0)) := hidden (box_on HR2.out.row HB3.out)
      obtain ⟨x0, x1, x2, x3⟩ := HRW3.out.cells
      have x4 := HRW3.out.free 2
      obtain ⟨gb, hgb⟩ : ∃ gb, u2.heap.size = gb := ⟨_, rfl⟩
      rw [hgb] at HBK ⊢
      have hga : ¬ gb = a := by
        have := lt_some HR2.out.row
        omega
      have HRW4 : Hid (PR (u3.setCell ⟨a, 2, none⟩ (.slice (some ⟨gb, 0, none⟩) bn bn)) a k0 n (.slice (some ⟨gb, 0, none⟩) bn bn) (.slice none 0 0)) := hidden (HRW3.out.set2 _)
      have HBK4 : Hid (Bk (u3.setCell ⟨a, 2, none⟩ (.slice (some ⟨gb, 0, none⟩) bn bn)) gb BD) := hidden (HBK.out.cf (Cf.set _ _ _ _) hga)
      have HBE4 : Hid (Below w.heap.size w (u3.setCell ⟨a, 2, none⟩ (.slice (some ⟨gb, 0, none⟩) bn bn))) := hidden ((bl_go HR2.out.be (Nat.le_refl _) HB3.out).setCell (p := ⟨a, 2, none⟩) (by simp only; omega) _)
      have HPT := hidden (parted_any N _ a k0 n gb bn BD _ HRW4.out HBK4.out HBL.out HBW.out HPW.out hbn2 (by omega))
      clear HRW3 HBK HB3 HR2 hgb hbn
      go_wp2_with (first | (go_at_call 82; refine HPT.out.mono ?_; rintro e u5 ⟨bb, rfl, HC5, HP5⟩; refine Hid.out ?_))
      apply hidden
      have HBE5 : Hid (Below w.heap.size w u5) := hidden (HBE4.out.trans (HC5.out.below HBE4.out.size (by intro i hi e; omega)))
      have hws : w.heap.size ≤ (u3.setCell ⟨a, 2, none⟩ (.slice (some ⟨gb, 0, none⟩) bn bn)).heap.size := HBE4.out.size
      cases bb with
      | true =>
        go_wp2
        go_ret
        rcases HP5.out with ⟨_, cs, vs, h3, h4, h5, h6⟩ | ⟨h3, _⟩
        · have hcl := (part_inv _ _ _ _ HBW.out h3).1
          have hb2 := (part_inv _ _ _ _ HBW.out h3).2.1
          obtain ⟨so, sc, rfl, hsn⟩ := h5.sln (by rw [sts_length, hcl]; omega)
          refine ⟨some ⟨a, 0, none⟩, rfl, HBE5, hidden (.inr ⟨a, some ⟨gb, 0, none⟩, bn, bn, so, (sts 0 cs).length, sc, cs, rfl, by omega, HRM.out.trans h3, ?_⟩)⟩
          rw [HKE.out, HLEN.out]
          exact ⟨h4, by rw [← hb2]; exact h6.sl HBL.out HBW.out (by omega), hsn⟩
        · cases h3
      | false =>
        go_wp2
        go_ret
        rcases HP5.out with ⟨h3, _⟩ | ⟨_, h3⟩
        · cases h3
        · exact ReadTo.no HBE5.out (HRM.out.trans h3)

set_option maxRecDepth 100000 in
theorem read_any (ao : Option Addr) (n cap : Nat) (l : List Int) (w : World) (hs : Sl w ao n cap l) :
    Calls Tryz.prog 62 #[.slice ao n cap] w fun e w' => ReadTo l w e w' := by
  by_cases hn : pw n
  · by_cases hk : isKd (l.getD 0 0)
    · exact read_tail ao n cap l w hs hn hk
    · have hn2 := pw_nat hn
      have hlen := hs.hlen
      obtain ⟨b, off, rfl, hbl, hc⟩ : ∃ b off, ao = some ⟨b, off, none⟩ ∧ b < w.heap.size ∧ ∀ i, i < n → w.cell? ⟨b, off + i, none⟩ = some (.int .u8 (l.getD i 0)) := by
        rcases hs.hat with h | h
        · omega
        · exact h
      have c0 := hc 0 (by omega)
      rw [Nat.add_zero] at c0
      have hk0 := hs.wf.getD 0
      have HNO : Hid (readM l = none) := hidden (by unfold readM; rw [if_neg (fun h => hk h.2)])
      have d1 : decide (pw (n : Int)) = true := decide_eq_true hn
      have d2 : decide (isKd (l.getD 0 0)) = false := decide_eq_false hk
      generalize l.getD 0 0 = k0 at *
      have hw0 : IntKind.i64.wrap k0 = k0 := by rw [IntKind.wrap_i64]; omega
      have hn0 : (0 : Int) < (n : Int) := by omega
      have k01 := hk0.1
      have k02 := hk0.2
      clear hs hc hk hn
      go_enter Tryz.func62, Tryz.ntmps62
      go_wp2_with (first | (go_at_call 21; refine same_call (isSize_any _ _) ?_; rw [d1]) | (go_at_call 20; refine same_call (isKind_any _ _) ?_; rw [d2]))
      go_ret
      exact ReadTo.no (Below.refl _ _) HNO.out
  · have hlen := hs.hlen
    have HNO : Hid (readM l = none) := hidden (by unfold readM; rw [hlen, if_neg (fun h => hn h.1)])
    have d1 : decide (pw (n : Int)) = false := decide_eq_false hn
    clear hs hn
    go_enter Tryz.func62, Tryz.ntmps62
    go_wp2_with (first | (go_at_call 21; refine same_call (isSize_any _ _) ?_; rw [d1]))
    go_ret
    exact ReadTo.no (Below.refl _ _) HNO.out
end Go.Proofs.YtphjnahmbdinmaaGreatDoor

/- plain.Open and plain.New. -/

namespace Go.Proofs.YtphjnahmbdinmaaGreatDoor
open Go.RowKit

set_option maxRecDepth 100000 in
theorem equal6 (ao bo : Option Addr) (n m c d : Nat) (la lb : List Int) (w : World) (ha : Sl w ao n c la) (hb : Sl w bo m d lb) :
    Calls Tryz.prog 63 #[.slice ao n c, .slice bo m d] w fun e w' => e = .returned (.bool (decide (la = lb))) ∧ w' = w := by
  have h1 := conv_sl ha
  have h2 := conv_sl hb
  have h3 := str_beq ha.wf hb.wf
  clear ha hb
  go_enter Tryz.func63, Tryz.ntmps63
  go_wp2
  go_ret
  exact ⟨rfl, rfl⟩

/-- What Open comes to. -/
def OpenTo (l : List Int) (w : World) (e : Ending) (w' : World) : Prop :=
  ∃ po k, e = .returned (.tuple #[.pointer po, .int .i64 k]) ∧ Hid (Below w.heap.size w w') ∧ Hid ((po = none ∧ k = 60 ∧ ¬ ∃ cs, Is (l.getD 0 0) l.length cs l) ∨ ∃ a bo bn bc so sn sc cs, po = some ⟨a, 0, none⟩ ∧ k = 0 ∧ w.heap.size ≤ a ∧ Is (l.getD 0 0) l.length cs l ∧ (∀ c ∈ cs, c.Wf) ∧ PgAt w' a (l.getD 0 0) l.length bo bn bc so sn sc cs)
set_option maxRecDepth 100000 in
set_option maxHeartbeats 1000000 in
theorem open_any (ao : Option Addr) (n cap : Nat) (l : List Int) (w : World) (hs : Sl w ao n cap l) (ht : Tab w) (h0 : 1 < w.heap.size) :
    Calls Tryz.prog 34 #[.slice ao n cap] w fun e w' => OpenTo l w e w' := by
  have HR := hidden (read_any ao n cap l w hs)
  have HS := hidden hs
  have HT := hidden ht
  clear hs ht
  go_enter Tryz.func34, Tryz.ntmps34
  go_wp2_with (first | (go_at_call 62; refine HR.out.mono ?_; rintro e w1 ⟨po, rfl, HB1, HQ⟩; refine Hid.out ?_))
  apply hidden
  clear HR
  rcases HQ.out with ⟨rfl, hno⟩ | ⟨a, bo, bn, bc, so, sn, sc, cs, rfl, hal, hrm, hpg⟩
  · have HNO : Hid (¬ ∃ cs, Is (l.getD 0 0) l.length cs l) := hidden (by
      rintro ⟨cs, h⟩
      have := (readM_of h).1
      rw [hno] at this
      cases this)
    clear HQ hno
    go_wp2
    go_ret2
    exact ⟨none, 60, rfl, HB1, hidden (.inl ⟨rfl, rfl, HNO.out⟩)⟩
  · have HRM := hidden hrm
    have HPG := hidden hpg
    have HAL := hidden hal
    obtain ⟨i1, i2, i3, i4, i5, _⟩ := readM_inv HS.out.wf hrm
    have HI := hidden (And.intro i1 (And.intro i2 (And.intro i3 (And.intro i4 i5))))
    have HBY := hidden (bytes_any w1 a _ _ bo bn bc so sn sc cs hpg i1 i2 i4 (HT.out.on HB1.out h0) (Nat.lt_of_lt_of_le h0 HB1.out.size) i5)
    clear hrm hpg hal HQ i1 i2 i3 i4 i5
    have hlen := HS.out.hlen
    have HLEN := hidden hlen
    rw [hlen] at HBY
    clear hlen
    have HPL : Hid ((pgB (l.getD 0 0) n cs).length = n) := hidden (by have := HI.out.2.2.2.1; rw [HLEN.out] at this; exact pgB_length _ _ _ this)
    have HPWF : Hid (Wf (pgB (l.getD 0 0) n cs)) := hidden (pgB_wf (by have := HI.out.1; unfold isKd at this; omega) HI.out.2.2.2.2)
    have hnr := HS.out.hroom
    obtain ⟨PB, hPB⟩ : ∃ PB, pgB (l.getD 0 0) n cs = PB := ⟨_, rfl⟩
    rw [hPB] at HBY HPL HPWF
    have HPB := hidden hPB
    clear hPB
    cases hd : decide (PB = l) with
    | true =>
      have hpl : PB = l := by simpa using hd
      go_wp2_with (first | (go_at_call 33; refine HBY.out.mono ?_; rintro e w2 ⟨g, rfl, hg, HBK, HB2⟩) | (go_at_call 63; refine same_call (equal6 _ _ _ _ _ _ PB l _ (HBK.out.sl HPL.out HPWF.out hnr) (HS.out.on (Nat.le_refl _) (bl_go HB1.out (Nat.le_refl _) HB2.out))) ?_; rw [hd]))
      go_ret2
      refine ⟨some ⟨a, 0, none⟩, 0, rfl, hidden (bl_go HB1.out (Nat.le_refl _) HB2.out), hidden (.inr ⟨a, bo, bn, bc, so, sn, sc, cs, rfl, rfl, HAL.out, ?_, HI.out.2.2.2.2, HPG.out.on HB2.out⟩)⟩
      refine (is_iff HS.out.wf cs).2 ⟨HRM.out, ?_⟩
      rw [HLEN.out, HPB.out]
      exact hpl
    | false =>
      have hpl : ¬ PB = l := by simpa using hd
      have HNO : Hid (¬ ∃ cs, Is (l.getD 0 0) l.length cs l) := hidden (by
        rintro ⟨ds, h⟩
        obtain ⟨h1, h2⟩ := (is_iff HS.out.wf ds).1 h
        rw [HRM.out] at h1
        injection h1 with h1
        subst h1
        rw [HLEN.out, HPB.out] at h2
        exact hpl h2)
      go_wp2_with (first | (go_at_call 33; refine HBY.out.mono ?_; rintro e w2 ⟨g, rfl, hg, HBK, HB2⟩) | (go_at_call 63; refine same_call (equal6 _ _ _ _ _ _ PB l _ (HBK.out.sl HPL.out HPWF.out hnr) (HS.out.on (Nat.le_refl _) (bl_go HB1.out (Nat.le_refl _) HB2.out))) ?_; rw [hd]))
      go_ret2
      exact ⟨none, 60, rfl, hidden (bl_go HB1.out (Nat.le_refl _) HB2.out), hidden (.inl ⟨rfl, rfl, HNO.out⟩)⟩

/-- What New comes to. -/
def NewTo (k n : Int) (w : World) (e : Ending) (w' : World) : Prop :=
  ∃ po c, e = .returned (.tuple #[.pointer po, .int .i64 c]) ∧ Hid (Below w.heap.size w w') ∧ Hid ((po = none ∧ c = 1 ∧ ¬ (isKd k ∧ pw n)) ∨ (po = some ⟨w.heap.size, 0, none⟩ ∧ c = 0 ∧ isKd k ∧ pw n ∧ w'.heap[w.heap.size]? = some (.cells #[.int .i64 k, .int .i64 n, .slice none 0 0, .slice none 0 0] 56 (0, 0))))
set_option maxRecDepth 100000 in
theorem new_any (k n : Int) (w : World) : Calls Tryz.prog 5 #[.int .i64 k, .int .i64 n] w fun e w' => NewTo k n w e w' := by
  cases h1 : decide (isKd k) with
  | false =>
    have hk : ¬ isKd k := by simpa using h1
    go_enter Tryz.func5, Tryz.ntmps5
    go_wp2_with (first | (go_at_call 20; refine same_call (isKind_any _ _) ?_; rw [h1]))
    go_ret2
    exact ⟨none, 1, rfl, Below.refl _ _, .inl ⟨rfl, rfl, fun h => hk h.1⟩⟩
  | true =>
    have hk : isKd k := by simpa using h1
    cases h2 : decide (pw n) with
    | false =>
      have hn : ¬ pw n := by simpa using h2
      have HN := hidden hn
      have HK := hidden hk
      clear hn hk
      go_enter Tryz.func5, Tryz.ntmps5
      go_wp2_with (first | (go_at_call 20; refine same_call (isKind_any _ _) ?_; rw [h1]) | (go_at_call 21; refine same_call (isSize_any _ _) ?_; rw [h2]))
      go_ret2
      exact ⟨none, 1, rfl, Below.refl _ _, .inl ⟨rfl, rfl, fun h => HN.out h.2⟩⟩
    | true =>
      have hn : pw n := by simpa using h2
      have HN := hidden hn
      have HK := hidden hk
      clear hn hk
      go_enter Tryz.func5, Tryz.ntmps5
      go_wp2_with (first | (go_at_call 20; refine same_call (isKind_any _ _) ?_; rw [h1]) | (go_at_call 21; refine same_call (isSize_any _ _) ?_; rw [h2]))
      go_ret2
      exact ⟨_, 0, rfl, (Below.refl _ _).alloc (Nat.le_refl _) _, .inr ⟨rfl, rfl, HK.out, HN.out, heap_alloc_last w _⟩⟩
end Go.Proofs.YtphjnahmbdinmaaGreatDoor

/- plain.Page.view: a cell of a page. -/

namespace Go.Proofs.YtphjnahmbdinmaaGreatDoor
open Go.RowKit

set_option maxRecDepth 100000 in
theorem bdy_drop (cs : List Cl) (i : Nat) : (bdy cs).drop (bdy (cs.take i)).length = bdy (cs.drop i) := by
  conv => lhs; rw [← List.take_append_drop i cs]
  rw [bdy_append, List.take_append_drop, List.drop_left]
set_option maxRecDepth 100000 in
theorem bdy_take_le (cs : List Cl) (i : Nat) : (bdy (cs.take i)).length ≤ (bdy cs).length := by
  conv => rhs; rw [← List.take_append_drop i cs]
  rw [bdy_append, List.length_append]
  omega
/-- A cell as a value, with what it holds. -/
def CellV (c : Cl) (w : World) (v : Value) : Prop :=
  ∃ ko kn kc vo vn vc, v = .agg #[.slice ko kn kc, .int .i64 c.kd, .slice vo vn vc, .int .i64 c.pg, .int .i64 c.ct] ∧ Hid (Sl w ko kn kc c.key) ∧ Hid (Sl w vo vn vc c.val)

set_option maxRecDepth 100000 in
set_option maxHeartbeats 1000000 in
theorem view_any (w : World) (a : Nat) (k : Int) (n : Nat) (bo : Option Addr) (bn bc : Nat) (so : Option Addr) (sn sc : Nat) (cs : List Cl) (h : PgAt w a k n bo bn bc so sn sc cs) (hfit : ∀ c ∈ cs, c.fit) (i : Nat) (hi : i < cs.length) (c : Cl) (hci : cs[i]? = some c) (hsz : bn ≤ 65536) :
    Calls Tryz.prog 45 #[.pointer (some ⟨a, 0, none⟩), .int .i64 (i : Int)] w fun e w' => ∃ ko kn kc vo vn vc, e = .returned (.agg #[.slice ko kn kc, .int .i64 c.kd, .slice vo vn vc, .int .i64 c.pg, .int .i64 c.ct]) ∧ Hid (Sl w' ko kn kc c.key) ∧ Hid (Sl w' vo vn vc c.val) ∧ Hid (Below w.heap.size w w') := by
  obtain ⟨hsn, hbn⟩ := h.sn_eq
  obtain ⟨c0, c1, c2, c3⟩ := h.cells
  have hcd : cs.drop i = c :: cs.drop (i + 1) := by
    rw [List.drop_eq_getElem_cons hi]
    congr 1
    rw [List.getElem?_eq_getElem hi] at hci
    exact Option.some.inj hci
  have hcf := hfit c (List.mem_of_getElem? hci)
  have hpc : pCell ((bdy cs).drop (bdy (cs.take i)).length) = some (c, bdy (cs.drop (i + 1))) := by
    rw [bdy_drop, hcd, bdy_cons, pCell_mid c _ hcf]
  have hlt : 0 < bn := by
    have h1 := congrArg List.length (bdy_drop cs i)
    rw [hcd, bdy_cons, List.length_drop, List.length_append] at h1
    have h2 := cB_length c
    have h3 : 2 < ctk c := by unfold ctk; split <;> omega
    omega
  obtain ⟨gb, off, rfl⟩ : ∃ gb off, bo = some ⟨gb, off, none⟩ := by
    rcases h.body.hat with h0 | ⟨b, off, e, _⟩
    · omega
    · exact ⟨b, off, e⟩
  obtain ⟨gs, offs, rfl, hgs, hcs⟩ : ∃ b off, so = some ⟨b, off, none⟩ ∧ b < w.heap.size ∧ ∀ j, j < sn → w.cell? ⟨b, off + j, none⟩ = some (.int .i64 (((sts 0 cs).getD j 0 : Nat) : Int)) := by
    rcases h.starts.hat with h0 | h0
    · omega
    · exact h0
  have cj := hcs i (by omega)
  rw [sts_get 0 i cs hi, Nat.zero_add] at cj
  have hst := bdy_take_le cs i
  obtain ⟨st, hste⟩ : ∃ st, (bdy (cs.take i)).length = st := ⟨_, rfl⟩
  rw [hste] at cj hpc hst
  have HPC := hidden hpc
  have HSL := hidden h.body
  have HPG := hidden h
  have i0 : (i : Int) < (sn : Int) := by omega
  have i1 : i < sn := by omega
  have hstb : st ≤ bn := by omega
  have HWF := hidden h.body.wf
  have hbx : ∀ o, Below w.heap.size w (w.alloc o) := fun o => bl_al (Below.refl _ _) (Nat.le_refl _) _
  have hbxx : ∀ o o', Below w.heap.size w ((w.alloc o).alloc o') := fun o o' => bl_al (hbx o) (Nat.le_refl _) _
  have HBXX := hidden hbxx
  have d2 := fun o => (h.on (hbx o)).cells.2.2.1
  have d3 := fun o => (h.on (hbx o)).cells.2.2.2
  have e2 := fun o o' => (h.on (hbxx o o')).cells.2.2.1
  have e3 := fun o o' => (h.on (hbxx o o')).cells.2.2.2
  have dj := fun o => ((hbx o).cell (p := ⟨gs, offs + i, none⟩) hgs).trans cj
  have ej := fun o o' => ((hbxx o o').cell (p := ⟨gs, offs + i, none⟩) hgs).trans cj
  have HSN := hidden hsn
  have HBN := hidden hbn
  clear h hpc hcs hcd hste hcf hfit hbx hbxx hsn hbn hci hi
  go_enter Tryz.func45, Tryz.ntmps45
  go_wp2_with fail
  go_region
  obtain ⟨g4, hg4⟩ : ∃ g4, w.heap.size = g4 := ⟨_, rfl⟩
  obtain ⟨x, hx⟩ : ∃ x, ((w.alloc (.cells #[.slice none 0 0, .int .i64 0, .slice none 0 0, .int .i64 0, .int .i64 0] 40)).alloc (.cells #[.slice (some ⟨gb, off, none⟩) bn bc, .int .i64 (st : Int), .bool false] 100)).drew = x := ⟨_, rfl⟩
  have hbx : Below w.heap.size w x := by rw [← hx]; exact (HBXX.out _ _).drew
  have HRD : Hid (Rd x (g4 + 1) (some ⟨gb, off, none⟩) bn bc st false) := by
    rw [← hx, ← hg4]
    have hz : (w.alloc (.cells #[.slice none 0 0, .int .i64 0, .slice none 0 0, .int .i64 0, .int .i64 0] 40)).heap.size = w.heap.size + 1 := by simp
    have := heap_alloc_last (w.alloc (.cells #[.slice none 0 0, .int .i64 0, .slice none 0 0, .int .i64 0, .int .i64 0] 40)) (.cells #[.slice (some ⟨gb, off, none⟩) bn bc, .int .i64 (st : Int), .bool false] 100)
    rw [hz] at this
    exact hidden this
  have HC4 : Hid (C5 x g4 (.slice none 0 0) (.int .i64 0) (.slice none 0 0) (.int .i64 0) (.int .i64 0)) := by
    rw [← hx, ← hg4]
    exact hidden ((Below.heap_alloc _ _ _ (by simp)).trans (heap_alloc_last w _))
  have HSX : Hid (Sl x (some ⟨gb, off, none⟩) bn bc (bdy cs)) := hidden (HSL.out.on (Nat.le_refl _) hbx)
  have HBX := hidden hbx
  rw [hx, hg4]
  have HCL := hidden (cell_any (bdy cs) x (g4 + 1) gb off bn bc st false HRD.out HSX.out hstb)
  have HG4 := hidden hg4
  clear hx hbx c0 c1 c2 c3 cj d2 d3 e2 e3 dj ej hg4
  go_wp2_with (first | (go_at_call 74; refine HCL.out.mono ?_; rintro e w2 ⟨ko, kn, kc, kd, vo, vn, vc, pg, ct, q, en, key, val, rfl, HR2, HCF, HQ⟩; refine Hid.out ?_))
  apply hidden
  obtain ⟨hks, hvs, _, _, hcase⟩ := HQ.out
  rw [HPC.out] at hcase
  rcases hcase with ⟨hcase, _⟩ | ⟨hcase, _⟩
  · injection hcase with hcase
    injection hcase with hc1 hc2
    subst hc1
    have HKS := hidden hks
    have HVS := hidden hvs
    have HC42 : Hid (C5 w2 g4 (.slice none 0 0) (.int .i64 0) (.slice none 0 0) (.int .i64 0) (.int .i64 0)) := hidden (HC4.out.cf HCF.out (by omega))
    obtain ⟨b0, b1, b2, b3, b4⟩ := HC42.out.cells
    obtain ⟨f0, f1, f2, f3, f4⟩ := HC42.out.free
    have HBE : Hid (Below w.heap.size w w2) := hidden (HBX.out.trans (HCF.out.below HBX.out.size (by have := HG4.out; intro i hi e; omega)))
    clear HQ hks hvs hc2 HCL HCF HR2 HRD HSX HC4 HBX HBXX
    go_wp2
    refine bodyPost_ret (results_cell_row rfl _ _ g4 40 #[.slice ko kn kc, .int .i64 kd, .slice vo vn vc, .int .i64 pg, .int .i64 ct] (0, 0) _ (by rfl) (HC42.out.put _ _ _ _ _) Tryz.underlying40 rfl sizeCell) rfl ?_
    have hf := put5_cf w2 g4 (.slice ko kn kc) (.int .i64 kd) (.slice vo vn vc) (.int .i64 pg) (.int .i64 ct)
    exact ⟨ko, kn, kc, vo, vn, vc, rfl, hidden (HKS.out.cf hf (HKS.out.apart5 HC42.out)), hidden (HVS.out.cf hf (HVS.out.apart5 HC42.out)), hidden (HBE.out.trans (hf.below HBE.out.size (by have := HG4.out; intro i hi e; omega)))⟩
  · cases hcase
end Go.Proofs.YtphjnahmbdinmaaGreatDoor
