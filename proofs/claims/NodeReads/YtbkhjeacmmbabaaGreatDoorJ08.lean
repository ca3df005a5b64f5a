import Derived.Test.YtbkhjeacmmbabaaGreatDoorJ07
import Derived.Deep.MidRow
import Derived.Deep.Upon
import Derived.Laws.IdiomCopy
namespace Go.Proofs.YtbkhjeacmmbabaaGreatDoor
set_option maxRecDepth 100000
set_option maxHeartbeats 2000000
open Go.RowKit
def ReadTo (l : List Int) (w : World) (e : Ending) (w' : World) : Prop :=
 ∃ po, e = .returned (.pointer po) ∧ Hid (Below w.heap.size w w') ∧ Hid ((po = none ∧ zav l = none) ∨ ∃ a bo bn bc so sn sc cs, po = some ⟨a, 0, none⟩ ∧ w.heap.size ≤ a ∧ zav l = some cs ∧ PgAt w' a (l.getD 0 0) l.length bo bn bc so sn sc cs)
theorem ReadTo.no {l : List Int} {w w' : World} (hb : Below w.heap.size w w') (h : zav l = none) : ReadTo l w (.returned (.pointer none)) w' := ⟨none, rfl, zaa hb, zaa (.inl ⟨rfl, h⟩)⟩
structure Rq (w u : World) (a : Nat) (k0 : Int) (n b off cap : Nat) (l : List Int) : Prop where
 row : PR u a k0 n (.slice none 0 0) (.slice none 0 0)
 sl : Sl u (some ⟨b, off, none⟩) n cap l
 be : Below w.heap.size w u
theorem Rq.on {w u v : World} {a : Nat} {k0 : Int} {n b off cap : Nat} {l : List Int} (h : Rq w u a k0 n b off cap l) (hb : Below u.heap.size u v) : Rq w v a k0 n b off cap l := ⟨zag h.row hb, h.sl.on Lr hb, zae h.be Lr hb⟩
theorem read_tail (ao : Option Addr) (n cap : Nat) (l : List Int) (w : World) (hs : Sl w ao n cap l) (hn : pw n) (hk : isKd (l.getD 0 0)) :
  Calls Tryz.prog 79 #[.slice ao n cap] w fun e w' => ReadTo l w e w' := by
 have hn2 := zao hn
 have hn3 := hn2.1
 have hn4 := hn2.2
 have hlen := hs.hlen
 have hcap := hs.hcap
 obtain ⟨b, off, rfl, hbl, hc⟩ : ∃ b off, ao = some ⟨b, off, none⟩ ∧ b < w.heap.size ∧ ∀ i, i < n → w.cell? ⟨b, off + i, none⟩ = some (.int .u8 (l.getD i 0)) := by
  rcases hs.hat with h | h
  ·omega
  ·exact h
 have c0 := hc 0 (by omega)
 rw [Nat.add_zero] at c0
 have hk0 := hs.wf.getD 0
 have HE : Hid (zav l = (if frst l < 4 + rdN l 2 2 * 2 ∨ (n : Int) - 4 < frst l then none else part (l.getD 0 0) n (rdN l 2 2).toNat none ((l.drop (frst l).toNat).take (n - 4 - (frst l).toNat)))) := by
  refine zaa ?_
  unfold zav
  rw [hlen, if_pos ⟨hn, hk⟩]
 have hN := zbh l hs.wf 2 2
 have hF4 := zbh l hs.wf 4 2
 obtain ⟨N, hNe⟩ := Int.eq_ofNat_of_zero_le hN.1
 obtain ⟨G, hGe⟩ := Int.eq_ofNat_of_zero_le hF4.1
 obtain ⟨E, hEe⟩ : ∃ E, n - 4 = E := ⟨_, rfl⟩
 have hEI : (n : Int) - 4 = (E : Int) := by omega
 obtain ⟨F, hFe⟩ : ∃ F : Nat, frst l = (F : Int) := by
  unfold frst
  rw [hlen]
  split
  ·exact ⟨G, hGe⟩
  ·exact ⟨E, hEI⟩
 have HFD : Hid (frst l = if 0 < N then (G : Int) else (E : Int)) := by
  refine zaa ?_
  unfold frst
  rw [hNe, hGe, hlen, hEI]
  simp
 rw [hNe, hFe, hEI, Int.toNat_natCast, Int.toNat_natCast] at HE
 rw [hFe] at HFD
 have hNb : N < 65536 := by omega
 have hGb : G < 65536 := by omega
 obtain ⟨k0, hk0e⟩ : ∃ k0, l.getD 0 0 = k0 := ⟨_, rfl⟩
 rw [hk0e] at c0 hk0 hk HE
 obtain ⟨a, ha⟩ : ∃ a, w.heap.size = a := ⟨_, rfl⟩
 have HS2 : Hid (∀ u, Rq w u a k0 n b off cap l → Calls Tryz.prog 121 #[.slice (some ⟨b, off, none⟩) n cap, .int .i64 2] u fun e u' => e = .returned (.int .i64 (N : Int)) ∧ Hid (Rq w u' a k0 n b off cap l)) := by
  refine zaa fun u hu => ?_
  have := zeb u (some ⟨b, off, none⟩) n cap 2 l hu.sl (by omega)
  rw [hNe] at this
  refine (show Calls Tryz.prog 121 #[.slice (some ⟨b, off, none⟩) n cap, .int .i64 2] u _ from this).mono ?_
  rintro e u' ⟨rfl, q, rfl⟩
  exact ⟨rfl, zaa (hu.on (zab Br _))⟩
 have HS4 : Hid (∀ u, Rq w u a k0 n b off cap l → Calls Tryz.prog 121 #[.slice (some ⟨b, off, none⟩) n cap, .int .i64 4] u fun e u' => e = .returned (.int .i64 (G : Int)) ∧ Hid (Rq w u' a k0 n b off cap l)) := by
  refine zaa fun u hu => ?_
  have := zeb u (some ⟨b, off, none⟩) n cap 4 l hu.sl (by omega)
  rw [hGe] at this
  refine (show Calls Tryz.prog 121 #[.slice (some ⟨b, off, none⟩) n cap, .int .i64 4] u _ from this).mono ?_
  rintro e u' ⟨rfl, q, rfl⟩
  exact ⟨rfl, zaa (hu.on (zab Br _))⟩
 have HR0 : Hid (Rq w (w.alloc (.cells #[.int .i64 k0, .int .i64 (n : Int), .slice none 0 0, .slice none 0 0] 118)) a k0 n b off cap l) := by
  refine zaa ⟨?_, hs.on Lr (zad Br Lr _), zad Br Lr _⟩
  rw [← ha]
  exact heap_alloc_last w _
 have d1 : decide (pw (n : Int)) = true := decide_eq_true hn
 have d2 : decide (isKd k0) = true := decide_eq_true hk
 have hw0 : IntKind.i64.wrap k0 = k0 := by rw [IntKind.wrap_i64]; omega
 have HKD := zaa hk
 have HPW := zaa hn
 have HWFL := zaa hs.wf
 have HKE := zaa hk0e
 have HLEN := zaa hlen
 have HEE := zaa hEe
 have bN : (N : Int) < 65536 := by omega
 have bE : (E : Int) ≤ 65536 := by omega
 have k01 := hk0.1
 have k02 := hk0.2
 have hn0 : (0 : Int) < (n : Int) := by omega
 clear hs hc hk hn hNe hGe hN hF4 hFe hk0e hlen hEe hk0 hn2
 go_enter Tryz.func79, Tryz.ntmps79
 go_wp2_with (first | (go_at_call 31; refine zac (zbi _ _) ?_; rw [d1]) | (go_at_call 78; refine zac (zbv _ _) ?_; rw [d2]) | (go_at_call 121; refine (HS2.out _ HR0.out).mono ?_; rintro e u1 ⟨rfl, HR1⟩; refine Hid.out ?_))
 apply zaa
 clear HS2 HR0 c0 hbl
 go_upto_if 36 with fail
 go_cut [5] (fun v u => v = .int .i64 (F : Int) ∧ Hid (Rq w u a k0 n b off cap l))
 case first =>
  by_cases h0 : 0 < N
  ·have h0I : 0 < (N : Int) := by omega
   have HFG : Hid ((F : Int) = (G : Int)) := zaa (by rw [HFD.out, if_pos h0])
   have C4 := zaa (HS4.out _ HR1.out)
   clear h0I HS4 HR1 HE HFD ha d1 d2 hEI bN bE hNb hn0
   obtain ⟨M, rfl⟩ : ∃ M, N = M + 1 := ⟨N - 1, by omega⟩
   clear h0
   go_wp2_with (go_at_call 121; refine C4.out.mono ?_; rintro e u2 ⟨rfl, HR2⟩; refine Hid.out ?_)
   apply zaa
   go_wp2
   go_meet
   exact ⟨by rw [HFG.out], HR2⟩
  ·obtain rfl : N = 0 := by omega
   have HFG : Hid ((F : Int) = (E : Int)) := zaa (by rw [HFD.out]; simp)
   go_wp2
   go_meet
   exact ⟨by rw [HFG.out], HR1⟩
 obtain ⟨rfl, HR2⟩ := hcut
 obtain ⟨u2, hu2⟩ : ∃ u2, u2 = wc := ⟨_, rfl⟩
 subst hu2
 have bF : (F : Int) ≤ 65536 := by
  have := HFD.out
  split at this <;> omega
 clear HR1 HS4 HFD
 by_cases h1 : (F : Int) < 4 + (N : Int) * 2
 ·have HNO : Hid (zav l = none) := zaa (by rw [HE.out, if_pos (.inl h1)])
  go_wp2
  go_ret
  exact ReadTo.no HR2.out.be HNO.out
 ·by_cases h2 : (E : Int) < (F : Int)
  ·have HNO : Hid (zav l = none) := zaa (by rw [HE.out, if_pos (.inr h2)])
   go_wp2
   go_ret
   exact ReadTo.no HR2.out.be HNO.out
  ·have HRM : Hid (zav l = part k0 n N none ((l.drop F).take (E - F))) := zaa (by rw [HE.out, if_neg (by omega), HEE.out])
   clear HE
   have e1 : F ≤ E := by omega
   have e2 : (F : Int) ≤ (E : Int) := by omega
   have e3 : E ≤ cap := by omega
   have e4 : (E : Int) ≤ (cap : Int) := by omega
   have e5 : ¬ cap = F := by omega
   have HCB := zaa (zea (some ⟨b, off + F, none⟩) (E - F) (cap - F) _ u2 (HR2.out.sl.piece F (E - F) (cap - F) (by omega) (by omega)))
   obtain ⟨bn, hbn⟩ : ∃ bn, E - F = bn := ⟨_, rfl⟩
   obtain ⟨BD, hBD⟩ : ∃ BD, (l.drop F).take (E - F) = BD := ⟨_, rfl⟩
   rw [hBD] at HCB HRM
   have HBL : Hid (BD.length = bn) := zaa (by rw [← hBD, zJ, zK, HLEN.out]; omega)
   have HBW : Hid (Wf BD) := zaa (by rw [← hBD]; exact (HWFL.out.drop _).take _)
   rw [hbn] at HCB
   have hbn2 : bn ≤ 65536 := by omega
   obtain ⟨x0, x1, x2, x3⟩ := HR2.out.row.cells
   clear hBD
   go_wp2_with (go_at_call 119; refine HCB.out.mono ?_; rintro e u3 ⟨rfl, HBK, HB3⟩; refine Hid.out ?_)
   apply zaa
   clear HCB x0 x1 x2 x3
   have HRW3 : Hid (PR u3 a k0 n (.slice none 0 0) (.slice none 0 0)) := zaa (zag HR2.out.row HB3.out)
   obtain ⟨x0, x1, x2, x3⟩ := HRW3.out.cells
   have x4 := HRW3.out.free 2
   obtain ⟨gb, hgb⟩ : ∃ gb, u2.heap.size = gb := ⟨_, rfl⟩
   rw [hgb] at HBK ⊢
   have hga : ¬ gb = a := by
    have := zaf HR2.out.row
    omega
   have HRW4 : Hid (PR (u3.setCell ⟨a, 2, none⟩ (.slice (some ⟨gb, 0, none⟩) bn bn)) a k0 n (.slice (some ⟨gb, 0, none⟩) bn bn) (.slice none 0 0)) := zaa (HRW3.out.set2 _)
   have HBK4 : Hid (Bk (u3.setCell ⟨a, 2, none⟩ (.slice (some ⟨gb, 0, none⟩) bn bn)) gb BD) := zaa (HBK.out.cf (Cf.set _ _ _ _) hga)
   have HBE4 : Hid (Below w.heap.size w (u3.setCell ⟨a, 2, none⟩ (.slice (some ⟨gb, 0, none⟩) bn bn))) := zaa ((zae HR2.out.be Lr HB3.out).setCell (p := ⟨a, 2, none⟩) (by simp only; omega) _)
   have HPT := zaa (parted_any N _ a k0 n gb bn BD _ HRW4.out HBK4.out HBL.out HBW.out HPW.out hbn2 (by omega))
   clear HRW3 HBK HB3 HR2 hgb hbn
   go_wp2_with (go_at_call 122; refine HPT.out.mono ?_; rintro e u5 ⟨bb, rfl, HC5, HP5⟩; refine Hid.out ?_)
   apply zaa
   have HBE5 : Hid (Below w.heap.size w u5) := zaa (HBE4.out.trans (HC5.out.below HBE4.out.size (by intro i hi e; omega)))
   have hws : w.heap.size ≤ (u3.setCell ⟨a, 2, none⟩ (.slice (some ⟨gb, 0, none⟩) bn bn)).heap.size := HBE4.out.size
   cases bb with
   | true =>
    go_wp2
    go_ret
    rcases HP5.out with ⟨_, cs, vs, h3, h4, h5, h6⟩ | ⟨h3, _⟩
    ·have hcl := (part_inv _ _ _ _ HBW.out h3).1
     have hb2 := (part_inv _ _ _ _ HBW.out h3).2.1
     obtain ⟨so, sc, rfl, hsn⟩ := h5.sln (by rw [zak, hcl]; omega)
     refine ⟨some ⟨a, 0, none⟩, rfl, HBE5, zaa (.inr ⟨a, some ⟨gb, 0, none⟩, bn, bn, so, (sts 0 cs).length, sc, cs, rfl, by omega, HRM.out.trans h3, ?_⟩)⟩
     rw [HKE.out, HLEN.out]
     exact ⟨h4, by rw [← hb2]; exact h6.sl HBL.out HBW.out (by omega), hsn⟩
    ·cases h3
   | false =>
    go_wp2
    go_ret
    rcases HP5.out with ⟨h3, _⟩ | ⟨_, h3⟩
    ·cases h3
    ·exact ReadTo.no HBE5.out (HRM.out.trans h3)
theorem read_any (ao : Option Addr) (n cap : Nat) (l : List Int) (w : World) (hs : Sl w ao n cap l) :
  Calls Tryz.prog 79 #[.slice ao n cap] w fun e w' => ReadTo l w e w' := by
 by_cases hn : pw n
 ·by_cases hk : isKd (l.getD 0 0)
  ·exact read_tail ao n cap l w hs hn hk
  ·have hn2 := zao hn
   have hlen := hs.hlen
   obtain ⟨b, off, rfl, hbl, hc⟩ : ∃ b off, ao = some ⟨b, off, none⟩ ∧ b < w.heap.size ∧ ∀ i, i < n → w.cell? ⟨b, off + i, none⟩ = some (.int .u8 (l.getD i 0)) := by
    rcases hs.hat with h | h
    ·omega
    ·exact h
   have c0 := hc 0 (by omega)
   rw [Nat.add_zero] at c0
   have hk0 := hs.wf.getD 0
   have HNO : Hid (zav l = none) := zaa (by unfold zav; rw [if_neg (fun h => hk h.2)])
   have d1 : decide (pw (n : Int)) = true := decide_eq_true hn
   have d2 : decide (isKd (l.getD 0 0)) = false := decide_eq_false hk
   generalize l.getD 0 0 = k0 at *
   have hw0 : IntKind.i64.wrap k0 = k0 := by rw [IntKind.wrap_i64]; omega
   have hn0 : (0 : Int) < (n : Int) := by omega
   have k01 := hk0.1
   have k02 := hk0.2
   clear hs hc hk hn
   go_enter Tryz.func79, Tryz.ntmps79
   go_wp2_with (first | (go_at_call 31; refine zac (zbi _ _) ?_; rw [d1]) | (go_at_call 78; refine zac (zbv _ _) ?_; rw [d2]))
   go_ret
   exact ReadTo.no Br HNO.out
 ·have hlen := hs.hlen
  have HNO : Hid (zav l = none) := zaa (by unfold zav; rw [hlen, if_neg (fun h => hn h.1)])
  have d1 : decide (pw (n : Int)) = false := decide_eq_false hn
  clear hs hn
  go_enter Tryz.func79, Tryz.ntmps79
  go_wp2_with (go_at_call 31; refine zac (zbi _ _) ?_; rw [d1])
  go_ret
  exact ReadTo.no Br HNO.out
theorem equal6 (ao bo : Option Addr) (n m c d : Nat) (la lb : List Int) (w : World) (ha : Sl w ao n c la) (hb : Sl w bo m d lb) :
  Calls Tryz.prog 80 #[.slice ao n c, .slice bo m d] w fun e w' => e = .returned (.bool (decide (la = lb))) ∧ w' = w := by
 have h1 := zaq ha
 have h2 := zaq hb
 have h3 := str_beq ha.wf hb.wf
 clear ha hb
 go_enter Tryz.func80, Tryz.ntmps80
 go_wp2
 go_ret
 exact ⟨rfl, rfl⟩
def OpenTo (l : List Int) (w : World) (e : Ending) (w' : World) : Prop :=
 ∃ po k, e = .returned (.tuple #[.pointer po, .int .i64 k]) ∧ Hid (Below w.heap.size w w') ∧ Hid ((po = none ∧ k = 60 ∧ ¬ ∃ cs, Is (l.getD 0 0) l.length cs l) ∨ ∃ a bo bn bc so sn sc cs, po = some ⟨a, 0, none⟩ ∧ k = 0 ∧ w.heap.size ≤ a ∧ Is (l.getD 0 0) l.length cs l ∧ (∀ c ∈ cs, c.Wf) ∧ PgAt w' a (l.getD 0 0) l.length bo bn bc so sn sc cs)
theorem open_any (ao : Option Addr) (n cap : Nat) (l : List Int) (w : World) (hs : Sl w ao n cap l) (ht : Tab w) (h0 : 1 < w.heap.size) :
  Calls Tryz.prog 41 #[.slice ao n cap] w fun e w' => OpenTo l w e w' := by
 have HR := zaa (read_any ao n cap l w hs)
 have HS := zaa hs
 have HT := zaa ht
 clear hs ht
 go_enter Tryz.func41, Tryz.ntmps41
 go_wp2_with (go_at_call 79; refine HR.out.mono ?_; rintro e w1 ⟨po, rfl, HB1, HQ⟩; refine Hid.out ?_)
 apply zaa
 clear HR
 rcases HQ.out with ⟨rfl, hno⟩ | ⟨a, bo, bn, bc, so, sn, sc, cs, rfl, hal, hrm, hpg⟩
 ·have HNO : Hid (¬ ∃ cs, Is (l.getD 0 0) l.length cs l) := zaa (by
   rintro ⟨cs, h⟩
   have := (readM_of h).1
   rw [hno] at this
   cases this)
  clear HQ hno
  go_wp2
  go_ret2
  exact ⟨none, 60, rfl, HB1, zaa (.inl ⟨rfl, rfl, HNO.out⟩)⟩
 ·have HRM := zaa hrm
  have HPG := zaa hpg
  have HAL := zaa hal
  obtain ⟨i1, i2, i3, i4, i5, _⟩ := readM_inv HS.out.wf hrm
  have HI := zaa (And.intro i1 (And.intro i2 (And.intro i3 (And.intro i4 i5))))
  have HBY := zaa (bytes_any w1 a _ _ bo bn bc so sn sc cs hpg i1 i2 i4 (HT.out.on HB1.out h0) (zO h0 HB1.out.size) i5)
  clear hrm hpg hal HQ i1 i2 i3 i4 i5
  have hlen := HS.out.hlen
  have HLEN := zaa hlen
  rw [hlen] at HBY
  clear hlen
  have HPL : Hid ((pgB (l.getD 0 0) n cs).length = n) := zaa (by have := HI.out.2.2.2.1; rw [HLEN.out] at this; exact zdq _ _ _ this)
  have HPWF : Hid (Wf (pgB (l.getD 0 0) n cs)) := zaa (pgB_wf (by have := HI.out.1; unfold isKd at this; omega) HI.out.2.2.2.2)
  have hnr := HS.out.hroom
  obtain ⟨PB, hPB⟩ : ∃ PB, pgB (l.getD 0 0) n cs = PB := ⟨_, rfl⟩
  rw [hPB] at HBY HPL HPWF
  have HPB := zaa hPB
  clear hPB
  cases hd : decide (PB = l) with
  | true =>
   have hpl : PB = l := by simpa using hd
   go_wp2_with (first | (go_at_call 74; refine HBY.out.mono ?_; rintro e w2 ⟨g, rfl, hg, HBK, HB2⟩) | (go_at_call 80; refine zac (equal6 _ _ _ _ _ _ PB l _ (HBK.out.sl HPL.out HPWF.out hnr) (HS.out.on Lr (zae HB1.out Lr HB2.out))) ?_; rw [hd]))
   go_ret2
   refine ⟨some ⟨a, 0, none⟩, 0, rfl, zaa (zae HB1.out Lr HB2.out), zaa (.inr ⟨a, bo, bn, bc, so, sn, sc, cs, rfl, rfl, HAL.out, ?_, HI.out.2.2.2.2, HPG.out.on HB2.out⟩)⟩
   refine (is_iff HS.out.wf cs).2 ⟨HRM.out, ?_⟩
   rw [HLEN.out, HPB.out]
   exact hpl
  | false =>
   have hpl : ¬ PB = l := by simpa using hd
   have HNO : Hid (¬ ∃ cs, Is (l.getD 0 0) l.length cs l) := zaa (by
    rintro ⟨ds, h⟩
    obtain ⟨h1, h2⟩ := (is_iff HS.out.wf ds).1 h
    rw [HRM.out] at h1
    injection h1 with h1
    subst h1
    rw [HLEN.out, HPB.out] at h2
    exact hpl h2)
   go_wp2_with (first | (go_at_call 74; refine HBY.out.mono ?_; rintro e w2 ⟨g, rfl, hg, HBK, HB2⟩) | (go_at_call 80; refine zac (equal6 _ _ _ _ _ _ PB l _ (HBK.out.sl HPL.out HPWF.out hnr) (HS.out.on Lr (zae HB1.out Lr HB2.out))) ?_; rw [hd]))
   go_ret2
   exact ⟨none, 60, rfl, zaa (zae HB1.out Lr HB2.out), zaa (.inl ⟨rfl, rfl, HNO.out⟩)⟩
def NewTo (k n : Int) (w : World) (e : Ending) (w' : World) : Prop :=
 ∃ po c, e = .returned (.tuple #[.pointer po, .int .i64 c]) ∧ Hid (Below w.heap.size w w') ∧ Hid ((po = none ∧ c = 1 ∧ ¬ (isKd k ∧ pw n)) ∨ (po = some ⟨w.heap.size, 0, none⟩ ∧ c = 0 ∧ isKd k ∧ pw n ∧ w'.heap[w.heap.size]? = some (.cells #[.int .i64 k, .int .i64 n, .slice none 0 0, .slice none 0 0] 118 (0, 0))))
theorem new_any (k n : Int) (w : World) : Calls Tryz.prog 39 #[.int .i64 k, .int .i64 n] w fun e w' => NewTo k n w e w' := by
 cases h1 : decide (isKd k) with
 | false =>
  have hk : ¬ isKd k := by simpa using h1
  go_enter Tryz.func39, Tryz.ntmps39
  go_wp2_with (go_at_call 78; refine zac (zbv _ _) ?_; rw [h1])
  go_ret2
  exact ⟨none, 1, rfl, Br, .inl ⟨rfl, rfl, fun h => hk h.1⟩⟩
 | true =>
  have hk : isKd k := by simpa using h1
  cases h2 : decide (pw n) with
  | false =>
   have hn : ¬ pw n := by simpa using h2
   have HN := zaa hn
   have HK := zaa hk
   clear hn hk
   go_enter Tryz.func39, Tryz.ntmps39
   go_wp2_with (first | (go_at_call 78; refine zac (zbv _ _) ?_; rw [h1]) | (go_at_call 31; refine zac (zbi _ _) ?_; rw [h2]))
   go_ret2
   exact ⟨none, 1, rfl, Br, .inl ⟨rfl, rfl, fun h => HN.out h.2⟩⟩
  | true =>
   have hn : pw n := by simpa using h2
   have HN := zaa hn
   have HK := zaa hk
   clear hn hk
   go_enter Tryz.func39, Tryz.ntmps39
   go_wp2_with (first | (go_at_call 78; refine zac (zbv _ _) ?_; rw [h1]) | (go_at_call 31; refine zac (zbi _ _) ?_; rw [h2]))
   go_ret2
   exact ⟨_, 0, rfl, Br.alloc Lr _, .inr ⟨rfl, rfl, HK.out, HN.out, heap_alloc_last w _⟩⟩
theorem bdy_drop (cs : List Cl) (i : Nat) : (bdy cs).drop (bdy (cs.take i)).length = bdy (cs.drop i) := by
 conv => lhs; rw [← List.take_append_drop i cs]
 rw [zbl, List.take_append_drop, List.drop_left]
theorem zcj (cs : List Cl) (i : Nat) : (bdy (cs.take i)).length ≤ (bdy cs).length := by
 conv => rhs; rw [← List.take_append_drop i cs]
 rw [zbl, zG]
 omega
theorem view_any (w : World) (a : Nat) (k : Int) (n : Nat) (bo : Option Addr) (bn bc : Nat) (so : Option Addr) (sn sc : Nat) (cs : List Cl) (h : PgAt w a k n bo bn bc so sn sc cs) (hfit : ∀ c ∈ cs, c.fit) (i : Nat) (hi : i < cs.length) (c : Cl) (hci : cs[i]? = some c) (hsz : bn ≤ 65536) :
  Calls Tryz.prog 77 #[.pointer (some ⟨a, 0, none⟩), .int .i64 (i : Int)] w fun e w' => ∃ ko kn kc vo vn vc, e = .returned (.agg #[.slice ko kn kc, .int .i64 c.kd, .slice vo vn vc, .int .i64 c.pg, .int .i64 c.ct]) ∧ Hid (Sl w' ko kn kc c.key) ∧ Hid (Sl w' vo vn vc c.val) ∧ Hid (Below w.heap.size w w') := by
 obtain ⟨hsn, hbn⟩ := h.sn_eq
 obtain ⟨c0, c1, c2, c3⟩ := h.cells
 have hcd : cs.drop i = c :: cs.drop (i + 1) := by
  rw [List.drop_eq_getElem_cons hi]
  congr 1
  rw [zI hi] at hci
  exact Option.some.inj hci
 have hcf := hfit c (List.mem_of_getElem? hci)
 have hpc : zaj ((bdy cs).drop (bdy (cs.take i)).length) = some (c, bdy (cs.drop (i + 1))) := by
  rw [bdy_drop, hcd, zbu, pCell_mid c _ hcf]
 have hlt : 0 < bn := by
  have h1 := congrArg List.length (bdy_drop cs i)
  rw [hcd, zbu, zK, zG] at h1
  have h2 := cB_length c
  have h3 : 2 < ctk c := by unfold ctk; split <;> omega
  omega
 obtain ⟨gb, off, rfl⟩ : ∃ gb off, bo = some ⟨gb, off, none⟩ := by
  rcases h.body.hat with h0 | ⟨b, off, e, _⟩
  ·omega
  ·exact ⟨b, off, e⟩
 obtain ⟨gs, offs, rfl, hgs, hcs⟩ : ∃ b off, so = some ⟨b, off, none⟩ ∧ b < w.heap.size ∧ ∀ j, j < sn → w.cell? ⟨b, off + j, none⟩ = some (.int .i64 (((sts 0 cs).getD j 0 : Nat) : Int)) := by
  rcases h.starts.hat with h0 | h0
  ·omega
  ·exact h0
 have cj := hcs i (by omega)
 rw [zch 0 i cs hi, Nat.zero_add] at cj
 have hst := zcj cs i
 obtain ⟨st, hste⟩ : ∃ st, (bdy (cs.take i)).length = st := ⟨_, rfl⟩
 rw [hste] at cj hpc hst
 have HPC := zaa hpc
 have HSL := zaa h.body
 have HPG := zaa h
 have i0 : (i : Int) < (sn : Int) := by omega
 have i1 : i < sn := by omega
 have hstb : st ≤ bn := by omega
 have HWF := zaa h.body.wf
 have hbx : ∀ o, Below w.heap.size w (w.alloc o) := fun o => zad Br Lr _
 have hbxx : ∀ o o', Below w.heap.size w ((w.alloc o).alloc o') := fun o o' => zad (hbx o) Lr _
 have HBXX := zaa hbxx
 have d2 := fun o => (h.on (hbx o)).cells.2.2.1
 have d3 := fun o => (h.on (hbx o)).cells.2.2.2
 have e2 := fun o o' => (h.on (hbxx o o')).cells.2.2.1
 have e3 := fun o o' => (h.on (hbxx o o')).cells.2.2.2
 have dj := fun o => ((hbx o).cell (p := ⟨gs, offs + i, none⟩) hgs).trans cj
 have ej := fun o o' => ((hbxx o o').cell (p := ⟨gs, offs + i, none⟩) hgs).trans cj
 have HSN := zaa hsn
 have HBN := zaa hbn
 clear h hpc hcs hcd hste hcf hfit hbx hbxx hsn hbn hci hi
 go_enter Tryz.func77, Tryz.ntmps77
 go_wp2_with fail
 go_region
 obtain ⟨g4, hg4⟩ : ∃ g4, w.heap.size = g4 := ⟨_, rfl⟩
 obtain ⟨x, hx⟩ : ∃ x, ((w.alloc (.cells #[.slice none 0 0, .int .i64 0, .slice none 0 0, .int .i64 0, .int .i64 0] 50)).alloc (.cells #[.slice (some ⟨gb, off, none⟩) bn bc, .int .i64 (st : Int), .bool false] 151)).drew = x := ⟨_, rfl⟩
 have hbx : Below w.heap.size w x := by rw [← hx]; exact (HBXX.out _ _).drew
 have HRD : Hid (Rd x (g4 + 1) (some ⟨gb, off, none⟩) bn bc st false) := by
  rw [← hx, ← hg4]
  have hz : (w.alloc (.cells #[.slice none 0 0, .int .i64 0, .slice none 0 0, .int .i64 0, .int .i64 0] 50)).heap.size = w.heap.size + 1 := by simp
  have := heap_alloc_last (w.alloc (.cells #[.slice none 0 0, .int .i64 0, .slice none 0 0, .int .i64 0, .int .i64 0] 50)) (.cells #[.slice (some ⟨gb, off, none⟩) bn bc, .int .i64 (st : Int), .bool false] 151)
  rw [hz] at this
  exact zaa this
 have HC4 : Hid (C5 x g4 (.slice none 0 0) (.int .i64 0) (.slice none 0 0) (.int .i64 0) (.int .i64 0)) := by
  rw [← hx, ← hg4]
  exact zaa ((Below.heap_alloc _ _ _ (by simp)).trans (heap_alloc_last w _))
 have HSX : Hid (Sl x (some ⟨gb, off, none⟩) bn bc (bdy cs)) := zaa (HSL.out.on Lr hbx)
 have HBX := zaa hbx
 rw [hx, hg4]
 have HCL := zaa (cell_any (bdy cs) x (g4 + 1) gb off bn bc st false HRD.out HSX.out hstb)
 have HG4 := zaa hg4
 clear hx hbx c0 c1 c2 c3 cj d2 d3 e2 e3 dj ej hg4
 go_wp2_with (go_at_call 120; refine HCL.out.mono ?_; rintro e w2 ⟨ko, kn, kc, kd, vo, vn, vc, pg, ct, q, en, key, val, rfl, HR2, HCF, HQ⟩; refine Hid.out ?_)
 apply zaa
 obtain ⟨hks, hvs, _, _, hcase⟩ := HQ.out
 rw [HPC.out] at hcase
 rcases hcase with ⟨hcase, _⟩ | ⟨hcase, _⟩
 ·injection hcase with hcase
  injection hcase with hc1 hc2
  subst hc1
  have HKS := zaa hks
  have HVS := zaa hvs
  have HC42 : Hid (C5 w2 g4 (.slice none 0 0) (.int .i64 0) (.slice none 0 0) (.int .i64 0) (.int .i64 0)) := zaa (HC4.out.cf HCF.out (by omega))
  obtain ⟨b0, b1, b2, b3, b4⟩ := HC42.out.cells
  obtain ⟨f0, f1, f2, f3, f4⟩ := HC42.out.free
  have HBE : Hid (Below w.heap.size w w2) := zaa (HBX.out.trans (HCF.out.below HBX.out.size (by have := HG4.out; intro i hi e; omega)))
  clear HQ hks hvs hc2 HCL HCF HR2 HRD HSX HC4 HBX HBXX
  go_wp2
  refine bodyPost_ret (results_cell_row rfl _ _ g4 50 #[.slice ko kn kc, .int .i64 kd, .slice vo vn vc, .int .i64 pg, .int .i64 ct] (0, 0) _ (by rfl) (HC42.out.put _ _ _ _ _) Tryz.underlying50 rfl zal) rfl ?_
  have hf := zas w2 g4 (.slice ko kn kc) (.int .i64 kd) (.slice vo vn vc) (.int .i64 pg) (.int .i64 ct)
  exact ⟨ko, kn, kc, vo, vn, vc, rfl, zaa (HKS.out.cf hf (HKS.out.apart5 HC42.out)), zaa (HVS.out.cf hf (HVS.out.apart5 HC42.out)), zaa (HBE.out.trans (hf.below HBE.out.size (by have := HG4.out; intro i hi e; omega)))⟩
 ·cases hcase
def CopTo (key val : List Int) (kn : Nat) (kd : Int) (vn : Nat) (pg ct : Int) (w : World) (e : Ending) (w' : World) : Prop :=
 ∃ g1 g2, e = .returned (.agg #[.slice (some ⟨g1, 0, none⟩) kn kn, .int .i64 kd, .slice (some ⟨g2, 0, none⟩) vn vn, .int .i64 pg, .int .i64 ct]) ∧ Hid (Bk w' g1 key ∧ Bk w' g2 val ∧ w.heap.size ≤ g1 ∧ w.heap.size ≤ g2 ∧ g1 ≠ g2) ∧ Hid (Below w.heap.size w w')
theorem Bk.apart5 {w : World} {g h : Nat} {l : List Int} {x0 x1 x2 x3 x4 : Value} (hb : Bk w g l) (hc : C5 w h x0 x1 x2 x3 x4) : ¬ g = h := by
 rintro rfl
 unfold Bk at hb
 unfold C5 at hc
 rw [hb] at hc
 simp at hc
theorem copied_any (ka : Option Addr) (kn kc : Nat) (kd : Int) (va : Option Addr) (vn vc : Nat) (pg ct : Int) (key val : List Int) (w : World) (hk : Sl w ka kn kc key) (hv : Sl w va vn vc val) :
  Calls Tryz.prog 76 #[.agg #[.slice ka kn kc, .int .i64 kd, .slice va vn vc, .int .i64 pg, .int .i64 ct]] w fun e w' => CopTo key val kn kd vn pg ct w e w' := by
 obtain ⟨s, hs⟩ : ∃ s, w.heap.size = s := ⟨_, rfl⟩
 obtain ⟨x, hx⟩ : ∃ x, (w.alloc (.cells #[.slice ka kn kc, .int .i64 kd, .slice va vn vc, .int .i64 pg, .int .i64 ct] 50)).alloc (.cells #[.slice none 0 0, .int .i64 0, .slice none 0 0, .int .i64 0, .int .i64 0] 50) = x := ⟨_, rfl⟩
 have hbx : Below w.heap.size w x := by rw [← hx]; exact zad (zad Br Lr _) Lr _
 have HBOX : Hid (C5 x s (.slice ka kn kc) (.int .i64 kd) (.slice va vn vc) (.int .i64 pg) (.int .i64 ct)) := by
  rw [← hx, ← hs]
  exact zaa ((Below.heap_alloc _ _ _ (by simp)).trans (heap_alloc_last w _))
 have HRES : Hid (C5 x (s + 1) (.slice none 0 0) (.int .i64 0) (.slice none 0 0) (.int .i64 0) (.int .i64 0)) := by
  rw [← hx, ← hs]
  have hz : (w.alloc (.cells #[.slice ka kn kc, .int .i64 kd, .slice va vn vc, .int .i64 pg, .int .i64 ct] 50)).heap.size = w.heap.size + 1 := by simp
  have := heap_alloc_last (w.alloc (.cells #[.slice ka kn kc, .int .i64 kd, .slice va vn vc, .int .i64 pg, .int .i64 ct] 50)) (.cells #[.slice none 0 0, .int .i64 0, .slice none 0 0, .int .i64 0, .int .i64 0] 50)
  rw [hz] at this
  exact zaa this
 have HK := zaa (hk.on Lr hbx)
 have HV := zaa (hv.on Lr hbx)
 have HBX := zaa hbx
 have hxs : x.heap.size = s + 2 := by rw [← hx, ← hs]; simp
 have HXS := zaa hxs
 have C1 : Hid (∀ u, Below x.heap.size x u → Calls Tryz.prog 119 #[.slice ka kn kc] u fun e u' => ∃ g, e = .returned (.slice (some ⟨g, 0, none⟩) kn kn) ∧ Hid (Bk u' g key ∧ x.heap.size ≤ g) ∧ Hid (Below x.heap.size x u') ∧ (u'.cell? ⟨s, 0, none⟩ = some (.slice ka kn kc) ∧ u'.cell? ⟨s, 1, none⟩ = some (.int .i64 kd) ∧ u'.cell? ⟨s, 2, none⟩ = some (.slice va vn vc) ∧ u'.cell? ⟨s, 3, none⟩ = some (.int .i64 pg) ∧ u'.cell? ⟨s, 4, none⟩ = some (.int .i64 ct))) := by
  refine zaa fun u hu => (zea ka kn kc key u (HK.out.on Lr hu)).mono ?_
  rintro e u' ⟨rfl, hb, hbe⟩
  have hb2 := zae hu Lr hbe.out
  exact ⟨u.heap.size, rfl, zaa ⟨hb.out, hu.size⟩, zaa hb2, (show C5 u' s (.slice ka kn kc) (.int .i64 kd) (.slice va vn vc) (.int .i64 pg) (.int .i64 ct) from zag HBOX.out hb2).cells⟩
 have C2 : Hid (∀ u g1, Hid (Bk u g1 key ∧ x.heap.size ≤ g1) → Hid (Below x.heap.size x u) → Calls Tryz.prog 119 #[.slice va vn vc] u fun e u' => ∃ g, e = .returned (.slice (some ⟨g, 0, none⟩) vn vn) ∧ Hid (Bk u' g val ∧ Bk u' g1 key ∧ x.heap.size ≤ g ∧ x.heap.size ≤ g1 ∧ g1 ≠ g) ∧ Hid (Below x.heap.size x u') ∧ (u'.cell? ⟨s, 0, none⟩ = some (.slice ka kn kc) ∧ u'.cell? ⟨s, 1, none⟩ = some (.int .i64 kd) ∧ u'.cell? ⟨s, 2, none⟩ = some (.slice va vn vc) ∧ u'.cell? ⟨s, 3, none⟩ = some (.int .i64 pg) ∧ u'.cell? ⟨s, 4, none⟩ = some (.int .i64 ct)) ∧ (u'.frozen? ⟨s, 0, none⟩ = false ∧ u'.frozen? ⟨s, 1, none⟩ = false ∧ u'.frozen? ⟨s, 2, none⟩ = false ∧ u'.frozen? ⟨s, 3, none⟩ = false ∧ u'.frozen? ⟨s, 4, none⟩ = false)) := by
  refine zaa fun u g1 hg hu => (zea va vn vc val u (HV.out.on Lr hu.out)).mono ?_
  rintro e u' ⟨rfl, hb, hbe⟩
  have hb2 := zae hu.out Lr hbe.out
  have h5 : C5 u' s (.slice ka kn kc) (.int .i64 kd) (.slice va vn vc) (.int .i64 pg) (.int .i64 ct) := zag HBOX.out hb2
  exact ⟨u.heap.size, rfl, zaa ⟨hb.out, hg.out.1.on hbe.out, hu.out.size, hg.out.2, Nat.ne_of_lt (zaf hg.out.1)⟩, zaa hb2, h5.cells, h5.free⟩
 obtain ⟨c0, c1, c2, c3, c4⟩ := HBOX.out.cells
 clear hk hv hbx hxs
 go_enter Tryz.func76, Tryz.ntmps76
 go_wp2_with fail
 go_region_law (first
  | (go_simp; go_at_call 119; refine (C2.out _ g1 HG1 HB1).mono ?_; rintro e u2 ⟨g2, rfl, HG2, HB2, ⟨z0, z1, z2, z3, z4⟩, f0, f1, f2, f3, f4⟩)
  | (go_simp; go_at_call 119; refine (C1.out _ (by first | exact Br | exact Br.drew | exact zab Br _)).mono ?_; rintro e u1 ⟨g1, rfl, HG1, HB1, y0, y1, y2, y3, y4⟩))
 all_goals
  obtain ⟨y, hy⟩ : ∃ y, (u2.setCell ⟨s, 0, none⟩ (.slice (some ⟨g1, 0, none⟩) kn kn)).setCell ⟨s, 2, none⟩ (.slice (some ⟨g2, 0, none⟩) vn vn) = y := ⟨_, rfl⟩
  have hbox2 : C5 u2 s (.slice ka kn kc) (.int .i64 kd) (.slice va vn vc) (.int .i64 pg) (.int .i64 ct) := zag HBOX.out HB2.out
  have hres2 : C5 u2 (s + 1) (.slice none 0 0) (.int .i64 0) (.slice none 0 0) (.int .i64 0) (.int .i64 0) := zag HRES.out HB2.out
  have hcy : Cf (· = s) u2 y := by rw [← hy]; exact (Cf.set _ _ _ _).go (Cf.set _ _ _ _)
  have HBY : Hid (C5 y s (.slice (some ⟨g1, 0, none⟩) kn kn) (.int .i64 kd) (.slice (some ⟨g2, 0, none⟩) vn vn) (.int .i64 pg) (.int .i64 ct)) := by
   rw [← hy]
   exact zaa ((hbox2.set _).1.set _).2.2.1
  have HRY : Hid (C5 y (s + 1) (.slice none 0 0) (.int .i64 0) (.slice none 0 0) (.int .i64 0) (.int .i64 0)) := zaa (hres2.cf hcy (by omega))
  have HG1Y : Hid (Bk y g1 key) := zaa (HG2.out.2.1.cf hcy (HG2.out.2.1.apart5 hbox2))
  have HG2Y : Hid (Bk y g2 val) := zaa (HG2.out.1.cf hcy (HG2.out.1.apart5 hbox2))
  have HBEY : Hid (Below w.heap.size w y) := zaa ((HBX.out.trans (HB2.out.mono (HBX.out.size))).trans (hcy.below (zN HBX.out.size HB2.out.size) (by intro i hi e; omega)))
  rw [hy]
  clear hy hcy hbox2 hres2 y0 y1 y2 y3 y4 z0 z1 z2 z3 z4 f0 f1 f2 f3 f4 c0 c1 c2 c3 c4
  obtain ⟨c0, c1, c2, c3, c4⟩ := HBY.out.cells
  obtain ⟨b0, b1, b2, b3, b4⟩ := HRY.out.cells
  obtain ⟨f0, f1, f2, f3, f4⟩ := HRY.out.free
  go_wp2
  refine bodyPost_ret (results_cell_row rfl _ _ (s + 1) 50 #[.slice (some ⟨g1, 0, none⟩) kn kn, .int .i64 kd, .slice (some ⟨g2, 0, none⟩) vn vn, .int .i64 pg, .int .i64 ct] (0, 0) _ (by rfl) (HRY.out.put _ _ _ _ _) Tryz.underlying50 rfl zal) rfl ?_
  have hf := zas y (s + 1) (.slice (some ⟨g1, 0, none⟩) kn kn) (.int .i64 kd) (.slice (some ⟨g2, 0, none⟩) vn vn) (.int .i64 pg) (.int .i64 ct)
  obtain ⟨_, _, q3, q4, q5⟩ := HG2.out
  have := HXS.out
  exact ⟨g1, g2, rfl, zaa ⟨HG1Y.out.cf hf (HG1Y.out.apart5 HRY.out), HG2Y.out.cf hf (HG2Y.out.apart5 HRY.out), by omega, by omega, q5⟩, zaa (HBEY.out.trans (hf.below HBEY.out.size (by intro i hi e; omega)))⟩
def CAt (w : World) (b off : Nat) (c : Cl) : Prop :=
 ∃ ka kc va vc, w.cell? ⟨b, off, none⟩ = some (.slice ka c.key.length kc) ∧ w.cell? ⟨b, off + 1, none⟩ = some (.int .i64 c.kd) ∧ w.cell? ⟨b, off + 2, none⟩ = some (.slice va c.val.length vc) ∧ w.cell? ⟨b, off + 3, none⟩ = some (.int .i64 c.pg) ∧ w.cell? ⟨b, off + 4, none⟩ = some (.int .i64 c.ct) ∧ Sl w ka c.key.length kc c.key ∧ Sl w va c.val.length vc c.val
structure SlC (w : World) (ao : Option Addr) (n cap : Nat) (cs : List Cl) : Prop where
 hlen : cs.length = n
 hcap : n ≤ cap
 hroom : n ≤ 140737488355328
 hnil : ao = none → cap = 0
 hat : n = 0 ∨ ∃ b off, ao = some ⟨b, off, none⟩ ∧ b < w.heap.size ∧ ∀ i c, cs[i]? = some c → CAt w b (off + i * 5) c
theorem CAt.on {w w' : World} {b off : Nat} {c : Cl} (h : CAt w b off c) (hb : b < w.heap.size) (hB : Below w.heap.size w w') : CAt w' b off c := by
 obtain ⟨ka, kc, va, vc, h0, h1, h2, h3, h4, h5, h6⟩ := h
 exact ⟨ka, kc, va, vc, (hB.cell (p := ⟨b, off, none⟩) hb).trans h0, (hB.cell (p := ⟨b, off + 1, none⟩) hb).trans h1, (hB.cell (p := ⟨b, off + 2, none⟩) hb).trans h2, (hB.cell (p := ⟨b, off + 3, none⟩) hb).trans h3, (hB.cell (p := ⟨b, off + 4, none⟩) hb).trans h4, h5.on Lr hB, h6.on Lr hB⟩
theorem SlC.on {w w' : World} {ao : Option Addr} {n cap : Nat} {cs : List Cl} (h : SlC w ao n cap cs) (hB : Below w.heap.size w w') : SlC w' ao n cap cs := by
 refine ⟨h.hlen, h.hcap, h.hroom, h.hnil, ?_⟩
 rcases h.hat with h0 | ⟨b, off, e, hb, hc⟩
 ·exact .inl h0
 ·exact .inr ⟨b, off, e, zO hb hB.size, fun i c hi => (hc i c hi).on hb hB⟩
theorem SlC.wf {w : World} {ao : Option Addr} {n cap : Nat} {cs : List Cl} (h : SlC w ao n cap cs) : ∀ c ∈ cs, c.Wf := by
 intro c hc
 obtain ⟨i, hi, e⟩ := List.getElem_of_mem hc
 rcases h.hat with h0 | ⟨b, off, _, _, hcs⟩
 ·have := h.hlen; omega
 ·obtain ⟨_, _, _, _, _, _, _, _, _, h5, h6⟩ := hcs i c (by rw [zI hi, e])
  exact ⟨h5.wf, h6.wf⟩
def RowC (w : World) (b N : Nat) : Prop := ∃ cur : Array Value, w.heap[b]? = some (.cells cur 50 (0, 0)) ∧ cur.size = 5 * N
theorem RowC.cell {w : World} {b N : Nat} (h : RowC w b N) (j : Nat) (hj : j < 5 * N) : (w.cell? ⟨b, j, none⟩).isSome = true := by
 obtain ⟨cur, h1, h2⟩ := h
 simp [World.cell?, h1, h2, hj]
theorem RowC.free {w : World} {b N : Nat} (h : RowC w b N) (j : Nat) : w.frozen? ⟨b, j, none⟩ = false := by
 obtain ⟨cur, h1, h2⟩ := h
 simp [World.frozen?, h1]
theorem RowC.lt {w : World} {b N : Nat} (h : RowC w b N) : b < w.heap.size := by
 obtain ⟨cur, h1, _⟩ := h
 exact zaf h1
theorem RowC.on {w w' : World} {b N : Nat} (h : RowC w b N) (hb : Below w.heap.size w w') : RowC w' b N := by
 obtain ⟨cur, h1, h2⟩ := h
 exact ⟨cur, zag h1 hb, h2⟩
theorem RowC.set {w : World} {b N : Nat} (h : RowC w b N) (j : Nat) (v : Value) : RowC (w.setCell ⟨b, j, none⟩ v) b N := by
 obtain ⟨cur, h1, h2⟩ := h
 exact ⟨_, heap_setCell_same w b j cur _ v h1, by simp [h2]⟩
theorem RowC.sets {b N : Nat} : ∀ (vs : List Value) (j : Nat) (w : World), RowC w b N → RowC (w.setCells b j vs) b N
 | [], _, _, h => h
 | v :: r, j, _, h => RowC.sets r (j + 1) _ (h.set j v)
theorem RowC.there {w : World} {b N : Nat} (h : RowC w b N) {j : Nat} (hj : j + 5 ≤ 5 * N) : w.there b j 5 := fun i hi => ⟨h.cell (j + i) (by omega), h.free _⟩
theorem RowC.ne {w : World} {b N g : Nat} {l : List Int} (h : RowC w b N) (hk : Bk w g l) : ¬ g = b := by
 rintro rfl
 obtain ⟨cur, h1, _⟩ := h
 unfold Bk at hk
 rw [hk] at h1
 simp at h1
theorem oneCell5 (ka va : Option Addr) (kn kc vn vc : Nat) (kd pg ct : Int) : (#[.slice ka kn kc, .int .i64 kd, .slice va vn vc, .int .i64 pg, .int .i64 ct] : Array Value).all (·.oneCell') = true :=
 all_oneCell_toArray (cs := [.slice ka kn kc, .int .i64 kd, .slice va vn vc, .int .i64 pg, .int .i64 ct]) (by simp [Value.oneCell'])
theorem put_cell {ops : Array Oper} {rest : List Oper} {o : Oper} {a : Act} {w : World} {Q : Exit → Act → World → Prop} (hgd : o.guard = none) (p v : Operand)
  (ho : o.op = .store 50 p v) (b j N : Nat) (ka va : Option Addr) (kn kc vn vc : Nat) (kd pg ct : Int) (hr : RowC w b N) (hp : a.eval p = .pointer (some ⟨b, j, none⟩)) (hv : a.eval v = .agg #[.slice ka kn kc, .int .i64 kd, .slice va vn vc, .int .i64 pg, .int .i64 ct]) (hj : j + 5 ≤ 5 * N)
  (h : ∀ u, Hid (u = w.setCells b j [.slice ka kn kc, .int .i64 kd, .slice va vn vc, .int .i64 pg, .int .i64 ct]) → wpList Tryz.prog ops Q rest (a.put o.dst undef) u) : wpList Tryz.prog ops Q (o :: rest) a w :=
 wpList_store_mid hgd _ p v ho b j #[.slice ka kn kc, .int .i64 kd, .slice va vn vc, .int .i64 pg, .int .i64 ct] hp hv (hr.there hj) zal (oneCell5 ..) (h _ (zaa rfl))
theorem Bk.sets {w : World} {g b j : Nat} {l : List Int} {vs : List Value} (h : Bk w g l) (hg : ¬ g = b) : Bk (w.setCells b j vs) g l := (World.heap_setCells_other _ _ _ _ (zaf h) (by omega)).trans h
theorem infoC : (Tryz.prog.info? 50).map (fun i => (i.zero, i.size, i.bytes)) = some (some (.agg #[.slice none 0 0, .int .i64 0, .slice none 0 0, .int .i64 0, .int .i64 0]), 5, 72) := by kernel_rfl
theorem len_any (w : World) (a : Nat) (k : Int) (n : Nat) (bo : Option Addr) (bn bc : Nat) (so : Option Addr) (sn sc : Nat) (cs : List Cl) (h : PgAt w a k n bo bn bc so sn sc cs) :
  Calls Tryz.prog 75 #[.pointer (some ⟨a, 0, none⟩)] w fun e w' => e = .returned (.int .i64 (sn : Int)) ∧ w' = w := by
 obtain ⟨c0, c1, c2, c3⟩ := h.cells
 clear h
 go_enter Tryz.func75, Tryz.ntmps75
 go_wp2
 go_ret
 exact ⟨rfl, rfl⟩
theorem ctk_int (c : Cl) : (if c.kd = 1 then 7 + (c.key.length : Int) + (c.val.length : Int) else 13 + (c.key.length : Int)) = (ctk c : Int) := by
 unfold ctk
 split <;> simp
theorem szN_take (cs : List Cl) (i : Nat) (c : Cl) (h : cs[i]? = some c) : szN (cs.take (i + 1)) = szN (cs.take i) + ctk c := by
 have hi := (zH.1 h).1
 have e := (zH.1 h).2
 unfold szN
 rw [List.take_add_one, h]
 simp
 omega
theorem SlC.item {w : World} {ao : Option Addr} {n cap : Nat} {cs : List Cl} (h : SlC w ao n cap cs) (i : Nat) (hi : i < n) : ∃ b off c ka kc va vc, ao = some ⟨b, off, none⟩ ∧ b < w.heap.size ∧ cs[i]? = some c ∧
  w.cell? ⟨b, off + i * 5, none⟩ = some (.slice ka c.key.length kc) ∧ w.cell? ⟨b, off + i * 5 + 1, none⟩ = some (.int .i64 c.kd) ∧ w.cell? ⟨b, off + i * 5 + 2, none⟩ = some (.slice va c.val.length vc) ∧ w.cell? ⟨b, off + i * 5 + 3, none⟩ = some (.int .i64 c.pg) ∧ w.cell? ⟨b, off + i * 5 + 4, none⟩ = some (.int .i64 c.ct) ∧ Sl w ka c.key.length kc c.key ∧ Sl w va c.val.length vc c.val := by
 have hl := h.hlen
 rcases h.hat with h0 | ⟨b, off, e, hb, hc⟩
 ·omega
 ·obtain ⟨c, hci⟩ : ∃ c, cs[i]? = some c := ⟨_, zI (by omega)⟩
  obtain ⟨ka, kc, va, vc, h0⟩ := hc i c hci
  exact ⟨b, off, c, ka, kc, va, vc, e, hb, hci, h0⟩
theorem OwnN.nil (w : World) (B : Nat) : OwnN w B (.slice none 0 0) [] := World.ownsRow_nil w B 3 1
theorem app_slN {ops : Array Oper} {rest : List Oper} {o : Oper} {a : Act} {Q : Exit → Act → World → Prop} (w : World) (hgd : o.guard = none) (s x : Operand)
  (ho : o.op = .call { callee := .builtin .append, args := #[s, x], argTypes := #[116, 116] }) (B : Nat) (l news : List Nat) (v : Value) (b off n c : Nat) (hs : a.eval s = v) (hx : a.eval x = .slice (some ⟨b, off, none⟩) n c)
  (hown : OwnN w B v l) (hln : news.length = n) (hcs : ∀ i, i < n → w.cell? ⟨b, off + i, none⟩ = some (.int .i64 ((news.getD i 0 : Nat) : Int))) (hb : l.length + n ≤ 1000000) (hbase : B ≤ w.heap.size)
  (h : ∀ v' w', OwnN w' B v' (l ++ news) → Gr w v w' v' → wpList Tryz.prog ops Q rest (a.put o.dst v') w') : wpList Tryz.prog ops Q (o :: rest) a w := by
 obtain ⟨i0, hi, hz0, hz1, hz2⟩ := info_parts infoI
 refine wpList_append_own_at w hgd s x 116 ho B 3 i0 (.int .i64 0) 1 8 Tryz.underlying116 hi hz0 hz1 hz2 rfl (by decide) v l.length (NI l) hs hown ⟨b, off, none⟩ n c (NI news) hx (by simp [NI, hln])
  (fun j u hu => by
   have hj : j < news.length := by have := (zH.1 hu).1; simpa [NI] using this
   have e : u = .int .i64 ((news.getD j 0 : Nat) : Int) := by
    simp [NI, zI hj] at hu
    simp [List.getD, zI hj, ← hu]
   rw [Addr.add_lit, e]
   exact hcs j (by omega)) (NI_one news) (by unfold maxLen; omega) (by omega) hbase ?_
 intro v' w' h1 h2 _ h4
 refine h v' w' ?_ ⟨h2, h4.imp id fun e => ⟨_, e, Lr⟩⟩
 unfold OwnN
 rw [show NI (l ++ news) = NI l ++ NI news from by simp [NI], zG, hln]
 exact h1
theorem Sl.far {w u : World} {ao : Option Addr} {n cap : Nat} {l l' : List Int} {v : Value} (h : Sl w ao n cap l) (ho : OwnB u w.heap.size v l') : Far ao n v := by
 rcases h.hat with h0 | ⟨b, off, rfl, hb, _⟩
 ·exact .inl h0
 ·refine ho.far fun p hp => ?_
  injection hp with hp
  subst hp
  exact hb
theorem own_bn {w : World} {B C : Nat} {v u : Value} {l : List Int} {m : List Nat} (h : OwnB w B v l) (g : OwnN w C u m) : v.ownBlock = none ∨ v.ownBlock ≠ u.ownBlock := by
 unfold OwnB at h
 rcases h.2 with ⟨rfl, _⟩ | ⟨q, cap, cur, rfl, _, hh, _⟩
 ·exact .inl rfl
 ·right
  intro e
  exact g.apart hh (by decide) e.symm
theorem OwnN.be {w w' : World} {B : Nat} {v v' : Value} {l : List Nat} (h : OwnN w B v l) (hg : Gr w v w' v') (hB : B ≤ w.heap.size) : Below B w w' := zde h hB hg.grow
theorem OwnB.slice {w : World} {B : Nat} {v : Value} {l : List Int} (h : OwnB w B v l) : ∃ ao cap, v = .slice ao l.length cap := by
 unfold OwnB at h
 rcases h.2 with ⟨rfl, h0⟩ | ⟨g, cap, cur, rfl, _⟩
 ·exact ⟨none, 0, by rw [h0]⟩
 ·exact ⟨_, cap, rfl⟩
end Go.Proofs.YtbkhjeacmmbabaaGreatDoor
