import Derived.Test.YtjpmfgoodcldcaaGreatDoorJ20
import Derived.Lib.Overlaps
import Derived.Lib.SliceRun
import Derived.Lib.AppendZerosOnto
import Derived.Laws.IdiomCopy
import Derived.Deep.AppendSrc
namespace Go.Proofs.YtjpmfgoodcldcaaGreatDoor
set_option maxRecDepth 100000
open Go.RowKit
structure Fnd (cs : List Cl) (q : List Int) (r : Nat) : Prop where
 le : r ≤ cs.length
 lo : ∀ i c, i < r → cs[i]? = some c → kl c.key q
 hi : ∀ i c, r ≤ i → cs[i]? = some c → ¬ kl c.key q
def FindTo (cs : List Cl) (q : List Int) (w : World) (e : Ending) (w' : World) : Prop :=
 ∃ r : Nat, ∃ is : Bool, e = .returned (.tuple #[.int .i64 (r : Int), .bool is]) ∧ Hid (Below w.heap.size w w') ∧ Hid (Fnd cs q r ∧ (is = true ↔ ∃ c, cs[r]? = some c ∧ c.key = q))
set_option maxHeartbeats 2000000 in
theorem search_any (w : World) (a bx : Nat) (k : Int) (n : Nat) (bo : Option Addr) (bn bc : Nat) (so : Option Addr) (sn sc : Nat) (cs : List Cl) (h : PgAt w a k n bo bn bc so sn sc cs) (hchk : chk k n none cs = 0) (hn : (n : Int) ≤ 65536) (hsz : bn ≤ 65536) (hsn : sn ≤ 65536) (qo : Option Addr) (qn qc : Nat) (q : List Int) (hq : Sl w qo qn qc q) (hbx : w.cell? ⟨bx, 0, none⟩ = some (.pointer (some ⟨a, 0, none⟩))) (hbl : bx < w.heap.size) :
  Calls Tryz.prog 186 #[.slice so sn sc, .slice qo qn qc, .func (.func 187) #[] #[.pointer (some ⟨bx, 0, none⟩)]] w fun e w' => FindTo cs q w e w' := by
 have HPG := hidden h
 have HFIT : Hid (∀ c ∈ cs, c.fit) := hidden fun c hc => (chk_may hchk c hc).fit hn
 have HRS := hidden (chk_rise hchk)
 have HQ := hidden hq
 have HSN := hidden h.sn_eq.1
 have HBX := hidden hbx
 have HF : Hid (∀ u i c, Below w.heap.size w u → cs[i]? = some c → Calls Tryz.prog 187 #[.int .i64 (((sts 0 cs).getD i 0 : Nat) : Int), .slice qo qn qc, .pointer (some ⟨bx, 0, none⟩)] u fun e w' => e = .returned (.int .i64 (ordL c.key q)) ∧ Hid (Below u.heap.size u w')) :=
  hidden fun u i c hu hc => find1_any u a bx k n bo bn bc so sn sc cs (HPG.out.on hu) HFIT.out i c hc hsz qo qn qc q (HQ.out.on (Nat.le_refl _) hu) ((hu.cell (p := ⟨bx, 0, none⟩) hbl).trans hbx)
 clear h hchk hq hbx
 go_enter Tryz.func186, Tryz.ntmps186
 go_wp2_with fail
 go_loopw [9, 10] (fun s9 s10 wr => ∃ lo hi : Nat, s9 = .int .i64 lo ∧ s10 = .int .i64 hi ∧ lo ≤ hi ∧ hi ≤ sn ∧ Hid (Below w.heap.size w wr) ∧ Hid ((∀ i c, i < lo → cs[i]? = some c → kl c.key q) ∧ ∀ i c, hi ≤ i → cs[i]? = some c → ¬ kl c.key q)) (fun s9 s10 _ => (intOf s10).toNat - (intOf s9).toNat)
 case atStart => exact ⟨0, sn, rfl, rfl, by omega, by omega, hidden (Below.refl _ _), hidden ⟨fun i c hi => by omega, fun i c hi hc => by
  have := (List.getElem?_eq_some_iff.1 hc).1
  have := HSN.out
  omega⟩⟩
 case round =>
  obtain ⟨lo, hi, rfl, rfl, hlh, hhs, HB, HI⟩ := hrel
  have b1 : (lo : Int) ≤ 65536 := by omega
  have b2 : (hi : Int) ≤ 65536 := by omega
  have hst := (HPG.out.on HB.out).starts
  by_cases hlt : lo < hi
  ·have hltI : (lo : Int) < (hi : Int) := by omega
   obtain ⟨gs, offs, rfl, hgs, hcs⟩ : ∃ b off, so = some ⟨b, off, none⟩ ∧ b < wr.heap.size ∧ ∀ j, j < sn → wr.cell? ⟨b, off + j, none⟩ = some (.int .i64 (((sts 0 cs).getD j 0 : Nat) : Int)) := by
    rcases hst.hat with h0 | h0
    ·omega
    ·exact h0
   obtain ⟨m, hm⟩ : ∃ m, (lo + hi) / 2 = m := ⟨_, rfl⟩
   have hmI : ((lo : Int) + (hi : Int)) / 2 = (m : Int) := by omega
   have m1 : m < sn := by omega
   have m2 : (m : Int) < (sn : Int) := by omega
   have m3 : (m : Int) ≤ 65536 := by omega
   have cj := hcs m m1
   obtain ⟨c, hc⟩ : ∃ c, cs[m]? = some c := ⟨_, List.getElem?_eq_getElem (by have := HSN.out; omega)⟩
   have HFM := hidden (HF.out wr m c HB.out hc)
   have HC := hidden hc
   have HML : Hid (lo ≤ m ∧ m < hi) := hidden (by omega)
   obtain ⟨st, hste⟩ : ∃ st, (((sts 0 cs).getD m 0 : Nat) : Int) = st := ⟨_, rfl⟩
   rw [hste] at cj HFM
   have h3 := ordL_three c.key q
   have HKL : Hid (kl c.key q ↔ ordL c.key q < 0) := hidden (by unfold kl; omega)
   generalize ordL c.key q = o at *
   clear hcs hst hc hm hste h3
   by_cases ho : o < 0
   ·go_wp2_with (first | (go_at_call 187; refine HFM.out.mono ?_; rintro e w2 ⟨rfl, HB2⟩))
    go_roundw
    case rel =>
     refine ⟨m + 1, hi, by go_num, rfl, by have := HML.out; omega, hhs, hidden (bl_go HB.out (Nat.le_refl _) HB2.out), hidden ⟨fun i d hi' hd => ?_, HI.out.2⟩⟩
     by_cases e : i = m
     ·subst e
      rw [HC.out] at hd
      injection hd with hd
      subst hd
      exact HKL.out.2 ho
     ·exact kl_trans _ _ _ (HRS.out i m d c (by omega) hd HC.out) (HKL.out.2 ho)
    case measure => have := HML.out; simp [intOf]; omega
   ·go_wp2_with (first | (go_at_call 187; refine HFM.out.mono ?_; rintro e w2 ⟨rfl, HB2⟩))
    go_roundw
    case rel =>
     refine ⟨lo, m, rfl, by go_num, by have := HML.out; omega, by omega, hidden (bl_go HB.out (Nat.le_refl _) HB2.out), hidden ⟨HI.out.1, fun i d hi' hd hk => ?_⟩⟩
     by_cases e : i = m
     ·subst e
      rw [HC.out] at hd
      injection hd with hd
      subst hd
      have := HKL.out.1 hk
      omega
     ·have := HKL.out.1 (kl_trans _ _ _ (HRS.out m i c d (by omega) HC.out hd) hk)
      omega
    case measure => have := HML.out; simp [intOf]; omega
  ·obtain rfl : hi = lo := by omega
   have hltI : ¬ (hi : Int) < (hi : Int) := by omega
   have HFN : Hid (Fnd cs q hi) := hidden ⟨by have := HSN.out; omega, HI.out.1, HI.out.2⟩
   by_cases hh : hi < sn
   ·have hhI : (hi : Int) < (sn : Int) := by omega
    obtain ⟨gs, offs, rfl, hgs, hcs⟩ : ∃ b off, so = some ⟨b, off, none⟩ ∧ b < wr.heap.size ∧ ∀ j, j < sn → wr.cell? ⟨b, off + j, none⟩ = some (.int .i64 (((sts 0 cs).getD j 0 : Nat) : Int)) := by
     rcases hst.hat with h0 | h0
     ·omega
     ·exact h0
    have cj := hcs hi hh
    obtain ⟨c, hc⟩ : ∃ c, cs[hi]? = some c := ⟨_, List.getElem?_eq_getElem (by have := HSN.out; omega)⟩
    have HFM := hidden (HF.out wr hi c HB.out hc)
    have HEQ : Hid (ordL c.key q = 0 ↔ ∃ d, cs[hi]? = some d ∧ d.key = q) := hidden (by
     rw [hc]
     constructor
     ·intro h
      exact ⟨c, rfl, ordL_eq _ _ h⟩
     ·rintro ⟨d, hd, rfl⟩
      injection hd with hd
      subst hd
      exact ordL_self _)
    obtain ⟨st, hste⟩ : ∃ st, (((sts 0 cs).getD hi 0 : Nat) : Int) = st := ⟨_, rfl⟩
    rw [hste] at cj HFM
    generalize ordL c.key q = o at *
    clear hcs hst hc hste
    by_cases ho : o = 0
    ·subst ho
     go_wp2_with (first | (go_at_call 187; refine HFM.out.mono ?_; rintro e w2 ⟨rfl, HB2⟩))
     go_ret2
     exact ⟨hi, true, rfl, hidden (bl_go HB.out (Nat.le_refl _) HB2.out), hidden ⟨HFN.out, by simpa using HEQ.out⟩⟩
    ·have d1 : (o == 0) = false := by simpa using ho
     go_wp2_with (first | (go_at_call 187; refine HFM.out.mono ?_; rintro e w2 ⟨rfl, HB2⟩))
     go_ret2
     exact ⟨hi, false, rfl, hidden (bl_go HB.out (Nat.le_refl _) HB2.out), hidden ⟨HFN.out, by simpa using fun x h1 h2 => ho (HEQ.out.2 ⟨x, h1, h2⟩)⟩⟩
   ·have hhI : ¬ (hi : Int) < (sn : Int) := by omega
    have HNO : Hid (cs[hi]? = none) := hidden (List.getElem?_eq_none (by have := HSN.out; omega))
    clear hst
    go_wp2
    go_ret2
    exact ⟨hi, false, rfl, HB, hidden ⟨HFN.out, by simp [HNO.out]⟩⟩
theorem find_any (w : World) (a : Nat) (k : Int) (n : Nat) (bo : Option Addr) (bn bc : Nat) (so : Option Addr) (sn sc : Nat) (cs : List Cl) (h : PgAt w a k n bo bn bc so sn sc cs) (hchk : chk k n none cs = 0) (hn : (n : Int) ≤ 65536) (hf : szN cs ≤ n) (qo : Option Addr) (qn qc : Nat) (q : List Int) (hq : Sl w qo qn qc q) :
  Calls Tryz.prog 179 #[.pointer (some ⟨a, 0, none⟩), .slice qo qn qc] w fun e w' => FindTo cs q w e w' := by
 have hz := szN_eq cs
 obtain ⟨h1, h2⟩ := h.sn_eq
 obtain ⟨x, hx⟩ : ∃ x, w.alloc (.cells #[.pointer (some ⟨a, 0, none⟩)] 99) = x := ⟨_, rfl⟩
 have hbx : Below w.heap.size w x := by rw [← hx]; exact bl_al (Below.refl _ _) (Nat.le_refl _) _
 obtain ⟨s, hs⟩ : ∃ s, w.heap.size = s := ⟨_, rfl⟩
 have hc : x.cell? ⟨s, 0, none⟩ = some (.pointer (some ⟨a, 0, none⟩)) := by rw [← hx, ← hs]; simp
 have HSR := hidden (search_any x a s k n bo bn bc so sn sc cs (h.on hbx) hchk hn (by omega) (by omega) qo qn qc q (hq.on (Nat.le_refl _) hbx) hc (by rw [← hx, ← hs]; simp))
 obtain ⟨c0, c1, c2, c3⟩ := (h.on hbx).cells
 have HBX := hidden hbx
 clear h hq h1 h2 hz hbx
 go_enter Tryz.func179, Tryz.ntmps179
 go_wp2_with (first | (go_at_call 186; refine HSR.out.mono ?_; rintro e w2 ⟨r, is, rfl, HB2, HQ⟩))
 go_ret2
 exact ⟨r, is, rfl, hidden (bl_go HBX.out (Nat.le_refl _) HB2.out), HQ⟩
end Go.Proofs.YtjpmfgoodcldcaaGreatDoor

namespace Go.Proofs.YtjpmfgoodcldcaaGreatDoor
set_option maxRecDepth 100000
open Go.RowKit
theorem lenR_any (w : World) (a : Nat) (k : Int) (n : Nat) (vb : Value) (so : Option Addr) (sn sc : Nat) (h : PR w a k n vb (.slice so sn sc)) :
  Calls Tryz.prog 80 #[.pointer (some ⟨a, 0, none⟩)] w fun e w' => e = .returned (.int .i64 (sn : Int)) ∧ w' = w := by
 obtain ⟨c0, c1, c2, c3⟩ := h.cells
 clear h
 go_enter Tryz.func80, Tryz.ntmps80
 go_wp2
 go_ret
 exact ⟨rfl, rfl⟩
end Go.Proofs.YtjpmfgoodcldcaaGreatDoor

namespace Go.Proofs.YtjpmfgoodcldcaaGreatDoor
set_option maxRecDepth 100000
open Go.RowKit
namespace RB
theorem hsz : (Tryz.prog.info? 5).map (·.size) = some 1 := by
 obtain ⟨i0, hi, hz0, hz1, hz2⟩ := info_parts info5
 rw [hi]
 simp [hz1]
end RB
end Go.Proofs.YtjpmfgoodcldcaaGreatDoor

namespace Go.Proofs.YtjpmfgoodcldcaaGreatDoor
set_option maxRecDepth 100000
open Go.RowKit
namespace RN
theorem hsz : (Tryz.prog.info? 3).map (·.size) = some 1 := by
 obtain ⟨i0, hi, hz0, hz1, hz2⟩ := info_parts infoI
 rw [hi]
 simp [hz1]
end RN
end Go.Proofs.YtjpmfgoodcldcaaGreatDoor
