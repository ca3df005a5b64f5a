import Derived.Test.YtlhkinlgolcpaaaGreatDoorJ09
import Derived.Lib.Overlaps
import Derived.Lib.SliceRun
import Derived.Lib.AppendZerosOnto
import Derived.Laws.IdiomCopy
import Derived.Deep.AppendSrc
namespace Go.Proofs.YtlhkinlgolcpaaaGreatDoor
set_option maxRecDepth 100000
open Go.RowKit
structure Fnd (cs : List Cl) (q : List Int) (r : Nat) : Prop where
 le : r ≤ cs.length
 lo : ∀ i c, i < r → cs[i]? = some c → kl c.key q
 hi : ∀ i c, r ≤ i → cs[i]? = some c → ¬ kl c.key q
def FindTo (cs : List Cl) (q : List Int) (w : World) (e : Ending) (w' : World) : Prop :=
 ∃ r : Nat, ∃ is : Bool, e = .returned (.tuple #[.int .i64 (r : Int), .bool is]) ∧ Hid (Below w.heap.size w w') ∧ Hid (Fnd cs q r ∧ (is = true ↔ ∃ c, cs[r]? = some c ∧ c.key = q))
set_option maxHeartbeats 2000000 in
theorem search_any (w : World) (a bx : Nat) (k : Int) (n : Nat) (bo : Option Addr) (bn bc : Nat) (so : Option Addr) (sn sc : Nat) (cs : List Cl) (h : PgAt w a k n bo bn bc so sn sc cs) (hchk : chk k n none cs = 0) (hn : (n : Int) ≤ 65536) (hsz : bn ≤ 65536) (hsn : sn ≤ 65536) (qo : Option Addr) (qn qc : Nat) (q : List Int) (hq : Sl w qo qn qc q) (hbx : w.cell? ⟨bx, 0, none⟩ = some (.pointer (some ⟨a, 0, none⟩))) (hbl : bx < w.heap.size) :
  Calls Tryz.prog 192 #[.slice so sn sc, .slice qo qn qc, .func (.func 193) #[] #[.pointer (some ⟨bx, 0, none⟩)]] w fun e w' => FindTo cs q w e w' := by
 have HPG := hidden h
 have HFIT : Hid (∀ c ∈ cs, c.fit) := hidden fun c hc => (chk_may hchk c hc).fit hn
 have HRS := hidden (chk_rise hchk)
 have HQ := hidden hq
 have HSN := hidden h.sn_eq.1
 have HBX := hidden hbx
 have HF : Hid (∀ u i c, Below w.heap.size w u → cs[i]? = some c → Calls Tryz.prog 193 #[.int .i64 (((sts 0 cs).getD i 0 : Nat) : Int), .slice qo qn qc, .pointer (some ⟨bx, 0, none⟩)] u fun e w' => e = .returned (.int .i64 (ordL c.key q)) ∧ Hid (Below u.heap.size u w')) :=
  hidden fun u i c hu hc => find1_any u a bx k n bo bn bc so sn sc cs (HPG.out.on hu) HFIT.out i c hc hsz qo qn qc q (HQ.out.on (Nat.le_refl _) hu) ((hu.cell (p := ⟨bx, 0, none⟩) hbl).trans hbx)
 clear h hchk hq hbx
 go_enter Tryz.func192, Tryz.ntmps192
 go_wp2_with fail
 go_loopw [9, 10] (fun s9 s10 wr => ∃ lo hi : Nat, s9 = .int .i64 lo ∧ s10 = .int .i64 hi ∧ lo ≤ hi ∧ hi ≤ sn ∧ Hid (Below w.heap.size w wr) ∧ Hid ((∀ i c, i < lo → cs[i]? = some c → kl c.key q) ∧ ∀ i c, hi ≤ i → cs[i]? = some c → ¬ kl c.key q)) (fun s9 s10 _ => (intOf s10).toNat - (intOf s9).toNat)
 case atStart => exact ⟨0, sn, rfl, rfl, by omega, by omega, hidden (Below.refl _ _), hidden ⟨fun i c hi => by omega, fun i c hi hc => by
  have := (List.getElem?_eq_some_iff.1 hc).1
  have := HSN.out
  omega⟩⟩
 case round =>
  obtain ⟨lo, hi, rfl, rfl, hlh, hhs, HB, HI⟩ := hrel
  have b1 : (lo : Int) ≤ 65536 := by omega
  have b2 : (hi : Int) ≤ 65536 := by omega
  have hst := (HPG.out.on HB.out).starts
  by_cases hlt : lo < hi
  ·have hltI : (lo : Int) < (hi : Int) := by omega
   obtain ⟨gs, offs, rfl, hgs, hcs⟩ : ∃ b off, so = some ⟨b, off, none⟩ ∧ b < wr.heap.size ∧ ∀ j, j < sn → wr.cell? ⟨b, off + j, none⟩ = some (.int .i64 (((sts 0 cs).getD j 0 : Nat) : Int)) := by
    rcases hst.hat with h0 | h0
    ·omega
    ·exact h0
   obtain ⟨m, hm⟩ : ∃ m, (lo + hi) / 2 = m := ⟨_, rfl⟩
   have hmI : ((lo : Int) + (hi : Int)) / 2 = (m : Int) := by omega
   have m1 : m < sn := by omega
   have m2 : (m : Int) < (sn : Int) := by omega
   have m3 : (m : Int) ≤ 65536 := by omega
   have cj := hcs m m1
   obtain ⟨c, hc⟩ : ∃ c, cs[m]? = some c := ⟨_, List.getElem?_eq_getElem (by have := HSN.out; omega)⟩
   have HFM := hidden (HF.out wr m c HB.out hc)
   have HC := hidden hc
   have HML : Hid (lo ≤ m ∧ m < hi) := hidden (by omega)
   obtain ⟨st, hste⟩ : ∃ st, (((sts 0 cs).getD m 0 : Nat) : Int) = st := ⟨_, rfl⟩
   rw [hste] at cj HFM
   have h3 := ordL_three c.key q
   have HKL : Hid (kl c.key q ↔ ordL c.key q < 0) := hidden (by unfold kl; omega)
   generalize ordL c.key q = o at *
   clear hcs hst hc hm hste h3
   by_cases ho : o < 0
   ·go_wp2_with (first | (go_at_call 193; refine HFM.out.mono ?_; rintro e w2 ⟨rfl, HB2⟩))
    go_roundw
    case rel =>
     refine ⟨m + 1, hi, by go_num, rfl, by have := HML.out; omega, hhs, hidden (bl_go HB.out (Nat.le_refl _) HB2.out), hidden ⟨fun i d hi' hd => ?_, HI.out.2⟩⟩
     by_cases e : i = m
     ·subst e
      rw [HC.out] at hd
      injection hd with hd
      subst hd
      exact HKL.out.2 ho
     ·exact kl_trans _ _ _ (HRS.out i m d c (by omega) hd HC.out) (HKL.out.2 ho)
    case measure => have := HML.out; simp [intOf]; omega
   ·go_wp2_with (first | (go_at_call 193; refine HFM.out.mono ?_; rintro e w2 ⟨rfl, HB2⟩))
    go_roundw
    case rel =>
     refine ⟨lo, m, rfl, by go_num, by have := HML.out; omega, by omega, hidden (bl_go HB.out (Nat.le_refl _) HB2.out), hidden ⟨HI.out.1, fun i d hi' hd hk => ?_⟩⟩
     by_cases e : i = m
     ·subst e
      rw [HC.out] at hd
      injection hd with hd
      subst hd
      have := HKL.out.1 hk
      omega
     ·have := HKL.out.1 (kl_trans _ _ _ (HRS.out m i c d (by omega) HC.out hd) hk)
      omega
    case measure => have := HML.out; simp [intOf]; omega
  ·obtain rfl : hi = lo := by omega
   have hltI : ¬ (hi : Int) < (hi : Int) := by omega
   have HFN : Hid (Fnd cs q hi) := hidden ⟨by have := HSN.out; omega, HI.out.1, HI.out.2⟩
   by_cases hh : hi < sn
   ·have hhI : (hi : Int) < (sn : Int) := by omega
    obtain ⟨gs, offs, rfl, hgs, hcs⟩ : ∃ b off, so = some ⟨b, off, none⟩ ∧ b < wr.heap.size ∧ ∀ j, j < sn → wr.cell? ⟨b, off + j, none⟩ = some (.int .i64 (((sts 0 cs).getD j 0 : Nat) : Int)) := by
     rcases hst.hat with h0 | h0
     ·omega
     ·exact h0
    have cj := hcs hi hh
    obtain ⟨c, hc⟩ : ∃ c, cs[hi]? = some c := ⟨_, List.getElem?_eq_getElem (by have := HSN.out; omega)⟩
    have HFM := hidden (HF.out wr hi c HB.out hc)
    have HEQ : Hid (ordL c.key q = 0 ↔ ∃ d, cs[hi]? = some d ∧ d.key = q) := hidden (by
     rw [hc]
     constructor
     ·intro h
      exact ⟨c, rfl, ordL_eq _ _ h⟩
     ·rintro ⟨d, hd, rfl⟩
      injection hd with hd
      subst hd
      exact ordL_self _)
    obtain ⟨st, hste⟩ : ∃ st, (((sts 0 cs).getD hi 0 : Nat) : Int) = st := ⟨_, rfl⟩
    rw [hste] at cj HFM
    generalize ordL c.key q = o at *
    clear hcs hst hc hste
    by_cases ho : o = 0
    ·subst ho
     go_wp2_with (first | (go_at_call 193; refine HFM.out.mono ?_; rintro e w2 ⟨rfl, HB2⟩))
     go_ret2
     exact ⟨hi, true, rfl, hidden (bl_go HB.out (Nat.le_refl _) HB2.out), hidden ⟨HFN.out, by simpa using HEQ.out⟩⟩
    ·have d1 : (o == 0) = false := by simpa using ho
     go_wp2_with (first | (go_at_call 193; refine HFM.out.mono ?_; rintro e w2 ⟨rfl, HB2⟩))
     go_ret2
     exact ⟨hi, false, rfl, hidden (bl_go HB.out (Nat.le_refl _) HB2.out), hidden ⟨HFN.out, by simpa using fun x h1 h2 => ho (HEQ.out.2 ⟨x, h1, h2⟩)⟩⟩
   ·have hhI : ¬ (hi : Int) < (sn : Int) := by omega
    have HNO : Hid (cs[hi]? = none) := hidden (List.getElem?_eq_none (by have := HSN.out; omega))
    clear hst
    go_wp2
    go_ret2
    exact ⟨hi, false, rfl, HB, hidden ⟨HFN.out, by simp [HNO.out]⟩⟩
theorem find_any (w : World) (a : Nat) (k : Int) (n : Nat) (bo : Option Addr) (bn bc : Nat) (so : Option Addr) (sn sc : Nat) (cs : List Cl) (h : PgAt w a k n bo bn bc so sn sc cs) (hchk : chk k n none cs = 0) (hn : (n : Int) ≤ 65536) (hf : szN cs ≤ n) (qo : Option Addr) (qn qc : Nat) (q : List Int) (hq : Sl w qo qn qc q) :
  Calls Tryz.prog 186 #[.pointer (some ⟨a, 0, none⟩), .slice qo qn qc] w fun e w' => FindTo cs q w e w' := by
 have hz := szN_eq cs
 obtain ⟨h1, h2⟩ := h.sn_eq
 obtain ⟨x, hx⟩ : ∃ x, w.alloc (.cells #[.pointer (some ⟨a, 0, none⟩)] 68) = x := ⟨_, rfl⟩
 have hbx : Below w.heap.size w x := by rw [← hx]; exact bl_al (Below.refl _ _) (Nat.le_refl _) _
 obtain ⟨s, hs⟩ : ∃ s, w.heap.size = s := ⟨_, rfl⟩
 have hc : x.cell? ⟨s, 0, none⟩ = some (.pointer (some ⟨a, 0, none⟩)) := by rw [← hx, ← hs]; simp
 have HSR := hidden (search_any x a s k n bo bn bc so sn sc cs (h.on hbx) hchk hn (by omega) (by omega) qo qn qc q (hq.on (Nat.le_refl _) hbx) hc (by rw [← hx, ← hs]; simp))
 obtain ⟨c0, c1, c2, c3⟩ := (h.on hbx).cells
 have HBX := hidden hbx
 clear h hq h1 h2 hz hbx
 go_enter Tryz.func186, Tryz.ntmps186
 go_wp2_with (first | (go_at_call 192; refine HSR.out.mono ?_; rintro e w2 ⟨r, is, rfl, HB2, HQ⟩))
 go_ret2
 exact ⟨r, is, rfl, hidden (bl_go HBX.out (Nat.le_refl _) HB2.out), HQ⟩
end Go.Proofs.YtlhkinlgolcpaaaGreatDoor

namespace Go.Proofs.YtlhkinlgolcpaaaGreatDoor
set_option maxRecDepth 100000
open Go.RowKit
theorem used_row (w : World) (a : Nat) (k : Int) (n : Nat) (bo : Option Addr) (bn bc : Nat) (so : Option Addr) (sn sc : Nat) (h : PR w a k n (.slice bo bn bc) (.slice so sn sc)) (h1 : bn ≤ 65536) (h2 : sn ≤ 65536) :
  Calls Tryz.prog 191 #[.pointer (some ⟨a, 0, none⟩)] w fun e w' => e = .returned (.int .i64 ((8 + 2 * sn + bn : Nat) : Int)) ∧ ∃ q, w' = w.drewN q := by
 obtain ⟨c0, c1, c2, c3⟩ := h.cells
 have b1 : (bn : Int) ≤ 65536 := by omega
 have b2 : (sn : Int) ≤ 65536 := by omega
 have w1 : IntKind.i64.wrap (2 * (sn : Int)) = 2 * (sn : Int) := by rw [IntKind.wrap_i64]; omega
 have w2 : IntKind.i64.wrap (4 + 2 * (sn : Int)) = 4 + 2 * (sn : Int) := by rw [IntKind.wrap_i64]; omega
 have w3 : IntKind.i64.wrap (4 + 2 * (sn : Int) + (bn : Int)) = 4 + 2 * (sn : Int) + (bn : Int) := by rw [IntKind.wrap_i64]; omega
 have w4 : IntKind.i64.wrap (4 + 2 * (sn : Int) + (bn : Int) + 4) = 4 + 2 * (sn : Int) + (bn : Int) + 4 := by rw [IntKind.wrap_i64]; omega
 clear h
 go_enter Tryz.func191, Tryz.ntmps191
 go_wp2_with fail
 go_quiet (fail)
 go_wp2
 go_ret
 exact ⟨ret_int (by omega), _, rfl⟩
theorem lenR_any (w : World) (a : Nat) (k : Int) (n : Nat) (vb : Value) (so : Option Addr) (sn sc : Nat) (h : PR w a k n vb (.slice so sn sc)) :
  Calls Tryz.prog 85 #[.pointer (some ⟨a, 0, none⟩)] w fun e w' => e = .returned (.int .i64 (sn : Int)) ∧ w' = w := by
 obtain ⟨c0, c1, c2, c3⟩ := h.cells
 clear h
 go_enter Tryz.func85, Tryz.ntmps85
 go_wp2
 go_ret
 exact ⟨rfl, rfl⟩
end Go.Proofs.YtlhkinlgolcpaaaGreatDoor

namespace Go.Proofs.YtlhkinlgolcpaaaGreatDoor
set_option maxRecDepth 100000
open Go.RowKit
def RowE (w : World) (g : Nat) (e : TypeId) (c : Nat) : Prop := ∃ cur : Array Value, w.heap[g]? = some (.cells cur e (0, 0)) ∧ cur.size = c
theorem RowE.there {w : World} {g c : Nat} {e : TypeId} (h : RowE w g e c) {j : Nat} (hj : j < c) : (w.cell? ⟨g, j, none⟩).isSome = true := by
 obtain ⟨cur, h1, h2⟩ := h
 rw [cell_of_row _ _ _ _ _ _ h1]
 simp [h2, hj]
theorem RowE.free {w : World} {g c : Nat} {e : TypeId} (h : RowE w g e c) (j : Nat) : w.frozen? ⟨g, j, none⟩ = false := by
 obtain ⟨cur, h1, h2⟩ := h
 simp [World.frozen?, h1]
theorem RowE.lt {w : World} {g c : Nat} {e : TypeId} (h : RowE w g e c) : g < w.heap.size := by
 obtain ⟨cur, h1, h2⟩ := h
 exact lt_some h1
theorem RowE.set {w : World} {g c : Nat} {e : TypeId} (h : RowE w g e c) (j : Nat) (v : Value) : RowE (w.setCell ⟨g, j, none⟩ v) g e c := by
 obtain ⟨cur, h1, h2⟩ := h
 exact ⟨_, set_row h1, by simpa using h2⟩
theorem RowE.sets {g c : Nat} {e : TypeId} : ∀ (vs : List Value) (j : Nat) (w : World), RowE w g e c → RowE (w.setCells g j vs) g e c
 | [], _, _, h => h
 | v :: r, j, _, h => RowE.sets r (j + 1) _ (h.set j v)
theorem RowE.drewN {w : World} {g c : Nat} {e : TypeId} (h : RowE w g e c) (q : Nat) : RowE (w.drewN q) g e c := h
theorem RowE.cell {w : World} {g c : Nat} {e : TypeId} (h : RowE w g e c) (vs : List Value) (o : Nat) (ho : o + vs.length ≤ c) (k : Nat) :
  (w.setCells g o vs).cell? ⟨g, k, none⟩ = if o ≤ k ∧ k < o + vs.length then vs[k - o]? else w.cell? ⟨g, k, none⟩ := by
 by_cases hin : o ≤ k ∧ k < o + vs.length
 ·rw [if_pos hin]
  have := World.cell?_setCells_in g vs o w (fun j hj => h.there (by omega)) (k - o) (by omega)
  rw [show o + (k - o) = k by omega] at this
  rw [this]
  simp
 ·rw [if_neg hin]
  exact World.cell?_setCells_out g vs o w ⟨g, k, none⟩ (fun _ _ => by show k < o ∨ o + vs.length ≤ k; omega)
theorem sets_grown (g : Nat) : ∀ (vs : List Value) (j : Nat) (w : World), w.grownBy (w.setCells g j vs) (some g)
 | [], _, _ => ⟨rfl, rfl, rfl, Nat.le_refl _, fun _ _ _ => rfl⟩
 | v :: r, j, w => by
  have h1 : w.grownBy (w.setCell ⟨g, j, none⟩ v) (some g) := ⟨rfl, rfl, rfl, by simp, fun k _ hk => Below.heap_setCell _ _ _ _ (fun e => hk (by rw [e]))⟩
  have h2 := sets_grown g r (j + 1) (w.setCell ⟨g, j, none⟩ v)
  exact ⟨h2.os.trans h1.os, h2.tape.trans h1.tape, h2.output.trans h1.output, Nat.le_trans h1.size h2.size, fun z hz hne => (h2.block z (Nat.lt_of_lt_of_le hz h1.size) hne).trans (h1.block z hz hne)⟩
theorem grown_go {w w1 w2 : World} {row : Option Nat} (h : w.grownBy w1 row) (k : w1.grownBy w2 row) : w.grownBy w2 row :=
 ⟨k.os.trans h.os, k.tape.trans h.tape, k.output.trans h.output, Nat.le_trans h.size k.size, fun z hz hne => (k.block z (Nat.lt_of_lt_of_le hz h.size) hne).trans (h.block z hz hne)⟩
theorem grown_drew {w w1 : World} {row : Option Nat} (h : w.grownBy w1 row) : w.grownBy w1.drew row := ⟨h.os, h.tape, h.output, h.size, h.block⟩
theorem grown_refl (w : World) (row : Option Nat) : w.grownBy w row := ⟨rfl, rfl, rfl, Nat.le_refl _, fun _ _ _ => rfl⟩
theorem RowE.own {w : World} {g c n B : Nat} {e : TypeId} {xs : List Value} (h : RowE w g e c) (hc : c ≤ maxLen) (hB : B ≤ g) (hn : n ≤ c) (hx : xs.length = n) (hcell : ∀ i v, xs[i]? = some v → w.cell? ⟨g, i, none⟩ = some v) : w.ownsRow B e 1 (.slice (some ⟨g, 0, none⟩) n c) n xs := by
 obtain ⟨cur, h1, h2⟩ := h
 refine ⟨by omega, .inr ⟨g, c, cur, rfl, hB, h1, hn, hc, by omega, ?_⟩⟩
 rw [Nat.mul_one]
 apply List.ext_getElem?
 intro i
 by_cases hi : i < n
 ·have e1 : xs[i]? = some (xs[i]'(by omega)) := List.getElem?_eq_getElem _
  have := hcell i _ e1
  rw [cell_of_row _ _ _ _ _ _ h1] at this
  rw [List.getElem?_take_of_lt hi, e1, ← this]
  simp
 ·rw [List.getElem?_eq_none (by simp; omega), List.getElem?_eq_none (by omega)]
theorem own_row {w : World} {B n g c : Nat} {e : TypeId} {xs : List Value} (h : w.ownsRow B e 1 (.slice (some ⟨g, 0, none⟩) n c) n xs) : RowE w g e c ∧ B ≤ g ∧ n ≤ c ∧ c ≤ maxLen ∧ xs.length = n ∧ ∀ i v, xs[i]? = some v → w.cell? ⟨g, i, none⟩ = some v := by
 have hl := h.1
 rcases h.2 with ⟨e1, _⟩ | ⟨g', cap, cur, e1, h1, h2, h3, h4, h5, h6⟩
 ·injection e1 with e1 _ _
  cases e1
 ·injection e1 with e1 _ e3
  injection e1 with e1
  injection e1 with e1 _ _
  subst e1
  subst e3
  refine ⟨⟨cur, h2, by omega⟩, h1, h3, h4, by omega, fun i v hv => ?_⟩
  have := h.cellAt i (by have := (List.getElem?_eq_some_iff.1 hv).1; omega)
  rw [this, hv]
theorem moved {xs ys : List Value} {n m i j : Nat} (hx : xs.length = n) (hy : ys.length = m) (hij : i ≤ j) (hj : j ≤ n) {f : Nat → Option Value}
  (h1 : ∀ k, k < i → f k = xs[k]?) (h2 : ∀ k, k < m → f (i + k) = ys[k]?) (h3 : ∀ k, k < n - j → f (i + m + k) = xs[j + k]?) : ∀ k v, (xs.take i ++ ys ++ xs.drop j)[k]? = some v → f k = some v := by
 intro k v hv
 have hti : (xs.take i).length = i := by simp; omega
 by_cases hk : k < i
 ·rw [List.append_assoc, List.getElem?_append_left (by omega), List.getElem?_take_of_lt hk] at hv
  rw [h1 k hk, hv]
 ·by_cases hk2 : k < i + m
  ·rw [List.append_assoc, List.getElem?_append_right (by omega), hti, List.getElem?_append_left (by omega)] at hv
   have := h2 (k - i) (by omega)
   rw [show i + (k - i) = k by omega] at this
   rw [this, hv]
  ·have hlt := (List.getElem?_eq_some_iff.1 hv).1
   rw [List.append_assoc, List.getElem?_append_right (by omega), hti, List.getElem?_append_right (by omega), List.getElem?_drop, hy] at hv
   have hkl : k < i + m + (n - j) := by simp at hlt; omega
   have := h3 (k - i - m) (by omega)
   rw [show i + m + (k - i - m) = k by omega] at this
   rw [this, hv]
theorem moved_len {xs ys : List Value} {n m i j : Nat} (hx : xs.length = n) (hy : ys.length = m) (hij : i ≤ j) (hj : j ≤ n) : (xs.take i ++ ys ++ xs.drop j).length = i + m + (n - j) := by
 simp
 omega
theorem append_wp {ops : Array Oper} {rest : List Oper} {o : Oper} {a : Act} {w : World} {Q : Exit → Act → World → Prop} (hgd : o.guard = none) (s x : Operand) (t1 t2 : TypeId)
  (ho : o.op = .call { callee := .builtin .append, args := #[s, x], argTypes := #[t1, t2] }) (v u : Value) (hs : a.eval s = v) (hx : a.eval x = u) {v' : Value} {w' : World}
  (hr : (Builtin.append_ #[t1, t2] o.type #[v, u]).run Tryz.prog w = .ok v' w') (h : wpList Tryz.prog ops Q rest (a.put o.dst v') w') : wpList Tryz.prog ops Q (o :: rest) a w := by
 refine wpList_plain hgd fun K hK => ?_
 unfold Oper.wp execOp
 simp only [ho, resolve, invoke, builtin, Sem.run_bind, Sem.run_pure, Result.andThen_ok, List.map_toArray, List.map_cons, List.map_nil, hs, hx, hr]
 exact hK _ _ h
theorem clear_wp {ops : Array Oper} {rest : List Oper} {o : Oper} {a : Act} {w : World} {Q : Exit → Act → World → Prop} (hgd : o.guard = none) (d : Operand) (t : TypeId)
  (ho : o.op = .call { callee := .builtin .clear, args := #[d], argTypes := #[t] }) (v : Value) (hd : a.eval d = v) {v' : Value} {w' : World}
  (hr : (Builtin.clear_ #[t] o.type #[v]).run Tryz.prog w = .ok v' w') (h : wpList Tryz.prog ops Q rest (a.put o.dst v') w') : wpList Tryz.prog ops Q (o :: rest) a w := by
 refine wpList_plain hgd fun K hK => ?_
 unfold Oper.wp execOp
 simp only [ho, resolve, invoke, builtin, Sem.run_bind, Sem.run_pure, Result.andThen_ok, List.map_toArray, List.map_cons, List.map_nil, hd, hr]
 exact hK _ _ h
theorem clear_none (w : World) (t e ty : TypeId) (ht : Tryz.prog.underlying t = some (.slice e)) (a : Option Addr) (c : Nat) : (Builtin.clear_ #[t] ty #[.slice a 0 c]).run Tryz.prog w = .ok (.tuple #[]) w := by
 cases a <;> simp [Builtin.clear_, run_underlying ht]
end Go.Proofs.YtlhkinlgolcpaaaGreatDoor
