import Derived.Test.YtbkhjeacmmbabaaGreatDoorJ13
import Derived.Lib.SlBytesConst
namespace Go.Proofs.YtbkhjeacmmbabaaGreatDoor
set_option maxRecDepth 100000
set_option maxHeartbeats 8000000
open Go.RowKit
structure Fnd (cs : List Cl) (q : List Int) (r : Nat) : Prop where
 le : r ≤ cs.length
 lo : ∀ i c, i < r → cs[i]? = some c → kl c.key q
 hi : ∀ i c, r ≤ i → cs[i]? = some c → ¬ kl c.key q
def FindTo (cs : List Cl) (q : List Int) (w : World) (e : Ending) (w' : World) : Prop :=
 ∃ r : Nat, ∃ is : Bool, e = .returned (.tuple #[.int .i64 (r : Int), .bool is]) ∧ Hid (Below w.heap.size w w') ∧ Hid (Fnd cs q r ∧ (is = true ↔ ∃ c, cs[r]? = some c ∧ c.key = q))
theorem search_any (w : World) (a bx : Nat) (k : Int) (n : Nat) (bo : Option Addr) (bn bc : Nat) (so : Option Addr) (sn sc : Nat) (cs : List Cl) (h : PgAt w a k n bo bn bc so sn sc cs) (hchk : chk k n none cs = 0) (hn : (n : Int) ≤ 65536) (hsz : bn ≤ 65536) (hsn : sn ≤ 65536) (qo : Option Addr) (qn qc : Nat) (q : List Int) (hq : Sl w qo qn qc q) (hbx : w.cell? ⟨bx, 0, none⟩ = some (.pointer (some ⟨a, 0, none⟩))) (hbl : bx < w.heap.size) :
  Calls Tryz.prog 224 #[.slice so sn sc, .slice qo qn qc, .func (.func 225) #[] #[.pointer (some ⟨bx, 0, none⟩)]] w fun e w' => FindTo cs q w e w' := by
 have HPG := zaa h
 have HFIT : Hid (∀ c ∈ cs, c.fit) := zaa fun c hc => (zcv hchk c hc).fit hn
 have HRS := zaa (chk_rise hchk)
 have HQ := zaa hq
 have HSN := zaa h.sn_eq.1
 have HBX := zaa hbx
 have HF : Hid (∀ u i c, Below w.heap.size w u → cs[i]? = some c → Calls Tryz.prog 225 #[.int .i64 (((sts 0 cs).getD i 0 : Nat) : Int), .slice qo qn qc, .pointer (some ⟨bx, 0, none⟩)] u fun e w' => e = .returned (.int .i64 (ordL c.key q)) ∧ Hid (Below u.heap.size u w')) :=
  zaa fun u i c hu hc => find1_any u a bx k n bo bn bc so sn sc cs (HPG.out.on hu) HFIT.out i c hc hsz qo qn qc q (HQ.out.on Lr hu) ((hu.cell (p := ⟨bx, 0, none⟩) hbl).trans hbx)
 clear h hchk hq hbx
 go_enter Tryz.func224, Tryz.ntmps224
 go_wp2_with fail
 go_loopw [9, 10] (fun s9 s10 wr => ∃ lo hi : Nat, s9 = .int .i64 lo ∧ s10 = .int .i64 hi ∧ lo ≤ hi ∧ hi ≤ sn ∧ Hid (Below w.heap.size w wr) ∧ Hid ((∀ i c, i < lo → cs[i]? = some c → kl c.key q) ∧ ∀ i c, hi ≤ i → cs[i]? = some c → ¬ kl c.key q)) (fun s9 s10 _ => (intOf s10).toNat - (intOf s9).toNat)
 case atStart => exact ⟨0, sn, rfl, rfl, by omega, by omega, zaa Br, zaa ⟨fun i c hi => by omega, fun i c hi hc => by
  have := (zH.1 hc).1
  have := HSN.out
  omega⟩⟩
 case round =>
  obtain ⟨lo, hi, rfl, rfl, hlh, hhs, HB, HI⟩ := hrel
  have b1 : (lo : Int) ≤ 65536 := by omega
  have b2 : (hi : Int) ≤ 65536 := by omega
  have hst := (HPG.out.on HB.out).starts
  by_cases hlt : lo < hi
  ·have hltI : (lo : Int) < (hi : Int) := by omega
   obtain ⟨gs, offs, rfl, hgs, hcs⟩ : ∃ b off, so = some ⟨b, off, none⟩ ∧ b < wr.heap.size ∧ ∀ j, j < sn → wr.cell? ⟨b, off + j, none⟩ = some (.int .i64 (((sts 0 cs).getD j 0 : Nat) : Int)) := by
    rcases hst.hat with h0 | h0
    ·omega
    ·exact h0
   obtain ⟨m, hm⟩ : ∃ m, (lo + hi) / 2 = m := ⟨_, rfl⟩
   have hmI : ((lo : Int) + (hi : Int)) / 2 = (m : Int) := by omega
   have m1 : m < sn := by omega
   have m2 : (m : Int) < (sn : Int) := by omega
   have m3 : (m : Int) ≤ 65536 := by omega
   have cj := hcs m m1
   obtain ⟨c, hc⟩ : ∃ c, cs[m]? = some c := ⟨_, zI (by have := HSN.out; omega)⟩
   have HFM := zaa (HF.out wr m c HB.out hc)
   have HC := zaa hc
   have HML : Hid (lo ≤ m ∧ m < hi) := zaa (by omega)
   obtain ⟨st, hste⟩ : ∃ st, (((sts 0 cs).getD m 0 : Nat) : Int) = st := ⟨_, rfl⟩
   rw [hste] at cj HFM
   have h3 := ordL_three c.key q
   have HKL : Hid (kl c.key q ↔ ordL c.key q < 0) := zaa (by unfold kl; omega)
   generalize ordL c.key q = o at *
   clear hcs hst hc hm hste h3
   by_cases ho : o < 0
   ·go_wp2_with (go_at_call 225; refine HFM.out.mono ?_; rintro e w2 ⟨rfl, HB2⟩)
    go_roundw
    case rel =>
     refine ⟨m + 1, hi, by go_num, rfl, by have := HML.out; omega, hhs, zaa (zae HB.out Lr HB2.out), zaa ⟨fun i d hi' hd => ?_, HI.out.2⟩⟩
     by_cases e : i = m
     ·subst e
      rw [HC.out] at hd
      injection hd with hd
      subst hd
      exact HKL.out.2 ho
     ·exact kl_trans _ _ _ (HRS.out i m d c (by omega) hd HC.out) (HKL.out.2 ho)
    case measure => have := HML.out; simp [intOf]; omega
   ·go_wp2_with (go_at_call 225; refine HFM.out.mono ?_; rintro e w2 ⟨rfl, HB2⟩)
    go_roundw
    case rel =>
     refine ⟨lo, m, rfl, by go_num, by have := HML.out; omega, by omega, zaa (zae HB.out Lr HB2.out), zaa ⟨HI.out.1, fun i d hi' hd hk => ?_⟩⟩
     by_cases e : i = m
     ·subst e
      rw [HC.out] at hd
      injection hd with hd
      subst hd
      have := HKL.out.1 hk
      omega
     ·have := HKL.out.1 (kl_trans _ _ _ (HRS.out m i c d (by omega) HC.out hd) hk)
      omega
    case measure => have := HML.out; simp [intOf]; omega
  ·obtain rfl : hi = lo := by omega
   have hltI : ¬ (hi : Int) < (hi : Int) := by omega
   have HFN : Hid (Fnd cs q hi) := zaa ⟨by have := HSN.out; omega, HI.out.1, HI.out.2⟩
   by_cases hh : hi < sn
   ·have hhI : (hi : Int) < (sn : Int) := by omega
    obtain ⟨gs, offs, rfl, hgs, hcs⟩ : ∃ b off, so = some ⟨b, off, none⟩ ∧ b < wr.heap.size ∧ ∀ j, j < sn → wr.cell? ⟨b, off + j, none⟩ = some (.int .i64 (((sts 0 cs).getD j 0 : Nat) : Int)) := by
     rcases hst.hat with h0 | h0
     ·omega
     ·exact h0
    have cj := hcs hi hh
    obtain ⟨c, hc⟩ : ∃ c, cs[hi]? = some c := ⟨_, zI (by have := HSN.out; omega)⟩
    have HFM := zaa (HF.out wr hi c HB.out hc)
    have HEQ : Hid (ordL c.key q = 0 ↔ ∃ d, cs[hi]? = some d ∧ d.key = q) := zaa (by
     rw [hc]
     constructor
     ·intro h
      exact ⟨c, rfl, ordL_eq _ _ h⟩
     ·rintro ⟨d, hd, rfl⟩
      injection hd with hd
      subst hd
      exact ordL_self _)
    obtain ⟨st, hste⟩ : ∃ st, (((sts 0 cs).getD hi 0 : Nat) : Int) = st := ⟨_, rfl⟩
    rw [hste] at cj HFM
    generalize ordL c.key q = o at *
    clear hcs hst hc hste
    by_cases ho : o = 0
    ·subst ho
     go_wp2_with (go_at_call 225; refine HFM.out.mono ?_; rintro e w2 ⟨rfl, HB2⟩)
     go_ret2
     exact ⟨hi, true, rfl, zaa (zae HB.out Lr HB2.out), zaa ⟨HFN.out, by simpa using HEQ.out⟩⟩
    ·have d1 : (o == 0) = false := by simpa using ho
     go_wp2_with (go_at_call 225; refine HFM.out.mono ?_; rintro e w2 ⟨rfl, HB2⟩)
     go_ret2
     exact ⟨hi, false, rfl, zaa (zae HB.out Lr HB2.out), zaa ⟨HFN.out, by simpa using fun x h1 h2 => ho (HEQ.out.2 ⟨x, h1, h2⟩)⟩⟩
   ·have hhI : ¬ (hi : Int) < (sn : Int) := by omega
    have HNO : Hid (cs[hi]? = none) := zaa (List.getElem?_eq_none (by have := HSN.out; omega))
    clear hst
    go_wp2
    go_ret2
    exact ⟨hi, false, rfl, HB, zaa ⟨HFN.out, by simp [HNO.out]⟩⟩
theorem find_any (w : World) (a : Nat) (k : Int) (n : Nat) (bo : Option Addr) (bn bc : Nat) (so : Option Addr) (sn sc : Nat) (cs : List Cl) (h : PgAt w a k n bo bn bc so sn sc cs) (hchk : chk k n none cs = 0) (hn : (n : Int) ≤ 65536) (hf : szN cs ≤ n) (qo : Option Addr) (qn qc : Nat) (q : List Int) (hq : Sl w qo qn qc q) :
  Calls Tryz.prog 217 #[.pointer (some ⟨a, 0, none⟩), .slice qo qn qc] w fun e w' => FindTo cs q w e w' := by
 have hz := zbb cs
 obtain ⟨h1, h2⟩ := h.sn_eq
 obtain ⟨x, hx⟩ : ∃ x, w.alloc (.cells #[.pointer (some ⟨a, 0, none⟩)] 80) = x := ⟨_, rfl⟩
 have hbx : Below w.heap.size w x := by rw [← hx]; exact zad Br Lr _
 obtain ⟨s, hs⟩ : ∃ s, w.heap.size = s := ⟨_, rfl⟩
 have hc : x.cell? ⟨s, 0, none⟩ = some (.pointer (some ⟨a, 0, none⟩)) := by rw [← hx, ← hs]; simp
 have HSR := zaa (search_any x a s k n bo bn bc so sn sc cs (h.on hbx) hchk hn (by omega) (by omega) qo qn qc q (hq.on Lr hbx) hc (by rw [← hx, ← hs]; simp))
 obtain ⟨c0, c1, c2, c3⟩ := (h.on hbx).cells
 have HBX := zaa hbx
 clear h hq h1 h2 hz hbx
 go_enter Tryz.func217, Tryz.ntmps217
 go_wp2_with (go_at_call 224; refine HSR.out.mono ?_; rintro e w2 ⟨r, is, rfl, HB2, HQ⟩)
 go_ret2
 exact ⟨r, is, rfl, zaa (zae HBX.out Lr HB2.out), HQ⟩
theorem used_row (w : World) (a : Nat) (k : Int) (n : Nat) (bo : Option Addr) (bn bc : Nat) (so : Option Addr) (sn sc : Nat) (h : PR w a k n (.slice bo bn bc) (.slice so sn sc)) (h1 : bn ≤ 65536) (h2 : sn ≤ 65536) :
  Calls Tryz.prog 222 #[.pointer (some ⟨a, 0, none⟩)] w fun e w' => e = .returned (.int .i64 ((8 + 2 * sn + bn : Nat) : Int)) ∧ ∃ q, w' = w.drewN q := by
 obtain ⟨c0, c1, c2, c3⟩ := h.cells
 have b1 : (bn : Int) ≤ 65536 := by omega
 have b2 : (sn : Int) ≤ 65536 := by omega
 have w1 : IntKind.i64.wrap (2 * (sn : Int)) = 2 * (sn : Int) := by rw [IntKind.wrap_i64]; omega
 have w2 : IntKind.i64.wrap (4 + 2 * (sn : Int)) = 4 + 2 * (sn : Int) := by rw [IntKind.wrap_i64]; omega
 have w3 : IntKind.i64.wrap (4 + 2 * (sn : Int) + (bn : Int)) = 4 + 2 * (sn : Int) + (bn : Int) := by rw [IntKind.wrap_i64]; omega
 have w4 : IntKind.i64.wrap (4 + 2 * (sn : Int) + (bn : Int) + 4) = 4 + 2 * (sn : Int) + (bn : Int) + 4 := by rw [IntKind.wrap_i64]; omega
 clear h
 go_enter Tryz.func222, Tryz.ntmps222
 go_wp2_with fail
 go_quiet (fail)
 go_wp2
 go_ret
 exact ⟨zbo (by omega), _, rfl⟩
theorem lenR_any (w : World) (a : Nat) (k : Int) (n : Nat) (vb : Value) (so : Option Addr) (sn sc : Nat) (h : PR w a k n vb (.slice so sn sc)) :
  Calls Tryz.prog 75 #[.pointer (some ⟨a, 0, none⟩)] w fun e w' => e = .returned (.int .i64 (sn : Int)) ∧ w' = w := by
 obtain ⟨c0, c1, c2, c3⟩ := h.cells
 clear h
 go_enter Tryz.func75, Tryz.ntmps75
 go_wp2
 go_ret
 exact ⟨rfl, rfl⟩
theorem pw512 : pw 512 := by decide
theorem isKd2 : isKd 2 := by decide
theorem conv6H (w : World) (C : Array Value) (n c H : Nat) (hH : w.heap.size = H) : (convert 22 22 (.slice (some ⟨H, 0, none⟩) n c)).run Tryz.prog (w.alloc (.cells C 5)) = .ok (.slice (some ⟨H, 0, none⟩) n c) (w.alloc (.cells C 5 (C.size, C.size + 1))) := by
 subst hH
 exact Lib.run_convert_bytes_const (P := Tryz.prog) w 22 5 C n c Tryz.underlying22 Tryz.underlying5
theorem sl_lit (u : World) (C : List Int) (n : Nat) (fr : Nat × Nat) (g : Nat) (h : u.heap[g]? = some (.cells (By C).toArray 5 fr)) (hn : C.length = n) (hw : Wf C) (hb : n ≤ 65536) : Sl u (some ⟨g, 0, none⟩) n n C := by
 refine ⟨hn, Lr, by omega, hw, (by intro h; cases h), .inr ⟨g, 0, rfl, zaf h, fun i hi => ?_⟩⟩
 rw [Nat.zero_add, cell_of_row _ _ i _ _ _ h]
 simp [By, List.getD, zI (show i < C.length by omega)]
theorem kl_irr (a : List Int) : ¬ kl a a := by unfold kl; rw [ordL_self]; decide
theorem Is.fits {k : Int} {n : Nat} {cs : List Cl} {b : List Int} (h : Is k n cs b) : ∀ c ∈ cs, c.fit := fun c hc => (zcv h.ok c hc).fit (by have := zao h.sz; omega)
theorem Is.few {k : Int} {n : Nat} {cs : List Cl} {b : List Int} (h : Is k n cs b) : cs.length ≤ 65536 ∧ szN cs ≤ 65536 ∧ (bdy cs).length ≤ 65536 := by
 have h1 := zao h.sz
 have h2 := zbb cs
 have h3 := h.fit
 omega
theorem sameCell_self (c : Cl) (ka ka' va va' : Option Addr) (kc kc' vc vc' : Nat) (w : World) (h1 : Sl w ka c.key.length kc c.key) (h2 : Sl w ka' c.key.length kc' c.key) (h3 : Sl w va c.val.length vc c.val) (h4 : Sl w va' c.val.length vc' c.val) :
  Calls Tryz.prog 23 #[.agg #[.slice ka c.key.length kc, .int .i64 c.kd, .slice va c.val.length vc, .int .i64 c.pg, .int .i64 c.ct], .agg #[.slice ka' c.key.length kc', .int .i64 c.kd, .slice va' c.val.length vc', .int .i64 c.pg, .int .i64 c.ct]] w fun e w' => e = .returned (.bool true) ∧ Below w.heap.size w w' := by
 obtain ⟨x, hx⟩ : ∃ x, ((w.alloc (.cells #[.slice ka c.key.length kc, .int .i64 c.kd, .slice va c.val.length vc, .int .i64 c.pg, .int .i64 c.ct] 50)).alloc (.cells #[.slice ka' c.key.length kc', .int .i64 c.kd, .slice va' c.val.length vc', .int .i64 c.pg, .int .i64 c.ct] 50)) = x := ⟨_, rfl⟩
 have hb : Below w.heap.size w x := by rw [← hx]; exact zad (zad Br Lr _) Lr _
 have k1 : ∀ q, (convert 22 9 (.slice ka c.key.length kc)).run Tryz.prog (x.drewN q) = .ok (.string (strOfNums c.key)) (x.drewN q) := fun q => zaq ((h1.on Lr hb).drewN q)
 have k2 : ∀ q, (convert 22 9 (.slice ka' c.key.length kc')).run Tryz.prog (x.drewN q) = .ok (.string (strOfNums c.key)) (x.drewN q) := fun q => zaq ((h2.on Lr hb).drewN q)
 have k3 : ∀ q, (convert 22 9 (.slice va c.val.length vc)).run Tryz.prog (x.drewN q) = .ok (.string (strOfNums c.val)) (x.drewN q) := fun q => zaq ((h3.on Lr hb).drewN q)
 have k4 : ∀ q, (convert 22 9 (.slice va' c.val.length vc')).run Tryz.prog (x.drewN q) = .ok (.string (strOfNums c.val)) (x.drewN q) := fun q => zaq ((h4.on Lr hb).drewN q)
 have j1 := zaq (h1.on Lr hb)
 have j2 := zaq (h2.on Lr hb)
 have j3 := zaq (h3.on Lr hb)
 have j4 := zaq (h4.on Lr hb)
 have hz1 : (w.alloc (.cells #[.slice ka c.key.length kc, .int .i64 c.kd, .slice va c.val.length vc, .int .i64 c.pg, .int .i64 c.ct] 50)).heap.size = w.heap.size + 1 := by simp
 have b1 : C5 x w.heap.size (.slice ka c.key.length kc) (.int .i64 c.kd) (.slice va c.val.length vc) (.int .i64 c.pg) (.int .i64 c.ct) := by
  rw [← hx]
  exact zag (C5.box w _ _ _ _ _) (zad Br Lr _)
 have b2 : C5 x (w.heap.size + 1) (.slice ka' c.key.length kc') (.int .i64 c.kd) (.slice va' c.val.length vc') (.int .i64 c.pg) (.int .i64 c.ct) := by
  rw [← hx, ← hz1]
  exact C5.box _ _ _ _ _ _
 obtain ⟨c0, c1, c2, c3, c4⟩ := b1.cells
 obtain ⟨d0, d1, d2, d3, d4⟩ := b2.cells
 have HB := zaa hb
 clear h1 h2 h3 h4 hb b1 b2 hz1
 go_enter Tryz.func23, Tryz.ntmps23
 go_wp2
 go_ret
 exact ⟨rfl, HB.out⟩
theorem zck (ao bo : Option Addr) (n c d : Nat) (cs : List Cl) (w : World) (ha : SlC w ao n c cs) (hb : SlC w bo n d cs) :
  Calls Tryz.prog 9 #[.slice ao n c, .slice bo n d] w fun e w' => e = .returned (.bool true) ∧ Hid (Below w.heap.size w w') := by
 have HA := zaa ha
 have HC := zaa hb
 have hn := ha.hroom
 clear ha hb
 go_enter Tryz.func9, Tryz.ntmps9
 go_wp2_with fail
 go_loopw [5] (fun i wr => ∃ j : Nat, j ≤ n ∧ i = .int .i64 j ∧ Hid (Below w.heap.size w wr)) (fun i _ => n - (intOf i).toNat)
 case atStart => exact ⟨0, by omega, rfl, zaa Br⟩
 case round =>
  obtain ⟨j, hj, rfl, HB⟩ := hrel
  have bj : (j : Int) ≤ 140737488355328 := by omega
  by_cases hlt : j < n
  ·have hltI : (j : Int) < (n : Int) := by omega
   obtain ⟨b, off, x, ka, kc, va, vc, rfl, hb, hci, c0, c1, c2, c3, c4, hk, hv⟩ := (HA.out.on HB.out).item j hlt
   obtain ⟨b', off', x', ka', kc', va', vc', rfl, hb', hci', d0, d1, d2, d3, d4, hk', hv'⟩ := (HC.out.on HB.out).item j hlt
   rw [hci] at hci'
   injection hci' with hxx
   subst hxx
   have HS : Hid (∀ u, Below wr.heap.size wr u → Calls Tryz.prog 23 #[.agg #[.slice ka x.key.length kc, .int .i64 x.kd, .slice va x.val.length vc, .int .i64 x.pg, .int .i64 x.ct], .agg #[.slice ka' x.key.length kc', .int .i64 x.kd, .slice va' x.val.length vc', .int .i64 x.pg, .int .i64 x.ct]] u fun e w' => e = .returned (.bool true) ∧ Below wr.heap.size wr w') :=
    zaa fun u hu => (sameCell_self x ka ka' va va' kc kc' vc vc' u (hk.on Lr hu) (hk'.on Lr hu) (hv.on Lr hu) (hv'.on Lr hu)).mono fun e w' h => ⟨h.1, zae hu Lr h.2⟩
   clear hk hk' hv hv' hci
   go_wp2_with fail
   go_region_with (first | (go_at_call 23; refine (HS.out _ ?_).mono ?_; (repeat (first | exact Br | apply Below.drew | apply below_drewN)); rintro e w1 ⟨rfl, hb1⟩))
   all_goals
    go_wp2
    go_roundw
    case rel => exact ⟨j + 1, by omega, by go_num, zaa (zae HB.out Lr hb1)⟩
    case measure => simp [intOf]; omega
  ·obtain rfl : j = n := by omega
   have hlI : ¬ (j : Int) < (j : Int) := by omega
   go_wp2
   go_ret
   exact ⟨rfl, HB⟩
def Rs (cs : List Cl) : Prop := cs.Pairwise fun c d => kl c.key d.key
def Row5 (w : World) : List Value → List Cl → Prop
 | vs, [] => vs = []
 | vs, c :: r => ∃ ka kc va vc t, vs = .slice ka c.key.length kc :: .int .i64 c.kd :: .slice va c.val.length vc :: .int .i64 c.pg :: .int .i64 c.ct :: t ∧ Sl w ka c.key.length kc c.key ∧ Sl w va c.val.length vc c.val ∧ Row5 w t r
theorem Row5.cat {w w' : World} {b : Nat} (hB : Below w.heap.size w w') : ∀ {vs : List Value} {cs : List Cl} (off : Nat), Row5 w vs cs → (∀ j u, vs[j]? = some u → w'.cell? ⟨b, off + j, none⟩ = some u) → ∀ i c, cs[i]? = some c → CAt w' b (off + i * 5) c
 | vs, [], off, h, hc, i, c, hi => by simp at hi
 | vs, d :: r, off, h, hc, 0, c, hi => by
  obtain ⟨ka, kc, va, vc, t, rfl, h1, h2, h3⟩ := h
  simp at hi
  subst hi
  exact ⟨ka, kc, va, vc, hc 0 _ rfl, hc 1 _ rfl, hc 2 _ rfl, hc 3 _ rfl, hc 4 _ rfl, h1.on Lr hB, h2.on Lr hB⟩
 | vs, d :: r, off, h, hc, i + 1, c, hi => by
  obtain ⟨ka, kc, va, vc, t, rfl, h1, h2, h3⟩ := h
  have := Row5.cat hB (off + 5) h3 (fun j u hu => by
   have := hc (j + 5) u (by simpa using hu)
   rwa [show off + (j + 5) = off + 5 + j by omega] at this) i c (by simpa using hi)
  rwa [show off + 5 + i * 5 = off + (i + 1) * 5 by omega] at this
def R5B (w : World) (B : Nat) : List Value → List Cl → Prop
 | vs, [] => vs = []
 | vs, c :: r => ∃ ka kc va vc t, vs = .slice ka c.key.length kc :: .int .i64 c.kd :: .slice va c.val.length vc :: .int .i64 c.pg :: .int .i64 c.ct :: t ∧ OwnB w B (.slice ka c.key.length kc) c.key ∧ OwnB w B (.slice va c.val.length vc) c.val ∧ R5B w B t r
theorem R5B.append {w : World} {B : Nat} {us : List Value} {ds : List Cl} (g : R5B w B us ds) : ∀ {vs : List Value} {cs : List Cl}, R5B w B vs cs → R5B w B (vs ++ us) (cs ++ ds)
 | vs, [], h => by
  unfold R5B at h
  subst h
  exact g
 | vs, c :: r, h => by
  obtain ⟨ka, kc, va, vc, t, rfl, h1, h2, h3⟩ := h
  exact ⟨ka, kc, va, vc, t ++ us, rfl, h1, h2, R5B.append g h3⟩
theorem R5B.keep {w w' : World} {B : Nat} (hk : ∀ v l, OwnB w B v l → OwnB w' B v l) : ∀ {vs : List Value} {cs : List Cl}, R5B w B vs cs → R5B w' B vs cs
 | vs, [], h => h
 | vs, c :: r, h => by
  obtain ⟨ka, kc, va, vc, t, rfl, h1, h2, h3⟩ := h
  exact ⟨ka, kc, va, vc, t, rfl, hk _ _ h1, hk _ _ h2, R5B.keep hk h3⟩
theorem R5B.row {w : World} {B : Nat} (hl : ∀ v l, OwnB w B v l → True) : ∀ {vs : List Value} {cs : List Cl}, R5B w B vs cs → (∀ c ∈ cs, c.Wf ∧ c.key.length ≤ 140737488355328 ∧ c.val.length ≤ 140737488355328) → Row5 w vs cs
 | vs, [], h, _ => h
 | vs, c :: r, h, hw => by
  obtain ⟨ka, kc, va, vc, t, rfl, h1, h2, h3⟩ := h
  have hc := hw c (by simp)
  exact ⟨ka, kc, va, vc, t, rfl, own_sl6 h1 hc.1.1 hc.2.1, own_sl6 h2 hc.1.2 hc.2.2, R5B.row hl h3 (fun d hd => hw d (by simp [hd]))⟩
def OwnD (w : World) (B : Nat) (v : Value) (cs : List Cl) : Prop := ∃ vs, w.ownsRow B 50 5 v cs.length vs ∧ R5B w B vs cs
theorem OwnD.nil (w : World) (B : Nat) : OwnD w B (.slice none 0 0) [] := ⟨[], World.ownsRow_nil _ _ _ _, rfl⟩
theorem OwnD.on {w w' : World} {B : Nat} {v : Value} {cs : List Cl} (h : OwnD w B v cs) (hb : Below w.heap.size w w') : OwnD w' B v cs := by
 obtain ⟨vs, h1, h2⟩ := h
 refine ⟨vs, World.ownsRow.kept (row := none) h1 ⟨hb.os, hb.tape, hb.output, hb.size, fun k hk _ => hb.block k hk⟩ ?_, h2.keep (fun v l h => h.on Lr hb)⟩
 cases hv : v.ownBlock with
 | none => exact .inl rfl
 | some k => exact .inr (by simp)
theorem own_apart {w : World} {B n : Nat} {v u : Value} {vs : List Value} {l : List Int} (h : w.ownsRow B 50 5 v n vs) (k : OwnB w B u l) : u.ownBlock = none ∨ u.ownBlock ≠ v.ownBlock := by
 rcases h.2 with ⟨rfl, _⟩ | ⟨g, c, cur, rfl, _, hh, _⟩
 ·cases hu : u.ownBlock with
  | none => exact .inl rfl
  | some z => exact .inr (by simp [Value.ownBlock])
 ·rcases k.2 with ⟨rfl, _⟩ | ⟨g', c', cur', rfl, _, hh', _⟩
  ·exact .inl (by simp [Value.ownBlock])
  ·right
   intro e
   have e' : g' = g := by simpa [Value.ownBlock] using e
   rw [e'] at hh'
   rw [hh'] at hh
   simp at hh
theorem app_cd {ops : Array Oper} {rest : List Oper} {o : Oper} {a : Act} {Q : Exit → Act → World → Prop} (w : World) (hgd : o.guard = none) (s x : Operand)
  (ho : o.op = .call { callee := .builtin .append, args := #[s, x], argTypes := #[29, 29] }) (B : Nat) (cs : List Cl) (c : Cl) (v : Value) (b : Nat) (us : List Value) (hs : a.eval s = v) (hx : a.eval x = .slice (some ⟨b, 0, none⟩) 1 1)
  (hown : OwnD w B v cs) (hr : R5B w B us [c]) (hc : ∀ j u, us[j]? = some u → w.cell? ⟨b, 0 + j, none⟩ = some u) (hb : cs.length + 1 ≤ 200000) (hbase : B ≤ w.heap.size)
  (h : ∀ v' w', Hid (OwnD w' B v' (cs ++ [c])) → Hid (Below B w w') → wpList Tryz.prog ops Q rest (a.put o.dst v') w') : wpList Tryz.prog ops Q (o :: rest) a w := by
 obtain ⟨i0, hi, hz0, hz1, hz2⟩ := info_parts infoC
 obtain ⟨vs, h1, h2⟩ := hown
 have hlen : us.length = 1 * 5 := by
  obtain ⟨ka, kc, va, vc, t, rfl, _, _, h3⟩ := hr
  unfold R5B at h3
  subst h3
  rfl
 have hone : ∀ u ∈ us, u.oneCell' = true := by
  obtain ⟨ka, kc, va, vc, t, rfl, _, _, h3⟩ := hr
  unfold R5B at h3
  subst h3
  intro u hu
  simp only [List.mem_cons, List.not_mem_nil, or_false] at hu
  rcases hu with rfl | rfl | rfl | rfl | rfl <;> rfl
 refine wpList_append_own_at w hgd s x 29 ho B 50 i0 _ 5 72 Tryz.underlying29 hi hz0 hz1 hz2 rfl (by decide) v cs.length vs hs h1 ⟨b, 0, none⟩ 1 1 us hx hlen
  (fun j u hu => by
   rw [Addr.add_lit]
   exact hc j u hu) hone (by unfold maxLen; omega) (by omega) hbase ?_
 intro v' w' g1 g2 _ _
 have hkp : ∀ u l, OwnB w B u l → OwnB w' B u l := fun u l hu => World.ownsRow.kept hu g2 (own_apart h1 hu)
 refine h v' w' (zaa ⟨vs ++ us, ?_, R5B.append (hr.keep hkp) (h2.keep hkp)⟩) (zaa (zde h1 hbase g2))
 rw [zG]
 exact g1
def Rdd (l : List Int) (ds : List Cl) (j : Nat) : Prop := ds.length = j ∧ ∀ (t : Nat) (c : Cl), ds[t]? = some c → ∃ r, zaj (l.drop (rdN l (4 + 2 * t) 2).toNat) = some (c, r)
theorem Rdd.nil (l : List Int) : Rdd l [] 0 := ⟨rfl, fun t c h => by simp at h⟩
theorem Rdd.step {l : List Int} {ds : List Cl} {j : Nat} {c : Cl} {r : List Int} (h : Rdd l ds j) (hc : zaj (l.drop (rdN l (4 + 2 * j) 2).toNat) = some (c, r)) : Rdd l (ds ++ [c]) (j + 1) := by
 obtain ⟨h1, h2⟩ := h
 refine ⟨by simp [h1], fun t d hd => ?_⟩
 by_cases ht : t < ds.length
 ·rw [zL ht] at hd
  exact h2 t d hd
 ·have htl : t < (ds ++ [c]).length := (zH.1 hd).1
  have htj : t = j := by simp at htl; omega
  subst htj
  rw [List.getElem?_append_right (by omega), h1, Nat.sub_self] at hd
  simp at hd
  subst hd
  exact ⟨r, hc⟩
theorem Is.goes {k : Int} {n : Nat} {cs : List Cl} {l : List Int} (h : Is k n cs l) {j N : Nat} (hN : rdN l 2 2 = N) (hj : j < N) : 4 + 2 * j + 2 ≤ n ∧ ∃ c r, zaj (l.drop (rdN l (4 + 2 * j) 2).toNat) = some (c, r) := by
 obtain ⟨h1, _, h3⟩ := h.slots
 have hl : j < cs.length := by omega
 obtain ⟨h4, s, hs, _, r, hr⟩ := h3 j cs[j] (zI hl)
 refine ⟨h4, cs[j], r, ?_⟩
 rw [hs, Int.toNat_natCast]
 exact hr
theorem Is.read {k : Int} {n : Nat} {cs ds : List Cl} {l : List Int} (h : Is k n cs l) {N : Nat} (hN : rdN l 2 2 = N) (hd : Rdd l ds N) : ds = cs := by
 obtain ⟨h1, _, h3⟩ := h.slots
 obtain ⟨d1, d2⟩ := hd
 apply List.ext_getElem?
 intro t
 by_cases ht : t < N
 ·have a1 : t < ds.length := by omega
  have a2 : t < cs.length := by omega
  obtain ⟨_, s, hs, _, r, hr⟩ := h3 t cs[t] (zI a2)
  obtain ⟨r', hr'⟩ := d2 t ds[t] (zI a1)
  rw [hs, Int.toNat_natCast, hr] at hr'
  injection hr' with e
  injection e with e1 e2
  rw [zI a1, zI a2, e1]
 ·rw [List.getElem?_eq_none (by omega), List.getElem?_eq_none (by omega)]
theorem Rdd.wf {l : List Int} {ds : List Cl} {j : Nat} (h : Rdd l ds j) (hw : Wf l) : ∀ c ∈ ds, c.Wf ∧ c.key.length ≤ 140737488355328 ∧ c.val.length ≤ 140737488355328 := by
 intro c hc
 obtain ⟨i, hi, e⟩ := List.getElem_of_mem hc
 obtain ⟨r, hr⟩ := h.2 i c (by rw [zI hi, e])
 obtain ⟨_, hf, hcw, _⟩ := pCell_inv (hw.drop _) hr
 have := hf.key
 have := hf.val
 exact ⟨hcw, by omega, by omega⟩
theorem OwnD.slc {w : World} {B : Nat} {v : Value} {cs : List Cl} (h : OwnD w B v cs) (hw : ∀ c ∈ cs, c.Wf ∧ c.key.length ≤ 140737488355328 ∧ c.val.length ≤ 140737488355328) (hl : cs.length ≤ 200000) : ∃ ao cap, v = .slice ao cs.length cap ∧ SlC w ao cs.length cap cs := by
 obtain ⟨vs, h1, h2⟩ := h
 have hr := R5B.row (fun _ _ _ => trivial) h2 hw
 rcases h1.2 with ⟨rfl, h0⟩ | ⟨g, cap, cur, rfl, hg, hh, hnc, hm, hs, ht⟩
 ·rw [h0]
  exact ⟨none, 0, rfl, ⟨h0, Lr, by omega, fun _ => rfl, .inl rfl⟩⟩
 ·refine ⟨_, cap, rfl, ⟨rfl, hnc, by omega, (by intro h; cases h), .inr ⟨g, 0, rfl, zaf hh, ?_⟩⟩⟩
  exact Row5.cat Br 0 hr (fun j u hu => by
   have := World.ownsRow.cells h1 (g := g) rfl j u hu
   simpa [Addr.add_lit] using this)
theorem szN_consq (d : Cl) (r : List Cl) : szN (d :: r) = ctk d + szN r := by unfold szN; simp; omega
theorem szN_mostq : ∀ (ds : List Cl), (∀ c ∈ ds, c.key.length < 65536 ∧ c.val.length < 65536) → szN ds ≤ 8 + 131090 * ds.length
 | [], _ => by simp [szN]
 | c :: r, h => by
  have h1 := szN_mostq r (fun d hd => h d (by simp [hd]))
  have h2 := h c (by simp)
  have h3 : ctk c ≤ 131090 := by unfold ctk; split <;> omega
  rw [szN_consq, List.length_cons]
  omega
theorem szN_most {l : List Int} {ds : List Cl} {j : Nat} (h : Rdd l ds j) (hw : Wf l) : szN ds ≤ 8 + 131090 * ds.length := szN_mostq ds (fun c hc => by
 obtain ⟨i, hi, e⟩ := List.getElem_of_mem hc
 obtain ⟨r, hr⟩ := h.2 i c (by rw [zI hi, e])
 obtain ⟨_, hf, _, _⟩ := pCell_inv (hw.drop _) hr
 exact ⟨hf.key, hf.val⟩)
def RDecO (l : List Int) (w : World) (e : Ending) (w' : World) : Prop :=
 ∃ (k : Int) (co : Option Addr) (cn cc : Nat) (c : Int), e = .returned (.tuple #[.int .i64 k, .slice co cn cc, .int .i64 c]) ∧ Hid (Below w.heap.size w w') ∧
  Hid ((c = 60 ∧ k = 0 ∧ co = none ∧ cn = 0 ∧ cc = 0 ∧ ¬ ∃ cs, Is (l.getD 0 0) l.length cs l) ∨ ∃ cs, c = 0 ∧ k = l.getD 0 0 ∧ Is (l.getD 0 0) l.length cs l ∧ SlC w' co cn cc cs ∧ OwnD w' w.heap.size (.slice co cn cc) cs)
theorem RDecO.no {l : List Int} {w w' : World} (hb : Below w.heap.size w w') (h : ¬ ∃ cs, Is (l.getD 0 0) l.length cs l) : RDecO l w (.returned (.tuple #[.int .i64 0, .slice none 0 0, .int .i64 60])) w' := ⟨0, none, 0, 0, 60, rfl, zaa hb, zaa (.inl ⟨rfl, rfl, rfl, rfl, rfl, h⟩)⟩
theorem rdec6o_any (ao : Option Addr) (n cap : Nat) (l : List Int) (w : World) (hs : Sl w ao n cap l) :
  Calls Tryz.prog 21 #[.slice ao n cap] w fun e w' => RDecO l w e w' := by
 have HS := zaa hs
 have HLEN := zaa hs.hlen
 have hroom := hs.hroom
 have HIP := zaa (zeg (n : Int) w)
 by_cases hpw : pw (n : Int)
 ·have hd : decide (pw (n : Int)) = true := decide_eq_true hpw
  rw [hd] at HIP
  have hpl := pw_le hpw
  have hn1 : n ≤ 65536 := by omega
  have hn2 : 512 ≤ n := by omega
  obtain ⟨g, off, rfl, hgl, hcl⟩ : ∃ g off, ao = some ⟨g, off, none⟩ ∧ g < w.heap.size ∧ ∀ i, i < n → w.cell? ⟨g, off + i, none⟩ = some (.int .u8 (l.getD i 0)) := by
   rcases hs.hat with h0 | h0
   ·omega
   ·exact h0
  have hNb := zbh l hs.wf 2 2
  obtain ⟨N, hN⟩ := Int.eq_ofNat_of_zero_le hNb.1
  have hN6 : (N : Int) < 65536 := by have := hNb.2; rw [hN] at this; simpa using this
  have HN : Hid (rdN l 2 2 = (N : Int)) := zaa hN
  have HNU : Hid (∀ (u : World) (j d : Int), Below w.heap.size w u → 0 ≤ j → j + d ≤ n → (d = 2 ∨ d = 4) → Calls Tryz.prog 52 #[.slice (some ⟨g, off, none⟩) n cap, .int .i64 j, .int .i64 d] u fun e w' => e = .returned (.int .i64 (rdN l j.toNat d.toNat)) ∧ Hid (w' = u)) := zaa (fun u j d hu h0 h1 h2 => (rnumb6_any (some ⟨g, off, none⟩) n cap l j d u (HS.out.on Lr hu) h0 h1 h2).mono (fun e w' hh => ⟨hh.1, zaa hh.2⟩))
  have h2 := HNU.out w 2 2 Br (by omega) (by omega) (.inl rfl)
  rw [show (2 : Int).toNat = 2 from rfl, hN] at h2
  have H2 := zaa h2
  have HCEL : Hid (∀ u, Below w.heap.size w u → u.cell? ⟨g, off, none⟩ = some (.int .u8 (l.getD 0 0))) := zaa (fun u hu => (hu.cell (p := ⟨g, off, none⟩) hgl).trans (by have := hcl 0 (by omega); simpa using this))
  have hx : 0 ≤ l.getD 0 0 ∧ l.getD 0 0 ≤ 255 := by
   have h := zbh l hs.wf 0 1
   rw [rdN_one l 0 (by rw [HLEN.out]; omega)] at h
   simp at h
   simp
   omega
  have HWF := zaa hs.wf
  obtain ⟨x, hxe⟩ : ∃ x, l.getD 0 0 = x := ⟨_, rfl⟩
  rw [hxe] at hx HCEL
  obtain ⟨hx0, hx1⟩ := hx
  have HXE := zaa hxe
  have HNO : Hid (∀ w', Below w.heap.size w w' → (∀ cs, Is x n cs l → False) → RDecO l w (.returned (.tuple #[.int .i64 0, .slice none 0 0, .int .i64 60])) w') := zaa (fun w' hb h => RDecO.no hb (by rw [hxe, HLEN.out]; rintro ⟨cs, hc⟩; exact h cs hc))
  clear hs hcl hN hNb h2 hpw hpl hxe hd
  go_enter Tryz.func21, Tryz.ntmps21
  go_wp2_with (first
   | (go_at_call 51; refine zac HIP.out ?_)
   | (go_at_call 52; refine H2.out.mono ?_; rintro e w1 ⟨rfl, hw1⟩; refine Hid.out ?_))
  apply zaa
  have hww : w = w1 := hw1.out.symm
  subst hww
  clear hw1 H2 HIP
  go_wp2_with fail
  go_loopw [7, 8] (fun v i wr => ∃ (ov : Value) (j : Nat) (ds : List Cl), ov = v ∧ j ≤ N ∧ i = .int .i64 j ∧ Hid (OwnD wr w.heap.size ov ds) ∧ Hid (Rdd l ds j) ∧ Hid (Below w.heap.size w wr)) (fun _ i _ => N - (RowKit.intOf i).toNat)
  case atStart => exact ⟨_, 0, [], rfl, by omega, rfl, zaa (OwnD.nil _ _), zaa (Rdd.nil l), zaa Br⟩
  case round =>
   obtain ⟨ov, j, ds, hov, hj, rfl, HO, HR, HB⟩ := hrel
   subst hov
   have bj : (j : Int) ≤ 65536 := by omega
   by_cases hlt : j < N
   ·have hltI : (j : Int) < (N : Int) := by omega
    by_cases h4 : n < 4 + 2 * j + 2
    ·have h4I : (n : Int) < 4 + 2 * (j : Int) + 2 := by omega
     go_wp2
     go_ret3
     exact HNO.out _ HB.out (fun cs hc => by have := (hc.goes HN.out hlt).1; omega)
    ·have h4I : ¬ (n : Int) < 4 + 2 * (j : Int) + 2 := by omega
     have hA := HNU.out wr (4 + 2 * (j : Int)) 2 HB.out (by omega) (by omega) (.inl rfl)
     rw [show (4 + 2 * (j : Int)).toNat = 4 + 2 * j by omega, show (2 : Int).toNat = 2 from rfl] at hA
     have hsb := zbh l HWF.out (4 + 2 * j) 2
     obtain ⟨s, hse⟩ := Int.eq_ofNat_of_zero_le hsb.1
     have hs6 : s ≤ 65536 := by
      have := hsb.2
      rw [hse] at this
      simp at this
      omega
     rw [hse] at hA
     have HSE : Hid (rdN l (4 + 2 * j) 2 = (s : Int)) := zaa hse
     have HA := zaa hA
     have HCA := zaa (cellAt_any (some ⟨g, off, none⟩) n cap l s wr (HS.out.on Lr HB.out) hs6)
     clear hA hsb hse
     go_wp2_with (go_at_call 52; refine HA.out.mono ?_; rintro e w2 ⟨rfl, hw2⟩; refine Hid.out ?_)
     apply zaa
     have hww : wr = w2 := hw2.out.symm
     subst hww
     clear hw2 HA
     go_wp2_with (go_at_call 53; refine HCA.out.mono ?_; rintro e w3 ⟨ko, kn, kc, kd, vo, vn, vc, pg, ct, ok, rfl, HBc, HQ⟩; refine Hid.out ?_)
     apply zaa
     clear HCA
     have HB3 : Hid (Below w.heap.size w w3) := zaa (zae HB.out Lr HBc.out)
     cases ok with
     | false =>
      have HNC : Hid (zaj (l.drop s) = none) := zaa (by
       rcases HQ.out with h | h
       ·exact h.2
       ·cases h.1)
      clear HQ
      go_wp2
      go_ret3
      exact HNO.out _ (zad HB3.out Lr _) (fun cs hc => by
       obtain ⟨_, c, r, hr⟩ := hc.goes HN.out hlt
       rw [HSE.out, Int.toNat_natCast, HNC.out] at hr
       cases hr)
     | true =>
      obtain ⟨key, val, r, hpc, ho1, ho2⟩ : ∃ key val r, zaj (l.drop s) = some (⟨key, kd, val, pg, ct⟩, r) ∧ OwnB w3 wr.heap.size (.slice ko kn kc) key ∧ OwnB w3 wr.heap.size (.slice vo vn vc) val := by
       rcases HQ.out with h | h
       ·cases h.1
       ·exact h.2
      have hkn : kn = key.length := by
       obtain ⟨a, c, e⟩ := zbw ho1
       injection e
      have hvn : vn = val.length := by
       obtain ⟨a, c, e⟩ := zbw ho2
       injection e
      have HRO : Hid (R5B w3 w.heap.size [.slice ko kn kc, .int .i64 kd, .slice vo vn vc, .int .i64 pg, .int .i64 ct] [⟨key, kd, val, pg, ct⟩]) := zaa ⟨ko, kc, vo, vc, [], by simp only [hkn, hvn], by rw [hkn] at ho1; exact ho1.low HB.out.size, by rw [hvn] at ho2; exact ho2.low HB.out.size, rfl⟩
      have HR3 : Hid (Rdd l (ds ++ [⟨key, kd, val, pg, ct⟩]) (j + 1)) := zaa (HR.out.step (r := r) (by rw [HSE.out, Int.toNat_natCast]; exact hpc))
      have HBN : Hid (ds.length + 1 ≤ 200000) := zaa (by rw [HR.out.1]; omega)
      obtain ⟨y1, hy1⟩ : ∃ y, w3.alloc (.cells #[.slice ko kn kc, .int .i64 kd, .slice vo vn vc, .int .i64 pg, .int .i64 ct] 50) = y := ⟨_, rfl⟩
      have hz1 : y1.heap.size = w3.heap.size + 1 := by rw [← hy1]; simp
      have hb1 : Below w3.heap.size w3 y1 := by rw [← hy1]; exact zad Br Lr _
      have hc1 : C5 y1 w3.heap.size (.slice ko kn kc) (.int .i64 kd) (.slice vo vn vc) (.int .i64 pg) (.int .i64 ct) := by rw [← hy1]; exact C5.box w3 _ _ _ _ _
      obtain ⟨y2, hy2⟩ : ∃ y, y1.alloc (.cells #[.slice ko kn kc, .int .i64 kd, .slice vo vn vc, .int .i64 pg, .int .i64 ct] 50) = y := ⟨_, rfl⟩
      have hb2 : Below y1.heap.size y1 y2 := by rw [← hy2]; exact zad Br Lr _
      have hb12 : Below w3.heap.size w3 y2 := zae hb1 Lr hb2
      have HOY : Hid (OwnD y2 w.heap.size ov ds) := zaa ((HO.out.on HBc.out).on hb12)
      have HRY : Hid (R5B y2 w.heap.size [.slice ko kn kc, .int .i64 kd, .slice vo vn vc, .int .i64 pg, .int .i64 ct] [⟨key, kd, val, pg, ct⟩]) := zaa (HRO.out.keep (fun v l h => h.on Lr hb12))
      have HBY : Hid (Below w.heap.size w y2) := zaa (zae HB3.out Lr hb12)
      have HXY : Hid (∀ i u, ([.slice ko kn kc, .int .i64 kd, .slice vo vn vc, .int .i64 pg, .int .i64 ct] : List Value)[i]? = some u → y2.cell? ⟨w3.heap.size + 1, 0 + i, none⟩ = some u) := zaa (by
       obtain ⟨f0, f1, f2, f3, f4⟩ := (C5.box y1 (.slice ko kn kc) (.int .i64 kd) (.slice vo vn vc) (.int .i64 pg) (.int .i64 ct)).cells
       rw [hy2, hz1] at f0 f1 f2 f3 f4
       intro i u hu
       have hj5 : i < 5 := (zH.1 hu).1
       have hj' : i = 0 ∨ i = 1 ∨ i = 2 ∨ i = 3 ∨ i = 4 := by omega
       rcases hj' with rfl | rfl | rfl | rfl | rfl <;> (simp only [List.getElem?_cons_zero, List.getElem?_cons_succ, Option.some.injEq] at hu; subst hu; assumption))
      obtain ⟨c0, c1, c2, c3, c4⟩ := hc1.cells
      clear HQ hpc ho1 ho2 hkn hvn hb1 hb2 hb12 HRO HO HR hc1
      go_wp2_with (at_builtin; refine app_cd _ rfl _ _ rfl w.heap.size ds ⟨key, kd, val, pg, ct⟩ ov (w3.heap.size + 1) _ rfl rfl HOY.out HRY.out HXY.out HBN.out HBY.out.size ?_; intro v2 u2 HO2 HBU2; refine Hid.out ?_)
      apply zaa
      have HBU : Hid (Below w.heap.size w u2) := zaa (HBY.out.trans HBU2.out)
      clear HOY HBY HXY HRY hy1 hy2 hz1 c0 c1 c2 c3 c4 HBU2
      go_wp2
      go_roundw
      case rel => exact ⟨_, j + 1, _, rfl, by omega, by go_num, HO2, HR3, HBU⟩
      case measure => simp [RowKit.intOf]; omega
   ·obtain rfl : j = N := by omega
    have hltI : ¬ (j : Int) < (j : Int) := by omega
    have HWD := zaa (HR.out.wf HWF.out)
    have HFT : Hid (szN ds ≤ 1099511627776) := zaa (by have := szN_most HR.out HWF.out; rw [HR.out.1] at this; omega)
    obtain ⟨co, cc, hv, hsl⟩ := HO.out.slc HWD.out (by rw [HR.out.1]; omega)
    subst hv
    have hdl := HR.out.1
    obtain ⟨dn, hdn⟩ : ∃ dn, ds.length = dn := ⟨_, rfl⟩
    rw [hdn] at hsl HO ⊢
    have hd9 : dn ≤ 900000 := by omega
    have HSL := zaa hsl
    have b0 := HCEL.out wr HB.out
    have hn0 : (0 : Int) < (n : Int) := by omega
    have HSAME : Hid (∀ cs, Is x n cs l → ds = cs) := zaa (fun cs hc => hc.read HN.out HR.out)
    have hEnc := Classical.em (encE x n ds = 0)
    rcases hEnc with he | he
    ·have HE := zaa (rencode6_yes x n co dn cc ds wr hsl hd9 he)
     have HHE := zaa he
     have HPW : Hid (Wf (pgB x n ds)) := zaa (pgB_wf ⟨hx0, hx1⟩ (fun c hc => (HWD.out c hc).1))
     have HPL : Hid ((pgB x n ds).length ≤ 65536) := zaa (by
      by_cases hz : szN ds ≤ n
      ·rw [zdq _ _ _ hz]; exact hn1
      ·unfold encE at he
       exfalso
       split at he
       ·split at he
        ·split at he
         ·cases he
         ·rename_i h; omega
        ·rename_i h; exact h he
       ·cases he)
     clear hsl hdl hdn he
     go_wp2_with (go_at_call 54; refine HE.out.mono ?_; rintro e w3 ⟨v, rfl, HP, HBc⟩; refine Hid.out ?_)
     apply zaa
     obtain ⟨P, hP⟩ : ∃ P, pgB x n ds = P := ⟨_, rfl⟩
     rw [hP] at HP HPW HPL
     have HPE := zaa hP
     obtain ⟨po, pc, hv⟩ := zbw HP.out
     subst hv
     obtain ⟨pn, hpn⟩ : ∃ pn, P.length = pn := ⟨_, rfl⟩
     rw [hpn] at HP ⊢
     have hsp : Sl w3 po pn pc P := own_sl6 HP.out HPW.out (by have := HPL.out; omega)
     have HB3 : Hid (Below w.heap.size w w3) := zaa (zae HB.out Lr HBc.out)
     have hsb := HS.out.on Lr HB3.out
     have k1 := zaq hsp
     have k2 := zaq hsb
     have hse := str_beq hsp.wf hsb.wf
     have b1 := HCEL.out w3 HB3.out
     have HSL3 := zaa (HSL.out.on HBc.out)
     have HO3 := zaa (HO.out.on HBc.out)
     clear HO
     clear hP hpn hsp hsb b0 HE
     by_cases heq : P = l
     ·have hse2 : ((strOfNums P).toList == (strOfNums l).toList) = true := by rw [hse]; simpa using heq
      have HIS : Hid (Is x n ds l) := zaa (enc_is6 HHE.out (HPE.out.trans heq))
      clear hse heq
      go_wp2
      go_ret3
      exact ⟨x, co, dn, cc, 0, rfl, HB3, zaa (.inr ⟨ds, rfl, HXE.out.symm, by rw [HXE.out, HLEN.out]; exact HIS.out, HSL3.out, HO3.out⟩)⟩
     ·have hse2 : ((strOfNums P).toList == (strOfNums l).toList) = false := by rw [hse]; simpa using heq
      have HNE := zaa heq
      clear hse heq
      go_wp2
      go_ret3
      exact HNO.out _ HB3.out (fun cs hc => by
       have e := HSAME.out cs hc
       subst e
       exact HNE.out (HPE.out.symm.trans hc.eq))
    ·have HE := zaa (rencode6_no x n co dn cc ds wr hsl hd9 HFT.out he)
     unfold RNo6 at HE
     have HHE := zaa he
     obtain ⟨E, hEE⟩ : ∃ E, encE x n ds = E := ⟨_, rfl⟩
     rw [hEE] at HE he
     clear hsl hdl hdn hEE HO
     go_wp2_with (go_at_call 54; refine HE.out.mono ?_; rintro e w3 ⟨rfl, HBc⟩; refine Hid.out ?_)
     apply zaa
     have HB3 : Hid (Below w.heap.size w w3) := zaa (zae HB.out Lr HBc.out)
     clear b0 HE
     go_wp2
     go_ret3
     exact HNO.out _ HB3.out (fun cs hc => by
      have e := HSAME.out cs hc
      subst e
      exact HHE.out hc.enc6)
 ·have hd : decide (pw (n : Int)) = false := decide_eq_false hpw
  rw [hd] at HIP
  have HNI : Hid (¬ ∃ cs, Is (l.getD 0 0) l.length cs l) := zaa (by rintro ⟨cs, hc⟩; have := hc.sz; rw [HLEN.out] at this; exact hpw this)
  clear hs hpw hd
  go_enter Tryz.func21, Tryz.ntmps21
  go_wp2_with (go_at_call 51; refine zac HIP.out ?_)
  go_ret3
  exact RDecO.no Br HNI.out
end Go.Proofs.YtbkhjeacmmbabaaGreatDoor
