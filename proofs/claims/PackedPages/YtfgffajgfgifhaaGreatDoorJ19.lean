import Derived.Test.YtfgffajgfgifhaaGreatDoorJ18
import Derived.Test.YtfgffajgfgifhaaGreatDoorJ17
import Derived.Test.YtfgffajgfgifhaaGreatDoorJ13
namespace Go.Proofs.YtfgffajgfgifhaaGreatDoor
set_option maxRecDepth 100000
set_option maxHeartbeats 2000000
open Go.RowKit
structure Fnd (cs : List Cl) (q : List Int) (r : Nat) : Prop where
 le : r ≤ cs.length
 lo : ∀ i c, i < r → cs[i]? = some c → kl c.key q
 hi : ∀ i c, r ≤ i → cs[i]? = some c → ¬ kl c.key q
def FindTo (cs : List Cl) (q : List Int) (w : World) (e : Ending) (w' : World) : Prop :=
 ∃ r : Nat, ∃ is : Bool, e = .returned (.tuple #[.int .i64 (r : Int), .bool is]) ∧ Hid (Below w.heap.size w w') ∧ Hid (Fnd cs q r ∧ (is = true ↔ ∃ c, cs[r]? = some c ∧ c.key = q))
theorem rs_at {cs : List Cl} (h : Rs cs) {i j : Nat} {c d : Cl} (hij : i < j) (hc : cs[i]? = some c) (hd : cs[j]? = some d) : kl c.key d.key := by
 unfold Rs at h
 rw [List.pairwise_iff_getElem] at h
 obtain ⟨h1, e1⟩ := zH.1 hc
 obtain ⟨h2, e2⟩ := zH.1 hd
 have := h i j h1 h2 hij
 rwa [e1, e2] at this
structure Am (w : World) (o1 l1 : Nat) (low : Nat) (F : Value) : Prop where
 c1 : w.cell? ⟨o1, 0, none⟩ = some F
 c2 : w.cell? ⟨l1, 0, none⟩ = some (.int .i64 (low : Int))
 h1 : o1 < w.heap.size
 h2 : l1 < w.heap.size
theorem Am.go {w v : World} {o1 l1 low : Nat} {F : Value} (h : Am w o1 l1 low F) (hb : Below w.heap.size w v) : Am v o1 l1 low F :=
 ⟨(hb.cell (p := ⟨o1, 0, none⟩) h.h1).trans h.c1, (hb.cell (p := ⟨l1, 0, none⟩) h.h2).trans h.c2, zO h.h1 hb.size, zO h.h2 hb.size⟩
theorem among1_any (w : World) (o1 l1 low j i b1 b2 b3 b4 : Nat) (o : Int) (hA : Am w o1 l1 low (.func (.func 110) #[] #[.pointer (some ⟨b1, 0, none⟩), .pointer (some ⟨b2, 0, none⟩), .pointer (some ⟨b3, 0, none⟩), .pointer (some ⟨b4, 0, none⟩)])) (hi : low + j = i) (hb : i ≤ 65536)
  (hF : Calls Tryz.prog 110 #[.int .i64 (i : Int), .pointer (some ⟨b1, 0, none⟩), .pointer (some ⟨b2, 0, none⟩), .pointer (some ⟨b3, 0, none⟩), .pointer (some ⟨b4, 0, none⟩)] w fun e w' => e = .returned (.int .i64 o) ∧ Hid (Below w.heap.size w w')) :
  Calls Tryz.prog 108 #[.int .i64 (j : Int), .pointer (some ⟨o1, 0, none⟩), .pointer (some ⟨l1, 0, none⟩)] w fun e w' => e = .returned (.bool (decide (0 ≤ o))) ∧ Hid (Below w.heap.size w w') := by
 obtain ⟨c1, c2, h1, h2⟩ := hA
 have HF := hidden hF
 have hiI : (low : Int) + (j : Int) = (i : Int) := by omega
 have bi : (i : Int) ≤ 65536 := by omega
 have bj : (j : Int) ≤ 65536 := by omega
 have bl : (low : Int) ≤ 65536 := by omega
 clear hF hi
 go_enter Tryz.func108, Tryz.ntmps108
 go_wp2_with (first | (go_at_call 110; refine HF.out.mono ?_; rintro e w2 ⟨rfl, HB2⟩))
 go_ret
 exact ⟨rfl, HB2⟩
theorem search7_any (w : World) (o1 l1 low N : Nat) (cs : List Cl) (q : List Int) (hr : Rs cs) (hN : low + N ≤ cs.length) (hb : cs.length ≤ 65536) (b1 b2 b3 b4 : Nat)
  (hA : Am w o1 l1 low (.func (.func 110) #[] #[.pointer (some ⟨b1, 0, none⟩), .pointer (some ⟨b2, 0, none⟩), .pointer (some ⟨b3, 0, none⟩), .pointer (some ⟨b4, 0, none⟩)]))
  (hF : ∀ u (i : Nat) (c : Cl), Below w.heap.size w u → cs[i]? = some c → Calls Tryz.prog 110 #[.int .i64 (i : Int), .pointer (some ⟨b1, 0, none⟩), .pointer (some ⟨b2, 0, none⟩), .pointer (some ⟨b3, 0, none⟩), .pointer (some ⟨b4, 0, none⟩)] u fun e w' => e = .returned (.int .i64 (ordL c.key q)) ∧ Hid (Below u.heap.size u w'))
  (hlo : ∀ i c, i < low → cs[i]? = some c → kl c.key q) (hhi : ∀ i c, low + N ≤ i → cs[i]? = some c → ¬ kl c.key q) :
  Calls Tryz.prog 107 #[.int .i64 (N : Int), .func (.func 108) #[] #[.pointer (some ⟨o1, 0, none⟩), .pointer (some ⟨l1, 0, none⟩)]] w fun e w' => ∃ r : Nat, e = .returned (.int .i64 (r : Int)) ∧ Hid (Below w.heap.size w w') ∧ Hid (Fnd cs q (low + r) ∧ r ≤ N) := by
 have HA := hidden hA
 have HF := hidden hF
 have HRS := hidden hr
 have HLO := hidden hlo
 have HHI := hidden hhi
 clear hA hF hr hlo hhi
 go_enter Tryz.func107, Tryz.ntmps107
 go_wp2_with fail
 go_loopw [5, 6] (fun s5 s6 wr => ∃ lo hi : Nat, s5 = .int .i64 lo ∧ s6 = .int .i64 hi ∧ lo ≤ hi ∧ hi ≤ N ∧ Hid (Below w.heap.size w wr) ∧ Hid ((∀ i c, i < low + lo → cs[i]? = some c → kl c.key q) ∧ ∀ i c, low + hi ≤ i → cs[i]? = some c → ¬ kl c.key q)) (fun s5 s6 _ => (intOf s6).toNat - (intOf s5).toNat)
 case atStart => exact ⟨0, N, rfl, rfl, by omega, by omega, hidden Br, hidden ⟨HLO.out, HHI.out⟩⟩
 case round =>
  obtain ⟨lo, hi, rfl, rfl, hlh, hhs, HB, HI⟩ := hrel
  have b1' : (lo : Int) ≤ 65536 := by omega
  have b2' : (hi : Int) ≤ 65536 := by omega
  by_cases hlt : lo < hi
  ·have hltI : (lo : Int) < (hi : Int) := by omega
   obtain ⟨m, hm⟩ : ∃ m, (lo + hi) / 2 = m := ⟨_, rfl⟩
   have hmI : ((lo : Int) + (hi : Int)) / 2 = (m : Int) := by omega
   have m3 : (m : Int) ≤ 65536 := by omega
   have HML : Hid (lo ≤ m ∧ m < hi) := hidden (by omega)
   obtain ⟨c, hc⟩ : ∃ c, cs[low + m]? = some c := ⟨_, zI (by omega)⟩
   have HC := hidden hc
   have h3 := ordL_three c.key q
   have HKL : Hid (kl c.key q ↔ ordL c.key q < 0) := hidden (by unfold kl; omega)
   have HFM := hidden (among1_any wr o1 l1 low m (low + m) b1 b2 b3 b4 (ordL c.key q) (HA.out.go HB.out) rfl (by omega) (HF.out wr (low + m) c HB.out hc))
   clear hm hc
   generalize ordL c.key q = o at *
   by_cases ho : o < 0
   ·have d1 : decide (0 ≤ o) = false := decide_eq_false (by omega)
    rw [d1] at HFM
    clear h3
    go_wp2_with (first | (go_at_call 108; refine HFM.out.mono ?_; rintro e w2 ⟨rfl, HB2⟩))
    go_roundw
    case rel =>
     refine ⟨m + 1, hi, by go_num, rfl, by have := HML.out; omega, hhs, hidden (bl_go HB.out Lr HB2.out), hidden ⟨fun i d hi' hd => ?_, HI.out.2⟩⟩
     by_cases e : i = low + m
     ·subst e
      rw [HC.out] at hd
      injection hd with hd
      subst hd
      exact HKL.out.2 ho
     ·exact kl_trans _ _ _ (rs_at HRS.out (by omega) hd HC.out) (HKL.out.2 ho)
    case measure => have := HML.out; simp [intOf]; omega
   ·have d1 : decide (0 ≤ o) = true := decide_eq_true (by omega)
    rw [d1] at HFM
    clear h3
    go_wp2_with (first | (go_at_call 108; refine HFM.out.mono ?_; rintro e w2 ⟨rfl, HB2⟩))
    go_roundw
    case rel =>
     refine ⟨lo, m, rfl, by go_num, by have := HML.out; omega, by have := HML.out; omega, hidden (bl_go HB.out Lr HB2.out), hidden ⟨HI.out.1, fun i d hi' hd hk => ?_⟩⟩
     by_cases e : i = low + m
     ·subst e
      rw [HC.out] at hd
      injection hd with hd
      subst hd
      have := HKL.out.1 hk
      omega
     ·have := HKL.out.1 (kl_trans _ _ _ (rs_at HRS.out (by omega) HC.out hd) hk)
      omega
    case measure => have := HML.out; simp [intOf]; omega
  ·obtain rfl : hi = lo := by omega
   have hltI : ¬ (hi : Int) < (hi : Int) := by omega
   go_wp2
   go_ret
   exact ⟨hi, rfl, HB, hidden ⟨⟨by omega, HI.out.1, HI.out.2⟩, hhs⟩⟩
theorem among_any (w : World) (a : Nat) (k : Int) (n : Nat) (po : Option Addr) (pn pc : Nat) (bo : Option Addr) (bn bc : Nat) (so : Option Addr) (sn sc : Nat) (ws : Int) (P body : List Int) (st : List Nat) (cs : List Cl) (h : PgQ w a k n po pn pc bo bn bc so sn sc ws P body st) (hl : LayQ k P cs body st) (hr : Rs cs) (hbn : bn ≤ 1099511627776) (hsn : sn ≤ 65536) (low high : Nat) (hlh : low ≤ high) (hhs : high ≤ sn)
  (b1 b2 b3 b4 : Nat) (qo : Option Addr) (qn qc : Nat) (ro : Option Addr) (rn rc : Nat) (b : Bool) (q : List Int) (hA : Ag w a b1 b2 b3 b4 qo qn qc ro rn rc b P q) (hlo : ∀ i c, i < low → cs[i]? = some c → kl c.key q) (hhi : ∀ i c, high ≤ i → cs[i]? = some c → ¬ kl c.key q) :
  Calls Tryz.prog 65 #[.pointer (some ⟨a, 0, none⟩), .int .i64 (low : Int), .int .i64 (high : Int), .func (.func 110) #[] #[.pointer (some ⟨b1, 0, none⟩), .pointer (some ⟨b2, 0, none⟩), .pointer (some ⟨b3, 0, none⟩), .pointer (some ⟨b4, 0, none⟩)]] w fun e w' => FindTo cs q w e w' := by
 have hcs : cs.length = sn := by rw [← hl.len, h.starts.hlen]
 obtain ⟨N, hN⟩ : ∃ N, high - low = N := ⟨_, rfl⟩
 have hNI : (high : Int) - (low : Int) = (N : Int) := by omega
 obtain ⟨s, hs⟩ : ∃ s, w.heap.size = s := ⟨_, rfl⟩
 obtain ⟨x, hx⟩ : ∃ x, (w.alloc (.cells #[.int .i64 (low : Int)] 3)).alloc (.cells #[.func (.func 110) #[] #[.pointer (some ⟨b1, 0, none⟩), .pointer (some ⟨b2, 0, none⟩), .pointer (some ⟨b3, 0, none⟩), .pointer (some ⟨b4, 0, none⟩)]] 80) = x := ⟨_, rfl⟩
 have hbx : Below w.heap.size w x := by rw [← hx]; exact bl_al (bl_al Br Lr _) Lr _
 have hAm : Am x (s + 1) s low (.func (.func 110) #[] #[.pointer (some ⟨b1, 0, none⟩), .pointer (some ⟨b2, 0, none⟩), .pointer (some ⟨b3, 0, none⟩), .pointer (some ⟨b4, 0, none⟩)]) := by
  rw [← hx, ← hs]
  exact ⟨by simp, by simp, by simp, by simp; omega⟩
 have HF : Hid (∀ u (i : Nat) (c : Cl), Below x.heap.size x u → cs[i]? = some c → Calls Tryz.prog 110 #[.int .i64 (i : Int), .pointer (some ⟨b1, 0, none⟩), .pointer (some ⟨b2, 0, none⟩), .pointer (some ⟨b3, 0, none⟩), .pointer (some ⟨b4, 0, none⟩)] u fun e w' => e = .returned (.int .i64 (ordL c.key q)) ∧ Hid (Below u.heap.size u w')) := hidden fun u i c hu hc =>
  against1_any u a k n po pn pc bo bn bc so sn sc ws P body st cs (h.on (bl_go hbx Lr hu)) hl i c hc hbn b1 b2 b3 b4 qo qn qc ro rn rc b q (hA.go (bl_go hbx Lr hu))
 have HSR : Hid (∀ u, Below x.heap.size x u → Calls Tryz.prog 107 #[.int .i64 (N : Int), .func (.func 108) #[] #[.pointer (some ⟨s + 1, 0, none⟩), .pointer (some ⟨s, 0, none⟩)]] u fun e w' => ∃ r : Nat, e = .returned (.int .i64 (r : Int)) ∧ (w'.cell? ⟨s + 1, 0, none⟩ = some (.func (.func 110) #[] #[.pointer (some ⟨b1, 0, none⟩), .pointer (some ⟨b2, 0, none⟩), .pointer (some ⟨b3, 0, none⟩), .pointer (some ⟨b4, 0, none⟩)]) ∧ w'.cell? ⟨s, 0, none⟩ = some (.int .i64 (low : Int)) ∧ r ≤ N) ∧ Hid (Below x.heap.size x w') ∧ Hid (Fnd cs q (low + r))) := by
  refine hidden fun u hu => (search7_any u (s + 1) s low N cs q hr (by omega) (by omega) b1 b2 b3 b4 (hAm.go hu) (fun v i c hv hc => HF.out v i c (bl_go hu Lr hv) hc) hlo (fun i c hi => hhi i c (by omega))).mono ?_
  rintro e w' ⟨r, rfl, HB, HQ⟩
  have hb := bl_go hu Lr HB.out
  have h3 := hAm.go hb
  exact ⟨r, rfl, ⟨h3.c1, h3.c2, HQ.out.2⟩, hidden hb, hidden HQ.out.1⟩
 have HLN : Hid (∀ u, Below x.heap.size x u → Calls Tryz.prog 26 #[.pointer (some ⟨a, 0, none⟩)] u fun e w' => e = .returned (.int .i64 (sn : Int)) ∧ w' = u) := hidden fun u hu => qlen_any u a k n po pn pc bo bn bc so sn sc ws P body st (h.on (bl_go hbx Lr hu))
 have HBX := hidden hbx
 have HCS := hidden hcs
 obtain ⟨y1, y2, _, _⟩ := hAm
 have bl : (low : Int) ≤ 65536 := by omega
 have bh : (high : Int) ≤ 65536 := by omega
 have bN : (N : Int) ≤ 65536 := by omega
 have hwN : IntKind.i64.wrap (N : Int) = (N : Int) := by rw [IntKind.wrap_i64]; omega
 clear h hl hr hA hlo hhi hcs hbx
 go_enter Tryz.func65, Tryz.ntmps65
 go_wp2_with fail
 go_region_with (first | (go_at_call 107; refine (HSR.out _ (by first | exact Br | exact Br.drew | exact bl_dr Br _)).mono ?_; rintro e w2 ⟨r, rfl, ⟨z1, z2, hrN⟩, HB2, HQ2⟩))
 all_goals
  obtain ⟨i, hi⟩ : ∃ i, low + r = i := ⟨_, rfl⟩
  have hiI : (low : Int) + (r : Int) = (i : Int) := by omega
  have bi : (i : Int) ≤ 65536 := by omega
  have br : (r : Int) ≤ 65536 := by omega
  have hwi : IntKind.i64.wrap (i : Int) = (i : Int) := by rw [IntKind.wrap_i64]; omega
  have HFN : Hid (Fnd cs q i) := hidden (by rw [← hi]; exact HQ2.out)
  by_cases hlt : i < sn
  ·have hltI : (i : Int) < (sn : Int) := by omega
   obtain ⟨c, hc⟩ : ∃ c, cs[i]? = some c := ⟨_, zI (by rw [HCS.out]; exact hlt)⟩
   have HEQ : Hid (ordL c.key q = 0 ↔ ∃ d, cs[i]? = some d ∧ d.key = q) := hidden (by
    rw [hc]
    constructor
    ·intro h
     exact ⟨c, rfl, ordL_eq _ _ h⟩
    ·rintro ⟨d, hd, rfl⟩
     injection hd with hd
     subst hd
     exact ordL_self _)
   have HFM : Hid (∀ u, Below w2.heap.size w2 u → Calls Tryz.prog 110 #[.int .i64 (i : Int), .pointer (some ⟨b1, 0, none⟩), .pointer (some ⟨b2, 0, none⟩), .pointer (some ⟨b3, 0, none⟩), .pointer (some ⟨b4, 0, none⟩)] u fun e w' => e = .returned (.int .i64 (ordL c.key q)) ∧ Hid (Below u.heap.size u w')) := hidden fun u hu => HF.out u i c (bl_go HB2.out Lr hu) hc
   have HLN2 : Hid (∀ u, Below w2.heap.size w2 u → Calls Tryz.prog 26 #[.pointer (some ⟨a, 0, none⟩)] u fun e w' => e = .returned (.int .i64 (sn : Int)) ∧ w' = u) := hidden fun u hu => HLN.out u (bl_go HB2.out Lr hu)
   clear hc hi
   generalize ordL c.key q = o at *
   by_cases ho : o = 0
   ·subst ho
    go_wp2_with (first | (go_at_call 26; refine same_call (HLN2.out _ (by first | exact Br | exact Br.drew | exact bl_dr Br _)) ?_) | (go_at_call 110; refine (HFM.out _ (by first | exact Br | exact Br.drew | exact bl_dr Br _)).mono ?_; rintro e w3 ⟨rfl, HB3⟩))
    go_ret2
    exact ⟨i, true, rfl, hidden (bl_go (bl_go HBX.out Lr HB2.out) Lr (by first | exact HB3.out | exact bl_go Br.drew Lr HB3.out | exact bl_go (bl_dr Br _) Lr HB3.out)), hidden ⟨HFN.out, by simpa using HEQ.out⟩⟩
   ·have d1 : (o == 0) = false := by simpa using ho
    go_wp2_with (first | (go_at_call 26; refine same_call (HLN2.out _ (by first | exact Br | exact Br.drew | exact bl_dr Br _)) ?_) | (go_at_call 110; refine (HFM.out _ (by first | exact Br | exact Br.drew | exact bl_dr Br _)).mono ?_; rintro e w3 ⟨rfl, HB3⟩))
    go_ret2
    exact ⟨i, false, rfl, hidden (bl_go (bl_go HBX.out Lr HB2.out) Lr (by first | exact HB3.out | exact bl_go Br.drew Lr HB3.out | exact bl_go (bl_dr Br _) Lr HB3.out)), hidden ⟨HFN.out, by simpa using fun x h1 h2 => ho (HEQ.out.2 ⟨x, h1, h2⟩)⟩⟩
  ·have hltI : ¬ (i : Int) < (sn : Int) := by omega
   have HNO : Hid (cs[i]? = none) := hidden (List.getElem?_eq_none (by rw [HCS.out]; omega))
   have HLN2 : Hid (∀ u, Below w2.heap.size w2 u → Calls Tryz.prog 26 #[.pointer (some ⟨a, 0, none⟩)] u fun e w' => e = .returned (.int .i64 (sn : Int)) ∧ w' = u) := hidden fun u hu => HLN.out u (bl_go HB2.out Lr hu)
   clear hi
   go_wp2_with (first | (go_at_call 26; refine same_call (HLN2.out _ (by first | exact Br | exact Br.drew | exact bl_dr Br _)) ?_))
   go_ret2
   exact ⟨i, false, rfl, hidden (bl_go (bl_go HBX.out Lr HB2.out) Lr (by first | exact Br | exact Br.drew | exact bl_dr Br _)), hidden ⟨HFN.out, by simp [HNO.out]⟩⟩
theorem findQ_any (w : World) (a : Nat) (k : Int) (n : Nat) (po : Option Addr) (pn pc : Nat) (bo : Option Addr) (bn bc : Nat) (so : Option Addr) (sn sc : Nat) (ws : Int) (P body : List Int) (st : List Nat) (cs : List Cl) (h : PgQ w a k n po pn pc bo bn bc so sn sc ws P body st) (hl : LayQ k P cs body st) (hr : Rs cs) (hbn : bn ≤ 1099511627776) (hsn : sn ≤ 65536) (qo : Option Addr) (qn qc : Nat) (q : List Int) (hq : Sl w qo qn qc q) :
  Calls Tryz.prog 25 #[.pointer (some ⟨a, 0, none⟩), .slice qo qn qc] w fun e w' => FindTo cs q w e w' := by
 have hcs : cs.length = sn := by rw [← hl.len, h.starts.hlen]
 have HLN := hidden (qlen_any w a k n po pn pc bo bn bc so sn sc ws P body st h)
 have HAG := hidden (against_any w a k n po pn pc _ _ ws P h.row h.pre qo qn qc q hq)
 have HAM : Hid (∀ u b1 b2 b3 b4 ro rn rc b, Hid (Ag u a b1 b2 b3 b4 qo qn qc ro rn rc b P q) → Hid (Below w.heap.size w u) → Calls Tryz.prog 65 #[.pointer (some ⟨a, 0, none⟩), .int .i64 0, .int .i64 (sn : Int), .func (.func 110) #[] #[.pointer (some ⟨b1, 0, none⟩), .pointer (some ⟨b2, 0, none⟩), .pointer (some ⟨b3, 0, none⟩), .pointer (some ⟨b4, 0, none⟩)]] u fun e w' => FindTo cs q u e w') := hidden fun u b1 b2 b3 b4 ro rn rc b hA hu =>
  among_any u a k n po pn pc bo bn bc so sn sc ws P body st cs (h.on hu.out) hl hr hbn hsn 0 sn (Nat.zero_le _) Lr b1 b2 b3 b4 qo qn qc ro rn rc b q hA.out (fun i c hi => by omega) (fun i c hi hc => by
   have := (zH.1 hc).1
   omega)
 clear h hl hr hq hcs
 go_enter Tryz.func25, Tryz.ntmps25
 go_wp2_with (first
  | (go_at_call 26; refine same_call HLN.out ?_)
  | (go_at_call 66; refine HAG.out.mono ?_; rintro e w1 ⟨b1, b2, b3, b4, ro, rn, rc, b, rfl, HA1, HB1⟩)
  | (go_at_call 65; refine (HAM.out _ _ _ _ _ _ _ _ _ HA1 HB1).mono ?_; rintro e w2 ⟨r, is, rfl, HB2, HQ2⟩))
 go_ret2
 exact ⟨r, is, rfl, hidden (bl_go HB1.out Lr HB2.out), HQ2⟩
def QV (w : World) (a : Nat) (x0 x1 x2 x3 x4 x5 : Value) : Prop := w.heap[a]? = some (.cells #[x0, x1, x2, x3, x4, x5] 63 (0, 0))
theorem QV.set {w : World} {g : Nat} {x0 x1 x2 x3 x4 x5 : Value} (h : QV w g x0 x1 x2 x3 x4 x5) (y : Value) :
  QV (w.setCell ⟨g, 0, none⟩ y) g y x1 x2 x3 x4 x5 ∧ QV (w.setCell ⟨g, 1, none⟩ y) g x0 y x2 x3 x4 x5 ∧ QV (w.setCell ⟨g, 2, none⟩ y) g x0 x1 y x3 x4 x5 ∧ QV (w.setCell ⟨g, 3, none⟩ y) g x0 x1 x2 y x4 x5 ∧ QV (w.setCell ⟨g, 4, none⟩ y) g x0 x1 x2 x3 y x5 ∧ QV (w.setCell ⟨g, 5, none⟩ y) g x0 x1 x2 x3 x4 y := by
 unfold QV at *
 refine ⟨?_, ?_, ?_, ?_, ?_, ?_⟩
 ·simpa using set_row (w := w) (a := g) (i := 0) (cs := [x0, x1, x2, x3, x4, x5]) (u := y) h
 ·simpa using set_row (w := w) (a := g) (i := 1) (cs := [x0, x1, x2, x3, x4, x5]) (u := y) h
 ·simpa using set_row (w := w) (a := g) (i := 2) (cs := [x0, x1, x2, x3, x4, x5]) (u := y) h
 ·simpa using set_row (w := w) (a := g) (i := 3) (cs := [x0, x1, x2, x3, x4, x5]) (u := y) h
 ·simpa using set_row (w := w) (a := g) (i := 4) (cs := [x0, x1, x2, x3, x4, x5]) (u := y) h
 ·simpa using set_row (w := w) (a := g) (i := 5) (cs := [x0, x1, x2, x3, x4, x5]) (u := y) h
theorem QV.put {w : World} {g : Nat} {x0 x1 x2 x3 x4 x5 : Value} (h : QV w g x0 x1 x2 x3 x4 x5) (y0 y1 y2 y3 y4 y5 : Value) : QV (put6 w g y0 y1 y2 y3 y4 y5) g y0 y1 y2 y3 y4 y5 :=
 (((((((h.set y0).1).set y1).2.1.set y2).2.2.1.set y3).2.2.2.1.set y4).2.2.2.2.1.set y5).2.2.2.2.2
theorem Sl.apartQ {w : World} {ao : Option Addr} {n cap : Nat} {l : List Int} (h : Sl w ao n cap l) {g : Nat} {a b d : Option Addr} {c1 c2 c3 c4 c5 c6 : Nat} {x y z : Int} (hr : QR w g x y (.slice a c1 c2) (.slice b c3 c4) (.slice d c5 c6) z) : n = 0 ∨ ∀ p, ao = some p → ¬ p.block = g := by
 rcases h.hat with h0 | ⟨q, off, rfl, hg, hc⟩
 ·exact .inl h0
 ·rcases Nat.eq_zero_or_pos n with h0 | h0
  ·exact .inl h0
  ·right
   rintro p hp rfl
   injection hp with hp
   subst hp
   have h1 := hc 0 h0
   unfold QR at hr
   rw [cell_of_row _ _ _ _ _ _ hr] at h1
   rcases Nat.lt_or_ge (off + 0) 6 with h3 | h3
   ·have h4 : off + 0 = 0 ∨ off + 0 = 1 ∨ off + 0 = 2 ∨ off + 0 = 3 ∨ off + 0 = 4 ∨ off + 0 = 5 := by omega
    rcases h4 with h4 | h4 | h4 | h4 | h4 | h4 <;> (rw [h4] at h1; simp at h1)
   ·rw [Array.getElem?_eq_none (by simpa using h3)] at h1
    cases h1
theorem LaidTo.po {k : Int} {n : Nat} {cs : List Cl} {w w' : World} {e : Ending} (h : LaidTo k n cs w e w') :
  ∃ b po pn pc bo bn bc so sn sc, e = .returned (.pointer (some ⟨b, 0, none⟩)) ∧ Hid (PO w' w.heap.size b k n po pn pc (.slice bo bn bc) (.slice so sn sc) 0 (shP k cs) (qbd (shP k cs).length (whl k) cs) (qst (shP k cs).length (whl k) 0 cs)) ∧ Hid (Below w.heap.size w w') ∧ Hid (pn = (shP k cs).length ∧ bn = (qbd (shP k cs).length (whl k) cs).length ∧ sn = cs.length) := by
 obtain ⟨w1, a, po, pn, pc, vb, vs, rfl, HL, HP, HB, _⟩ := h
 have hb := HL.out.be
 obtain ⟨bo, bc, rfl⟩ := HL.out.ob.shape
 obtain ⟨so, sc, rfl⟩ := HL.out.on.shape
 have hz := HB.out.size
 refine ⟨a, po, pn, pc, bo, _, bc, so, _, sc, rfl, hidden ⟨HL.out.row, HP.out.on Lr hb, HL.out.ob.low hz, ?_, HP.out.lo.far HL.out.ob Lr, zN hz HL.out.ha⟩, hidden (bl_go HB.out Lr hb), hidden ⟨HP.out.hlen.symm, rfl, qst_length _ _ _ _⟩⟩
 have h6 := HL.out.on
 unfold OwnN at h6 ⊢
 rcases h6.2 with h8 | ⟨g, c, cur, e, hg, r⟩
 ·exact ⟨h6.1, .inl h8⟩
 ·exact ⟨h6.1, .inr ⟨g, c, cur, e, zN hz hg, r⟩⟩
def LayTo (B a : Nat) (k : Int) (n : Nat) (cs : List Cl) (w : World) (e : Ending) (w' : World) : Prop :=
 e = .returned (.int .i64 0) ∧ Hid (Cf (· = a) w w') ∧ Hid (∃ po pn pc bo bn bc so sn sc, PO w' B a k n po pn pc (.slice bo bn bc) (.slice so sn sc) 0 (shP k cs) (qbd (shP k cs).length (whl k) cs) (qst (shP k cs).length (whl k) 0 cs))
theorem lay_fit (w : World) (B a : Nat) (k : Int) (n : Nat) (po : Option Addr) (pn pc : Nat) (bo : Option Addr) (bn bc : Nat) (so : Option Addr) (sn sc : Nat) (ws : Int) (h : QR w a k n (.slice po pn pc) (.slice bo bn bc) (.slice so sn sc) ws) (hBa : B ≤ a) (hBw : B ≤ w.heap.size) (G : Nat) (ao : Option Addr) (m cap : Nat) (cs : List Cl) (hs : SlE w G ao m cap cs) (hG : G ≤ w.heap.size) (hr : Rs cs) (hf : ∀ c ∈ cs, c.fit) (hn : n ≤ 65536) (hfit : szQ k (shP k cs).length cs ≤ n) :
  Calls Tryz.prog 45 #[.pointer (some ⟨a, 0, none⟩), .slice ao m cap] w fun e w' => LayTo B a k n cs w e w' := by
 have hz := szQ_eq k (shP k cs).length cs
 have hm : m ≤ 65536 := by have := hs.hlen; omega
 obtain ⟨Z, hZ⟩ : ∃ Z, szQ k (shP k cs).length cs = Z := ⟨_, rfl⟩
 rw [hZ] at hz hfit
 have haw := lt_some h
 have E1 : Hid (∀ u, Below w.heap.size w u → Calls Tryz.prog 54 #[.int .i64 k, .int .i64 (n : Int), .slice ao m cap] u fun e w' => ∃ b qo qn qc co cn cc to_ tn tc, e = .returned (.pointer (some ⟨b, 0, none⟩)) ∧ w'.cell? ⟨a, 1, none⟩ = some (.int .i64 (n : Int)) ∧ Hid (PO w' w.heap.size b k n qo qn qc (.slice co cn cc) (.slice to_ tn tc) 0 (shP k cs) (qbd (shP k cs).length (whl k) cs) (qst (shP k cs).length (whl k) 0 cs)) ∧ Hid (Below w.heap.size w w') ∧ Hid (10 + qn + 2 * tn + cn = Z)) := by
  refine hidden fun u hu => (laid_any k n G ao m cap cs u (hs.on hu) (zN hG hu.size) hr hf hm (by omega)).mono ?_
  intro e w' hq
  obtain ⟨b, qo, qn, qc, co, cn, cc, to_, tn, tc, rfl, HPO, HB, HN⟩ := hq.po
  have hb := bl_go hu Lr HB.out
  have hpo := HPO.out
  obtain ⟨n1, n2, n3⟩ := HN.out
  refine ⟨b, qo, qn, qc, co, cn, cc, to_, tn, tc, rfl, (show QR w' a k n (.slice po pn pc) (.slice bo bn bc) (.slice so sn sc) ws from box_on h hb).cells.2.1, hidden ⟨hpo.row, hpo.pre, hpo.ob.low hu.size, ?_, hpo.far, zN hu.size hpo.ha⟩, hidden hb, hidden (by omega)⟩
  have h6 := hpo.on
  unfold OwnN at h6 ⊢
  rcases h6.2 with h8 | ⟨g, c, cur, e, hg, r⟩
  ·exact ⟨h6.1, .inl h8⟩
  ·exact ⟨h6.1, .inr ⟨g, c, cur, e, zN hu.size hg, r⟩⟩
 have HRA : Hid (∀ u, Below w.heap.size w u → QR u a k n (.slice po pn pc) (.slice bo bn bc) (.slice so sn sc) ws) := hidden fun u hu => box_on h hu
 obtain ⟨c0, c1, c2, c3, c4, c5⟩ := h.cells
 have hfI : (Z : Int) ≤ (n : Int) := by omega
 have hnI : (n : Int) ≤ 65536 := by omega
 clear h hs hr hf hz hZ
 go_enter Tryz.func45, Tryz.ntmps45
 go_upto_region 1 with fail
 go_cut [5] from 6 to 15 (fun v u => ∃ b qo qn qc co cn cc to_ tn tc, v = .pointer (some ⟨b, 0, none⟩) ∧ Hid (PO u w.heap.size b k n qo qn qc (.slice co cn cc) (.slice to_ tn tc) 0 (shP k cs) (qbd (shP k cs).length (whl k) cs) (qst (shP k cs).length (whl k) 0 cs)) ∧ Hid (Below w.heap.size w u) ∧ Hid (10 + qn + 2 * tn + cn = Z))
 case first =>
  go_wp2_with fail
  go_region_with (first | (go_at_call 54; refine (E1.out _ (by first | exact Br | exact Br.drew | exact bl_dr Br _)).mono ?_; rintro e w1 ⟨b, qo, qn, qc, co, cn, cc, to_, tn, tc, rfl, y1, HPO, HB1, HZ1⟩))
  all_goals (try go_wp2_with fail)
  all_goals go_meet
  all_goals exact ⟨b, qo, qn, qc, co, cn, cc, to_, tn, tc, rfl, by first | exact HPO | exact hidden (HPO.out.go Br.drew) | exact hidden (HPO.out.go (bl_dr Br _)), by first | exact HB1 | exact hidden HB1.out.drew | exact hidden (bl_dr HB1.out _), HZ1⟩
 obtain ⟨b, qo, qn, qc, co, cn, cc, to_, tn, tc, rfl, HPO, HB1, HZ1⟩ := hcut
 obtain ⟨w1, hw1⟩ : ∃ w1, w1 = wc := ⟨_, rfl⟩
 subst hw1
 clear c0 c1 c2 c3 c4 c5 E1
 have hz1 := HZ1.out
 have HUS : Hid (∀ u, Below w1.heap.size w1 u → Calls Tryz.prog 17 #[.pointer (some ⟨b, 0, none⟩)] u fun e w' => e = .returned (.int .i64 (Z : Int)) ∧ w'.cell? ⟨a, 1, none⟩ = some (.int .i64 (n : Int)) ∧ Hid (Below w1.heap.size w1 w')) := by
  refine hidden fun u hu => (usedQ_any u b k n qo qn qc co cn cc to_ tn tc (box_on HPO.out.row hu) (by omega) (by omega) (by omega) Z hz1).mono ?_
  rintro e w' ⟨rfl, HB⟩
  have hb := bl_go hu Lr HB.out
  exact ⟨rfl, (HRA.out w' (bl_go HB1.out Lr hb)).cells.2.1, hidden hb⟩
 have c1 := (HRA.out w1 HB1.out).cells.2.1
 clear hz1
 go_upto_region 2 with fail
 go_cut [22] from 16 to 22 (fun v u => v = .bool false ∧ Hid (Below w1.heap.size w1 u))
 case first =>
  go_wp2_with fail
  go_region_with (first | (go_at_call 17; refine (HUS.out _ (by first | exact Br | exact Br.drew | exact bl_dr Br _)).mono ?_; rintro e w2 ⟨rfl, y1, HB2⟩))
  all_goals (try go_wp2_with fail)
  all_goals go_meet
  all_goals exact ⟨by simp; omega, by first | exact HB2 | exact hidden HB2.out.drew | exact hidden (bl_dr HB2.out _)⟩
 obtain ⟨rfl, HB2⟩ := hcut
 obtain ⟨w2, hw2⟩ : ∃ w2, w2 = wc := ⟨_, rfl⟩
 subst hw2
 clear c1 HUS
 have HPO2 := hidden (HPO.out.go HB2.out)
 have HBW : Hid (Below w.heap.size w w2) := hidden (bl_go HB1.out Lr HB2.out)
 have HR2 := hidden (HRA.out w2 HBW.out)
 obtain ⟨c0, c1, c2, c3, c4, c5⟩ := HR2.out.cells
 obtain ⟨d0, d1, d2, d3, d4, d5⟩ := HPO2.out.row.cells
 have f0 := HR2.out.free 0
 have f1 := HR2.out.free 1
 have f2 := HR2.out.free 2
 have f3 := HR2.out.free 3
 have f4 := HR2.out.free 4
 have f5 := HR2.out.free 5
 have HAW := hidden haw
 clear haw
 go_wp2
 go_ret
 have hcf := put6_cf w2 a (.int .i64 k) (.int .i64 (n : Int)) (.slice qo qn qc) (.slice co cn cc) (.slice to_ tn tc) (.int .i64 0)
 have hr2 := HR2.out
 have hpo := HPO2.out
 have hbw := HBW.out
 refine ⟨rfl, hidden ((Cf.of_below hbw).go hcf), hidden ⟨qo, qn, qc, co, cn, cc, to_, tn, tc, ?_, hpo.pre.cf hcf (hpo.pre.apartQ hr2), ?_, ?_, hpo.far, hBa⟩⟩
 ·exact QV.put (show QV w2 a _ _ _ _ _ _ from hr2) _ _ _ _ _ _
 ·unfold QR at hr2
  exact (hpo.ob.low hBw).cf hcf (hpo.ob.apart hr2 (by decide))
 ·unfold QR at hr2
  have h6 := hpo.on.cf hcf (hpo.on.apart hr2 (by decide))
  unfold OwnN at h6 ⊢
  rcases h6.2 with h8 | ⟨g, c, cur, e, hg, r⟩
  ·exact ⟨h6.1, .inl h8⟩
  ·exact ⟨h6.1, .inr ⟨g, c, cur, e, zN hBw hg, r⟩⟩
theorem inPlace_no (w : World) (a : Nat) (k : Int) (n : Nat) (po : Option Addr) (pn pc : Nat) (vb vs : Value) (ws : Int) (P : List Int) (h : QR w a k n (.slice po pn pc) vb vs ws) (hP : Sl w po pn pc P) (i : Nat) (hi : ¬ (k = 3 ∧ i = 0)) (ka : Option Addr) (kn kc : Nat) (kd : Int) (va : Option Addr) (vn vc : Nat) (pg ct : Int) (key : List Int) (hk : Sl w ka kn kc key) (hno : key.take P.length ≠ P) :
  Calls Tryz.prog 88 #[.pointer (some ⟨a, 0, none⟩), .int .i64 (i : Int), .int .i64 (i : Int), .agg #[.slice ka kn kc, .int .i64 kd, .slice va vn vc, .int .i64 pg, .int .i64 ct]] w fun e w' => e = .returned (.bool false) ∧ Hid (Below w.heap.size w w') := by
 obtain ⟨x, hx⟩ : ∃ x, w.alloc (.cells #[.slice ka kn kc, .int .i64 kd, .slice va vn vc, .int .i64 pg, .int .i64 ct] 39) = x := ⟨_, rfl⟩
 have hbx : Below w.heap.size w x := by rw [← hx]; exact bl_al Br Lr _
 have hc5 : C5 x w.heap.size (.slice ka kn kc) (.int .i64 kd) (.slice va vn vc) (.int .i64 pg) (.int .i64 ct) := by rw [← hx]; exact C5.box _ _ _ _ _ _
 obtain ⟨z0, z1, z2, z3, z4⟩ := hc5.cells
 have hrx : QR x a k n (.slice po pn pc) vb vs ws := box_on h hbx
 obtain ⟨c0, c1, c2, c3, c4, c5⟩ := hrx.cells
 obtain ⟨qo, qn, qc, hqc, hhd⟩ := head_row k i po pn pc
 obtain ⟨rfl, rfl, rfl⟩ : qo = po ∧ qn = pn ∧ qc = pc := by
  rcases hqc with ⟨_, _, _, h4⟩ | ⟨h1, h2, h3, _⟩
  ·exact absurd h4 hi
  ·exact ⟨h1, h2, h3⟩
 have HHD := hidden (hhd x a n vb vs ws hrx)
 have HSW : Hid (Calls Tryz.prog 44 #[.int .i64 k, .int .i64 (i : Int)] x fun e w' => e = .returned (.bool false) ∧ w' = x) := hidden (by
  have := standsWhole_any k (i : Int) x
  rwa [decide_eq_false (show ¬ (k = 3 ∧ (i : Int) = 0) by omega)] at this)
 have HHP : Hid (Calls Tryz.prog 123 #[.slice ka kn kc, .slice qo qn qc] x fun e w' => e = .returned (.bool false) ∧ w' = x) := hidden (by
  have := hasPrefix_any ka qo kn qn kc qc key P x (hk.on Lr hbx) (hP.on Lr hbx)
  rwa [decide_eq_false hno] at this)
 have HBX := hidden hbx
 clear h hP hk hbx hc5 hrx hhd hqc hi hno
 go_enter Tryz.func88, Tryz.ntmps88
 go_wp2_with (first | (go_at_call 44; refine same_call HSW.out ?_) | (go_at_call 95; refine same_call HHD.out ?_) | (go_at_call 123; refine same_call HHP.out ?_))
 go_ret
 exact ⟨rfl, HBX⟩
end Go.Proofs.YtfgffajgfgifhaaGreatDoor
namespace Go.Proofs.YtfgffajgfgifhaaGreatDoor
set_option maxRecDepth 100000
set_option maxHeartbeats 2000000
open Go.RowKit
namespace RN
theorem hsz : (Tryz.prog.info? 3).map (·.size) = some 1 := by
 obtain ⟨i0, hi, hz0, hz1, hz2⟩ := info_parts infoI
 rw [hi]
 simp [hz1]
end RN
end Go.Proofs.YtfgffajgfgifhaaGreatDoor
