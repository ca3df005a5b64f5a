import Derived.Test.YtfgffajgfgifhaaGreatDoorJ18
namespace Go.Proofs.YtfgffajgfgifhaaGreatDoor
set_option maxRecDepth 100000
set_option maxHeartbeats 2000000
open Go.RowKit
structure Fnd (cs : List Cl) (q : List Int) (r : Nat) : Prop where
 le : r ≤ cs.length
 lo : ∀ i c, i < r → cs[i]? = some c → kl c.key q
 hi : ∀ i c, r ≤ i → cs[i]? = some c → ¬ kl c.key q
def zbk (cs : List Cl) (q : List Int) (w : World) (e : Ending) (w' : World) : Prop :=
 ∃ r : Nat, ∃ is : Bool, e = .returned (.tuple #[.int .i64 (r : Int), .bool is]) ∧ Hid (Below w.heap.size w w') ∧ Hid (Fnd cs q r ∧ (is = true ↔ ∃ c, cs[r]? = some c ∧ c.key = q))
theorem rs_at {cs : List Cl} (h : Rs cs) {i j : Nat} {c d : Cl} (hij : i < j) (hc : cs[i]? = some c) (hd : cs[j]? = some d) : kl c.key d.key := by
 unfold Rs at h
 rw [List.pairwise_iff_getElem] at h
 obtain ⟨h1, e1⟩ := zH.1 hc
 obtain ⟨h2, e2⟩ := zH.1 hd
 have := h i j h1 h2 hij
 rwa [e1, e2] at this
structure Am (w : World) (o1 l1 : Nat) (low : Nat) (F : Value) : Prop where
 c1 : w.cell? ⟨o1, 0, none⟩ = some F
 c2 : w.cell? ⟨l1, 0, none⟩ = some (.int .i64 (low : Int))
 h1 : o1 < w.heap.size
 h2 : l1 < w.heap.size
theorem Am.go {w v : World} {o1 l1 low : Nat} {F : Value} (h : Am w o1 l1 low F) (hb : Below w.heap.size w v) : Am v o1 l1 low F :=
 ⟨(hb.cell (p := ⟨o1, 0, none⟩) h.h1).trans h.c1, (hb.cell (p := ⟨l1, 0, none⟩) h.h2).trans h.c2, zO h.h1 hb.size, zO h.h2 hb.size⟩
theorem among1_any (w : World) (o1 l1 low j i b1 b2 b3 b4 : Nat) (o : Int) (hA : Am w o1 l1 low (.func (.func 110) #[] #[.pointer (some ⟨b1, 0, none⟩), .pointer (some ⟨b2, 0, none⟩), .pointer (some ⟨b3, 0, none⟩), .pointer (some ⟨b4, 0, none⟩)])) (hi : low + j = i) (hb : i ≤ 65536)
  (hF : Calls Tryz.prog 110 #[.int .i64 (i : Int), .pointer (some ⟨b1, 0, none⟩), .pointer (some ⟨b2, 0, none⟩), .pointer (some ⟨b3, 0, none⟩), .pointer (some ⟨b4, 0, none⟩)] w fun e w' => e = .returned (.int .i64 o) ∧ Hid (Below w.heap.size w w')) :
  Calls Tryz.prog 108 #[.int .i64 (j : Int), .pointer (some ⟨o1, 0, none⟩), .pointer (some ⟨l1, 0, none⟩)] w fun e w' => e = .returned (.bool (decide (0 ≤ o))) ∧ Hid (Below w.heap.size w w') := by
 obtain ⟨c1, c2, h1, h2⟩ := hA
 have HF := zaa hF
 have hiI : (low : Int) + (j : Int) = (i : Int) := by omega
 have bi : (i : Int) ≤ 65536 := by omega
 have bj : (j : Int) ≤ 65536 := by omega
 have bl : (low : Int) ≤ 65536 := by omega
 clear hF hi
 go_enter Tryz.func108, Tryz.ntmps108
 go_wp2_with (go_at_call 110; refine HF.out.mono ?_; rintro e w2 ⟨rfl, HB2⟩)
 go_ret
 exact ⟨rfl, HB2⟩
theorem search7_any (w : World) (o1 l1 low N : Nat) (cs : List Cl) (q : List Int) (hr : Rs cs) (hN : low + N ≤ cs.length) (hb : cs.length ≤ 65536) (b1 b2 b3 b4 : Nat)
  (hA : Am w o1 l1 low (.func (.func 110) #[] #[.pointer (some ⟨b1, 0, none⟩), .pointer (some ⟨b2, 0, none⟩), .pointer (some ⟨b3, 0, none⟩), .pointer (some ⟨b4, 0, none⟩)]))
  (hF : ∀ u (i : Nat) (c : Cl), Below w.heap.size w u → cs[i]? = some c → Calls Tryz.prog 110 #[.int .i64 (i : Int), .pointer (some ⟨b1, 0, none⟩), .pointer (some ⟨b2, 0, none⟩), .pointer (some ⟨b3, 0, none⟩), .pointer (some ⟨b4, 0, none⟩)] u fun e w' => e = .returned (.int .i64 (ordL c.key q)) ∧ Hid (Below u.heap.size u w'))
  (hlo : ∀ i c, i < low → cs[i]? = some c → kl c.key q) (hhi : ∀ i c, low + N ≤ i → cs[i]? = some c → ¬ kl c.key q) :
  Calls Tryz.prog 107 #[.int .i64 (N : Int), .func (.func 108) #[] #[.pointer (some ⟨o1, 0, none⟩), .pointer (some ⟨l1, 0, none⟩)]] w fun e w' => ∃ r : Nat, e = .returned (.int .i64 (r : Int)) ∧ Hid (Below w.heap.size w w') ∧ Hid (Fnd cs q (low + r) ∧ r ≤ N) := by
 have HA := zaa hA
 have HF := zaa hF
 have HRS := zaa hr
 have HLO := zaa hlo
 have HHI := zaa hhi
 clear hA hF hr hlo hhi
 go_enter Tryz.func107, Tryz.ntmps107
 go_wp2_with fail
 go_loopw [5, 6] (fun s5 s6 wr => ∃ lo hi : Nat, s5 = .int .i64 lo ∧ s6 = .int .i64 hi ∧ lo ≤ hi ∧ hi ≤ N ∧ Hid (Below w.heap.size w wr) ∧ Hid ((∀ i c, i < low + lo → cs[i]? = some c → kl c.key q) ∧ ∀ i c, low + hi ≤ i → cs[i]? = some c → ¬ kl c.key q)) (fun s5 s6 _ => (intOf s6).toNat - (intOf s5).toNat)
 case atStart => exact ⟨0, N, rfl, rfl, by omega, by omega, zaa Br, zaa ⟨HLO.out, HHI.out⟩⟩
 case round =>
  obtain ⟨lo, hi, rfl, rfl, hlh, hhs, HB, HI⟩ := hrel
  have b1' : (lo : Int) ≤ 65536 := by omega
  have b2' : (hi : Int) ≤ 65536 := by omega
  by_cases hlt : lo < hi
  ·have hltI : (lo : Int) < (hi : Int) := by omega
   obtain ⟨m, hm⟩ : ∃ m, (lo + hi) / 2 = m := ⟨_, rfl⟩
   have hmI : ((lo : Int) + (hi : Int)) / 2 = (m : Int) := by omega
   have m3 : (m : Int) ≤ 65536 := by omega
   have HML : Hid (lo ≤ m ∧ m < hi) := zaa (by omega)
   obtain ⟨c, hc⟩ : ∃ c, cs[low + m]? = some c := ⟨_, zI (by omega)⟩
   have HC := zaa hc
   have h3 := zbt c.key q
   have HKL : Hid (kl c.key q ↔ ordL c.key q < 0) := zaa (by unfold kl; omega)
   have HFM := zaa (among1_any wr o1 l1 low m (low + m) b1 b2 b3 b4 (ordL c.key q) (HA.out.go HB.out) rfl (by omega) (HF.out wr (low + m) c HB.out hc))
   clear hm hc
   generalize ordL c.key q = o at *
   by_cases ho : o < 0
   ·have d1 : decide (0 ≤ o) = false := decide_eq_false (by omega)
    rw [d1] at HFM
    clear h3
    go_wp2_with (go_at_call 108; refine HFM.out.mono ?_; rintro e w2 ⟨rfl, HB2⟩)
    go_roundw
    case rel =>
     refine ⟨m + 1, hi, by go_num, rfl, by have := HML.out; omega, hhs, zaa (zab HB.out Lr HB2.out), zaa ⟨fun i d hi' hd => ?_, HI.out.2⟩⟩
     by_cases e : i = low + m
     ·subst e
      rw [HC.out] at hd
      injection hd with hd
      subst hd
      exact HKL.out.2 ho
     ·exact zbp _ _ _ (rs_at HRS.out (by omega) hd HC.out) (HKL.out.2 ho)
    case measure => have := HML.out; simp [intOf]; omega
   ·have d1 : decide (0 ≤ o) = true := decide_eq_true (by omega)
    rw [d1] at HFM
    clear h3
    go_wp2_with (go_at_call 108; refine HFM.out.mono ?_; rintro e w2 ⟨rfl, HB2⟩)
    go_roundw
    case rel =>
     refine ⟨lo, m, rfl, by go_num, by have := HML.out; omega, by have := HML.out; omega, zaa (zab HB.out Lr HB2.out), zaa ⟨HI.out.1, fun i d hi' hd hk => ?_⟩⟩
     by_cases e : i = low + m
     ·subst e
      rw [HC.out] at hd
      injection hd with hd
      subst hd
      have := HKL.out.1 hk
      omega
     ·have := HKL.out.1 (zbp _ _ _ (rs_at HRS.out (by omega) HC.out hd) hk)
      omega
    case measure => have := HML.out; simp [intOf]; omega
  ·obtain rfl : hi = lo := by omega
   have hltI : ¬ (hi : Int) < (hi : Int) := by omega
   go_wp2
   go_ret
   exact ⟨hi, rfl, HB, zaa ⟨⟨by omega, HI.out.1, HI.out.2⟩, hhs⟩⟩
theorem among_any (w : World) (a : Nat) (k : Int) (n : Nat) (po : Option Addr) (pn pc : Nat) (bo : Option Addr) (bn bc : Nat) (so : Option Addr) (sn sc : Nat) (ws : Int) (P body : List Int) (st : List Nat) (cs : List Cl) (h : PgQ w a k n po pn pc bo bn bc so sn sc ws P body st) (hl : LayQ k P cs body st) (hr : Rs cs) (hbn : bn ≤ 1099511627776) (hsn : sn ≤ 65536) (low high : Nat) (hlh : low ≤ high) (hhs : high ≤ sn)
  (b1 b2 b3 b4 : Nat) (qo : Option Addr) (qn qc : Nat) (ro : Option Addr) (rn rc : Nat) (b : Bool) (q : List Int) (hA : Ag w a b1 b2 b3 b4 qo qn qc ro rn rc b P q) (hlo : ∀ i c, i < low → cs[i]? = some c → kl c.key q) (hhi : ∀ i c, high ≤ i → cs[i]? = some c → ¬ kl c.key q) :
  Calls Tryz.prog 65 #[.pointer (some ⟨a, 0, none⟩), .int .i64 (low : Int), .int .i64 (high : Int), .func (.func 110) #[] #[.pointer (some ⟨b1, 0, none⟩), .pointer (some ⟨b2, 0, none⟩), .pointer (some ⟨b3, 0, none⟩), .pointer (some ⟨b4, 0, none⟩)]] w fun e w' => zbk cs q w e w' := by
 have hcs : cs.length = sn := by rw [← hl.len, h.starts.hlen]
 obtain ⟨N, hN⟩ : ∃ N, high - low = N := ⟨_, rfl⟩
 have hNI : (high : Int) - (low : Int) = (N : Int) := by omega
 obtain ⟨s, hs⟩ : ∃ s, w.heap.size = s := ⟨_, rfl⟩
 obtain ⟨x, hx⟩ : ∃ x, (w.alloc (.cells #[.int .i64 (low : Int)] 3)).alloc (.cells #[.func (.func 110) #[] #[.pointer (some ⟨b1, 0, none⟩), .pointer (some ⟨b2, 0, none⟩), .pointer (some ⟨b3, 0, none⟩), .pointer (some ⟨b4, 0, none⟩)]] 80) = x := ⟨_, rfl⟩
 have hbx : Below w.heap.size w x := by rw [← hx]; exact zac (zac Br Lr _) Lr _
 have hAm : Am x (s + 1) s low (.func (.func 110) #[] #[.pointer (some ⟨b1, 0, none⟩), .pointer (some ⟨b2, 0, none⟩), .pointer (some ⟨b3, 0, none⟩), .pointer (some ⟨b4, 0, none⟩)]) := by
  rw [← hx, ← hs]
  exact ⟨by simp, by simp, by simp, by simp; omega⟩
 have HF : Hid (∀ u (i : Nat) (c : Cl), Below x.heap.size x u → cs[i]? = some c → Calls Tryz.prog 110 #[.int .i64 (i : Int), .pointer (some ⟨b1, 0, none⟩), .pointer (some ⟨b2, 0, none⟩), .pointer (some ⟨b3, 0, none⟩), .pointer (some ⟨b4, 0, none⟩)] u fun e w' => e = .returned (.int .i64 (ordL c.key q)) ∧ Hid (Below u.heap.size u w')) := zaa fun u i c hu hc =>
  zdo u a k n po pn pc bo bn bc so sn sc ws P body st cs (h.on (zab hbx Lr hu)) hl i c hc hbn b1 b2 b3 b4 qo qn qc ro rn rc b q (hA.go (zab hbx Lr hu))
 have HSR : Hid (∀ u, Below x.heap.size x u → Calls Tryz.prog 107 #[.int .i64 (N : Int), .func (.func 108) #[] #[.pointer (some ⟨s + 1, 0, none⟩), .pointer (some ⟨s, 0, none⟩)]] u fun e w' => ∃ r : Nat, e = .returned (.int .i64 (r : Int)) ∧ (w'.cell? ⟨s + 1, 0, none⟩ = some (.func (.func 110) #[] #[.pointer (some ⟨b1, 0, none⟩), .pointer (some ⟨b2, 0, none⟩), .pointer (some ⟨b3, 0, none⟩), .pointer (some ⟨b4, 0, none⟩)]) ∧ w'.cell? ⟨s, 0, none⟩ = some (.int .i64 (low : Int)) ∧ r ≤ N) ∧ Hid (Below x.heap.size x w') ∧ Hid (Fnd cs q (low + r))) := by
  refine zaa fun u hu => (search7_any u (s + 1) s low N cs q hr (by omega) (by omega) b1 b2 b3 b4 (hAm.go hu) (fun v i c hv hc => HF.out v i c (zab hu Lr hv) hc) hlo (fun i c hi => hhi i c (by omega))).mono ?_
  rintro e w' ⟨r, rfl, HB, HQ⟩
  have hb := zab hu Lr HB.out
  have h3 := hAm.go hb
  exact ⟨r, rfl, ⟨h3.c1, h3.c2, HQ.out.2⟩, zaa hb, zaa HQ.out.1⟩
 have HLN : Hid (∀ u, Below x.heap.size x u → Calls Tryz.prog 26 #[.pointer (some ⟨a, 0, none⟩)] u fun e w' => e = .returned (.int .i64 (sn : Int)) ∧ w' = u) := zaa fun u hu => zba u a k n po pn pc bo bn bc so sn sc ws P body st (h.on (zab hbx Lr hu))
 have HBX := zaa hbx
 have HCS := zaa hcs
 obtain ⟨y1, y2, _, _⟩ := hAm
 have bl : (low : Int) ≤ 65536 := by omega
 have bh : (high : Int) ≤ 65536 := by omega
 have bN : (N : Int) ≤ 65536 := by omega
 have hwN : IntKind.i64.wrap (N : Int) = (N : Int) := by rw [IntKind.wrap_i64]; omega
 clear h hl hr hA hlo hhi hcs hbx
 go_enter Tryz.func65, Tryz.ntmps65
 go_wp2_with fail
 go_region_with (first | (go_at_call 107; refine (HSR.out _ (by first | exact Br | exact Br.drew | exact zad Br _)).mono ?_; rintro e w2 ⟨r, rfl, ⟨z1, z2, hrN⟩, HB2, HQ2⟩))
 all_goals
  obtain ⟨i, hi⟩ : ∃ i, low + r = i := ⟨_, rfl⟩
  have hiI : (low : Int) + (r : Int) = (i : Int) := by omega
  have bi : (i : Int) ≤ 65536 := by omega
  have br : (r : Int) ≤ 65536 := by omega
  have hwi : IntKind.i64.wrap (i : Int) = (i : Int) := by rw [IntKind.wrap_i64]; omega
  have HFN : Hid (Fnd cs q i) := zaa (by rw [← hi]; exact HQ2.out)
  by_cases hlt : i < sn
  ·have hltI : (i : Int) < (sn : Int) := by omega
   obtain ⟨c, hc⟩ : ∃ c, cs[i]? = some c := ⟨_, zI (by rw [HCS.out]; exact hlt)⟩
   have HEQ : Hid (ordL c.key q = 0 ↔ ∃ d, cs[i]? = some d ∧ d.key = q) := zaa (by
    rw [hc]
    constructor
    ·intro h
     exact ⟨c, rfl, ordL_eq _ _ h⟩
    ·rintro ⟨d, hd, rfl⟩
     injection hd with hd
     subst hd
     exact zcp _)
   have HFM : Hid (∀ u, Below w2.heap.size w2 u → Calls Tryz.prog 110 #[.int .i64 (i : Int), .pointer (some ⟨b1, 0, none⟩), .pointer (some ⟨b2, 0, none⟩), .pointer (some ⟨b3, 0, none⟩), .pointer (some ⟨b4, 0, none⟩)] u fun e w' => e = .returned (.int .i64 (ordL c.key q)) ∧ Hid (Below u.heap.size u w')) := zaa fun u hu => HF.out u i c (zab HB2.out Lr hu) hc
   have HLN2 : Hid (∀ u, Below w2.heap.size w2 u → Calls Tryz.prog 26 #[.pointer (some ⟨a, 0, none⟩)] u fun e w' => e = .returned (.int .i64 (sn : Int)) ∧ w' = u) := zaa fun u hu => HLN.out u (zab HB2.out Lr hu)
   clear hc hi
   generalize ordL c.key q = o at *
   by_cases ho : o = 0
   ·subst ho
    go_wp2_with (first | (go_at_call 26; refine zae (HLN2.out _ (by first | exact Br | exact Br.drew | exact zad Br _)) ?_) | (go_at_call 110; refine (HFM.out _ (by first | exact Br | exact Br.drew | exact zad Br _)).mono ?_; rintro e w3 ⟨rfl, HB3⟩))
    go_ret2
    exact ⟨i, true, rfl, zaa (zab (zab HBX.out Lr HB2.out) Lr (by first | exact HB3.out | exact zab Br.drew Lr HB3.out | exact zab (zad Br _) Lr HB3.out)), zaa ⟨HFN.out, by simpa using HEQ.out⟩⟩
   ·have d1 : (o == 0) = false := by simpa using ho
    go_wp2_with (first | (go_at_call 26; refine zae (HLN2.out _ (by first | exact Br | exact Br.drew | exact zad Br _)) ?_) | (go_at_call 110; refine (HFM.out _ (by first | exact Br | exact Br.drew | exact zad Br _)).mono ?_; rintro e w3 ⟨rfl, HB3⟩))
    go_ret2
    exact ⟨i, false, rfl, zaa (zab (zab HBX.out Lr HB2.out) Lr (by first | exact HB3.out | exact zab Br.drew Lr HB3.out | exact zab (zad Br _) Lr HB3.out)), zaa ⟨HFN.out, by simpa using fun x h1 h2 => ho (HEQ.out.2 ⟨x, h1, h2⟩)⟩⟩
  ·have hltI : ¬ (i : Int) < (sn : Int) := by omega
   have HNO : Hid (cs[i]? = none) := zaa (List.getElem?_eq_none (by rw [HCS.out]; omega))
   have HLN2 : Hid (∀ u, Below w2.heap.size w2 u → Calls Tryz.prog 26 #[.pointer (some ⟨a, 0, none⟩)] u fun e w' => e = .returned (.int .i64 (sn : Int)) ∧ w' = u) := zaa fun u hu => HLN.out u (zab HB2.out Lr hu)
   clear hi
   go_wp2_with (go_at_call 26; refine zae (HLN2.out _ (by first | exact Br | exact Br.drew | exact zad Br _)) ?_)
   go_ret2
   exact ⟨i, false, rfl, zaa (zab (zab HBX.out Lr HB2.out) Lr (by first | exact Br | exact Br.drew | exact zad Br _)), zaa ⟨HFN.out, by simp [HNO.out]⟩⟩
theorem findQ_any (w : World) (a : Nat) (k : Int) (n : Nat) (po : Option Addr) (pn pc : Nat) (bo : Option Addr) (bn bc : Nat) (so : Option Addr) (sn sc : Nat) (ws : Int) (P body : List Int) (st : List Nat) (cs : List Cl) (h : PgQ w a k n po pn pc bo bn bc so sn sc ws P body st) (hl : LayQ k P cs body st) (hr : Rs cs) (hbn : bn ≤ 1099511627776) (hsn : sn ≤ 65536) (qo : Option Addr) (qn qc : Nat) (q : List Int) (hq : Sl w qo qn qc q) :
  Calls Tryz.prog 25 #[.pointer (some ⟨a, 0, none⟩), .slice qo qn qc] w fun e w' => zbk cs q w e w' := by
 have hcs : cs.length = sn := by rw [← hl.len, h.starts.hlen]
 have HLN := zaa (zba w a k n po pn pc bo bn bc so sn sc ws P body st h)
 have HAG := zaa (zdp w a k n po pn pc _ _ ws P h.row h.pre qo qn qc q hq)
 have HAM : Hid (∀ u b1 b2 b3 b4 ro rn rc b, Hid (Ag u a b1 b2 b3 b4 qo qn qc ro rn rc b P q) → Hid (Below w.heap.size w u) → Calls Tryz.prog 65 #[.pointer (some ⟨a, 0, none⟩), .int .i64 0, .int .i64 (sn : Int), .func (.func 110) #[] #[.pointer (some ⟨b1, 0, none⟩), .pointer (some ⟨b2, 0, none⟩), .pointer (some ⟨b3, 0, none⟩), .pointer (some ⟨b4, 0, none⟩)]] u fun e w' => zbk cs q u e w') := zaa fun u b1 b2 b3 b4 ro rn rc b hA hu =>
  among_any u a k n po pn pc bo bn bc so sn sc ws P body st cs (h.on hu.out) hl hr hbn hsn 0 sn (Nat.zero_le _) Lr b1 b2 b3 b4 qo qn qc ro rn rc b q hA.out (fun i c hi => by omega) (fun i c hi hc => by
   have := (zH.1 hc).1
   omega)
 clear h hl hr hq hcs
 go_enter Tryz.func25, Tryz.ntmps25
 go_wp2_with (first
  | (go_at_call 26; refine zae HLN.out ?_)
  | (go_at_call 66; refine HAG.out.mono ?_; rintro e w1 ⟨b1, b2, b3, b4, ro, rn, rc, b, rfl, HA1, HB1⟩)
  | (go_at_call 65; refine (HAM.out _ _ _ _ _ _ _ _ _ HA1 HB1).mono ?_; rintro e w2 ⟨r, is, rfl, HB2, HQ2⟩))
 go_ret2
 exact ⟨r, is, rfl, zaa (zab HB1.out Lr HB2.out), HQ2⟩
def QV (w : World) (a : Nat) (x0 x1 x2 x3 x4 x5 : Value) : Prop := w.heap[a]? = some (.cells #[x0, x1, x2, x3, x4, x5] 63 (0, 0))
theorem QV.set {w : World} {g : Nat} {x0 x1 x2 x3 x4 x5 : Value} (h : QV w g x0 x1 x2 x3 x4 x5) (y : Value) :
  QV (w.setCell ⟨g, 0, none⟩ y) g y x1 x2 x3 x4 x5 ∧ QV (w.setCell ⟨g, 1, none⟩ y) g x0 y x2 x3 x4 x5 ∧ QV (w.setCell ⟨g, 2, none⟩ y) g x0 x1 y x3 x4 x5 ∧ QV (w.setCell ⟨g, 3, none⟩ y) g x0 x1 x2 y x4 x5 ∧ QV (w.setCell ⟨g, 4, none⟩ y) g x0 x1 x2 x3 y x5 ∧ QV (w.setCell ⟨g, 5, none⟩ y) g x0 x1 x2 x3 x4 y := by
 unfold QV at *
 refine ⟨?_, ?_, ?_, ?_, ?_, ?_⟩
 ·simpa using zam (w := w) (a := g) (i := 0) (cs := [x0, x1, x2, x3, x4, x5]) (u := y) h
 ·simpa using zam (w := w) (a := g) (i := 1) (cs := [x0, x1, x2, x3, x4, x5]) (u := y) h
 ·simpa using zam (w := w) (a := g) (i := 2) (cs := [x0, x1, x2, x3, x4, x5]) (u := y) h
 ·simpa using zam (w := w) (a := g) (i := 3) (cs := [x0, x1, x2, x3, x4, x5]) (u := y) h
 ·simpa using zam (w := w) (a := g) (i := 4) (cs := [x0, x1, x2, x3, x4, x5]) (u := y) h
 ·simpa using zam (w := w) (a := g) (i := 5) (cs := [x0, x1, x2, x3, x4, x5]) (u := y) h
theorem QV.put {w : World} {g : Nat} {x0 x1 x2 x3 x4 x5 : Value} (h : QV w g x0 x1 x2 x3 x4 x5) (y0 y1 y2 y3 y4 y5 : Value) : QV (put6 w g y0 y1 y2 y3 y4 y5) g y0 y1 y2 y3 y4 y5 :=
 (((((((h.set y0).1).set y1).2.1.set y2).2.2.1.set y3).2.2.2.1.set y4).2.2.2.2.1.set y5).2.2.2.2.2
theorem Sl.apartQ {w : World} {ao : Option Addr} {n cap : Nat} {l : List Int} (h : Sl w ao n cap l) {g : Nat} {a b d : Option Addr} {c1 c2 c3 c4 c5 c6 : Nat} {x y z : Int} (hr : QR w g x y (.slice a c1 c2) (.slice b c3 c4) (.slice d c5 c6) z) : n = 0 ∨ ∀ p, ao = some p → ¬ p.block = g := by
 rcases h.hat with h0 | ⟨q, off, rfl, hg, hc⟩
 ·exact .inl h0
 ·rcases Nat.eq_zero_or_pos n with h0 | h0
  ·exact .inl h0
  ·right
   rintro p hp rfl
   injection hp with hp
   subst hp
   have h1 := hc 0 h0
   unfold QR at hr
   rw [cell_of_row _ _ _ _ _ _ hr] at h1
   rcases Nat.lt_or_ge (off + 0) 6 with h3 | h3
   ·have h4 : off + 0 = 0 ∨ off + 0 = 1 ∨ off + 0 = 2 ∨ off + 0 = 3 ∨ off + 0 = 4 ∨ off + 0 = 5 := by omega
    rcases h4 with h4 | h4 | h4 | h4 | h4 | h4 <;> (rw [h4] at h1; simp at h1)
   ·rw [Array.getElem?_eq_none (by simpa using h3)] at h1
    cases h1
theorem LaidTo.po {k : Int} {n : Nat} {cs : List Cl} {w w' : World} {e : Ending} (h : LaidTo k n cs w e w') :
  ∃ b po pn pc bo bn bc so sn sc, e = .returned (.pointer (some ⟨b, 0, none⟩)) ∧ Hid (PO w' w.heap.size b k n po pn pc (.slice bo bn bc) (.slice so sn sc) 0 (shP k cs) (qbd (shP k cs).length (whl k) cs) (qst (shP k cs).length (whl k) 0 cs)) ∧ Hid (Below w.heap.size w w') ∧ Hid (pn = (shP k cs).length ∧ bn = (qbd (shP k cs).length (whl k) cs).length ∧ sn = cs.length) := by
 obtain ⟨w1, a, po, pn, pc, vb, vs, rfl, HL, HP, HB, _⟩ := h
 have hb := HL.out.be
 obtain ⟨bo, bc, rfl⟩ := HL.out.ob.shape
 obtain ⟨so, sc, rfl⟩ := HL.out.on.shape
 have hz := HB.out.size
 refine ⟨a, po, pn, pc, bo, _, bc, so, _, sc, rfl, zaa ⟨HL.out.row, HP.out.on Lr hb, HL.out.ob.low hz, ?_, HP.out.lo.far HL.out.ob Lr, zN hz HL.out.ha⟩, zaa (zab HB.out Lr hb), zaa ⟨HP.out.hlen.symm, rfl, zar _ _ _ _⟩⟩
 have h6 := HL.out.on
 unfold OwnN at h6 ⊢
 rcases h6.2 with h8 | ⟨g, c, cur, e, hg, r⟩
 ·exact ⟨h6.1, .inl h8⟩
 ·exact ⟨h6.1, .inr ⟨g, c, cur, e, zN hz hg, r⟩⟩
def LayTo (B a : Nat) (k : Int) (n : Nat) (cs : List Cl) (w : World) (e : Ending) (w' : World) : Prop :=
 e = .returned (.int .i64 0) ∧ Hid (Cf (· = a) w w') ∧ Hid (∃ po pn pc bo bn bc so sn sc, PO w' B a k n po pn pc (.slice bo bn bc) (.slice so sn sc) 0 (shP k cs) (qbd (shP k cs).length (whl k) cs) (qst (shP k cs).length (whl k) 0 cs))
theorem lay_fit (w : World) (B a : Nat) (k : Int) (n : Nat) (po : Option Addr) (pn pc : Nat) (bo : Option Addr) (bn bc : Nat) (so : Option Addr) (sn sc : Nat) (ws : Int) (h : QR w a k n (.slice po pn pc) (.slice bo bn bc) (.slice so sn sc) ws) (hBa : B ≤ a) (hBw : B ≤ w.heap.size) (G : Nat) (ao : Option Addr) (m cap : Nat) (cs : List Cl) (hs : SlE w G ao m cap cs) (hG : G ≤ w.heap.size) (hr : Rs cs) (hf : ∀ c ∈ cs, c.fit) (hn : n ≤ 65536) (hfit : szQ k (shP k cs).length cs ≤ n) :
  Calls Tryz.prog 45 #[.pointer (some ⟨a, 0, none⟩), .slice ao m cap] w fun e w' => LayTo B a k n cs w e w' := by
 have hz := zal k (shP k cs).length cs
 have hm : m ≤ 65536 := by have := hs.hlen; omega
 obtain ⟨Z, hZ⟩ : ∃ Z, szQ k (shP k cs).length cs = Z := ⟨_, rfl⟩
 rw [hZ] at hz hfit
 have haw := zag h
 have E1 : Hid (∀ u, Below w.heap.size w u → Calls Tryz.prog 54 #[.int .i64 k, .int .i64 (n : Int), .slice ao m cap] u fun e w' => ∃ b qo qn qc co cn cc to_ tn tc, e = .returned (.pointer (some ⟨b, 0, none⟩)) ∧ w'.cell? ⟨a, 1, none⟩ = some (.int .i64 (n : Int)) ∧ Hid (PO w' w.heap.size b k n qo qn qc (.slice co cn cc) (.slice to_ tn tc) 0 (shP k cs) (qbd (shP k cs).length (whl k) cs) (qst (shP k cs).length (whl k) 0 cs)) ∧ Hid (Below w.heap.size w w') ∧ Hid (10 + qn + 2 * tn + cn = Z)) := by
  refine zaa fun u hu => (laid_any k n G ao m cap cs u (hs.on hu) (zN hG hu.size) hr hf hm (by omega)).mono ?_
  intro e w' hq
  obtain ⟨b, qo, qn, qc, co, cn, cc, to_, tn, tc, rfl, HPO, HB, HN⟩ := hq.po
  have hb := zab hu Lr HB.out
  have hpo := HPO.out
  obtain ⟨n1, n2, n3⟩ := HN.out
  refine ⟨b, qo, qn, qc, co, cn, cc, to_, tn, tc, rfl, (show QR w' a k n (.slice po pn pc) (.slice bo bn bc) (.slice so sn sc) ws from zaf h hb).cells.2.1, zaa ⟨hpo.row, hpo.pre, hpo.ob.low hu.size, ?_, hpo.far, zN hu.size hpo.ha⟩, zaa hb, zaa (by omega)⟩
  have h6 := hpo.on
  unfold OwnN at h6 ⊢
  rcases h6.2 with h8 | ⟨g, c, cur, e, hg, r⟩
  ·exact ⟨h6.1, .inl h8⟩
  ·exact ⟨h6.1, .inr ⟨g, c, cur, e, zN hu.size hg, r⟩⟩
 have HRA : Hid (∀ u, Below w.heap.size w u → QR u a k n (.slice po pn pc) (.slice bo bn bc) (.slice so sn sc) ws) := zaa fun u hu => zaf h hu
 obtain ⟨c0, c1, c2, c3, c4, c5⟩ := h.cells
 have hfI : (Z : Int) ≤ (n : Int) := by omega
 have hnI : (n : Int) ≤ 65536 := by omega
 clear h hs hr hf hz hZ
 go_enter Tryz.func45, Tryz.ntmps45
 go_upto_region 1 with fail
 go_cut [5] from 6 to 15 (fun v u => ∃ b qo qn qc co cn cc to_ tn tc, v = .pointer (some ⟨b, 0, none⟩) ∧ Hid (PO u w.heap.size b k n qo qn qc (.slice co cn cc) (.slice to_ tn tc) 0 (shP k cs) (qbd (shP k cs).length (whl k) cs) (qst (shP k cs).length (whl k) 0 cs)) ∧ Hid (Below w.heap.size w u) ∧ Hid (10 + qn + 2 * tn + cn = Z))
 case first =>
  go_wp2_with fail
  go_region_with (first | (go_at_call 54; refine (E1.out _ (by first | exact Br | exact Br.drew | exact zad Br _)).mono ?_; rintro e w1 ⟨b, qo, qn, qc, co, cn, cc, to_, tn, tc, rfl, y1, HPO, HB1, HZ1⟩))
  all_goals (try go_wp2_with fail)
  all_goals go_meet
  all_goals exact ⟨b, qo, qn, qc, co, cn, cc, to_, tn, tc, rfl, by first | exact HPO | exact zaa (HPO.out.go Br.drew) | exact zaa (HPO.out.go (zad Br _)), by first | exact HB1 | exact zaa HB1.out.drew | exact zaa (zad HB1.out _), HZ1⟩
 obtain ⟨b, qo, qn, qc, co, cn, cc, to_, tn, tc, rfl, HPO, HB1, HZ1⟩ := hcut
 obtain ⟨w1, hw1⟩ : ∃ w1, w1 = wc := ⟨_, rfl⟩
 subst hw1
 clear c0 c1 c2 c3 c4 c5 E1
 have hz1 := HZ1.out
 have HUS : Hid (∀ u, Below w1.heap.size w1 u → Calls Tryz.prog 17 #[.pointer (some ⟨b, 0, none⟩)] u fun e w' => e = .returned (.int .i64 (Z : Int)) ∧ w'.cell? ⟨a, 1, none⟩ = some (.int .i64 (n : Int)) ∧ Hid (Below w1.heap.size w1 w')) := by
  refine zaa fun u hu => (usedQ_any u b k n qo qn qc co cn cc to_ tn tc (zaf HPO.out.row hu) (by omega) (by omega) (by omega) Z hz1).mono ?_
  rintro e w' ⟨rfl, HB⟩
  have hb := zab hu Lr HB.out
  exact ⟨rfl, (HRA.out w' (zab HB1.out Lr hb)).cells.2.1, zaa hb⟩
 have c1 := (HRA.out w1 HB1.out).cells.2.1
 clear hz1
 go_upto_region 2 with fail
 go_cut [22] from 16 to 22 (fun v u => v = .bool false ∧ Hid (Below w1.heap.size w1 u))
 case first =>
  go_wp2_with fail
  go_region_with (first | (go_at_call 17; refine (HUS.out _ (by first | exact Br | exact Br.drew | exact zad Br _)).mono ?_; rintro e w2 ⟨rfl, y1, HB2⟩))
  all_goals (try go_wp2_with fail)
  all_goals go_meet
  all_goals exact ⟨by simp; omega, by first | exact HB2 | exact zaa HB2.out.drew | exact zaa (zad HB2.out _)⟩
 obtain ⟨rfl, HB2⟩ := hcut
 obtain ⟨w2, hw2⟩ : ∃ w2, w2 = wc := ⟨_, rfl⟩
 subst hw2
 clear c1 HUS
 have HPO2 := zaa (HPO.out.go HB2.out)
 have HBW : Hid (Below w.heap.size w w2) := zaa (zab HB1.out Lr HB2.out)
 have HR2 := zaa (HRA.out w2 HBW.out)
 obtain ⟨c0, c1, c2, c3, c4, c5⟩ := HR2.out.cells
 obtain ⟨d0, d1, d2, d3, d4, d5⟩ := HPO2.out.row.cells
 have f0 := HR2.out.free 0
 have f1 := HR2.out.free 1
 have f2 := HR2.out.free 2
 have f3 := HR2.out.free 3
 have f4 := HR2.out.free 4
 have f5 := HR2.out.free 5
 have HAW := zaa haw
 clear haw
 go_wp2
 go_ret
 have hcf := put6_cf w2 a (.int .i64 k) (.int .i64 (n : Int)) (.slice qo qn qc) (.slice co cn cc) (.slice to_ tn tc) (.int .i64 0)
 have hr2 := HR2.out
 have hpo := HPO2.out
 have hbw := HBW.out
 refine ⟨rfl, zaa ((Cf.of_below hbw).go hcf), zaa ⟨qo, qn, qc, co, cn, cc, to_, tn, tc, ?_, hpo.pre.cf hcf (hpo.pre.apartQ hr2), ?_, ?_, hpo.far, hBa⟩⟩
 ·exact QV.put (show QV w2 a _ _ _ _ _ _ from hr2) _ _ _ _ _ _
 ·unfold QR at hr2
  exact (hpo.ob.low hBw).cf hcf (hpo.ob.apart hr2 (by decide))
 ·unfold QR at hr2
  have h6 := hpo.on.cf hcf (hpo.on.apart hr2 (by decide))
  unfold OwnN at h6 ⊢
  rcases h6.2 with h8 | ⟨g, c, cur, e, hg, r⟩
  ·exact ⟨h6.1, .inl h8⟩
  ·exact ⟨h6.1, .inr ⟨g, c, cur, e, zN hBw hg, r⟩⟩
theorem inPlace_no (w : World) (a : Nat) (k : Int) (n : Nat) (po : Option Addr) (pn pc : Nat) (vb vs : Value) (ws : Int) (P : List Int) (h : QR w a k n (.slice po pn pc) vb vs ws) (hP : Sl w po pn pc P) (i : Nat) (hi : ¬ (k = 3 ∧ i = 0)) (ka : Option Addr) (kn kc : Nat) (kd : Int) (va : Option Addr) (vn vc : Nat) (pg ct : Int) (key : List Int) (hk : Sl w ka kn kc key) (hno : key.take P.length ≠ P) :
  Calls Tryz.prog 88 #[.pointer (some ⟨a, 0, none⟩), .int .i64 (i : Int), .int .i64 (i : Int), .agg #[.slice ka kn kc, .int .i64 kd, .slice va vn vc, .int .i64 pg, .int .i64 ct]] w fun e w' => e = .returned (.bool false) ∧ Hid (Below w.heap.size w w') := by
 obtain ⟨x, hx⟩ : ∃ x, w.alloc (.cells #[.slice ka kn kc, .int .i64 kd, .slice va vn vc, .int .i64 pg, .int .i64 ct] 39) = x := ⟨_, rfl⟩
 have hbx : Below w.heap.size w x := by rw [← hx]; exact zac Br Lr _
 have hc5 : C5 x w.heap.size (.slice ka kn kc) (.int .i64 kd) (.slice va vn vc) (.int .i64 pg) (.int .i64 ct) := by rw [← hx]; exact C5.box _ _ _ _ _ _
 obtain ⟨z0, z1, z2, z3, z4⟩ := hc5.cells
 have hrx : QR x a k n (.slice po pn pc) vb vs ws := zaf h hbx
 obtain ⟨c0, c1, c2, c3, c4, c5⟩ := hrx.cells
 obtain ⟨qo, qn, qc, hqc, hhd⟩ := zch k i po pn pc
 obtain ⟨rfl, rfl, rfl⟩ : qo = po ∧ qn = pn ∧ qc = pc := by
  rcases hqc with ⟨_, _, _, h4⟩ | ⟨h1, h2, h3, _⟩
  ·exact absurd h4 hi
  ·exact ⟨h1, h2, h3⟩
 have HHD := zaa (hhd x a n vb vs ws hrx)
 have HSW : Hid (Calls Tryz.prog 44 #[.int .i64 k, .int .i64 (i : Int)] x fun e w' => e = .returned (.bool false) ∧ w' = x) := zaa (by
  have := zay k (i : Int) x
  rwa [decide_eq_false (show ¬ (k = 3 ∧ (i : Int) = 0) by omega)] at this)
 have HHP : Hid (Calls Tryz.prog 123 #[.slice ka kn kc, .slice qo qn qc] x fun e w' => e = .returned (.bool false) ∧ w' = x) := zaa (by
  have := zcs ka qo kn qn kc qc key P x (hk.on Lr hbx) (hP.on Lr hbx)
  rwa [decide_eq_false hno] at this)
 have HBX := zaa hbx
 clear h hP hk hbx hc5 hrx hhd hqc hi hno
 go_enter Tryz.func88, Tryz.ntmps88
 go_wp2_with (first | (go_at_call 44; refine zae HSW.out ?_) | (go_at_call 95; refine zae HHD.out ?_) | (go_at_call 123; refine zae HHP.out ?_))
 go_ret
 exact ⟨rfl, HBX⟩
end Go.Proofs.YtfgffajgfgifhaaGreatDoor
namespace Go.Proofs.YtfgffajgfgifhaaGreatDoor
set_option maxRecDepth 100000
open Go.RowKit
namespace RN
theorem hsz : (Tryz.prog.info? 3).map (·.size) = some 1 := by
 obtain ⟨i0, hi, hz0, hz1, hz2⟩ := info_parts infoI
 rw [hi]
 simp [hz1]
theorem zero_run (w : World) : (zeroValue 3).run Tryz.prog w = .ok (.int .i64 0) w := by
 obtain ⟨i0, hi, hz0, hz1, hz2⟩ := info_parts infoI
 simp [zeroValue, typeInfo, hi, hz0]
theorem size_run (w : World) : (Go.sizeOf 3).run Tryz.prog w = .ok 1 w := by
 obtain ⟨i0, hi, hz0, hz1, hz2⟩ := info_parts infoI
 simp [sizeOf, typeInfo, hi, hz1]
theorem over_no (w : World) (a b la ca lb cb oa ob kA kB : Nat) (hne : a ≠ b) (ha : RowE w a 3 kA) (hb : RowE w b 3 kB) (hkB : kB ≠ 0) :
  (callFunc 145 #[.slice (some ⟨a, oa, none⟩) la ca, .slice (some ⟨b, ob, none⟩) lb cb]).run Tryz.prog w = .ok (.value (.bool false)) w := by
 have sh : ∀ {g c : Nat}, RowE w g 3 c → w.shape? g = some (3, c) := by
  rintro g c ⟨cur, h1, h2⟩
  simp [World.shape?, h1, h2]
 rw [run_callFunc_extern Tryz.func145 (by kernel_rfl) (by kernel_rfl) (by kernel_rfl) (e := Extern.SlicesOverlaps.overlaps #[61, 61] #[4]) (by kernel_rfl),
  Lib.run_overlaps_apart w 61 4 3 Tryz.underlying61 1 size_run ⟨a, oa, none⟩ ⟨b, ob, none⟩ la ca lb cb hne 3 3 kA kB (sh ha) (sh hb) hkB (ha.free _) (ha.free _)]
 rfl
theorem copy_in (w : World) (ty : TypeId) (g c o dl dc so sl sc : Nat) (cs : List Value) (hr : RowE w g 3 c) (hl : cs.length = Nat.min sl dl) (ho : o + cs.length ≤ c) (hc : ∀ k v, cs[k]? = some v → w.cell? ⟨g, so + k, none⟩ = some v) (h1 : ∀ v ∈ cs, v.oneCell' = true) :
  (Builtin.copy_ #[61, 61] ty #[.slice (some ⟨g, o, none⟩) dl dc, .slice (some ⟨g, so, none⟩) sl sc]).run Tryz.prog w = .ok (goInt cs.length) (w.setCells g o cs) :=
 run_copy_cells w _ _ ty 3 g o dl dc ⟨g, so, none⟩ sl sc cs Tryz.underlying61 hsz hl (fun j v hj => by rw [Addr.add_lit]; exact hc j v hj) (fun j hj => hr.there (by omega)) (fun j _ => hr.free _) h1
theorem copy_of (w : World) (ty : TypeId) (g c o dl dc : Nat) (vv : Value) (m C : Nat) (ys : List Value) (hr : RowE w g 3 c) (hv : w.ownsRow C 3 1 vv m ys) (hml : m ≤ dl) (ho : o + m ≤ c) (h1 : ∀ v ∈ ys, v.oneCell' = true) :
  (Builtin.copy_ #[61, 61] ty #[.slice (some ⟨g, o, none⟩) dl dc, vv]).run Tryz.prog w = .ok (goInt (m : Int)) (w.setCells g o ys) := by
 have hyl := hv.1
 rcases hv.2 with ⟨rfl, h0⟩ | ⟨b, cap, cur, rfl, _⟩
 ·obtain rfl : ys = [] := List.eq_nil_of_length_eq_zero (by omega)
  subst h0
  exact run_copy_none w _ _ ty 3 _ _ dl dc 0 0 Tryz.underlying61 hsz (by simp)
 ·obtain ⟨_, _, _, _, hl, hc⟩ := zat hv
  have := run_copy_cells w 61 61 ty 3 g o dl dc ⟨b, 0, none⟩ m cap ys Tryz.underlying61 hsz (by rw [hl]; simp only [Nat.min_def]; split <;> omega) (fun j v hj => by rw [Addr.add_lit, Nat.zero_add]; exact hc j v hj) (fun j hj => hr.there (by omega)) (fun j _ => hr.free _) h1
  rwa [hl] at this
def To (w : World) (B : Nat) (v : Value) (n : Nat) (xs : List Value) (e : Ending) (w' : World) : Prop := ∃ ao c, e = .returned (.slice ao n c) ∧ Hid (w'.ownsRow B 3 1 (.slice ao n c) n xs) ∧ Hid (Gr w v w' (.slice ao n c))
theorem gr_in {w w' : World} {g n c n' c' : Nat} (h : w.grownBy w' (some g)) : Gr w (.slice (some ⟨g, 0, none⟩) n c) w' (.slice (some ⟨g, 0, none⟩) n' c') := ⟨h, .inl rfl⟩
theorem app_own {ops : Array Oper} {rest : List Oper} {o : Oper} {a : Act} {Q : Exit → Act → World → Prop} (w : World) (hgd : o.guard = none) (s x : Operand)
  (ho : o.op = .call { callee := .builtin .append, args := #[s, x], argTypes := #[61, 61] }) (B C n m : Nat) (xs ys : List Value) (v vv : Value) (hs : a.eval s = v) (hx : a.eval x = vv)
  (hown : w.ownsRow B 3 1 v n xs) (hv : w.ownsRow C 3 1 vv m ys) (h1 : ∀ u ∈ ys, u.oneCell' = true) (hb : n + m ≤ 1000000) (hbase : B ≤ w.heap.size)
  (h : ∀ ao c w', w'.ownsRow B 3 1 (.slice ao (n + m) c) (n + m) (xs ++ ys) → Gr w v w' (.slice ao (n + m) c) → wpList Tryz.prog ops Q rest (a.put o.dst (.slice ao (n + m) c)) w') : wpList Tryz.prog ops Q (o :: rest) a w := by
 obtain ⟨i0, hi, hz0, hz1, hz2⟩ := info_parts infoI
 have shp : ∀ {u : Value} {k : Nat} {zs : List Value} {w : World}, w.ownsRow B 3 1 u k zs → ∃ ao c, u = .slice ao k c := by
  intro u k zs w hu
  rcases hu.2 with ⟨rfl, h0⟩ | ⟨g, cap, cur, rfl, _⟩
  ·exact ⟨none, 0, by rw [h0]⟩
  ·exact ⟨_, _, rfl⟩
 have hyl := hv.1
 rcases hv.2 with ⟨rfl, h0⟩ | ⟨b, vcap, vcur, rfl, _⟩
 ·obtain rfl : ys = [] := List.eq_nil_of_length_eq_zero (by omega)
  subst h0
  obtain ⟨ao, c, rfl⟩ := shp hown
  exact wpList_append_own_none hgd s x 61 ho B 3 i0 1 Tryz.underlying61 hi _ n xs hs hown hx (h ao c w (by simpa using hown) (Gr.refl _ _))
 ·obtain ⟨_, _, _, _, hl, hc⟩ := zat hv
  refine wpList_append_own_at w hgd s x 61 ho B 3 i0 (.int .i64 0) 1 8 Tryz.underlying61 hi hz0 hz1 hz2 rfl (by decide) v n xs hs hown ⟨b, 0, none⟩ m vcap ys hx (by omega)
   (fun j u hu => by rw [Addr.add_lit, Nat.zero_add]; exact hc j u hu) h1 (by unfold maxLen; omega) (by omega) hbase ?_
  intro v' w' g1 g2 g3 g4
  obtain ⟨ao, c, rfl⟩ := shp g1
  exact h ao c w' g1 ⟨g2, g4.imp id fun e => ⟨_, e, Nat.le_refl _⟩⟩
theorem app_room (w : World) (ty : TypeId) (B C n m g cap : Nat) (xs ys : List Value) (vv : Value) (hown : w.ownsRow B 3 1 (.slice (some ⟨g, 0, none⟩) n cap) n xs) (hv : w.ownsRow C 3 1 vv m ys) (h1 : ∀ u ∈ ys, u.oneCell' = true) (hb : n + m ≤ 1000000) (hroom : n + m ≤ cap) (hbase : B ≤ w.heap.size) :
  ∃ w', (Builtin.append_ #[61, 61] ty #[.slice (some ⟨g, 0, none⟩) n cap, vv]).run Tryz.prog w = .ok (.slice (some ⟨g, 0, none⟩) (n + m) cap) w' ∧ w'.ownsRow B 3 1 (.slice (some ⟨g, 0, none⟩) (n + m) cap) (n + m) (xs ++ ys) ∧ w.grownBy w' (some g) := by
 obtain ⟨i0, hi, hz0, hz1, hz2⟩ := info_parts infoI
 have hyl := hv.1
 rcases hv.2 with ⟨rfl, h0⟩ | ⟨b, vcap, vcur, rfl, _⟩
 ·obtain rfl : ys = [] := List.eq_nil_of_length_eq_zero (by omega)
  subst h0
  refine ⟨w, ?_, by simpa using hown, zcz _ _⟩
  have := run_append_owned_none (P := Tryz.prog) (w := w) B 61 ty 3 i0 1 Tryz.underlying61 hi (.slice (some ⟨g, 0, none⟩) n cap) n xs hown
  simpa using this
 ·obtain ⟨_, _, _, _, hl, hc⟩ := zat hv
  have hnews : ∀ j u, ys[j]? = some u → w.cell? ((⟨b, 0, none⟩ : Addr).add j) = some u := fun j u hu => by rw [Addr.add_lit, Nat.zero_add]; exact hc j u hu
  obtain ⟨v', w', hr, g1, g2, g3, g4⟩ := run_append_own_at (P := Tryz.prog) w B 61 ty 3 i0 (.int .i64 0) 1 8 Tryz.underlying61 hi hz0 hz1 hz2 rfl (by decide) (.slice (some ⟨g, 0, none⟩) n cap) n xs hown ⟨b, 0, none⟩ m vcap ys (by omega) hnews h1 (by unfold maxLen; omega) (by omega) hbase
  obtain ⟨⟨cur, hcur, hcs⟩, _⟩ := zat hown
  have hr' := run_append_room (P := Tryz.prog) w 61 ty 3 i0 Tryz.underlying61 hi g n cap cur hcur ⟨b, 0, none⟩ m vcap ys (by rw [hz1]; omega) hnews h1 hroom (by rw [hz1]; omega)
  rw [hr] at hr'
  injection hr' with e1 e2
  subst e1
  exact ⟨w', hr, g1, g2⟩
theorem app_zeros (w : World) (ty : TypeId) (B n i k g cap : Nat) (xs : List Value) (hown : w.ownsRow B 3 1 (.slice (some ⟨g, 0, none⟩) n cap) n xs) (hi : i ≤ n) (hk : cap < i + k) (hb : i + k ≤ 1000000) :
  ∃ c w', (Builtin.append_ #[61, 3] ty #[.slice (some ⟨g, 0, none⟩) i cap, .int .i64 (k : Int)]).run Tryz.prog w = .ok (.slice (some ⟨w.heap.size, 0, none⟩) (i + k) c) w' ∧ RowE w' w.heap.size 3 c ∧ i + k ≤ c ∧ c ≤ maxLen ∧ (∀ t v, (xs.take i)[t]? = some v → w'.cell? ⟨w.heap.size, t, none⟩ = some v) ∧ Below w.heap.size w w' := by
 obtain ⟨i0, hi0, hz0, hz1, hz2⟩ := info_parts infoI
 obtain ⟨_, _, hnc, _, hl, hc⟩ := zat hown
 have hti : (xs.take i).length = i := by simp; omega
 have hold : (Builtin.firstCells i0.size i (.slice (some ⟨g, 0, none⟩) i cap)).run Tryz.prog w.drew = .ok (xs.take i).toArray w.drew := by
  rw [hz1]
  refine run_firstCells_some w.drew 1 i ⟨g, 0, none⟩ i cap (xs.take i) (by omega) (fun j v hj => ?_)
  rw [Addr.add_lit, Nat.zero_add]
  have hlt := (List.getElem?_eq_some_iff.1 hj).1
  rw [List.getElem?_take_of_lt (by omega)] at hj
  exact hc j v hj
 have hge := grownCap_ge w (i + k) cap 3
 have hle := grownCap_le_maxLen w (i + k) cap 3 (by unfold maxLen; omega)
 have hr := Lib.run_append_grow_zeros (P := Tryz.prog) w 61 3 ty 3 i0 (.int .i64 0) .i64 .i64 Tryz.underlying61 Tryz.underlying3 hi0 hz0 (some ⟨g, 0, none⟩) i cap (xs.take i) hold k (by omega) (by rw [hz1]; decide) hk (by omega) (by rw [hz2]; omega) (by rw [hz2]; exact growslice_fits hk (by omega))
 refine ⟨_, _, hr, ⟨_, heap_alloc_last w.drew _, ?_⟩, hge, hle, fun t v ht => ?_, (Below.refl _ _).drew.alloc (Nat.le_refl _) _⟩
 ·simp [Builtin.zeroCells, Value.cells]
  omega
 ·have hlt := (List.getElem?_eq_some_iff.1 ht).1
  have e : (w.drew.alloc (.cells ((xs.take i).toArray ++ Builtin.zeroCells (Value.int .i64 0).cells k ++ Builtin.zeroCells (Value.int .i64 0).cells (grownCap w (i + k) cap 3 - (i + k))) 3)).heap[w.heap.size]? = some (.cells ((xs.take i).toArray ++ Builtin.zeroCells (Value.int .i64 0).cells k ++ Builtin.zeroCells (Value.int .i64 0).cells (grownCap w (i + k) cap 3 - (i + k))) 3 (0, 0)) := heap_alloc_last w.drew _
  rw [cell_of_row _ _ _ _ _ _ e, Array.append_assoc, Array.getElem?_append_left (by simpa using hlt)]
  simpa using ht
set_option maxHeartbeats 4000000 in
theorem ins_end (w : World) (B C n m : Nat) (v vv : Value) (xs ys : List Value) (hs : w.ownsRow B 3 1 v n xs) (hv : w.ownsRow C 3 1 vv m ys) (hy1 : ∀ u ∈ ys, u.oneCell' = true) (hb : n + m ≤ 1000000) (hB : B ≤ w.heap.size) (hm : 0 < m) :
  Calls Tryz.prog 144 #[v, .int .i64 (n : Int), vv] w (To w B v (n + m) (xs ++ ys)) := by
 have hm1 : ¬ (m : Int) = 0 := by omega
 have HS := zaa hs
 have HV := zaa hv
 have HY := zaa hy1
 obtain ⟨b, vc, rfl⟩ : ∃ b vc, vv = .slice (some ⟨b, 0, none⟩) m vc := by
  rcases hv.2 with ⟨_, h0⟩ | ⟨b, cap, cur, e, _⟩
  ·omega
  ·exact ⟨b, cap, e⟩
 rcases hs.2 with ⟨rfl, rfl⟩ | ⟨g, c, cur, rfl, _, _, hnc, _⟩
 ·clear hs hv hy1
  rw [Nat.zero_add]
  go_enter Tryz.func144, Tryz.ntmps144
  go_wp2_with (at_builtin; refine app_own _ rfl _ _ rfl B C 0 m xs ys _ _ rfl rfl HS.out HV.out HY.out hb hB ?_; refine Hid.out ?_)
  apply zaa
  intro ao c w' h1 h2
  have H1 := zaa h1
  have H2 := zaa h2
  clear h1 h2
  go_wp2
  go_ret
  exact ⟨ao, c, rfl, H1, H2⟩
 ·clear hs hv hy1
  by_cases hc : c = n
  ·subst hc
   go_enter Tryz.func144, Tryz.ntmps144
   go_wp2_with (at_builtin; refine app_own _ rfl _ _ rfl B C _ m xs ys _ _ rfl rfl HS.out HV.out HY.out hb hB ?_; refine Hid.out ?_)
   apply zaa
   intro ao c w' h1 h2
   have H1 := zaa h1
   have H2 := zaa h2
   clear h1 h2
   go_wp2
   go_ret
   exact ⟨ao, c, rfl, H1, H2⟩
  ·go_enter Tryz.func144, Tryz.ntmps144
   go_wp2_with (at_builtin; refine app_own _ rfl _ _ rfl B C n m xs ys _ _ rfl rfl HS.out HV.out HY.out hb hB ?_; refine Hid.out ?_)
   apply zaa
   intro ao c w' h1 h2
   have H1 := zaa h1
   have H2 := zaa h2
   clear h1 h2
   go_wp2
   go_ret
   exact ⟨ao, c, rfl, H1, H2⟩
set_option maxHeartbeats 4000000 in
theorem ins_grow (w : World) (B C n m i g c b vc : Nat) (xs ys : List Value) (hs : w.ownsRow B 3 1 (.slice (some ⟨g, 0, none⟩) n c) n xs) (hv : w.ownsRow C 3 1 (.slice (some ⟨b, 0, none⟩) m vc) m ys) (hx1 : ∀ u ∈ xs, u.oneCell' = true) (hy1 : ∀ u ∈ ys, u.oneCell' = true) (hi : i < n) (hb : n + m ≤ 1000000) (hB : B ≤ w.heap.size) (hm : 0 < m) (hg : c < n + m) :
  Calls Tryz.prog 144 #[.slice (some ⟨g, 0, none⟩) n c, .int .i64 (i : Int), .slice (some ⟨b, 0, none⟩) m vc] w (To w B (.slice (some ⟨g, 0, none⟩) n c) (n + m) (xs.take i ++ ys ++ xs.drop i)) := by
 obtain ⟨hrow, hgB, hnc, hcm, hxl, hxc⟩ := zat hs
 obtain ⟨_, _, hmv, _, hyl, hyc⟩ := zat hv
 have hm1 : ¬ (m : Int) = 0 := by omega
 have hin : ¬ (i : Int) = (n : Int) := by omega
 have hci : ¬ c = i := by omega
 have hgI : (c : Int) < (n : Int) + (m : Int) := by omega
 obtain ⟨k, hk⟩ : ∃ k : Nat, n + m - i = k := ⟨_, rfl⟩
 have hkI : (n : Int) + (m : Int) - (i : Int) = (k : Int) := by omega
 obtain ⟨c2, w1, hr, hrow1, hkc, hcm1, hcell1, hb1⟩ := app_zeros w 61 B n i k g c xs hs (by omega) (by omega) (by omega)
 obtain ⟨G, hG⟩ : ∃ G, w.heap.size = G := ⟨_, rfl⟩
 have hgG : g ≠ G := by have := hrow.lt; omega
 have hrow1' : RowE w1 G 3 c2 := by rw [← hG]; exact hrow1
 have hv1 : w1.ownsRow C 3 1 (.slice (some ⟨b, 0, none⟩) m vc) m ys := World.ownsRow.kept (row := none) hv ⟨hb1.os, hb1.tape, hb1.output, hb1.size, fun z hz _ => hb1.block z hz⟩ (.inr (by simp [Value.ownBlock]))
 have hcp1 := copy_of w1 3 G c2 i k (c2 - i) (.slice (some ⟨b, 0, none⟩) m vc) m C ys hrow1' hv1 (by omega) (by omega) hy1
 obtain ⟨w2, hw2⟩ : ∃ w2, w1.setCells G i ys = w2 := ⟨_, rfl⟩
 rw [hw2] at hcp1
 have hrow2 : RowE w2 G 3 c2 := by rw [← hw2]; exact RowE.sets _ _ _ hrow1'
 have hdl : (xs.drop i).length = n - i := by simp; omega
 have hold : w2.heap[g]? = w.heap[g]? := by
  rw [← hw2, World.heap_setCells_other _ _ _ _ (Nat.lt_of_lt_of_le hrow.lt hb1.size) hgG]
  exact hb1.block g hrow.lt
 have hcp2 : Hid (∀ q ty dl dc sl sc, Nat.min sl dl = n - i → (Builtin.copy_ #[61, 61] ty #[.slice (some ⟨G, i + m, none⟩) dl dc, .slice (some ⟨g, i, none⟩) sl sc]).run Tryz.prog (w2.drewN q) = .ok (goInt (xs.drop i).length) ((w2.drewN q).setCells G (i + m) (xs.drop i))) := zaa fun q ty dl dc sl sc hmin =>
  run_copy_cells (w2.drewN q) _ _ ty 3 G (i + m) dl dc ⟨g, i, none⟩ sl sc (xs.drop i) Tryz.underlying61 hsz (by rw [hdl, hmin])
   (fun j v hj => by
    rw [Addr.add_lit]
    have : (w2.drewN q).cell? ⟨g, i + j, none⟩ = w.cell? ⟨g, i + j, none⟩ := World.cell?_of_block (a := ⟨g, i + j, none⟩) hold
    rw [this]
    exact hxc (i + j) v (by rwa [List.getElem?_drop] at hj))
   (fun j hj => (hrow2.drewN q).there (by omega)) (fun j _ => (hrow2.drewN q).free _) (fun v hv => hx1 v (List.mem_of_mem_drop hv))
 have HEND : Hid (∀ q, ((w2.drewN q).setCells G (i + m) (xs.drop i)).ownsRow B 3 1 (.slice (some ⟨G, 0, none⟩) (i + k) c2) (i + k) (xs.take i ++ ys ++ xs.drop i) ∧ Below w.heap.size w ((w2.drewN q).setCells G (i + m) (xs.drop i))) := zaa fun q => by
  refine ⟨RowE.own (RowE.sets _ _ _ (hrow2.drewN q)) hcm1 (by omega) hkc (by rw [moved_len hxl hyl (Nat.le_refl _) (by omega)]; omega) (moved hxl hyl (Nat.le_refl _) (by omega) (fun t ht => ?_) (fun t ht => ?_) (fun t ht => ?_)), ?_⟩
  ·rw [(hrow2.drewN q).cell _ _ (by omega), if_neg (by omega)]
   show w2.cell? _ = _
   rw [← hw2, hrow1'.cell _ _ (by omega), if_neg (by omega)]
   have e1 : xs[t]? = some (xs[t]'(by omega)) := List.getElem?_eq_getElem _
   rw [e1]
   have := hcell1 t _ (by rw [List.getElem?_take_of_lt ht, e1])
   rw [hG] at this
   exact this
  ·rw [(hrow2.drewN q).cell _ _ (by omega), if_neg (by omega)]
   show w2.cell? _ = _
   rw [← hw2, hrow1'.cell _ _ (by omega), if_pos (by omega), Nat.add_sub_cancel_left]
  ·rw [(hrow2.drewN q).cell _ _ (by omega), if_pos (by omega), Nat.add_sub_cancel_left, List.getElem?_drop]
  ·have h1 := zas G (xs.drop i) (i + m) (w2.drewN q)
   have h2 := zas G ys i w1
   rw [hw2] at h2
   refine ⟨h1.os.trans (h2.os.trans hb1.os), h1.tape.trans (h2.tape.trans hb1.tape), h1.output.trans (h2.output.trans hb1.output), Nat.le_trans hb1.size (Nat.le_trans h2.size h1.size), fun z hz => ?_⟩
   have hzG : some z ≠ some G := by intro e; injection e with e; omega
   exact (h1.block z (Nat.lt_of_lt_of_le hz (Nat.le_trans hb1.size h2.size)) hzG).trans ((h2.block z (Nat.lt_of_lt_of_le hz hb1.size) hzG).trans (hb1.block z hz))
 have hki : (i : Int) ≤ (k : Int) + (i : Int) := by omega
 have hc2i : ¬ c2 = i := by omega
 have hc2m : ¬ c2 = i + m := by omega
 have himI : (i : Int) + (m : Int) ≤ (i : Int) + (k : Int) := by omega
 have hEQ : i + k = n + m := by omega
 rw [hG] at hr
 rw [hEQ] at hr HEND
 have e1 : n + m - i = k := hk
 have e2 : n + m - (i + m) = k - m := by omega
 clear hs hv hx1 hy1 hrow hxc hyc hrow1 hrow1' hv1 hold hrow2 hcell1 hb1 hw2 hxl hyl hdl hk
 go_enter Tryz.func144, Tryz.ntmps144
 go_wp2_with (at_builtin; refine zdh rfl _ _ _ _ rfl _ _ rfl rfl hr ?_; refine Hid.out ?_)
 apply zaa
 clear hr
 go_wp2_with fail
 clear hcp1
 have hw1 : IntKind.i64.wrap ((i : Int) + (m : Int)) = (i : Int) + (m : Int) := by rw [IntKind.wrap_i64]; omega
 have hb1 : (0 : Int) ≤ (i : Int) + (m : Int) := by omega
 have htn : ((i : Int) + (m : Int)).toNat = i + m := by omega
 have hb3 : (i : Int) + (m : Int) ≤ (n : Int) + (m : Int) := by omega
 have hb4 : (i : Int) ≤ (n : Int) := by omega
 have hb5 : i ≤ n := by omega
 have hcpD : (Builtin.copy_ #[61, 61] 3 #[.slice (some ⟨G, i + m, none⟩) (k - m) (c2 - (i + m)), .slice (some ⟨g, i, none⟩) (n - i) (c - i)]).run Tryz.prog w2.drew = .ok (goInt (xs.drop i).length) (w2.drew.setCells G (i + m) (xs.drop i)) := hcp2.out 1 3 (k - m) (c2 - (i + m)) (n - i) (c - i) (by simp only [Nat.min_def]; split <;> omega)
 have HE1 := zaa (HEND.out 1)
 obtain ⟨w3, hw3⟩ : ∃ w3, w2.drew.setCells G (i + m) (xs.drop i) = w3 := ⟨_, rfl⟩
 have hw3' : (w2.drewN 1).setCells G (i + m) (xs.drop i) = w3 := hw3
 rw [hw3'] at HE1
 rw [hw3] at hcpD
 clear hw3 hw3' hcp2 HEND
 go_region
 go_wp2
 go_ret
 refine ⟨some ⟨G, 0, none⟩, c2, rfl, zaa HE1.out.1, zaa ⟨?_, .inr ⟨G, rfl, by omega⟩⟩⟩
 have hbe := HE1.out.2
 exact ⟨hbe.os, hbe.tape, hbe.output, hbe.size, fun z hz _ => hbe.block z hz⟩
theorem own_take {w : World} {B n i g c : Nat} {xs : List Value} (h : w.ownsRow B 3 1 (.slice (some ⟨g, 0, none⟩) n c) n xs) (hi : i ≤ n) : w.ownsRow B 3 1 (.slice (some ⟨g, 0, none⟩) i c) i (xs.take i) := by
 obtain ⟨hrow, hgB, hnc, hcm, hxl, hxc⟩ := zat h
 refine hrow.own hcm hgB (by omega) (by simp; omega) (fun t v hv => ?_)
 have hlt := (List.getElem?_eq_some_iff.1 hv).1
 have hti : t < i := by simp at hlt; omega
 rw [List.getElem?_take_of_lt hti] at hv
 exact hxc t v hv
set_option maxHeartbeats 4000000 in
theorem ins_shift (w : World) (B C n m i g c b vc : Nat) (xs ys : List Value) (hs : w.ownsRow B 3 1 (.slice (some ⟨g, 0, none⟩) n c) n xs) (hv : w.ownsRow C 3 1 (.slice (some ⟨b, 0, none⟩) m vc) m ys) (hx1 : ∀ u ∈ xs, u.oneCell' = true) (hy1 : ∀ u ∈ ys, u.oneCell' = true) (hne : b ≠ g) (hi : i < n) (hb : n + m ≤ 1000000) (hm : 0 < m) (hg : n + m ≤ c) :
  Calls Tryz.prog 144 #[.slice (some ⟨g, 0, none⟩) n c, .int .i64 (i : Int), .slice (some ⟨b, 0, none⟩) m vc] w (To w B (.slice (some ⟨g, 0, none⟩) n c) (n + m) (xs.take i ++ ys ++ xs.drop i)) := by
 obtain ⟨hrow, hgB, hnc, hcm, hxl, hxc⟩ := zat hs
 obtain ⟨hrowv, _, hmv, _, hyl, hyc⟩ := zat hv
 have hm1 : ¬ (m : Int) = 0 := by omega
 have hin : ¬ (i : Int) = (n : Int) := by omega
 have hci : ¬ c = i := by omega
 have hcim : ¬ c = i + m := by omega
 have hgI : ¬ (c : Int) < (n : Int) + (m : Int) := by omega
 have hgI2 : (n : Int) + (m : Int) ≤ (c : Int) := by omega
 have hdl : (xs.drop i).length = n - i := by simp; omega
 have hrowd : RowE w.drew g 3 c := hrow
 have hov : ∀ lb cb, (callFunc 145 #[.slice (some ⟨b, 0, none⟩) m vc, .slice (some ⟨g, i + m, none⟩) lb cb]).run Tryz.prog w = .ok (.value (.bool false)) w := fun lb cb => over_no w b g m vc lb cb 0 (i + m) vc c hne hrowv hrow (by omega)
 have hcpD : (Builtin.copy_ #[61, 61] 3 #[.slice (some ⟨g, i + m, none⟩) (n - i) (c - (i + m)), .slice (some ⟨g, i, none⟩) (n + m - i) (c - i)]).run Tryz.prog w.drew = .ok (goInt (xs.drop i).length) (w.drew.setCells g (i + m) (xs.drop i)) :=
  copy_in w.drew 3 g c (i + m) (n - i) (c - (i + m)) i (n + m - i) (c - i) (xs.drop i) (hrow.drewN 1) (by rw [hdl]; simp only [Nat.min_def]; split <;> omega) (by omega) (fun k v hk => hxc (i + k) v (by rwa [List.getElem?_drop] at hk)) (fun v hv => hx1 v (List.mem_of_mem_drop hv))
 obtain ⟨w1, hw1⟩ : ∃ w1, w.drew.setCells g (i + m) (xs.drop i) = w1 := ⟨_, rfl⟩
 rw [hw1] at hcpD
 have hg1 : w.grownBy w1 (some g) := by rw [← hw1]; exact zbj (zcr (zcz w _)) (zas g _ _ _)
 have hrow1 : RowE w1 g 3 c := by rw [← hw1]; exact RowE.sets _ _ _ (hrow.drewN 1)
 have hv1 : w1.ownsRow C 3 1 (.slice (some ⟨b, 0, none⟩) m vc) m ys := World.ownsRow.kept hv hg1 (.inr (by simp [Value.ownBlock]; exact hne))
 have hcp2 := copy_of w1 3 g c i (n + m - i) (c - i) (.slice (some ⟨b, 0, none⟩) m vc) m C ys hrow1 hv1 (by omega) (by omega) hy1
 obtain ⟨w2, hw2⟩ : ∃ w2, w1.setCells g i ys = w2 := ⟨_, rfl⟩
 rw [hw2] at hcp2
 have HE : Hid (w2.ownsRow B 3 1 (.slice (some ⟨g, 0, none⟩) (n + m) c) (n + m) (xs.take i ++ ys ++ xs.drop i) ∧ w.grownBy w2 (some g)) := zaa (by
  rw [← hw2]
  refine ⟨RowE.own (RowE.sets _ _ _ hrow1) hcm hgB hg (by rw [moved_len hxl hyl (Nat.le_refl _) (by omega)]; omega) (moved hxl hyl (Nat.le_refl _) (by omega) (fun t ht => ?_) (fun t ht => ?_) (fun t ht => ?_)), zbj hg1 (zas g _ _ _)⟩
  ·rw [hrow1.cell _ _ (by omega), if_neg (by omega), ← hw1, hrowd.cell _ _ (by omega), if_neg (by omega)]
   have e1 : xs[t]? = some (xs[t]'(by omega)) := List.getElem?_eq_getElem _
   rw [e1]
   exact hxc t _ e1
  ·rw [hrow1.cell _ _ (by omega), if_pos (by omega), Nat.add_sub_cancel_left]
  ·rw [hrow1.cell _ _ (by omega), if_neg (by omega), ← hw1, hrowd.cell _ _ (by omega), if_pos (by omega), Nat.add_sub_cancel_left, List.getElem?_drop])
 have hwi : IntKind.i64.wrap ((i : Int) + (m : Int)) = (i : Int) + (m : Int) := by rw [IntKind.wrap_i64]; omega
 have hb1 : (0 : Int) ≤ (i : Int) + (m : Int) := by omega
 have htn : ((i : Int) + (m : Int)).toNat = i + m := by omega
 have hb3 : (i : Int) + (m : Int) ≤ (n : Int) + (m : Int) := by omega
 have hb4 : (i : Int) ≤ (n : Int) + (m : Int) := by omega
 have hb5 : i ≤ n := by omega
 have hb6 : i ≤ n + m := by omega
 have e2 : n + m - (i + m) = n - i := by omega
 clear hs hv hx1 hy1 hrow hrowd hrowv hxc hyc hrow1 hv1 hw1 hw2 hxl hyl hdl hg1
 go_enter Tryz.func144, Tryz.ntmps144
 go_wp2_with (simp only [hov])
 go_region
 go_wp2
 go_ret
 exact ⟨some ⟨g, 0, none⟩, c, rfl, zaa HE.out.1, zaa (gr_in HE.out.2)⟩
theorem ins_any (w : World) (B C n m i : Nat) (v vv : Value) (xs ys : List Value) (hs : w.ownsRow B 3 1 v n xs) (hv : w.ownsRow C 3 1 vv m ys) (hx1 : ∀ u ∈ xs, u.oneCell' = true) (hy1 : ∀ u ∈ ys, u.oneCell' = true) (hne : vv.ownBlock = none ∨ vv.ownBlock ≠ v.ownBlock) (hi : i ≤ n) (hb : n + m ≤ 1000000) (hB : B ≤ w.heap.size) (hm : 0 < m) :
  Calls Tryz.prog 144 #[v, .int .i64 (i : Int), vv] w (To w B v (n + m) (xs.take i ++ ys ++ xs.drop i)) := by
 have hxl := hs.1
 by_cases hin : i = n
 ·subst hin
  have := ins_end w B C i m v vv xs ys hs hv hy1 hb hB hm
  rwa [List.take_of_length_le (by omega), List.drop_eq_nil_of_le (by omega), List.append_nil]
 ·rcases hs.2 with ⟨_, h0⟩ | ⟨g, c, cur, rfl, _⟩
  ·omega
  rcases hv.2 with ⟨_, h0⟩ | ⟨b, vc, vcur, rfl, _⟩
  ·omega
  by_cases hg : n + m ≤ c
  ·refine ins_shift w B C n m i g c b vc xs ys hs hv hx1 hy1 ?_ (by omega) hb hm hg
   rcases hne with e | e
   ·cases e
   ·exact fun e2 => e (by rw [e2]; rfl)
  ·exact ins_grow w B C n m i g c b vc xs ys hs hv hx1 hy1 (by omega) hb hB hm (by omega)
end RN
end Go.Proofs.YtfgffajgfgifhaaGreatDoor
namespace Go.Proofs.YtfgffajgfgifhaaGreatDoor
set_option maxRecDepth 100000
open Go.RowKit
namespace RN
theorem rep_in {w : World} {B n m i j g c : Nat} {xs ys : List Value} (hrow : RowE w g 3 c) (hcm : c ≤ maxLen) (hgB : B ≤ g) (hxl : xs.length = n) (hyl : ys.length = m) (hij : i ≤ j) (hjn : j ≤ n) (hc : i + m + (n - j) ≤ c)
  (h1 : ∀ k, k < i → w.cell? ⟨g, k, none⟩ = xs[k]?) (h2 : ∀ k, k < m → w.cell? ⟨g, i + k, none⟩ = ys[k]?) (h3 : ∀ k, k < n - j → w.cell? ⟨g, i + m + k, none⟩ = xs[j + k]?) : w.ownsRow B 3 1 (.slice (some ⟨g, 0, none⟩) (i + m + (n - j)) c) (i + m + (n - j)) (xs.take i ++ ys ++ xs.drop j) :=
 hrow.own hcm hgB hc (moved_len hxl hyl hij hjn) (moved hxl hyl hij hjn h1 h2 h3)
theorem cell_old {w : World} {g n : Nat} {xs : List Value} (hxl : xs.length = n) (hxc : ∀ i v, xs[i]? = some v → w.cell? ⟨g, i, none⟩ = some v) {t : Nat} (ht : t < n) : w.cell? ⟨g, t, none⟩ = xs[t]? := by
 have e1 : xs[t]? = some (xs[t]'(by omega)) := List.getElem?_eq_getElem _
 rw [e1]
 exact hxc t _ e1
set_option maxHeartbeats 4000000 in
theorem rep_grow (w : World) (B C n m i j g c b vc : Nat) (xs ys : List Value) (hs : w.ownsRow B 3 1 (.slice (some ⟨g, 0, none⟩) n c) n xs) (hv : w.ownsRow C 3 1 (.slice (some ⟨b, 0, none⟩) m vc) m ys) (hx1 : ∀ u ∈ xs, u.oneCell' = true) (hy1 : ∀ u ∈ ys, u.oneCell' = true) (hij : i < j) (hj : j < n) (hb : n + m ≤ 1000000) (hB : B ≤ w.heap.size) (hm : 0 < m) (hg : c < i + m + (n - j)) :
  Calls Tryz.prog 124 #[.slice (some ⟨g, 0, none⟩) n c, .int .i64 (i : Int), .int .i64 (j : Int), .slice (some ⟨b, 0, none⟩) m vc] w (To w B (.slice (some ⟨g, 0, none⟩) n c) (i + m + (n - j)) (xs.take i ++ ys ++ xs.drop j)) := by
 obtain ⟨hrow, hgB, hnc, hcm, hxl, hxc⟩ := zat hs
 obtain ⟨_, _, hmv, _, hyl, hyc⟩ := zat hv
 have hijI : ¬ (i : Int) = (j : Int) := by omega
 have hjnI : ¬ (j : Int) = (n : Int) := by omega
 have hci : ¬ c = i := by omega
 have hcj : ¬ c = j := by omega
 obtain ⟨r, hr0⟩ : ∃ r : Nat, n - j = r := ⟨_, rfl⟩
 have hrI : (r : Int) ≤ 1000000 := by omega
 obtain ⟨k, hk⟩ : ∃ k : Nat, m + r = k := ⟨_, rfl⟩
 have hkI : (i : Int) + (m : Int) + (r : Int) - (i : Int) = (k : Int) := by omega
 have hgI : (c : Int) < (i : Int) + (m : Int) + (r : Int) := by omega
 rw [hr0] at hg ⊢
 have hsd : w.drew.ownsRow B 3 1 (.slice (some ⟨g, 0, none⟩) n c) n xs := hs
 obtain ⟨c2, w1, hr, hrow1, hkc, hcm1, hcell1, hbd⟩ := app_zeros w.drew 61 B n i k g c xs hsd (by omega) (by omega) (by omega)
 have hdz : w.drew.heap.size = w.heap.size := rfl
 rw [hdz] at hr hrow1 hcell1 hbd
 have hb1 : Below w.heap.size w w1 := (Below.refl _ _).drew.trans hbd
 obtain ⟨G, hG⟩ : ∃ G, w.heap.size = G := ⟨_, rfl⟩
 have hgG : g ≠ G := by have := hrow.lt; omega
 have hrow1' : RowE w1 G 3 c2 := by rw [← hG]; exact hrow1
 have hv1 : w1.ownsRow C 3 1 (.slice (some ⟨b, 0, none⟩) m vc) m ys := World.ownsRow.kept (row := none) hv ⟨hb1.os, hb1.tape, hb1.output, hb1.size, fun z hz _ => hb1.block z hz⟩ (.inr (by simp [Value.ownBlock]))
 have hcp1 := copy_of w1 3 G c2 i k (c2 - i) (.slice (some ⟨b, 0, none⟩) m vc) m C ys hrow1' hv1 (by omega) (by omega) hy1
 obtain ⟨w2, hw2⟩ : ∃ w2, w1.setCells G i ys = w2 := ⟨_, rfl⟩
 rw [hw2] at hcp1
 have hrow2 : RowE w2.drew G 3 c2 := by rw [← hw2]; exact RowE.sets _ _ _ hrow1'
 have hdl : (xs.drop j).length = r := by simp; omega
 have hold : w2.heap[g]? = w.heap[g]? := by
  rw [← hw2, World.heap_setCells_other _ _ _ _ (Nat.lt_of_lt_of_le hrow.lt hb1.size) hgG]
  exact hb1.block g hrow.lt
 have hcpD : (Builtin.copy_ #[61, 61] 3 #[.slice (some ⟨G, i + m, none⟩) r (c2 - (i + m)), .slice (some ⟨g, j, none⟩) r (c - j)]).run Tryz.prog w2.drew = .ok (goInt (xs.drop j).length) (w2.drew.setCells G (i + m) (xs.drop j)) :=
  run_copy_cells w2.drew _ _ 3 3 G (i + m) r (c2 - (i + m)) ⟨g, j, none⟩ r (c - j) (xs.drop j) Tryz.underlying61 hsz (by rw [hdl]; simp)
   (fun t v ht => by
    rw [Addr.add_lit]
    have : w2.drew.cell? ⟨g, j + t, none⟩ = w.cell? ⟨g, j + t, none⟩ := World.cell?_of_block (a := ⟨g, j + t, none⟩) hold
    rw [this]
    exact hxc (j + t) v (by rwa [List.getElem?_drop] at ht))
   (fun t ht => hrow2.there (by omega)) (fun t _ => hrow2.free _) (fun v hv => hx1 v (List.mem_of_mem_drop hv))
 obtain ⟨w3, hw3⟩ : ∃ w3, w2.drew.setCells G (i + m) (xs.drop j) = w3 := ⟨_, rfl⟩
 rw [hw3] at hcpD
 have HE : Hid (w3.ownsRow B 3 1 (.slice (some ⟨G, 0, none⟩) (i + m + r) c2) (i + m + r) (xs.take i ++ ys ++ xs.drop j) ∧ Below w.heap.size w w3) := zaa (by
  rw [← hw3, ← hr0]
  refine ⟨rep_in (RowE.sets _ _ _ hrow2) hcm1 (by omega) hxl hyl (by omega) (by omega) (by omega) (fun t ht => ?_) (fun t ht => ?_) (fun t ht => ?_), ?_⟩
  ·rw [hrow2.cell _ _ (by omega), if_neg (by omega)]
   show w2.cell? _ = _
   rw [← hw2, hrow1'.cell _ _ (by omega), if_neg (by omega)]
   have e1 : xs[t]? = some (xs[t]'(by omega)) := List.getElem?_eq_getElem _
   rw [e1]
   have := hcell1 t _ (by rw [List.getElem?_take_of_lt ht, e1])
   rw [hG] at this
   exact this
  ·rw [hrow2.cell _ _ (by omega), if_neg (by omega)]
   show w2.cell? _ = _
   rw [← hw2, hrow1'.cell _ _ (by omega), if_pos (by omega), Nat.add_sub_cancel_left]
  ·rw [hrow2.cell _ _ (by omega), if_pos (by omega), Nat.add_sub_cancel_left, List.getElem?_drop]
  ·have h1 := zas G (xs.drop j) (i + m) w2.drew
   have h2 := zas G ys i w1
   rw [hw2] at h2
   refine ⟨h1.os.trans (h2.os.trans hb1.os), h1.tape.trans (h2.tape.trans hb1.tape), h1.output.trans (h2.output.trans hb1.output), Nat.le_trans hb1.size (Nat.le_trans h2.size h1.size), fun z hz => ?_⟩
   have hzG : some z ≠ some G := by intro e; injection e with e; omega
   exact (h1.block z (Nat.lt_of_lt_of_le hz (Nat.le_trans hb1.size h2.size)) hzG).trans ((h2.block z (Nat.lt_of_lt_of_le hz hb1.size) hzG).trans (hb1.block z hz)))
 have hki : (i : Int) ≤ (k : Int) + (i : Int) := by omega
 have hc2i : ¬ c2 = i := by omega
 have hc2m : ¬ c2 = i + m := by omega
 have hEQ : i + k = i + m + r := by omega
 rw [hG] at hr
 rw [hEQ] at hr
 have e1 : i + m + r - i = k := by omega
 have e2 : i + m + r - (i + m) = r := by omega
 have hwi : IntKind.i64.wrap ((i : Int) + (m : Int)) = (i : Int) + (m : Int) := by rw [IntKind.wrap_i64]; omega
 have hwt : IntKind.i64.wrap ((i : Int) + (m : Int) + (r : Int)) = (i : Int) + (m : Int) + (r : Int) := by rw [IntKind.wrap_i64]; omega
 have hbb1 : (0 : Int) ≤ (i : Int) + (m : Int) := by omega
 have htn : ((i : Int) + (m : Int)).toNat = i + m := by omega
 have hb3 : (i : Int) + (m : Int) ≤ (i : Int) + (m : Int) + (r : Int) := by omega
 have hb4 : (j : Int) ≤ (n : Int) := by omega
 have hb5 : (i : Int) ≤ (n : Int) := by omega
 have hb6 : (i : Int) ≤ (j : Int) := by omega
 have hb7 : i ≤ n := by omega
 have hb8 : j ≤ n := by omega
 have hb9 : (i : Int) ≤ (c : Int) := by omega
 have hb10 : i ≤ c := by omega
 have hb11 : j ≤ c := by omega
 have hb12 : (j : Int) ≤ (c : Int) := by omega
 clear hs hsd hdz hbd hv hx1 hy1 hrow hxc hyc hrow1 hrow1' hv1 hold hrow2 hcell1 hb1 hw2 hw3 hxl hyl hdl hk
 go_enter Tryz.func124, Tryz.ntmps124
 go_wp2_with fail
 go_region
 go_wp2_with (at_builtin; refine zdh rfl _ _ _ _ rfl _ _ rfl rfl hr ?_; refine Hid.out ?_)
 apply zaa
 clear hr
 go_wp2_with fail
 go_region
 go_wp2
 go_ret
 refine ⟨some ⟨G, 0, none⟩, c2, rfl, zaa HE.out.1, zaa ⟨?_, .inr ⟨G, rfl, by omega⟩⟩⟩
 have hbe := HE.out.2
 exact ⟨hbe.os, hbe.tape, hbe.output, hbe.size, fun z hz _ => hbe.block z hz⟩
set_option maxHeartbeats 4000000 in
theorem rep_exp (w : World) (B C n m i j g c b vc : Nat) (xs ys : List Value) (hs : w.ownsRow B 3 1 (.slice (some ⟨g, 0, none⟩) n c) n xs) (hv : w.ownsRow C 3 1 (.slice (some ⟨b, 0, none⟩) m vc) m ys) (hx1 : ∀ u ∈ xs, u.oneCell' = true) (hy1 : ∀ u ∈ ys, u.oneCell' = true) (hne : b ≠ g) (hij : i < j) (hj : j < n) (hb : n + m ≤ 1000000) (hm : j < i + m) (hg : i + m + (n - j) ≤ c) :
  Calls Tryz.prog 124 #[.slice (some ⟨g, 0, none⟩) n c, .int .i64 (i : Int), .int .i64 (j : Int), .slice (some ⟨b, 0, none⟩) m vc] w (To w B (.slice (some ⟨g, 0, none⟩) n c) (i + m + (n - j)) (xs.take i ++ ys ++ xs.drop j)) := by
 obtain ⟨hrow, hgB, hnc, hcm, hxl, hxc⟩ := zat hs
 obtain ⟨hrowv, _, hmv, _, hyl, hyc⟩ := zat hv
 have hijI : ¬ (i : Int) = (j : Int) := by omega
 have hjnI : ¬ (j : Int) = (n : Int) := by omega
 have hci : ¬ c = i := by omega
 have hcj : ¬ c = j := by omega
 have hcim : ¬ c = i + m := by omega
 obtain ⟨r, hr0⟩ : ∃ r : Nat, n - j = r := ⟨_, rfl⟩
 have hrI : (r : Int) ≤ 1000000 := by omega
 rw [hr0] at hg ⊢
 have hgI : ¬ (c : Int) < (i : Int) + (m : Int) + (r : Int) := by omega
 have hgI2 : (i : Int) + (m : Int) + (r : Int) ≤ (c : Int) := by omega
 have hjm : ¬ (i : Int) + (m : Int) ≤ (j : Int) := by omega
 have hdl : (xs.drop j).length = r := by simp; omega
 obtain ⟨w0, hw0⟩ : ∃ w0, w.drew = w0 := ⟨_, rfl⟩
 have hrowd : RowE w0 g 3 c := by rw [← hw0]; exact hrow
 have hrowvd : RowE w0 b 3 vc := by rw [← hw0]; exact hrowv
 have hcd : ∀ x, w0.cell? x = w.cell? x := fun x => by rw [← hw0]; rfl
 have hg0 : w.grownBy w0 (some g) := by rw [← hw0]; exact zcr (zcz w _)
 have hov : ∀ lb cb, (callFunc 145 #[.slice (some ⟨g, i + m, none⟩) lb cb, .slice (some ⟨b, 0, none⟩) m vc]).run Tryz.prog w0 = .ok (.value (.bool false)) w0 := fun lb cb => over_no w0 g b lb cb m vc (i + m) 0 c vc (Ne.symm hne) hrowd hrowvd (by omega)
 have hrowd2 : RowE w0.drew g 3 c := hrowd
 have hcpD : (Builtin.copy_ #[61, 61] 3 #[.slice (some ⟨g, i + m, none⟩) r (c - (i + m)), .slice (some ⟨g, j, none⟩) r (c - j)]).run Tryz.prog w0.drew = .ok (goInt (xs.drop j).length) (w0.drew.setCells g (i + m) (xs.drop j)) :=
  copy_in w0.drew 3 g c (i + m) r (c - (i + m)) j r (c - j) (xs.drop j) hrowd2 (by rw [hdl]; simp) (by omega) (fun k v hk => (hcd _).trans (hxc (j + k) v (by rwa [List.getElem?_drop] at hk))) (fun v hv => hx1 v (List.mem_of_mem_drop hv))
 obtain ⟨w1, hw1⟩ : ∃ w1, w0.drew.setCells g (i + m) (xs.drop j) = w1 := ⟨_, rfl⟩
 rw [hw1] at hcpD
 have hg1 : w.grownBy w1 (some g) := by rw [← hw1]; exact zbj (zcr hg0) (zas g _ _ _)
 have hrow1 : RowE w1 g 3 c := by rw [← hw1]; exact RowE.sets _ _ _ hrowd2
 have hv1 : w1.ownsRow C 3 1 (.slice (some ⟨b, 0, none⟩) m vc) m ys := World.ownsRow.kept hv hg1 (.inr (by simp [Value.ownBlock]; exact hne))
 obtain ⟨k, hk⟩ : ∃ k : Nat, m + r = k := ⟨_, rfl⟩
 have hcp2 := copy_of w1 3 g c i k (c - i) (.slice (some ⟨b, 0, none⟩) m vc) m C ys hrow1 hv1 (by omega) (by omega) hy1
 obtain ⟨w2, hw2⟩ : ∃ w2, w1.setCells g i ys = w2 := ⟨_, rfl⟩
 rw [hw2] at hcp2
 have HE : Hid (w2.ownsRow B 3 1 (.slice (some ⟨g, 0, none⟩) (i + m + r) c) (i + m + r) (xs.take i ++ ys ++ xs.drop j) ∧ w.grownBy w2 (some g)) := zaa (by
  rw [← hw2, ← hr0]
  refine ⟨rep_in (RowE.sets _ _ _ hrow1) hcm hgB hxl hyl (by omega) (by omega) (by omega) (fun t ht => ?_) (fun t ht => ?_) (fun t ht => ?_), zbj hg1 (zas g _ _ _)⟩
  ·rw [hrow1.cell _ _ (by omega), if_neg (by omega), ← hw1, hrowd2.cell _ _ (by omega), if_neg (by omega)]
   exact (hcd _).trans (cell_old hxl hxc (by omega))
  ·rw [hrow1.cell _ _ (by omega), if_pos (by omega), Nat.add_sub_cancel_left]
  ·rw [hrow1.cell _ _ (by omega), if_neg (by omega), ← hw1, hrowd2.cell _ _ (by omega), if_pos (by omega), Nat.add_sub_cancel_left, List.getElem?_drop])
 have hwi : IntKind.i64.wrap ((i : Int) + (m : Int)) = (i : Int) + (m : Int) := by rw [IntKind.wrap_i64]; omega
 have hwt : IntKind.i64.wrap ((i : Int) + (m : Int) + (r : Int)) = (i : Int) + (m : Int) + (r : Int) := by rw [IntKind.wrap_i64]; omega
 have hb1 : (0 : Int) ≤ (i : Int) + (m : Int) := by omega
 have htn : ((i : Int) + (m : Int)).toNat = i + m := by omega
 have htn2 : ((i : Int) + (m : Int) + (r : Int)).toNat = i + m + r := by omega
 have hb2 : (0 : Int) ≤ (i : Int) + (m : Int) + (r : Int) := by omega
 have hb3 : (i : Int) + (m : Int) ≤ (i : Int) + (m : Int) + (r : Int) := by omega
 have hb4 : (j : Int) ≤ (n : Int) := by omega
 have hb5 : (i : Int) ≤ (n : Int) := by omega
 have hb6 : (i : Int) ≤ (j : Int) := by omega
 have hb7 : i ≤ n := by omega
 have hb8 : j ≤ n := by omega
 have hb9 : (i : Int) ≤ (c : Int) := by omega
 have hb10 : i ≤ c := by omega
 have hb11 : j ≤ c := by omega
 have hb12 : (j : Int) ≤ (c : Int) := by omega
 have hb13 : (i : Int) ≤ (i : Int) + (m : Int) + (r : Int) := by omega
 have e1 : i + m + r - i = k := by omega
 have e2 : i + m + r - (i + m) = r := by omega
 clear hs hv hx1 hy1 hrow hrowd hrowv hrowvd hrowd2 hxc hyc hrow1 hv1 hw1 hw2 hxl hyl hdl hg1 hg0 hcd hk
 go_enter Tryz.func124, Tryz.ntmps124
 go_wp2_with fail
 go_region
 rw [hw0]
 clear hw0
 go_wp2_with (simp only [hov])
 go_region
 go_wp2
 go_ret
 exact ⟨some ⟨g, 0, none⟩, c, rfl, zaa HE.out.1, zaa (gr_in HE.out.2)⟩
theorem shape {w : World} {B n : Nat} {v : Value} {xs : List Value} (h : w.ownsRow B 3 1 v n xs) : ∃ ao c, v = .slice ao n c := by
 rcases h.2 with ⟨rfl, h0⟩ | ⟨g, cap, cur, rfl, _⟩
 ·exact ⟨none, 0, by rw [h0]⟩
 ·exact ⟨_, _, rfl⟩
set_option maxHeartbeats 4000000 in
theorem rep_easy (w : World) (B C n m i j g c : Nat) (vo : Option Addr) (vc : Nat) (xs ys : List Value) (hs : w.ownsRow B 3 1 (.slice (some ⟨g, 0, none⟩) n c) n xs) (hv : w.ownsRow C 3 1 (.slice vo m vc) m ys) (hx1 : ∀ u ∈ xs, u.oneCell' = true) (hy1 : ∀ u ∈ ys, u.oneCell' = true) (hne : (Value.slice vo m vc).ownBlock = none ∨ (Value.slice vo m vc).ownBlock ≠ some g) (hij : i < j) (hj : j < n) (hb : n + m ≤ 1000000) (hm : i + m ≤ j) :
  Calls Tryz.prog 124 #[.slice (some ⟨g, 0, none⟩) n c, .int .i64 (i : Int), .int .i64 (j : Int), .slice vo m vc] w (To w B (.slice (some ⟨g, 0, none⟩) n c) (i + m + (n - j)) (xs.take i ++ ys ++ xs.drop j)) := by
 obtain ⟨hrow, hgB, hnc, hcm, hxl, hxc⟩ := zat hs
 have hyl : ys.length = m := by have := hv.1; omega
 have hijI : ¬ (i : Int) = (j : Int) := by omega
 have hjnI : ¬ (j : Int) = (n : Int) := by omega
 have hci : ¬ c = i := by omega
 have hcj : ¬ c = j := by omega
 have hcim : ¬ c = i + m := by omega
 obtain ⟨r, hr0⟩ : ∃ r : Nat, n - j = r := ⟨_, rfl⟩
 have hrI : (r : Int) ≤ 1000000 := by omega
 rw [hr0]
 have hgI : ¬ (c : Int) < (i : Int) + (m : Int) + (r : Int) := by omega
 have hgI2 : (i : Int) + (m : Int) + (r : Int) ≤ (c : Int) := by omega
 have hjm : (i : Int) + (m : Int) ≤ (j : Int) := by omega
 have hdl : (xs.drop j).length = r := by simp; omega
 obtain ⟨k, hk⟩ : ∃ k : Nat, m + r = k := ⟨_, rfl⟩
 obtain ⟨w0, hw0⟩ : ∃ w0, w.drew = w0 := ⟨_, rfl⟩
 have hrowd : RowE w0 g 3 c := by rw [← hw0]; exact hrow
 have hcd : ∀ x, w0.cell? x = w.cell? x := fun x => by rw [← hw0]; rfl
 have hg0 : w.grownBy w0 (some g) := by rw [← hw0]; exact zcr (zcz w _)
 have hv0 : w0.ownsRow C 3 1 (.slice vo m vc) m ys := World.ownsRow.kept hv hg0 hne
 have hcp1 : ∀ dc, (Builtin.copy_ #[61, 61] 3 #[.slice (some ⟨g, i, none⟩) k dc, .slice vo m vc]).run Tryz.prog w0 = .ok (goInt (m : Int)) (w0.setCells g i ys) := fun dc => copy_of w0 3 g c i k dc (.slice vo m vc) m C ys hrowd hv0 (by omega) (by omega) hy1
 obtain ⟨w1, hw1⟩ : ∃ w1, w0.setCells g i ys = w1 := ⟨_, rfl⟩
 rw [hw1] at hcp1
 have hrow1 : RowE w1 g 3 c := by rw [← hw1]; exact RowE.sets _ _ _ hrowd
 have hrow1d : RowE w1.drew g 3 c := hrow1
 have hg1 : w.grownBy w1 (some g) := by rw [← hw1]; exact zbj hg0 (zas g _ _ _)
 have hcpD : ∀ dc sc, (Builtin.copy_ #[61, 61] 3 #[.slice (some ⟨g, i + m, none⟩) r dc, .slice (some ⟨g, j, none⟩) r sc]).run Tryz.prog w1.drew = .ok (goInt (xs.drop j).length) (w1.drew.setCells g (i + m) (xs.drop j)) := fun dc sc =>
  copy_in w1.drew 3 g c (i + m) r dc j r sc (xs.drop j) hrow1d (by rw [hdl]; simp) (by omega) (fun t v ht => by
   show w1.cell? _ = _
   rw [← hw1, hrowd.cell _ _ (by omega), if_neg (by omega)]
   exact (hcd _).trans (hxc (j + t) v (by rwa [List.getElem?_drop] at ht))) (fun v hv => hx1 v (List.mem_of_mem_drop hv))
 obtain ⟨w2, hw2⟩ : ∃ w2, w1.drew.setCells g (i + m) (xs.drop j) = w2 := ⟨_, rfl⟩
 rw [hw2] at hcpD
 have hrow2 : RowE w2 g 3 c := by rw [← hw2]; exact RowE.sets _ _ _ hrow1d
 have hg2 : w.grownBy w2 (some g) := by rw [← hw2]; exact zbj (zcr hg1) (zas g _ _ _)
 have hcells : ∀ t, t < i + m + r → w2.cell? ⟨g, t, none⟩ = if t < i then xs[t]? else if t < i + m then ys[t - i]? else xs[j + (t - i - m)]? := fun t ht => by
  rw [← hw2, hrow1d.cell _ _ (by omega)]
  by_cases h1 : t < i
  ·rw [if_neg (by omega), if_pos h1]
   show w1.cell? _ = _
   rw [← hw1, hrowd.cell _ _ (by omega), if_neg (by omega)]
   exact (hcd _).trans (cell_old hxl hxc (by omega))
  ·rw [if_neg h1]
   by_cases h2 : t < i + m
   ·rw [if_neg (by omega), if_pos h2]
    show w1.cell? _ = _
    rw [← hw1, hrowd.cell _ _ (by omega), if_pos (by omega)]
   ·rw [if_pos (by omega), if_neg h2, List.getElem?_drop, show t - (i + m) = t - i - m by omega]
 have hown : ∀ (w3 : World), RowE w3 g 3 c → (∀ t, t < i + m + r → w3.cell? ⟨g, t, none⟩ = w2.cell? ⟨g, t, none⟩) → w3.ownsRow B 3 1 (.slice (some ⟨g, 0, none⟩) (i + m + r) c) (i + m + r) (xs.take i ++ ys ++ xs.drop j) := fun w3 h3 hc3 => by
  rw [← hr0]
  refine rep_in h3 hcm hgB hxl hyl (by omega) (by omega) (by omega) (fun t ht => ?_) (fun t ht => ?_) (fun t ht => ?_)
  ·rw [hc3 t (by omega), hcells t (by omega), if_pos ht]
  ·rw [hc3 (i + t) (by omega), hcells (i + t) (by omega), if_neg (by omega), if_pos (by omega), Nat.add_sub_cancel_left]
  ·rw [hc3 (i + m + t) (by omega), hcells (i + m + t) (by omega), if_neg (by omega), if_neg (by omega), show i + m + t - i - m = t by omega]
 have hwi : IntKind.i64.wrap ((i : Int) + (m : Int)) = (i : Int) + (m : Int) := by rw [IntKind.wrap_i64]; omega
 have hwt : IntKind.i64.wrap ((i : Int) + (m : Int) + (r : Int)) = (i : Int) + (m : Int) + (r : Int) := by rw [IntKind.wrap_i64]; omega
 have hb1 : (0 : Int) ≤ (i : Int) + (m : Int) := by omega
 have htn : ((i : Int) + (m : Int)).toNat = i + m := by omega
 have htn2 : ((i : Int) + (m : Int) + (r : Int)).toNat = i + m + r := by omega
 have hb2 : (0 : Int) ≤ (i : Int) + (m : Int) + (r : Int) := by omega
 have hb3 : (i : Int) + (m : Int) ≤ (i : Int) + (m : Int) + (r : Int) := by omega
 have hb4 : (j : Int) ≤ (n : Int) := by omega
 have hb5 : (i : Int) ≤ (n : Int) := by omega
 have hb6 : (i : Int) ≤ (j : Int) := by omega
 have hb7 : i ≤ n := by omega
 have hb8 : j ≤ n := by omega
 have hb9 : (i : Int) ≤ (c : Int) := by omega
 have hb10 : i ≤ c := by omega
 have hb11 : j ≤ c := by omega
 have hb12 : (j : Int) ≤ (c : Int) := by omega
 have hb13 : (i : Int) ≤ (i : Int) + (m : Int) + (r : Int) := by omega
 have hb14 : (i : Int) + (m : Int) + (r : Int) ≤ (n : Int) := by omega
 have e1 : i + m + r - i = k := by omega
 have e2 : i + m + r - (i + m) = r := by omega
 by_cases htot : i + m + r = n
 ·have HE := zaa (hown w2 hrow2 (fun _ _ => rfl))
  have HG := zaa hg2
  have hcl : ∀ ty a cc, (Builtin.clear_ #[61] ty #[.slice a 0 cc]).run Tryz.prog w2 = .ok (.tuple #[]) w2 := fun ty a cc => clear_none w2 61 3 ty Tryz.underlying61 a cc
  have e3 : n - (i + m + r) = 0 := by omega
  have HTOT := zaa htot
  clear hs hv hx1 hy1 hrow hrowd hxc hrow1 hrow1d hw1 hw2 hxl hyl hdl hg1 hg0 hg2 hcd hk hv0 hrow2 hcells hown htot
  by_cases hct : c = i + m + r
  ·subst hct
   go_enter Tryz.func124, Tryz.ntmps124
   go_wp2_with fail
   go_region
   rw [hw0]
   clear hw0
   go_wp2_with fail
   go_region
   go_wp2_with (at_builtin; refine zbz rfl _ _ rfl _ rfl (hcl _ _ _) ?_)
   go_ret
   exact ⟨some ⟨g, 0, none⟩, _, rfl, zaa HE.out, zaa (gr_in HG.out)⟩
  ·go_enter Tryz.func124, Tryz.ntmps124
   go_wp2_with fail
   go_region
   rw [hw0]
   clear hw0
   go_wp2_with fail
   go_region
   go_wp2_with (at_builtin; refine zbz rfl _ _ rfl _ rfl (hcl _ _ _) ?_)
   go_ret
   exact ⟨some ⟨g, 0, none⟩, c, rfl, zaa HE.out, zaa (gr_in HG.out)⟩
 ·have hct : ¬ c = i + m + r := by omega
  have hcl : ∀ ty cc, (Builtin.clear_ #[61] ty #[.slice (some ⟨g, i + m + r, none⟩) (n - (i + m + r)) cc]).run Tryz.prog w2 = .ok (.tuple #[]) (w2.setCells g (i + m + r) (List.replicate (n - (i + m + r)) (.int .i64 0))) := fun ty cc =>
   Lib.run_clear_slice w2 61 3 ty (.int .i64 0) Tryz.underlying61 zero_run rfl rfl g (i + m + r) (n - (i + m + r)) cc (by omega) (fun t ht => hrow2.there (by omega)) (fun t _ => hrow2.free _)
  obtain ⟨w3, hw3⟩ : ∃ w3, w2.setCells g (i + m + r) (List.replicate (n - (i + m + r)) (.int .i64 0)) = w3 := ⟨_, rfl⟩
  rw [hw3] at hcl
  have HE := zaa (hown w3 (by rw [← hw3]; exact RowE.sets _ _ _ hrow2) (fun t ht => by rw [← hw3, hrow2.cell _ _ (by simp; omega), if_neg (by omega)]))
  have HG : Hid (w.grownBy w3 (some g)) := zaa (by rw [← hw3]; exact zbj hg2 (zas g _ _ _))
  clear hs hv hx1 hy1 hrow hrowd hxc hrow1 hrow1d hw1 hw2 hw3 hxl hyl hdl hg1 hg0 hg2 hcd hk hv0 hrow2 hcells hown htot
  go_enter Tryz.func124, Tryz.ntmps124
  go_wp2_with fail
  go_region
  rw [hw0]
  clear hw0
  go_wp2_with fail
  go_region
  go_wp2_with (at_builtin; refine zbz rfl _ _ rfl _ rfl (hcl _ _) ?_)
  go_ret
  exact ⟨some ⟨g, 0, none⟩, c, rfl, zaa HE.out, zaa (gr_in HG.out)⟩
set_option maxHeartbeats 4000000 in
theorem rep_end (w : World) (B C n m i g c : Nat) (vo : Option Addr) (vc : Nat) (xs ys : List Value) (hs : w.ownsRow B 3 1 (.slice (some ⟨g, 0, none⟩) n c) n xs) (hv : w.ownsRow C 3 1 (.slice vo m vc) m ys) (hy1 : ∀ u ∈ ys, u.oneCell' = true) (hi : i < n) (hb : n + m ≤ 1000000) (hB : B ≤ w.heap.size) :
  Calls Tryz.prog 124 #[.slice (some ⟨g, 0, none⟩) n c, .int .i64 (i : Int), .int .i64 (n : Int), .slice vo m vc] w (To w B (.slice (some ⟨g, 0, none⟩) n c) (i + m) (xs.take i ++ ys)) := by
 obtain ⟨hrow, hgB, hnc, hcm, hxl, hxc⟩ := zat hs
 have hinI : ¬ (i : Int) = (n : Int) := by omega
 have hci : ¬ c = i := by omega
 have hb5 : (i : Int) ≤ (n : Int) := by omega
 have hb7 : i ≤ n := by omega
 have hb9 : (i : Int) ≤ (c : Int) := by omega
 have hb10 : i ≤ c := by omega
 have HO := zaa (own_take hs (show i ≤ n by omega))
 by_cases hlt : i + m < n
 ·obtain ⟨w1, hr, ho1, hg1⟩ := app_room w 61 B C i m g c (xs.take i) ys (.slice vo m vc) HO.out hv hy1 (by omega) (by omega) hB
  obtain ⟨hrow1, _, _, _, hl1, hc1⟩ := zat ho1
  have hcl : ∀ ty cc, (Builtin.clear_ #[61] ty #[.slice (some ⟨g, i + m, none⟩) (n - (i + m)) cc]).run Tryz.prog w1 = .ok (.tuple #[]) (w1.setCells g (i + m) (List.replicate (n - (i + m)) (.int .i64 0))) := fun ty cc =>
   Lib.run_clear_slice w1 61 3 ty (.int .i64 0) Tryz.underlying61 zero_run rfl rfl g (i + m) (n - (i + m)) cc (by omega) (fun t ht => hrow1.there (by omega)) (fun t _ => hrow1.free _)
  obtain ⟨w3, hw3⟩ : ∃ w3, w1.setCells g (i + m) (List.replicate (n - (i + m)) (.int .i64 0)) = w3 := ⟨_, rfl⟩
  rw [hw3] at hcl
  have HE : Hid (w3.ownsRow B 3 1 (.slice (some ⟨g, 0, none⟩) (i + m) c) (i + m) (xs.take i ++ ys)) := zaa (by
   rw [← hw3]
   refine RowE.own (RowE.sets _ _ _ hrow1) hcm hgB (by omega) hl1 (fun t v ht => ?_)
   have hlt2 := (List.getElem?_eq_some_iff.1 ht).1
   rw [hrow1.cell _ _ (by simp; omega), if_neg (by omega)]
   exact hc1 t v ht)
  have HG : Hid (w.grownBy w3 (some g)) := zaa (by rw [← hw3]; exact zbj hg1 (zas g _ _ _))
  have hltI : (i : Int) + (m : Int) < (n : Int) := by omega
  have hcim : ¬ c = i + m := by omega
  clear hs hv hy1 hrow hxc hxl hw3 ho1 hg1 hrow1 hc1 hl1 HO
  go_enter Tryz.func124, Tryz.ntmps124
  go_wp2_with (at_builtin; first | (refine zdh rfl _ _ _ _ rfl _ _ rfl rfl hr ?_) | (refine zbz rfl _ _ rfl _ rfl (hcl _ _) ?_))
  go_ret
  exact ⟨some ⟨g, 0, none⟩, c, rfl, HE, zaa (gr_in HG.out)⟩
 ·have hltI : ¬ (i : Int) + (m : Int) < (n : Int) := by omega
  have HV := zaa hv
  have HY := zaa hy1
  have hmI : (m : Int) ≤ 1000000 := by omega
  clear hs hv hy1 hrow hxc hxl
  go_enter Tryz.func124, Tryz.ntmps124
  go_wp2_with (at_builtin; refine app_own _ rfl _ _ rfl B C i m (xs.take i) ys _ _ rfl rfl HO.out HV.out HY.out (by omega) hB ?_; refine Hid.out ?_)
  apply zaa
  intro ao c2 w1 h1 h2
  have H1 := zaa h1
  have H2 : Hid (Gr w (.slice (some ⟨g, 0, none⟩) n c) w1 (.slice ao (i + m) c2)) := zaa ⟨h2.grow, h2.own⟩
  clear h1 h2
  go_wp2
  go_ret
  exact ⟨ao, c2, rfl, H1, H2⟩
theorem rep_any (w : World) (B C n m i j : Nat) (v vv : Value) (xs ys : List Value) (hs : w.ownsRow B 3 1 v n xs) (hv : w.ownsRow C 3 1 vv m ys) (hx1 : ∀ u ∈ xs, u.oneCell' = true) (hy1 : ∀ u ∈ ys, u.oneCell' = true) (hne : vv.ownBlock = none ∨ vv.ownBlock ≠ v.ownBlock) (hij : i ≤ j) (hj : j ≤ n) (hb : n + m ≤ 1000000) (hB : B ≤ w.heap.size) (hm : i < j ∨ 0 < m) :
  Calls Tryz.prog 124 #[v, .int .i64 (i : Int), .int .i64 (j : Int), vv] w (To w B v (i + m + (n - j)) (xs.take i ++ ys ++ xs.drop j)) := by
 have hxl := hs.1
 by_cases h : i = j
 ·subst h
  have HI := zaa (ins_any w B C n m i v vv xs ys hs hv hx1 hy1 hne hj hb hB (by omega))
  rw [show i + m + (n - i) = n + m by omega]
  obtain ⟨ao, c, rfl⟩ := shape hs
  obtain ⟨bo, d, rfl⟩ := shape hv
  have hcc : n ≤ c := by
   rcases hs.2 with ⟨e, h0⟩ | ⟨g, cap, cur, e, _, _, h3, _⟩
   ·omega
   ·injection e with _ _ e3
    omega
  have hb5 : (i : Int) ≤ (n : Int) := by omega
  have hb9 : (i : Int) ≤ (c : Int) := by omega
  have hb10 : i ≤ c := by omega
  clear hs hv hx1 hy1 hne hxl
  by_cases hci : c = i
  ·subst hci
   go_enter Tryz.func124, Tryz.ntmps124
   go_wp2_with (go_at_call 144; refine HI.out.mono ?_; rintro e w1 ⟨a1, c1, rfl, H1, H2⟩)
   go_ret
   exact ⟨a1, c1, rfl, H1, H2⟩
  ·go_enter Tryz.func124, Tryz.ntmps124
   go_wp2_with (go_at_call 144; refine HI.out.mono ?_; rintro e w1 ⟨a1, c1, rfl, H1, H2⟩)
   go_ret
   exact ⟨a1, c1, rfl, H1, H2⟩
 ·rcases hs.2 with ⟨_, h0⟩ | ⟨g, c, cur, rfl, _⟩
  ·omega
  obtain ⟨vo, vc, rfl⟩ := shape hv
  by_cases hjn : j = n
  ·subst hjn
   have := rep_end w B C j m i g c vo vc xs ys hs hv hy1 (by omega) hb hB
   rwa [List.drop_eq_nil_of_le (by omega), List.append_nil, Nat.sub_self, Nat.add_zero]
  ·by_cases hem : i + m ≤ j
   ·exact rep_easy w B C n m i j g c vo vc xs ys hs hv hx1 hy1 hne (by omega) (by omega) hb hem
   ·rcases hv.2 with ⟨_, h0⟩ | ⟨b, vcap, vcur, e, _⟩
    ·omega
    injection e with e1 _ e3
    subst e1
    subst e3
    by_cases hg : i + m + (n - j) ≤ c
    ·refine rep_exp w B C n m i j g c b vc xs ys hs hv hx1 hy1 ?_ (by omega) (by omega) hb (by omega) hg
     rcases hne with e | e
     ·cases e
     ·exact fun e2 => e (by rw [e2]; rfl)
    ·exact rep_grow w B C n m i j g c b vc xs ys hs hv hx1 hy1 (by omega) (by omega) hb hB (by omega) (by omega)
end RN
end Go.Proofs.YtfgffajgfgifhaaGreatDoor
