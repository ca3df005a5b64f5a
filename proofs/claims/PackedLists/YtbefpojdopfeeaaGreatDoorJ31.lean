/- packed: among, Find. -/
import Derived.Test.YtbefpojdopfeeaaGreatDoorJ30
namespace Go.Proofs.YtbefpojdopfeeaaGreatDoor
open Go.RowKit

/-- r cells stand ahead of the key. -/
structure Fnd (cs : List Cl) (q : List Int) (r : Nat) : Prop where
  le : r ≤ cs.length
  lo : ∀ i c, i < r → cs[i]? = some c → kl c.key q
  hi : ∀ i c, r ≤ i → cs[i]? = some c → ¬ kl c.key q
/-- What Find comes to. -/
def FindTo (cs : List Cl) (q : List Int) (w : World) (e : Ending) (w' : World) : Prop :=
  ∃ r : Nat, ∃ is : Bool, e = .returned (.tuple #[.int .i64 (r : Int), .bool is]) ∧ Hid (Below w.heap.size w w') ∧ Hid (Fnd cs q r ∧ (is = true ↔ ∃ c, cs[r]? = some c ∧ c.key = q))
set_option maxRecDepth 100000 in
theorem rs_at {cs : List Cl} (h : Rs cs) {i j : Nat} {c d : Cl} (hij : i < j) (hc : cs[i]? = some c) (hd : cs[j]? = some d) : kl c.key d.key := by
  unfold Rs at h
  rw [List.pairwise_iff_getElem] at h
  obtain ⟨h1, e1⟩ := List.getElem?_eq_some_iff.1 hc
  obtain ⟨h2, e2⟩ := List.getElem?_eq_some_iff.1 hd
  have := h i j h1 h2 hij
  rwa [e1, e2] at this
/-- All that the function which searches holds. -/
structure Am (w : World) (o1 l1 : Nat) (low : Nat) (F : Value) : Prop where
  c1 : w.cell? ⟨o1, 0, none⟩ = some F
  c2 : w.cell? ⟨l1, 0, none⟩ = some (.int .i64 (low : Int))
  h1 : o1 < w.heap.size
  h2 : l1 < w.heap.size
set_option maxRecDepth 100000 in
theorem Am.go {w v : World} {o1 l1 low : Nat} {F : Value} (h : Am w o1 l1 low F) (hb : Below w.heap.size w v) : Am v o1 l1 low F :=
  ⟨(hb.cell (p := ⟨o1, 0, none⟩) h.h1).trans h.c1, (hb.cell (p := ⟨l1, 0, none⟩) h.h2).trans h.c2, Nat.lt_of_lt_of_le h.h1 hb.size, Nat.lt_of_lt_of_le h.h2 hb.size⟩
set_option maxRecDepth 100000 in
theorem among1_any (w : World) (o1 l1 low j i b1 b2 b3 b4 : Nat) (o : Int) (hA : Am w o1 l1 low (.func (.func 110) #[] #[.pointer (some ⟨b1, 0, none⟩), .pointer (some ⟨b2, 0, none⟩), .pointer (some ⟨b3, 0, none⟩), .pointer (some ⟨b4, 0, none⟩)])) (hi : low + j = i) (hb : i ≤ 65536)
    (hF : Calls Tryz.prog 110 #[.int .i64 (i : Int), .pointer (some ⟨b1, 0, none⟩), .pointer (some ⟨b2, 0, none⟩), .pointer (some ⟨b3, 0, none⟩), .pointer (some ⟨b4, 0, none⟩)] w fun e w' => e = .returned (.int .i64 o) ∧ Hid (Below w.heap.size w w')) :
    Calls Tryz.prog 108 #[.int .i64 (j : Int), .pointer (some ⟨o1, 0, none⟩), .pointer (some ⟨l1, 0, none⟩)] w fun e w' => e = .returned (.bool (decide (0 ≤ o))) ∧ Hid (Below w.heap.size w w') := by
  obtain ⟨c1, c2, h1, h2⟩ := hA
  have HF := hidden hF
  have hiI : (low : Int) + (j : Int) = (i : Int) := by omega
  have bi : (i : Int) ≤ 65536 := by omega
  have bj : (j : Int) ≤ 65536 := by omega
  have bl : (low : Int) ≤ 65536 := by omega
  clear hF hi
  go_enter Tryz.func108, Tryz.ntmps108
  go_wp2_with (first | (go_at_call 110; refine HF.out.mono ?_; rintro e w2 ⟨rfl, HB2⟩))
  go_ret
  exact ⟨rfl, HB2⟩
set_option maxRecDepth 100000 in
set_option maxHeartbeats 2000000 in
/-- sort.Search, of a page's cells. -/
theorem search7_any (w : World) (o1 l1 low N : Nat) (cs : List Cl) (q : List Int) (hr : Rs cs) (hN : low + N ≤ cs.length) (hb : cs.length ≤ 65536) (b1 b2 b3 b4 : Nat)
    (hA : Am w o1 l1 low (.func (.func 110) #[] #[.pointer (some ⟨b1, 0, none⟩), .pointer (some ⟨b2, 0, none⟩), .pointer (some ⟨b3, 0, none⟩), .pointer (some ⟨b4, 0, none⟩)]))
    (hF : ∀ u (i : Nat) (c : Cl), Below w.heap.size w u → cs[i]? = some c → Calls Tryz.prog 110 #[.int .i64 (i : Int), .pointer (some ⟨b1, 0, none⟩), .pointer (some ⟨b2, 0, none⟩), .pointer (some ⟨b3, 0, none⟩), .pointer (some ⟨b4, 0, none⟩)] u fun e w' => e = .returned (.int .i64 (ordL c.key q)) ∧ Hid (Below u.heap.size u w'))
    (hlo : ∀ i c, i < low → cs[i]? = some c → kl c.key q) (hhi : ∀ i c, low + N ≤ i → cs[i]? = some c → ¬ kl c.key q) :
    Calls Tryz.prog 107 #[.int .i64 (N : Int), .func (.func 108) #[] #[.pointer (some ⟨o1, 0, none⟩), .pointer (some ⟨l1, 0, none⟩)]] w fun e w' => ∃ r : Nat, e = .returned (.int .i64 (r : Int)) ∧ Hid (Below w.heap.size w w') ∧ Hid (Fnd cs q (low + r) ∧ r ≤ N) := by
  have HA := hidden hA
  have HF := hidden hF
  have HRS := hidden hr
  have HLO := hidden hlo
  have HHI := hidden hhi
  clear hA hF hr hlo hhi
  go_enter Tryz.func107, Tryz.ntmps107
  go_wp2_with fail
  go_loopw [5, 6] (fun s5 s6 wr => ∃ lo hi : Nat, s5 = .int .i64 lo ∧ s6 = .int .i64 hi ∧ lo ≤ hi ∧ hi ≤ N ∧ Hid (Below w.heap.size w wr) ∧ Hid ((∀ i c, i < low + lo → cs[i]? = some c → kl c.key q) ∧ ∀ i c, low + hi ≤ i → cs[i]? = some c → ¬ kl c.key q)) (fun s5 s6 _ => (intOf s6).toNat - (intOf s5).toNat)
  case atStart => exact ⟨0, N, rfl, rfl, by omega, by omega, hidden (Below.refl _ _), hidden ⟨HLO.out, HHI.out⟩⟩
  case round =>
    obtain ⟨lo, hi, rfl, rfl, hlh, hhs, HB, HI⟩ := hrel
    have b1' : (lo : Int) ≤ 65536 := by omega
    have b2' : (hi : Int) ≤ 65536 := by omega
    by_cases hlt : lo < hi
    · have hltI : (lo : Int) < (hi : Int) := by omega
      obtain ⟨m, hm⟩ : ∃ m, (lo + hi) / 2 = m := ⟨_, rfl⟩
      have hmI : ((lo : Int) + (hi : Int)) / 2 = (m : Int) := by omega
      have m3 : (m : Int) ≤ 65536 := by omega
      have HML : Hid (lo ≤ m ∧ m < hi) := hidden (by omega)
      obtain ⟨c, hc⟩ : ∃ c, cs[low + m]? = some c := ⟨_, List.getElem?_eq_getElem (by omega)⟩
      have HC := hidden hc
      have h3 := ordL_three c.key q
      have HKL : Hid (kl c.key q ↔ ordL c.key q < 0) := hidden (by unfold kl; omega)
      have HFM := hidden (among1_any wr o1 l1 low m (low + m) b1 b2 b3 b4 (ordL c.key q) (HA.out.go HB.out) rfl (by omega) (HF.out wr (low + m) c HB.out hc))
      clear hm hc
      generalize ordL c.key q = o at *
      by_cases ho : o < 0
      · have d1 : decide (0 ≤ o) = false := decide_eq_false (by omega)
        rw [d1] at HFM
        clear h3
        go_wp2_with (first | (go_at_call 108; refine HFM.out.mono ?_; rintro e w2 ⟨rfl, HB2⟩))
        go_roundw
        case rel =>
          refine ⟨m + 1, hi, by go_num, rfl, by have := HML.out; omega, hhs, hidden (bl_go HB.out (Nat.le_refl _) HB2.out), hidden ⟨fun i d hi' hd => ?_, HI.out.2⟩⟩
          by_cases e : i = low + m
          · subst e
            rw [HC.out] at hd
            injection hd with hd
            subst hd
            exact HKL.out.2 ho
          · exact kl_trans _ _ _ (rs_at HRS.out (by omega) hd HC.out) (HKL.out.2 ho)
        case measure => have := HML.out; simp [intOf]; omega
      · have d1 : decide (0 ≤ o) = true := decide_eq_true (by omega)
        rw [d1] at HFM
        clear h3
        go_wp2_with (first | (go_at_call 108; refine HFM.out.mono ?_; rintro e w2 ⟨rfl, HB2⟩))
        go_roundw
        case rel =>
          refine ⟨lo, m, rfl, by go_num, by have := HML.out; omega, by have := HML.out; omega, hidden (bl_go HB.out (Nat.le_refl _) HB2.out), hidden ⟨HI.out.1, fun i d hi' hd hk => ?_⟩⟩
          by_cases e : i = low + m
          · subst e
            rw [HC.out] at hd
            injection hd with hd
            subst hd
            have := HKL.out.1 hk
            omega
          · have := HKL.out.1 (kl_trans _ _ _ (rs_at HRS.out (by omega) HC.out hd) hk)
            omega
        case measure => have := HML.out; simp [intOf]; omega
    · obtain rfl : hi = lo := by omega
      have hltI : ¬ (hi : Int) < (hi : Int) := by omega
      go_wp2
      go_ret
      exact ⟨hi, rfl, HB, hidden ⟨⟨by omega, HI.out.1, HI.out.2⟩, hhs⟩⟩
set_option maxRecDepth 100000 in
set_option maxHeartbeats 2000000 in
theorem among_any (w : World) (a : Nat) (k : Int) (n : Nat) (po : Option Addr) (pn pc : Nat) (bo : Option Addr) (bn bc : Nat) (so : Option Addr) (sn sc : Nat) (ws : Int) (P body : List Int) (st : List Nat) (cs : List Cl) (h : PgQ w a k n po pn pc bo bn bc so sn sc ws P body st) (hl : LayQ k P cs body st) (hr : Rs cs) (hbn : bn ≤ 1099511627776) (hsn : sn ≤ 65536) (low high : Nat) (hlh : low ≤ high) (hhs : high ≤ sn)
    (b1 b2 b3 b4 : Nat) (qo : Option Addr) (qn qc : Nat) (ro : Option Addr) (rn rc : Nat) (b : Bool) (q : List Int) (hA : Ag w a b1 b2 b3 b4 qo qn qc ro rn rc b P q) (hlo : ∀ i c, i < low → cs[i]? = some c → kl c.key q) (hhi : ∀ i c, high ≤ i → cs[i]? = some c → ¬ kl c.key q) :
    Calls Tryz.prog 65 #[.pointer (some ⟨a, 0, none⟩), .int .i64 (low : Int), .int .i64 (high : Int), .func (.func 110) #[] #[.pointer (some ⟨b1, 0, none⟩), .pointer (some ⟨b2, 0, none⟩), .pointer (some ⟨b3, 0, none⟩), .pointer (some ⟨b4, 0, none⟩)]] w fun e w' => FindTo cs q w e w' := by
  have hcs : cs.length = sn := by rw [← hl.len, h.starts.hlen]
  obtain ⟨N, hN⟩ : ∃ N, high - low = N := ⟨_, rfl⟩
  have hNI : (high : Int) - (low : Int) = (N : Int) := by omega
  obtain ⟨s, hs⟩ : ∃ s, w.heap.size = s := ⟨_, rfl⟩
  obtain ⟨x, hx⟩ : ∃ x, (w.alloc (.cells #[.int .i64 (low : Int)] 3)).alloc (.cells #[.func (.func 110) #[] #[.pointer (some ⟨b1, 0, none⟩), .pointer (some ⟨b2, 0, none⟩), .pointer (some ⟨b3, 0, none⟩), .pointer (some ⟨b4, 0, none⟩)]] 80) = x := ⟨_, rfl⟩
  have hbx : Below w.heap.size w x := by rw [← hx]; exact bl_al (bl_al (Below.refl _ _) (Nat.le_refl _) _) (Nat.le_refl _) _
  have hAm : Am x (s + 1) s low (.func (.func 110) #[] #[.pointer (some ⟨b1, 0, none⟩), .pointer (some ⟨b2, 0, none⟩), .pointer (some ⟨b3, 0, none⟩), .pointer (some ⟨b4, 0, none⟩)]) := by
    rw [← hx, ← hs]
    exact ⟨by simp, by simp, by simp, by simp; omega⟩
  have HF : Hid (∀ u (i : Nat) (c : Cl), Below x.heap.size x u → cs[i]? = some c → Calls Tryz.prog 110 #[.int .i64 (i : Int), .pointer (some ⟨b1, 0, none⟩), .pointer (some ⟨b2, 0, none⟩), .pointer (some ⟨b3, 0, none⟩), .pointer (some ⟨b4, 0, none⟩)] u fun e w' => e = .returned (.int .i64 (ordL c.key q)) ∧ Hid (Below u.heap.size u w')) := hidden fun u i c hu hc =>
    against1_any u a k n po pn pc bo bn bc so sn sc ws P body st cs (h.on (bl_go hbx (Nat.le_refl _) hu)) hl i c hc hbn b1 b2 b3 b4 qo qn qc ro rn rc b q (hA.go (bl_go hbx (Nat.le_refl _) hu))
  have HSR : Hid (∀ u, Below x.heap.size x u → Calls Tryz.prog 107 #[.int .i64 (N : Int), .func (.func 108) #[] #[.pointer (some ⟨s + 1, 0, none⟩), .pointer (some ⟨s, 0, none⟩)]] u fun e w' => ∃ r : Nat, e = .returned (.int .i64 (r : Int)) ∧ (w'.cell? ⟨s + 1, 0, none⟩ = some (.func (.func 110) #[] #[.pointer (some ⟨b1, 0, none⟩), .pointer (some ⟨b2, 0, none⟩), .pointer (some ⟨b3, 0, none⟩), .pointer (some ⟨b4, 0, none⟩)]) ∧ w'.cell? ⟨s, 0, none⟩ = some (.int .i64 (low : Int)) ∧ r ≤ N) ∧ Hid (Below x.heap.size x w') ∧ Hid (Fnd cs q (low + r))) := by
    refine hidden fun u hu => (search7_any u (s + 1) s low N cs q hr (by omega) (by omega) b1 b2 b3 b4 (hAm.go hu) (fun v i c hv hc => HF.out v i c (bl_go hu (Nat.le_refl _) hv) hc) hlo (fun i c hi => hhi i c (by omega))).mono ?_
    rintro e w' ⟨r, rfl, HB, HQ⟩
    have hb := bl_go hu (Nat.le_refl _) HB.out
    have h3 := hAm.go hb
    exact ⟨r, rfl, ⟨h3.c1, h3.c2, HQ.out.2⟩, hidden hb, hidden HQ.out.1⟩
  have HLN : Hid (∀ u, Below x.heap.size x u → Calls Tryz.prog 26 #[.pointer (some ⟨a, 0, none⟩)] u fun e w' => e = .returned (.int .i64 (sn : Int)) ∧ w' = u) := hidden fun u hu => qlen_any u a k n po pn pc bo bn bc so sn sc ws P body st (h.on (bl_go hbx (Nat.le_refl _) hu))
  have HBX := hidden hbx
  have HCS := hidden hcs
  obtain ⟨y1, y2, _, _⟩ := hAm
  have bl : (low : Int) ≤ 65536 := by omega
  have bh : (high : Int) ≤ 65536 := by omega
  have bN : (N : Int) ≤ 65536 := by omega
  have hwN : IntKind.i64.wrap (N : Int) = (N : Int) := by rw [IntKind.wrap_i64]; omega
  clear h hl hr hA hlo hhi hcs hbx
  go_enter Tryz.func65, Tryz.ntmps65
  go_wp2_with fail
  go_region_with (first | (go_at_call 107; refine (HSR.out _ (by first | exact Below.refl _ _ | exact (Below.refl _ _).drew | exact bl_dr (Below.refl _ _) _)).mono ?_; rintro e w2 ⟨r, rfl, ⟨z1, z2, hrN⟩, HB2, HQ2⟩))
  all_goals
    obtain ⟨i, hi⟩ : ∃ i, low + r = i := ⟨_, rfl⟩
    have hiI : (low : Int) + (r : Int) = (i : Int) := by omega
    have bi : (i : Int) ≤ 65536 := by omega
    have br : (r : Int) ≤ 65536 := by omega
    have hwi : IntKind.i64.wrap (i : Int) = (i : Int) := by rw [IntKind.wrap_i64]; omega
    have HFN : Hid (Fnd cs q i) := hidden (by rw [← hi]; exact HQ2.out)
    by_cases hlt : i < sn
    · have hltI : (i : Int) < (sn : Int) := by omega
      obtain ⟨c, hc⟩ : ∃ c, cs[i]? = some c := ⟨_, List.getElem?_eq_getElem (by rw [HCS.out]; exact hlt)⟩
      have HEQ : Hid (ordL c.key q = 0 ↔ ∃ d, cs[i]? = some d ∧ d.key = q) := hidden (by
        rw [hc]
        constructor
        · intro h
          exact ⟨c, rfl, ordL_eq _ _ h⟩
        · rintro ⟨d, hd, rfl⟩
          injection hd with hd
          subst hd
          exact ordL_self _)
      have HFM : Hid (∀ u, Below w2.heap.size w2 u → Calls Tryz.prog 110 #[.int .i64 (i : Int), .pointer (some ⟨b1, 0, none⟩), .pointer (some ⟨b2, 0, none⟩), .pointer (some ⟨b3, 0, none⟩), .pointer (some ⟨b4, 0, none⟩)] u fun e w' => e = .returned (.int .i64 (ordL c.key q)) ∧ Hid (Below u.heap.size u w')) := hidden fun u hu => HF.out u i c (bl_go HB2.out (Nat.le_refl _) hu) hc
      have HLN2 : Hid (∀ u, Below w2.heap.size w2 u → Calls Tryz.prog 26 #[.pointer (some ⟨a, 0, none⟩)] u fun e w' => e = .returned (.int .i64 (sn : Int)) ∧ w' = u) := hidden fun u hu => HLN.out u (bl_go HB2.out (Nat.le_refl _) hu)
      clear hc hi
      generalize ordL c.key q = o at *
      by_cases ho : o = 0
      · subst ho
        go_wp2_with (first | (go_at_call 26; refine same_call (HLN2.out _ (by first | exact Below.refl _ _ | exact (Below.refl _ _).drew | exact bl_dr (Below.refl _ _) _)) ?_) | (go_at_call 110; refine (HFM.out _ (by first | exact Below.refl _ _ | exact (Below.refl _ _).drew | exact bl_dr (Below.refl _ _) _)).mono ?_; rintro e w3 ⟨rfl, HB3⟩))
        go_ret2
        exact ⟨i, true, rfl, hidden (bl_go (bl_go HBX.out (Nat.le_refl _) HB2.out) (Nat.le_refl _) (by first | exact HB3.out | exact bl_go (Below.refl _ _).drew (Nat.le_refl _) HB3.out | exact bl_go (bl_dr (Below.refl _ _) _) (Nat.le_refl _) HB3.out)), hidden ⟨HFN.out, by simpa using HEQ.out⟩⟩
      · have d1 : (o == 0) = false := by simpa using ho
        go_wp2_with (first | (go_at_call 26; refine same_call (HLN2.out _ (by first | exact Below.refl _ _ | exact (Below.refl _ _).drew | exact bl_dr (Below.refl _ _) _)) ?_) | (go_at_call 110; refine (HFM.out _ (by first | exact Below.refl _ _ | exact (Below.refl _ _).drew | exact bl_dr (Below.refl _ _) _)).mono ?_; rintro e w3 ⟨rfl, HB3⟩))
        go_ret2
        exact ⟨i, false, rfl, hidden (bl_go (bl_go HBX.out (Nat.le_refl _) HB2.out) (Nat.le_refl _) (by first | exact HB3.out | exact bl_go (Below.refl _ _).drew (Nat.le_refl _) HB3.out | exact bl_go (bl_dr (Below.refl _ _) _) (Nat.le_refl _) HB3.out)), hidden ⟨HFN.out, by simpa using fun x h1 h2 => ho (HEQ.out.2 ⟨x, h1, h2⟩)⟩⟩
    · have hltI : ¬ (i : Int) < (sn : Int) := by omega
      have HNO : Hid (cs[i]? = none) := hidden (List.getElem?_eq_none (by rw [HCS.out]; omega))
      have HLN2 : Hid (∀ u, Below w2.heap.size w2 u → Calls Tryz.prog 26 #[.pointer (some ⟨a, 0, none⟩)] u fun e w' => e = .returned (.int .i64 (sn : Int)) ∧ w' = u) := hidden fun u hu => HLN.out u (bl_go HB2.out (Nat.le_refl _) hu)
      clear hi
      go_wp2_with (first | (go_at_call 26; refine same_call (HLN2.out _ (by first | exact Below.refl _ _ | exact (Below.refl _ _).drew | exact bl_dr (Below.refl _ _) _)) ?_))
      go_ret2
      exact ⟨i, false, rfl, hidden (bl_go (bl_go HBX.out (Nat.le_refl _) HB2.out) (Nat.le_refl _) (by first | exact Below.refl _ _ | exact (Below.refl _ _).drew | exact bl_dr (Below.refl _ _) _)), hidden ⟨HFN.out, by simp [HNO.out]⟩⟩
set_option maxRecDepth 100000 in
theorem findQ_any (w : World) (a : Nat) (k : Int) (n : Nat) (po : Option Addr) (pn pc : Nat) (bo : Option Addr) (bn bc : Nat) (so : Option Addr) (sn sc : Nat) (ws : Int) (P body : List Int) (st : List Nat) (cs : List Cl) (h : PgQ w a k n po pn pc bo bn bc so sn sc ws P body st) (hl : LayQ k P cs body st) (hr : Rs cs) (hbn : bn ≤ 1099511627776) (hsn : sn ≤ 65536) (qo : Option Addr) (qn qc : Nat) (q : List Int) (hq : Sl w qo qn qc q) :
    Calls Tryz.prog 25 #[.pointer (some ⟨a, 0, none⟩), .slice qo qn qc] w fun e w' => FindTo cs q w e w' := by
  have hcs : cs.length = sn := by rw [← hl.len, h.starts.hlen]
  have HLN := hidden (qlen_any w a k n po pn pc bo bn bc so sn sc ws P body st h)
  have HAG := hidden (against_any w a k n po pn pc _ _ ws P h.row h.pre qo qn qc q hq)
  have HAM : Hid (∀ u b1 b2 b3 b4 ro rn rc b, Hid (Ag u a b1 b2 b3 b4 qo qn qc ro rn rc b P q) → Hid (Below w.heap.size w u) → Calls Tryz.prog 65 #[.pointer (some ⟨a, 0, none⟩), .int .i64 0, .int .i64 (sn : Int), .func (.func 110) #[] #[.pointer (some ⟨b1, 0, none⟩), .pointer (some ⟨b2, 0, none⟩), .pointer (some ⟨b3, 0, none⟩), .pointer (some ⟨b4, 0, none⟩)]] u fun e w' => FindTo cs q u e w') := hidden fun u b1 b2 b3 b4 ro rn rc b hA hu =>
    among_any u a k n po pn pc bo bn bc so sn sc ws P body st cs (h.on hu.out) hl hr hbn hsn 0 sn (Nat.zero_le _) (Nat.le_refl _) b1 b2 b3 b4 qo qn qc ro rn rc b q hA.out (fun i c hi => by omega) (fun i c hi hc => by
      have := (List.getElem?_eq_some_iff.1 hc).1
      omega)
  clear h hl hr hq hcs
  go_enter Tryz.func25, Tryz.ntmps25
  go_wp2_with (first
    | (go_at_call 26; refine same_call HLN.out ?_)
    | (go_at_call 66; refine HAG.out.mono ?_; rintro e w1 ⟨b1, b2, b3, b4, ro, rn, rc, b, rfl, HA1, HB1⟩)
    | (go_at_call 65; refine (HAM.out _ _ _ _ _ _ _ _ _ HA1 HB1).mono ?_; rintro e w2 ⟨r, is, rfl, HB2, HQ2⟩))
  go_ret2
  exact ⟨r, is, rfl, hidden (bl_go HB1.out (Nat.le_refl _) HB2.out), HQ2⟩
end Go.Proofs.YtbefpojdopfeeaaGreatDoor
