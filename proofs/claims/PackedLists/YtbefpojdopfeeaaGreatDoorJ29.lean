/- packed: rest, against: how a key stands to a cell's. -/
import Derived.Test.YtbefpojdopfeeaaGreatDoorJ28
namespace Go.Proofs.YtbefpojdopfeeaaGreatDoor
open Go.RowKit

set_option maxRecDepth 100000 in
theorem hasPrefix_any (ao bo : Option Addr) (n m c d : Nat) (la lb : List Int) (w : World) (ha : Sl w ao n c la) (hb : Sl w bo m d lb) :
    Calls Tryz.prog 123 #[.slice ao n c, .slice bo m d] w fun e w' => e = .returned (.bool (decide (la.take lb.length = lb))) ∧ w' = w := by
  have h1 := ha.hlen
  have h2 := hb.hlen
  have h3 := ha.hcap
  by_cases hle : m ≤ n
  · have HE := hidden (equal7 ao bo m m c d (la.take m) lb w (ha.take m hle) hb)
    have hmI : (m : Int) ≤ (n : Int) := by omega
    have hmc : m ≤ c := by omega
    have hmcI : (m : Int) ≤ (c : Int) := by omega
    rw [h2]
    generalize decide (la.take m = lb) = bb at *
    clear ha hb
    go_enter Tryz.func123, Tryz.ntmps123
    go_wp2_with (first | (go_at_call 57; refine same_call HE.out ?_))
    go_ret
    exact ⟨rfl, rfl⟩
  · have hmI : ¬ (m : Int) ≤ (n : Int) := by omega
    have hd : decide (la.take lb.length = lb) = false := decide_eq_false (by
      intro h
      have := congrArg List.length h
      rw [List.length_take] at this
      omega)
    rw [hd]
    clear ha hb
    go_enter Tryz.func123, Tryz.ntmps123
    go_wp2
    go_ret
    exact ⟨rfl, rfl⟩
set_option maxRecDepth 100000 in
set_option maxHeartbeats 1000000 in
/-- CutPrefix. -/
theorem cut_row (ao bo : Option Addr) (n m c d : Nat) (la lb : List Int) (w : World) (ha : Sl w ao n c la) (hb : Sl w bo m d lb) : ∃ (ro : Option Addr) (rn rc : Nat) (b : Bool), b = decide (la.take lb.length = lb) ∧ Sl w ro rn rc (if b then la.drop lb.length else la) ∧
    ∀ u, Below w.heap.size w u → Calls Tryz.prog 109 #[.slice ao n c, .slice bo m d] u fun e w' => e = .returned (.tuple #[.slice ro rn rc, .bool b]) ∧ w' = u := by
  have h1 := ha.hlen
  have h2 := hb.hlen
  have h3 := ha.hcap
  have HP := hidden (fun u (hu : Below w.heap.size w u) => hasPrefix_any ao bo n m c d la lb u (ha.on (Nat.le_refl _) hu) (hb.on (Nat.le_refl _) hu))
  cases hd : decide (la.take lb.length = lb) with
  | false =>
    rw [hd] at HP
    refine ⟨ao, n, c, false, rfl, by simpa using ha, fun u hu => ?_⟩
    have HQ := hidden (HP.out u hu)
    clear ha hb HP hu
    go_enter Tryz.func109, Tryz.ntmps109
    go_wp2_with (first | (go_at_call 123; refine same_call HQ.out ?_))
    go_ret2
    exact ⟨rfl, rfl⟩
  | true =>
    rw [hd] at HP
    have hmn : m ≤ n := by
      have := congrArg List.length (show la.take lb.length = lb by simpa using hd)
      rw [List.length_take] at this
      omega
    have hmc : m ≤ c := by omega
    have hmcI : (m : Int) ≤ (c : Int) := by omega
    have hmnI : (m : Int) ≤ (n : Int) := by omega
    rw [h2]
    rcases sl_from ha m hmn with ⟨rfl, rfl, rfl⟩ | ⟨a, rfl, ⟨hcn, hs⟩ | ⟨hcn, hs⟩⟩
    · obtain rfl : m = 0 := by omega
      refine ⟨none, 0, 0, true, rfl, by simpa using ha, fun u hu => ?_⟩
      have HQ := hidden (HP.out u hu)
      clear ha hb HP hu
      go_enter Tryz.func109, Tryz.ntmps109
      go_wp2_with (first | (go_at_call 123; refine same_call HQ.out ?_))
      go_ret2
      exact ⟨rfl, rfl⟩
    · subst hcn
      obtain rfl : n = c := by omega
      refine ⟨some a, n - n, n - n, true, rfl, by simpa using hs, fun u hu => ?_⟩
      have HQ := hidden (HP.out u hu)
      clear ha hb HP hu hs
      go_enter Tryz.func109, Tryz.ntmps109
      go_wp2_with (first | (go_at_call 123; refine same_call HQ.out ?_))
      go_ret2
      exact ⟨by simp, rfl⟩
    · have hcn2 : c - m ≠ 0 := by omega
      have hcn3 : m < c := by omega
      have hcn4 : (m : Int) < (c : Int) := by omega
      refine ⟨some (a.add m), n - m, c - m, true, rfl, by simpa using hs, fun u hu => ?_⟩
      have HQ := hidden (HP.out u hu)
      clear ha hb HP hu hs
      go_enter Tryz.func109, Tryz.ntmps109
      go_wp2_with (first | (go_at_call 123; refine same_call HQ.out ?_))
      go_ret2
      exact ⟨by simp, rfl⟩
set_option maxRecDepth 100000 in
theorem ordQ_app (P a b : List Int) : ordL (P ++ a) (P ++ b) = ordL a b := by
  induction P with
  | nil => rfl
  | cons x P ih => simp [ordL, ih]
set_option maxRecDepth 100000 in
/-- A key that does not begin with the prefix stands to all that do as it stands to the prefix. -/
theorem ordQ_pre : ∀ (P r q : List Int), q.take P.length ≠ P → ordL (P ++ r) q = ordL P q
  | [], r, q, h => absurd (by simp) h
  | x :: P, r, [], h => by simp [ordL]
  | x :: P, r, y :: q, h => by
    have ih := ordQ_pre P r q
    simp only [List.cons_append, ordL]
    by_cases h1 : x < y
    · rw [if_pos h1, if_pos h1]
    · rw [if_neg h1, if_neg h1]
      by_cases h2 : y < x
      · rw [if_pos h2, if_pos h2]
      · rw [if_neg h2, if_neg h2]
        obtain rfl : x = y := by omega
        exact ih fun e => h (by simp [e])
set_option maxRecDepth 100000 in
set_option maxHeartbeats 1000000 in
theorem prest_any (w : World) (a : Nat) (k : Int) (n : Nat) (po : Option Addr) (pn pc : Nat) (bo : Option Addr) (bn bc : Nat) (so : Option Addr) (sn sc : Nat) (ws : Int) (P body : List Int) (st : List Nat) (cs : List Cl) (h : PgQ w a k n po pn pc bo bn bc so sn sc ws P body st) (hl : LayQ k P cs body st) (i : Nat) (c : Cl) (hci : cs[i]? = some c) (hbn : bn ≤ 1099511627776) :
    Calls Tryz.prog 111 #[.pointer (some ⟨a, 0, none⟩), .int .i64 (i : Int)] w fun e w' => ∃ ko kn kc, e = .returned (.slice ko kn kc) ∧ Hid (Sl w' ko kn kc (c.key.drop (if k = 3 ∧ i = 0 then 0 else P.length))) ∧ Hid (Below w.heap.size w w') := by
  obtain ⟨c0, c1, c2, c3, c4, c5⟩ := h.cells
  have hcf := hl.fit c (List.mem_of_getElem? hci)
  obtain ⟨r, hat⟩ := hl.at_ i c hci
  have hil : i < sn := by
    have := (List.getElem?_eq_some_iff.1 hci).1
    have := hl.len
    have := h.starts.hlen
    omega
  generalize (if k = 3 ∧ i = 0 then 0 else P.length) = m at *
  have hlen : (st.getD i 0) < bn := by
    have h1 := congrArg List.length hat
    rw [List.length_drop, List.length_append, h.body.hlen] at h1
    have := qB_pos m c
    omega
  obtain ⟨s0, hst⟩ : ∃ s0, st.getD i 0 = s0 := ⟨_, rfl⟩
  rw [hst] at hat hlen
  obtain ⟨s1, hs1⟩ : ∃ s1, s0 + 1 = s1 := ⟨_, rfl⟩
  have hsI : (s0 : Int) + 1 = (s1 : Int) := by omega
  have hpt : ∃ r', pT (body.drop s1) = some (c.key.drop m, r') := by
    rw [← hs1, ← List.drop_drop, hat]
    unfold qB
    simp only [List.cons_append, List.nil_append, List.drop_succ_cons, List.drop_zero, List.append_assoc]
    have := hcf.key
    have h3 := pT_mid (c.key.drop m) ((if c.kd = 1 then uB (c.val.length : Int) ++ c.val else uB (c.pg % 18446744073709551616) ++ uB (c.ct % 18446744073709551616)) ++ r) (by rw [List.length_drop]; omega)
    rw [List.length_drop] at h3
    exact ⟨_, h3⟩
  obtain ⟨r', hpt⟩ := hpt
  obtain ⟨gb, off, rfl⟩ : ∃ gb off, bo = some ⟨gb, off, none⟩ := by
    rcases h.body.hat with h0 | ⟨b, off, e, _⟩
    · omega
    · exact ⟨b, off, e⟩
  obtain ⟨gs, offs, rfl, hgs, hcs⟩ : ∃ b off, so = some ⟨b, off, none⟩ ∧ b < w.heap.size ∧ ∀ j, j < sn → w.cell? ⟨b, off + j, none⟩ = some (.int .i64 ((st.getD j 0 : Nat) : Int)) := by
    rcases h.starts.hat with h0 | h0
    · omega
    · exact h0
  have cj := hcs i hil
  rw [hst] at cj
  have HPT := hidden hpt
  have HSL := hidden h.body
  have i0 : (i : Int) < (sn : Int) := by omega
  have i1 : i < sn := hil
  have hs1b : s1 ≤ bn := by omega
  have hs0I : (s0 : Int) ≤ 1099511627776 := by omega
  have hs1I : (s1 : Int) ≤ 1099511627776 := by omega
  have hbx : ∀ o, Below w.heap.size w (w.alloc o) := fun o => bl_al (Below.refl _ _) (Nat.le_refl _) _
  have HBX := hidden hbx
  have d2 := fun o => (h.on (hbx o)).cells.2.2.2.1
  have d3 := fun o => (h.on (hbx o)).cells.2.2.2.2.1
  have dj := fun o => ((hbx o).cell (p := ⟨gs, offs + i, none⟩) hgs).trans cj
  have HW : Hid (IntKind.i64.wrap (s1 : Int) = (s1 : Int)) := hidden (by rw [IntKind.wrap_i64]; omega)
  clear h hpt hcs hcf hbx hci hl hat hst hs1
  go_enter Tryz.func111, Tryz.ntmps111
  go_wp2_with fail
  go_region
  obtain ⟨g4, hg4⟩ : ∃ g4, w.heap.size = g4 := ⟨_, rfl⟩
  obtain ⟨x, hx⟩ : ∃ x, (w.alloc (.cells #[.slice (some ⟨gb, off, none⟩) bn bc, .int .i64 (s1 : Int), .bool false] 104)).drew = x := ⟨_, rfl⟩
  have hbx : Below w.heap.size w x := by rw [← hx]; exact (HBX.out _).drew
  have HRD : Hid (Rdq x g4 (some ⟨gb, off, none⟩) bn bc s1 false) := by
    rw [← hx, ← hg4]
    exact hidden (heap_alloc_last w _)
  have HTX := hidden (utext_any body x g4 gb off bn bc s1 false HRD.out (HSL.out.on (Nat.le_refl _) hbx) hs1b)
  have HBX2 := hidden hbx
  have HG4 := hidden hg4
  try simp only [hsI, HW.out]
  try rw [hx, hg4]
  clear hx hbx c0 c1 c2 c3 c4 c5 cj d2 d3 dj hg4
  go_wp2_with (first | (go_at_call 130; refine HTX.out.mono ?_; rintro e w2 ⟨ko, kn, kc, p, en', t, rfl, HR2, HCF, HQ⟩))
  go_ret
  obtain ⟨q1, _, _, q4⟩ := HQ.out
  rw [HPT.out] at q4
  rcases q4 with ⟨q4, _⟩ | ⟨q4, _⟩
  · injection q4 with q4
    injection q4 with q4 _
    subst q4
    exact ⟨ko, kn, kc, rfl, hidden q1, hidden (HBX2.out.trans (HCF.out.below HBX2.out.size (by have := HG4.out; intro i hi e; omega)))⟩
  · cases q4
end Go.Proofs.YtbefpojdopfeeaaGreatDoor

/- packed: against, and its function. -/

namespace Go.Proofs.YtbefpojdopfeeaaGreatDoor
open Go.RowKit

/-- What against's function holds. -/
structure Ag (w : World) (a b1 b2 b3 b4 : Nat) (qo : Option Addr) (qn qc : Nat) (ro : Option Addr) (rn rc : Nat) (b : Bool) (P q : List Int) : Prop where
  c1 : w.cell? ⟨b1, 0, none⟩ = some (.pointer (some ⟨a, 0, none⟩))
  c2 : w.cell? ⟨b2, 0, none⟩ = some (.slice qo qn qc)
  c3 : w.cell? ⟨b3, 0, none⟩ = some (.bool b)
  c4 : w.cell? ⟨b4, 0, none⟩ = some (.slice ro rn rc)
  l1 : b1 < w.heap.size
  l2 : b2 < w.heap.size
  l3 : b3 < w.heap.size
  l4 : b4 < w.heap.size
  hq : Sl w qo qn qc q
  hr : Sl w ro rn rc (if b then q.drop P.length else q)
  hb : b = decide (q.take P.length = P)
set_option maxRecDepth 100000 in
theorem Ag.go {w v : World} {a b1 b2 b3 b4 : Nat} {qo : Option Addr} {qn qc : Nat} {ro : Option Addr} {rn rc : Nat} {b : Bool} {P q : List Int} (h : Ag w a b1 b2 b3 b4 qo qn qc ro rn rc b P q) (hb : Below w.heap.size w v) : Ag v a b1 b2 b3 b4 qo qn qc ro rn rc b P q :=
  ⟨(hb.cell (p := ⟨b1, 0, none⟩) h.l1).trans h.c1, (hb.cell (p := ⟨b2, 0, none⟩) h.l2).trans h.c2, (hb.cell (p := ⟨b3, 0, none⟩) h.l3).trans h.c3, (hb.cell (p := ⟨b4, 0, none⟩) h.l4).trans h.c4, Nat.lt_of_lt_of_le h.l1 hb.size, Nat.lt_of_lt_of_le h.l2 hb.size, Nat.lt_of_lt_of_le h.l3 hb.size, Nat.lt_of_lt_of_le h.l4 hb.size, h.hq.on (Nat.le_refl _) hb, h.hr.on (Nat.le_refl _) hb, h.hb⟩
set_option maxRecDepth 100000 in
set_option maxHeartbeats 2000000 in
theorem against1_any (w : World) (a : Nat) (k : Int) (n : Nat) (po : Option Addr) (pn pc : Nat) (bo : Option Addr) (bn bc : Nat) (so : Option Addr) (sn sc : Nat) (ws : Int) (P body : List Int) (st : List Nat) (cs : List Cl) (h : PgQ w a k n po pn pc bo bn bc so sn sc ws P body st) (hl : LayQ k P cs body st) (i : Nat) (c : Cl) (hci : cs[i]? = some c) (hbn : bn ≤ 1099511627776)
    (b1 b2 b3 b4 : Nat) (qo : Option Addr) (qn qc : Nat) (ro : Option Addr) (rn rc : Nat) (b : Bool) (q : List Int) (hA : Ag w a b1 b2 b3 b4 qo qn qc ro rn rc b P q) :
    Calls Tryz.prog 110 #[.int .i64 (i : Int), .pointer (some ⟨b1, 0, none⟩), .pointer (some ⟨b2, 0, none⟩), .pointer (some ⟨b3, 0, none⟩), .pointer (some ⟨b4, 0, none⟩)] w fun e w' => e = .returned (.int .i64 (ordL c.key q)) ∧ Hid (Below w.heap.size w w') := by
  obtain ⟨p0, p1, p2, p3, p4, p5⟩ := h.cells
  have HA := hidden hA
  have HR : Hid (∀ u, Below w.heap.size w u → Calls Tryz.prog 111 #[.pointer (some ⟨a, 0, none⟩), .int .i64 (i : Int)] u fun e w' => ∃ ko kn kc, e = .returned (.slice ko kn kc) ∧ (w'.cell? ⟨b2, 0, none⟩ = some (.slice qo qn qc) ∧ w'.cell? ⟨b4, 0, none⟩ = some (.slice ro rn rc)) ∧ Hid (Sl w' ko kn kc (c.key.drop (if k = 3 ∧ i = 0 then 0 else P.length)) ∧ Below w.heap.size w w')) := by
    refine hidden fun u hu => (prest_any u a k n po pn pc bo bn bc so sn sc ws P body st cs (h.on hu) hl i c hci hbn).mono ?_
    rintro e w' ⟨ko, kn, kc, rfl, HS, HB⟩
    have hb := bl_go hu (Nat.le_refl _) HB.out
    have ha := HA.out.go hb
    exact ⟨ko, kn, kc, rfl, ⟨ha.c2, ha.c4⟩, hidden ⟨HS.out, hb⟩⟩
  have HBEG : Hid (¬ (k = 3 ∧ i = 0) → c.key.take P.length = P) := hidden fun hc => hl.beg c (mem_ktl hci hc)
  have HPR := hidden h.pre
  obtain ⟨c1, c2, c3, c4, l1, l2, l3, l4, hq, hr, hb⟩ := hA
  have HB0 := hidden hb
  by_cases hk : k = 3 ∧ i = 0
  · have HSW : Hid (∀ u, Calls Tryz.prog 44 #[.int .i64 k, .int .i64 (i : Int)] u fun e w' => e = .returned (.bool true) ∧ w' = u) := hidden (fun u => by
      have := standsWhole_any k (i : Int) u
      rwa [decide_eq_true (show k = 3 ∧ (i : Int) = 0 by omega)] at this)
    rw [if_pos hk] at HR
    have HC : Hid (∀ u ko kn kc, Hid (Sl u ko kn kc (c.key.drop 0) ∧ Below w.heap.size w u) → Calls Tryz.prog 106 #[.slice ko kn kc, .slice qo qn qc] u fun e w' => e = .returned (.int .i64 (ordL c.key q)) ∧ w' = u) := hidden fun u ko kn kc hu => by
      have := compare_any ko qo kn qn kc qc _ q u hu.out.1 (HA.out.hq.on (Nat.le_refl _) hu.out.2)
      simpa using this
    clear h hl hk hb hq hr hci
    go_enter Tryz.func110, Tryz.ntmps110
    go_wp2_with (first | (go_at_call 44; refine same_call (HSW.out _) ?_))
    go_region_with (first
      | (go_at_call 106; refine same_call (HC.out _ _ _ _ (by first | exact HS1 | exact hidden ⟨HS1.out.1.on (Nat.le_refl _) (Below.refl _ _).drew, HS1.out.2.drew⟩ | exact hidden ⟨HS1.out.1.drewN _, bl_dr HS1.out.2 _⟩)) ?_)
      | (go_at_call 111; refine (HR.out _ (by first | exact Below.refl _ _ | exact (Below.refl _ _).drew | exact bl_dr (Below.refl _ _) _)).mono ?_; rintro e u1 ⟨ko, kn, kc, rfl, ⟨x2, x4⟩, HS1⟩))
    all_goals
      go_wp2
      go_ret
      exact ⟨rfl, hidden (by first | exact HS1.out.2 | exact HS1.out.2.drew | exact bl_dr HS1.out.2 _)⟩
  · have HSW : Hid (∀ u, Calls Tryz.prog 44 #[.int .i64 k, .int .i64 (i : Int)] u fun e w' => e = .returned (.bool false) ∧ w' = u) := hidden (fun u => by
      have := standsWhole_any k (i : Int) u
      rwa [decide_eq_false (show ¬ (k = 3 ∧ (i : Int) = 0) by omega)] at this)
    have hbeg := HBEG.out hk
    rw [if_neg hk] at HR
    cases b with
    | true =>
      have HC : Hid (∀ u ko kn kc, Hid (Sl u ko kn kc (c.key.drop P.length) ∧ Below w.heap.size w u) → Calls Tryz.prog 106 #[.slice ko kn kc, .slice ro rn rc] u fun e w' => e = .returned (.int .i64 (ordL c.key q)) ∧ w' = u) := hidden fun u ko kn kc hu => by
        have h3 := HA.out.hr.on (Nat.le_refl _) hu.out.2
        rw [if_pos rfl] at h3
        have := compare_any ko ro kn rn kc rc _ _ u hu.out.1 h3
        have e1 : c.key = P ++ c.key.drop P.length := by
          conv => lhs; rw [← List.take_append_drop P.length c.key, hbeg]
        have e2 : q = P ++ q.drop P.length := by
          conv => lhs; rw [← List.take_append_drop P.length q, show q.take P.length = P from by simpa using HB0.out.symm]
        have e3 : ordL c.key q = ordL (c.key.drop P.length) (q.drop P.length) := by
          conv => lhs; rw [e1, e2]
          exact ordQ_app _ _ _
        rw [e3]
        exact this
      clear h hl hk hb hq hr hci hbeg
      go_enter Tryz.func110, Tryz.ntmps110
      go_wp2_with (first | (go_at_call 44; refine same_call (HSW.out _) ?_))
      go_region_with (first
        | (go_at_call 106; refine same_call (HC.out _ _ _ _ (by first | exact HS1 | exact hidden ⟨HS1.out.1.on (Nat.le_refl _) (Below.refl _ _).drew, HS1.out.2.drew⟩ | exact hidden ⟨HS1.out.1.drewN _, bl_dr HS1.out.2 _⟩)) ?_)
        | (go_at_call 111; refine (HR.out _ (by first | exact Below.refl _ _ | exact (Below.refl _ _).drew | exact bl_dr (Below.refl _ _) _)).mono ?_; rintro e u1 ⟨ko, kn, kc, rfl, ⟨x2, x4⟩, HS1⟩))
      all_goals
        go_wp2
        go_ret
        exact ⟨rfl, hidden (by first | exact HS1.out.2 | exact HS1.out.2.drew | exact bl_dr HS1.out.2 _)⟩
    | false =>
      have HC : Hid (∀ u, Below w.heap.size w u → Calls Tryz.prog 106 #[.slice po pn pc, .slice qo qn qc] u fun e w' => e = .returned (.int .i64 (ordL c.key q)) ∧ w' = u) := hidden fun u hu => by
        have := compare_any po qo pn qn pc qc P q u (HPR.out.on (Nat.le_refl _) hu) (HA.out.hq.on (Nat.le_refl _) hu)
        have e1 : c.key = P ++ c.key.drop P.length := by
          conv => lhs; rw [← List.take_append_drop P.length c.key, hbeg]
        have e3 : ordL c.key q = ordL P q := by
          conv => lhs; rw [e1]
          exact ordQ_pre _ _ _ (by simpa using HB0.out.symm)
        rw [e3]
        exact this
      clear h hl hk hb hq hr hci hbeg
      go_enter Tryz.func110, Tryz.ntmps110
      go_wp2_with (first | (go_at_call 44; refine same_call (HSW.out _) ?_))
      go_region_with (first | (go_at_call 106; refine same_call (HC.out _ (by first | exact Below.refl _ _ | exact (Below.refl _ _).drew | exact bl_dr (Below.refl _ _) _)) ?_))
      all_goals
        go_wp2
        go_ret
        exact ⟨rfl, hidden (by first | exact Below.refl _ _ | exact (Below.refl _ _).drew | exact bl_dr (Below.refl _ _) _)⟩
end Go.Proofs.YtbefpojdopfeeaaGreatDoor
