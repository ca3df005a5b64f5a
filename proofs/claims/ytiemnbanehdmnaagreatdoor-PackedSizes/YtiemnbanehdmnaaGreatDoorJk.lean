/- packed: rest, against: how a key stands to a cell's. -/
import Derived.Test.YtiemnbanehdmnaaGreatDoorJj
namespace Go.Proofs.YtiemnbanehdmnaaGreatDoor
open Go.RowKit

set_option maxRecDepth 100000 in
theorem hasPrefix_any (ao bo : Option Addr) (n m c d : Nat) (la lb : List Int) (w : World) (ha : Sl w ao n c la) (hb : Sl w bo m d lb) :
    Calls Tryz.prog 146 #[.slice ao n c, .slice bo m d] w fun e w' => e = .returned (.bool (decide (la.take lb.length = lb))) ∧ w' = w := by
  have h1 := ha.hlen
  have h2 := hb.hlen
  have h3 := ha.hcap
  by_cases hle : m ≤ n
  · have HE := hidden (equal7 ao bo m m c d (la.take m) lb w (ha.take m hle) hb)
    have hmI : (m : Int) ≤ (n : Int) := by omega
    have hmc : m ≤ c := by omega
    have hmcI : (m : Int) ≤ (c : Int) := by omega
    rw [h2]
    generalize decide (la.take m = lb) = bb at *
    clear ha hb
    go_enter Tryz.func146, Tryz.ntmps146
    go_wp2_with (first | (go_at_call 62; refine same_call HE.out ?_))
    go_ret
    exact ⟨rfl, rfl⟩
  · have hmI : ¬ (m : Int) ≤ (n : Int) := by omega
    have hd : decide (la.take lb.length = lb) = false := decide_eq_false (by
      intro h
      have := congrArg List.length h
      rw [List.length_take] at this
      omega)
    rw [hd]
    clear ha hb
    go_enter Tryz.func146, Tryz.ntmps146
    go_wp2
    go_ret
    exact ⟨rfl, rfl⟩
set_option maxRecDepth 100000 in
set_option maxHeartbeats 1000000 in
/-- CutPrefix. -/
theorem cut_row (ao bo : Option Addr) (n m c d : Nat) (la lb : List Int) (w : World) (ha : Sl w ao n c la) (hb : Sl w bo m d lb) : ∃ (ro : Option Addr) (rn rc : Nat) (b : Bool), b = decide (la.take lb.length = lb) ∧ Sl w ro rn rc (if b then la.drop lb.length else la) ∧
    ∀ u, Below w.heap.size w u → Calls Tryz.prog 127 #[.slice ao n c, .slice bo m d] u fun e w' => e = .returned (.tuple #[.slice ro rn rc, .bool b]) ∧ w' = u := by
  have h1 := ha.hlen
  have h2 := hb.hlen
  have h3 := ha.hcap
  have HP := hidden (fun u (hu : Below w.heap.size w u) => hasPrefix_any ao bo n m c d la lb u (ha.on (Nat.le_refl _) hu) (hb.on (Nat.le_refl _) hu))
  cases hd : decide (la.take lb.length = lb) with
  | false =>
    rw [hd] at HP
    refine ⟨ao, n, c, false, rfl, by simpa using ha, fun u hu => ?_⟩
    have HQ := hidden (HP.out u hu)
    clear ha hb HP hu
    go_enter Tryz.func127, Tryz.ntmps127
    go_wp2_with (first | (go_at_call 146; refine same_call HQ.out ?_))
    go_ret2
    exact ⟨rfl, rfl⟩
  | true =>
    rw [hd] at HP
    have hmn : m ≤ n := by
      have := congrArg List.length (show la.take lb.length = lb by simpa using hd)
      rw [List.length_take] at this
      omega
    have hmc : m ≤ c := by omega
    have hmcI : (m : Int) ≤ (c : Int) := by omega
    have hmnI : (m : Int) ≤ (n : Int) := by omega
    rw [h2]
    rcases sl_from ha m hmn with ⟨rfl, rfl, rfl⟩ | ⟨a, rfl, ⟨hcn, hs⟩ | ⟨hcn, hs⟩⟩
    · obtain rfl : m = 0 := by omega
      refine ⟨none, 0, 0, true, rfl, by simpa using ha, fun u hu => ?_⟩
      have HQ := hidden (HP.out u hu)
      clear ha hb HP hu
      go_enter Tryz.func127, Tryz.ntmps127
      go_wp2_with (first | (go_at_call 146; refine same_call HQ.out ?_))
      go_ret2
      exact ⟨rfl, rfl⟩
    · subst hcn
      obtain rfl : n = c := by omega
      refine ⟨some a, n - n, n - n, true, rfl, by simpa using hs, fun u hu => ?_⟩
      have HQ := hidden (HP.out u hu)
      clear ha hb HP hu hs
      go_enter Tryz.func127, Tryz.ntmps127
      go_wp2_with (first | (go_at_call 146; refine same_call HQ.out ?_))
      go_ret2
      exact ⟨by simp, rfl⟩
    · have hcn2 : c - m ≠ 0 := by omega
      have hcn3 : m < c := by omega
      have hcn4 : (m : Int) < (c : Int) := by omega
      refine ⟨some (a.add m), n - m, c - m, true, rfl, by simpa using hs, fun u hu => ?_⟩
      have HQ := hidden (HP.out u hu)
      clear ha hb HP hu hs
      go_enter Tryz.func127, Tryz.ntmps127
      go_wp2_with (first | (go_at_call 146; refine same_call HQ.out ?_))
      go_ret2
      exact ⟨by simp, rfl⟩

set_option maxRecDepth 100000 in
theorem ordQ_app (P a b : List Int) : ordL (P ++ a) (P ++ b) = ordL a b := by
  induction P with
  | nil => rfl
  | cons x P ih => simp [ordL, ih]
set_option maxRecDepth 100000 in
/-- A key that does not begin with the prefix stands to all that do as it stands to the prefix. -/
theorem ordQ_pre : ∀ (P r q : List Int), q.take P.length ≠ P → ordL (P ++ r) q = ordL P q
  | [], r, q, h => absurd (by simp) h
  | x :: P, r, [], h => by simp [ordL]
  | x :: P, r, y :: q, h => by
    have ih := ordQ_pre P r q
    simp only [List.cons_append, ordL]
    by_cases h1 : x < y
    · rw [if_pos h1, if_pos h1]
    · rw [if_neg h1, if_neg h1]
      by_cases h2 : y < x
      · rw [if_pos h2, if_pos h2]
      · rw [if_neg h2, if_neg h2]
        obtain rfl : x = y := by omega
        exact ih fun e => h (by simp [e])

set_option maxRecDepth 100000 in
set_option maxHeartbeats 1000000 in
theorem prest_any (w : World) (a : Nat) (k : Int) (n : Nat) (po : Option Addr) (pn pc : Nat) (bo : Option Addr) (bn bc : Nat) (so : Option Addr) (sn sc : Nat) (ws : Int) (P body : List Int) (st : List Nat) (cs : List Cl) (h : PgQ w a k n po pn pc bo bn bc so sn sc ws P body st) (hl : LayQ k P cs body st) (i : Nat) (c : Cl) (hci : cs[i]? = some c) (hbn : bn ≤ 1099511627776) :
    Calls Tryz.prog 129 #[.pointer (some ⟨a, 0, none⟩), .int .i64 (i : Int)] w fun e w' => ∃ ko kn kc, e = .returned (.slice ko kn kc) ∧ Hid (Sl w' ko kn kc (c.key.drop (if k = 3 ∧ i = 0 then 0 else P.length))) ∧ Hid (Below w.heap.size w w') := by
  obtain ⟨c0, c1, c2, c3, c4, c5⟩ := h.cells
  have hcf := hl.fit c (List.mem_of_getElem? hci)
  obtain ⟨r, hat⟩ := hl.at_ i c hci
  have hil : i < sn := by
    have := (List.getElem?_eq_some_iff.1 hci).1
    have := hl.len
    have := h.starts.hlen
    omega
  generalize (if k = 3 ∧ i = 0 then 0 else P.length) = m at *
  have hlen : (st.getD i 0) < bn := by
    have h1 := congrArg List.length hat
    rw [List.length_drop, List.length_append, h.body.hlen] at h1
    have := qB_pos m c
    omega
  obtain ⟨s0, hst⟩ : ∃ s0, st.getD i 0 = s0 := ⟨_, rfl⟩
  rw [hst] at hat hlen
  obtain ⟨s1, hs1⟩ : ∃ s1, s0 + 1 = s1 := ⟨_, rfl⟩
  have hsI : (s0 : Int) + 1 = (s1 : Int) := by omega
  have hpt : ∃ r', pT (body.drop s1) = some (c.key.drop m, r') := by
    rw [← hs1, ← List.drop_drop, hat]
    unfold qB
    simp only [List.cons_append, List.nil_append, List.drop_succ_cons, List.drop_zero, List.append_assoc]
    have := hcf.key
    have h3 := pT_mid (c.key.drop m) ((if c.kd = 1 then uB (c.val.length : Int) ++ c.val else uB (c.pg % 18446744073709551616) ++ uB (c.ct % 18446744073709551616)) ++ r) (by rw [List.length_drop]; omega)
    rw [List.length_drop] at h3
    exact ⟨_, h3⟩
  obtain ⟨r', hpt⟩ := hpt
  obtain ⟨gb, off, rfl⟩ : ∃ gb off, bo = some ⟨gb, off, none⟩ := by
    rcases h.body.hat with h0 | ⟨b, off, e, _⟩
    · omega
    · exact ⟨b, off, e⟩
  obtain ⟨gs, offs, rfl, hgs, hcs⟩ : ∃ b off, so = some ⟨b, off, none⟩ ∧ b < w.heap.size ∧ ∀ j, j < sn → w.cell? ⟨b, off + j, none⟩ = some (.int .i64 ((st.getD j 0 : Nat) : Int)) := by
    rcases h.starts.hat with h0 | h0
    · omega
    · exact h0
  have cj := hcs i hil
  rw [hst] at cj
  have HPT := hidden hpt
  have HSL := hidden h.body
  have i0 : (i : Int) < (sn : Int) := by omega
  have i1 : i < sn := hil
  have hs1b : s1 ≤ bn := by omega
  have hs0I : (s0 : Int) ≤ 1099511627776 := by omega
  have hs1I : (s1 : Int) ≤ 1099511627776 := by omega
  have hbx : ∀ o, Below w.heap.size w (w.alloc o) := fun o => bl_al (Below.refl _ _) (Nat.le_refl _) _
  have HBX := hidden hbx
  have d2 := fun o => (h.on (hbx o)).cells.2.2.2.1
  have d3 := fun o => (h.on (hbx o)).cells.2.2.2.2.1
  have dj := fun o => ((hbx o).cell (p := ⟨gs, offs + i, none⟩) hgs).trans cj
  have HW : Hid (IntKind.i64.wrap (s1 : Int) = (s1 : Int)) := hidden (by rw [IntKind.wrap_i64]; omega)
  clear h hpt hcs hcf hbx hci hl hat hst hs1
  go_enter Tryz.func129, Tryz.ntmps129
  go_wp2_with fail
  go_region
  obtain ⟨g4, hg4⟩ : ∃ g4, w.heap.size = g4 := ⟨_, rfl⟩
  obtain ⟨x, hx⟩ : ∃ x, (w.alloc (.cells #[.slice (some ⟨gb, off, none⟩) bn bc, .int .i64 (s1 : Int), .bool false] 121)).drew = x := ⟨_, rfl⟩
  have hbx : Below w.heap.size w x := by rw [← hx]; exact (HBX.out _).drew
  have HRD : Hid (Rd x g4 (some ⟨gb, off, none⟩) bn bc s1 false) := by
    rw [← hx, ← hg4]
    exact hidden (heap_alloc_last w _)
  have HTX := hidden (utext_any body x g4 gb off bn bc s1 false HRD.out (HSL.out.on (Nat.le_refl _) hbx) hs1b)
  have HBX2 := hidden hbx
  have HG4 := hidden hg4
  try simp only [hsI, HW.out]
  try rw [hx, hg4]
  clear hx hbx c0 c1 c2 c3 c4 c5 cj d2 d3 dj hg4
  go_wp2_with (first | (go_at_call 141; refine HTX.out.mono ?_; rintro e w2 ⟨ko, kn, kc, p, en', t, rfl, HR2, HCF, HQ⟩))
  go_ret
  obtain ⟨q1, _, _, q4⟩ := HQ.out
  rw [HPT.out] at q4
  rcases q4 with ⟨q4, _⟩ | ⟨q4, _⟩
  · injection q4 with q4
    injection q4 with q4 _
    subst q4
    exact ⟨ko, kn, kc, rfl, hidden q1, hidden (HBX2.out.trans (HCF.out.below HBX2.out.size (by have := HG4.out; intro i hi e; omega)))⟩
  · cases q4
end Go.Proofs.YtiemnbanehdmnaaGreatDoor

/- packed: against, and its function. -/

namespace Go.Proofs.YtiemnbanehdmnaaGreatDoor
open Go.RowKit

/-- What against's function holds. -/
structure Ag (w : World) (a b1 b2 b3 b4 : Nat) (qo : Option Addr) (qn qc : Nat) (ro : Option Addr) (rn rc : Nat) (b : Bool) (P q : List Int) : Prop where
  c1 : w.cell? ⟨b1, 0, none⟩ = some (.pointer (some ⟨a, 0, none⟩))
  c2 : w.cell? ⟨b2, 0, none⟩ = some (.slice qo qn qc)
  c3 : w.cell? ⟨b3, 0, none⟩ = some (.bool b)
  c4 : w.cell? ⟨b4, 0, none⟩ = some (.slice ro rn rc)
  l1 : b1 < w.heap.size
  l2 : b2 < w.heap.size
  l3 : b3 < w.heap.size
  l4 : b4 < w.heap.size
  hq : Sl w qo qn qc q
  hr : Sl w ro rn rc (if b then q.drop P.length else q)
  hb : b = decide (q.take P.length = P)
set_option maxRecDepth 100000 in
theorem Ag.go {w v : World} {a b1 b2 b3 b4 : Nat} {qo : Option Addr} {qn qc : Nat} {ro : Option Addr} {rn rc : Nat} {b : Bool} {P q : List Int} (h : Ag w a b1 b2 b3 b4 qo qn qc ro rn rc b P q) (hb : Below w.heap.size w v) : Ag v a b1 b2 b3 b4 qo qn qc ro rn rc b P q :=
  ⟨(hb.cell (p := ⟨b1, 0, none⟩) h.l1).trans h.c1, (hb.cell (p := ⟨b2, 0, none⟩) h.l2).trans h.c2, (hb.cell (p := ⟨b3, 0, none⟩) h.l3).trans h.c3, (hb.cell (p := ⟨b4, 0, none⟩) h.l4).trans h.c4, Nat.lt_of_lt_of_le h.l1 hb.size, Nat.lt_of_lt_of_le h.l2 hb.size, Nat.lt_of_lt_of_le h.l3 hb.size, Nat.lt_of_lt_of_le h.l4 hb.size, h.hq.on (Nat.le_refl _) hb, h.hr.on (Nat.le_refl _) hb, h.hb⟩

set_option maxRecDepth 100000 in
set_option maxHeartbeats 2000000 in
theorem against1_any (w : World) (a : Nat) (k : Int) (n : Nat) (po : Option Addr) (pn pc : Nat) (bo : Option Addr) (bn bc : Nat) (so : Option Addr) (sn sc : Nat) (ws : Int) (P body : List Int) (st : List Nat) (cs : List Cl) (h : PgQ w a k n po pn pc bo bn bc so sn sc ws P body st) (hl : LayQ k P cs body st) (i : Nat) (c : Cl) (hci : cs[i]? = some c) (hbn : bn ≤ 1099511627776)
    (b1 b2 b3 b4 : Nat) (qo : Option Addr) (qn qc : Nat) (ro : Option Addr) (rn rc : Nat) (b : Bool) (q : List Int) (hA : Ag w a b1 b2 b3 b4 qo qn qc ro rn rc b P q) :
    Calls Tryz.prog 128 #[.int .i64 (i : Int), .pointer (some ⟨b1, 0, none⟩), .pointer (some ⟨b2, 0, none⟩), .pointer (some ⟨b3, 0, none⟩), .pointer (some ⟨b4, 0, none⟩)] w fun e w' => e = .returned (.int .i64 (ordL c.key q)) ∧ Hid (Below w.heap.size w w') := by
  obtain ⟨p0, p1, p2, p3, p4, p5⟩ := h.cells
  have HA := hidden hA
  have HR : Hid (∀ u, Below w.heap.size w u → Calls Tryz.prog 129 #[.pointer (some ⟨a, 0, none⟩), .int .i64 (i : Int)] u fun e w' => ∃ ko kn kc, e = .returned (.slice ko kn kc) ∧ (w'.cell? ⟨b2, 0, none⟩ = some (.slice qo qn qc) ∧ w'.cell? ⟨b4, 0, none⟩ = some (.slice ro rn rc)) ∧ Hid (Sl w' ko kn kc (c.key.drop (if k = 3 ∧ i = 0 then 0 else P.length)) ∧ Below w.heap.size w w')) := by
    refine hidden fun u hu => (prest_any u a k n po pn pc bo bn bc so sn sc ws P body st cs (h.on hu) hl i c hci hbn).mono ?_
    rintro e w' ⟨ko, kn, kc, rfl, HS, HB⟩
    have hb := bl_go hu (Nat.le_refl _) HB.out
    have ha := HA.out.go hb
    exact ⟨ko, kn, kc, rfl, ⟨ha.c2, ha.c4⟩, hidden ⟨HS.out, hb⟩⟩
  have HBEG : Hid (¬ (k = 3 ∧ i = 0) → c.key.take P.length = P) := hidden fun hc => hl.beg c (mem_ktl hci hc)
  have HPR := hidden h.pre
  obtain ⟨c1, c2, c3, c4, l1, l2, l3, l4, hq, hr, hb⟩ := hA
  have HB0 := hidden hb
  by_cases hk : k = 3 ∧ i = 0
  · have HSW : Hid (∀ u, Calls Tryz.prog 36 #[.int .i64 k, .int .i64 (i : Int)] u fun e w' => e = .returned (.bool true) ∧ w' = u) := hidden (fun u => by
      have := standsWhole_any k (i : Int) u
      rwa [decide_eq_true (show k = 3 ∧ (i : Int) = 0 by omega)] at this)
    rw [if_pos hk] at HR
    have HC : Hid (∀ u ko kn kc, Hid (Sl u ko kn kc (c.key.drop 0) ∧ Below w.heap.size w u) → Calls Tryz.prog 85 #[.slice ko kn kc, .slice qo qn qc] u fun e w' => e = .returned (.int .i64 (ordL c.key q)) ∧ w' = u) := hidden fun u ko kn kc hu => by
      have := compare_any ko qo kn qn kc qc _ q u hu.out.1 (HA.out.hq.on (Nat.le_refl _) hu.out.2)
      simpa using this
    clear h hl hk hb hq hr hci
    go_enter Tryz.func128, Tryz.ntmps128
    go_wp2_with (first | (go_at_call 36; refine same_call (HSW.out _) ?_))
    go_region_with (first
      | (go_at_call 85; refine same_call (HC.out _ _ _ _ (by first | exact HS1 | exact hidden ⟨HS1.out.1.on (Nat.le_refl _) (Below.refl _ _).drew, HS1.out.2.drew⟩ | exact hidden ⟨HS1.out.1.drewN _, bl_dr HS1.out.2 _⟩)) ?_)
      | (go_at_call 129; refine (HR.out _ (by first | exact Below.refl _ _ | exact (Below.refl _ _).drew | exact bl_dr (Below.refl _ _) _)).mono ?_; rintro e u1 ⟨ko, kn, kc, rfl, ⟨x2, x4⟩, HS1⟩))
    all_goals
      go_wp2
      go_ret
      exact ⟨rfl, hidden (by first | exact HS1.out.2 | exact HS1.out.2.drew | exact bl_dr HS1.out.2 _)⟩
  · have HSW : Hid (∀ u, Calls Tryz.prog 36 #[.int .i64 k, .int .i64 (i : Int)] u fun e w' => e = .returned (.bool false) ∧ w' = u) := hidden (fun u => by
      have := standsWhole_any k (i : Int) u
      rwa [decide_eq_false (show ¬ (k = 3 ∧ (i : Int) = 0) by omega)] at this)
    have hbeg := HBEG.out hk
    rw [if_neg hk] at HR
    cases b with
    | true =>
      have HC : Hid (∀ u ko kn kc, Hid (Sl u ko kn kc (c.key.drop P.length) ∧ Below w.heap.size w u) → Calls Tryz.prog 85 #[.slice ko kn kc, .slice ro rn rc] u fun e w' => e = .returned (.int .i64 (ordL c.key q)) ∧ w' = u) := hidden fun u ko kn kc hu => by
        have h3 := HA.out.hr.on (Nat.le_refl _) hu.out.2
        rw [if_pos rfl] at h3
        have := compare_any ko ro kn rn kc rc _ _ u hu.out.1 h3
        have e1 : c.key = P ++ c.key.drop P.length := by
          conv => lhs; rw [← List.take_append_drop P.length c.key, hbeg]
        have e2 : q = P ++ q.drop P.length := by
          conv => lhs; rw [← List.take_append_drop P.length q, show q.take P.length = P from by simpa using HB0.out.symm]
        have e3 : ordL c.key q = ordL (c.key.drop P.length) (q.drop P.length) := by
          conv => lhs; rw [e1, e2]
          exact ordQ_app _ _ _
        rw [e3]
        exact this
      clear h hl hk hb hq hr hci hbeg
      go_enter Tryz.func128, Tryz.ntmps128
      go_wp2_with (first | (go_at_call 36; refine same_call (HSW.out _) ?_))
      go_region_with (first
        | (go_at_call 85; refine same_call (HC.out _ _ _ _ (by first | exact HS1 | exact hidden ⟨HS1.out.1.on (Nat.le_refl _) (Below.refl _ _).drew, HS1.out.2.drew⟩ | exact hidden ⟨HS1.out.1.drewN _, bl_dr HS1.out.2 _⟩)) ?_)
        | (go_at_call 129; refine (HR.out _ (by first | exact Below.refl _ _ | exact (Below.refl _ _).drew | exact bl_dr (Below.refl _ _) _)).mono ?_; rintro e u1 ⟨ko, kn, kc, rfl, ⟨x2, x4⟩, HS1⟩))
      all_goals
        go_wp2
        go_ret
        exact ⟨rfl, hidden (by first | exact HS1.out.2 | exact HS1.out.2.drew | exact bl_dr HS1.out.2 _)⟩
    | false =>
      have HC : Hid (∀ u, Below w.heap.size w u → Calls Tryz.prog 85 #[.slice po pn pc, .slice qo qn qc] u fun e w' => e = .returned (.int .i64 (ordL c.key q)) ∧ w' = u) := hidden fun u hu => by
        have := compare_any po qo pn qn pc qc P q u (HPR.out.on (Nat.le_refl _) hu) (HA.out.hq.on (Nat.le_refl _) hu)
        have e1 : c.key = P ++ c.key.drop P.length := by
          conv => lhs; rw [← List.take_append_drop P.length c.key, hbeg]
        have e3 : ordL c.key q = ordL P q := by
          conv => lhs; rw [e1]
          exact ordQ_pre _ _ _ (by simpa using HB0.out.symm)
        rw [e3]
        exact this
      clear h hl hk hb hq hr hci hbeg
      go_enter Tryz.func128, Tryz.ntmps128
      go_wp2_with (first | (go_at_call 36; refine same_call (HSW.out _) ?_))
      go_region_with (first | (go_at_call 85; refine same_call (HC.out _ (by first | exact Below.refl _ _ | exact (Below.refl _ _).drew | exact bl_dr (Below.refl _ _) _)) ?_))
      all_goals
        go_wp2
        go_ret
        exact ⟨rfl, hidden (by first | exact Below.refl _ _ | exact (Below.refl _ _).drew | exact bl_dr (Below.refl _ _) _)⟩

end Go.Proofs.YtiemnbanehdmnaaGreatDoor

/- packed: against. -/

namespace Go.Proofs.YtiemnbanehdmnaaGreatDoor
open Go.RowKit

/-- What against comes to. -/
def AgTo (a : Nat) (qo : Option Addr) (qn qc : Nat) (P q : List Int) (w : World) (e : Ending) (w' : World) : Prop :=
  ∃ (b1 b2 b3 b4 : Nat) (ro : Option Addr) (rn rc : Nat) (b : Bool), e = .returned (.func (.func 128) #[] #[.pointer (some ⟨b1, 0, none⟩), .pointer (some ⟨b2, 0, none⟩), .pointer (some ⟨b3, 0, none⟩), .pointer (some ⟨b4, 0, none⟩)]) ∧ Hid (Ag w' a b1 b2 b3 b4 qo qn qc ro rn rc b P q) ∧ Hid (Below w.heap.size w w')
set_option maxRecDepth 100000 in
theorem AgTo.of {w x z : World} {a s b3 b4 : Nat} {qo : Option Addr} {qn qc : Nat} {ro : Option Addr} {rn rc : Nat} {b : Bool} {P q : List Int} (hbx : Below w.heap.size w x) (hb : b = decide (q.take P.length = P)) (hq : Sl x qo qn qc q) (hr : Sl x ro rn rc (if b then q.drop P.length else q)) (hxs : x.heap.size = s + 2) (h12 : x.cell? ⟨s, 0, none⟩ = some (.pointer (some ⟨a, 0, none⟩)) ∧ x.cell? ⟨s + 1, 0, none⟩ = some (.slice qo qn qc)) (hz : Below x.heap.size x z)
    (c3 : z.cell? ⟨b3, 0, none⟩ = some (.bool b)) (c4 : z.cell? ⟨b4, 0, none⟩ = some (.slice ro rn rc)) (l3 : b3 < z.heap.size) (l4 : b4 < z.heap.size) :
    AgTo a qo qn qc P q w (.returned (.func (.func 128) #[] #[.pointer (some ⟨s, 0, none⟩), .pointer (some ⟨s + 1, 0, none⟩), .pointer (some ⟨b3, 0, none⟩), .pointer (some ⟨b4, 0, none⟩)])) z := by
  have := hz.size
  exact ⟨s, s + 1, b3, b4, ro, rn, rc, b, rfl, hidden ⟨(hz.cell (p := ⟨s, 0, none⟩) (by simp only; omega)).trans h12.1, (hz.cell (p := ⟨s + 1, 0, none⟩) (by simp only; omega)).trans h12.2, c3, c4, by omega, by omega, l3, l4, hq.on (Nat.le_refl _) hz, hr.on (Nat.le_refl _) hz, hb⟩, hidden (bl_go hbx (Nat.le_refl _) hz)⟩
set_option maxRecDepth 100000 in
set_option maxHeartbeats 2000000 in
theorem against_any (w : World) (a : Nat) (k : Int) (n : Nat) (po : Option Addr) (pn pc : Nat) (vb vs : Value) (ws : Int) (P : List Int) (h : QR w a k n (.slice po pn pc) vb vs ws) (hP : Sl w po pn pc P) (qo : Option Addr) (qn qc : Nat) (q : List Int) (hq : Sl w qo qn qc q) :
    Calls Tryz.prog 77 #[.pointer (some ⟨a, 0, none⟩), .slice qo qn qc] w fun e w' => AgTo a qo qn qc P q w e w' := by
  obtain ⟨x, hx⟩ : ∃ x, (w.alloc (.cells #[.pointer (some ⟨a, 0, none⟩)] 43)).alloc (.cells #[.slice qo qn qc] 29) = x := ⟨_, rfl⟩
  have hbx : Below w.heap.size w x := by rw [← hx]; exact bl_al (bl_al (Below.refl _ _) (Nat.le_refl _) _) (Nat.le_refl _) _
  obtain ⟨ro, rn, rc, b, hb, hr, hcut⟩ := cut_row qo po qn pn qc pc q P x (hq.on (Nat.le_refl _) hbx) (hP.on (Nat.le_refl _) hbx)
  have HCUT := hidden hcut
  obtain ⟨p0, p1, p2, p3, p4, p5⟩ := (show QR x a k n (.slice po pn pc) vb vs ws from box_on h hbx).cells
  have p2a := fun o => (show QR (x.alloc o) a k n (.slice po pn pc) vb vs ws from box_on (box_on h hbx) (bl_al (Below.refl _ _) (Nat.le_refl _) _)).cells.2.2.1
  have p2b := fun o o' => (show QR ((x.alloc o).alloc o') a k n (.slice po pn pc) vb vs ws from box_on (box_on h hbx) (bl_al (bl_al (Below.refl _ _) (Nat.le_refl _) _) (Nat.le_refl _) _)).cells.2.2.1
  obtain ⟨s, hs⟩ : ∃ s, w.heap.size = s := ⟨_, rfl⟩
  have x1 : x.cell? ⟨s, 0, none⟩ = some (.pointer (some ⟨a, 0, none⟩)) := by rw [← hx, ← hs]; simp
  have x2 : x.cell? ⟨s + 1, 0, none⟩ = some (.slice qo qn qc) := by rw [← hx, ← hs]; simp
  have hxs : x.heap.size = s + 2 := by rw [← hx, ← hs]; simp
  have HSF : Hid (∀ u, Below x.heap.size x u → u.cell? ⟨s, 0, none⟩ = some (.pointer (some ⟨a, 0, none⟩)) ∧ u.cell? ⟨s + 1, 0, none⟩ = some (.slice qo qn qc) ∧ u.cell? ⟨a, 2, none⟩ = some (.slice po pn pc)) := hidden fun u hu => ⟨(hu.cell (p := ⟨s, 0, none⟩) (by simp only; omega)).trans x1, (hu.cell (p := ⟨s + 1, 0, none⟩) (by simp only; omega)).trans x2, (show QR u a k n (.slice po pn pc) vb vs ws from box_on (box_on h hbx) hu).cells.2.2.1⟩
  have HBX := hidden hbx
  have HB := hidden hb
  have HR := hidden hr
  have HQ := hidden (hq.on (Nat.le_refl _) hbx)
  have HX12 := hidden (And.intro x1 x2)
  clear h hP hq hcut hb hr p2a p2b hbx
  go_enter Tryz.func77, Tryz.ntmps77
  go_wp2_with fail
  refine wp_region_held_drew (S := (fun u => u.cell? ⟨s, 0, none⟩ = some (.pointer (some ⟨a, 0, none⟩)) ∧ u.cell? ⟨s + 1, 0, none⟩ = some (.slice qo qn qc) ∧ u.cell? ⟨a, 2, none⟩ = some (.slice po pn pc))) (by kernel_rfl) (HSF.out _ (Below.refl _ _).drew) (fun hHeld => ?_)
  refine wpAnyH_take (i := 0) (v := ?_) rfl (by kernel_rfl) (by kernel_rfl) (by kernel_rfl) (fun _ _ _ h => h) (Or.inl ⟨by rfl, ?_⟩) (by assumption) ?_
  rotate_left
  · (intro w hSw; obtain ⟨s0, s1, s2⟩ := hSw; go_simp; try (with_reducible rfl))
  try simp only [Act.put, List.getElem_toArray, List.getElem_cons_zero, List.setIfInBounds_toArray, List.set_cons_zero, List.set_cons_succ]
  refine wpAnyH_take (i := 1) (v := ?_) rfl (by kernel_rfl) (by kernel_rfl) (by kernel_rfl) (fun _ _ _ h => h) (Or.inl ⟨by rfl, ?_⟩) (by assumption) ?_
  rotate_left
  · (intro w hSw; obtain ⟨s0, s1, s2⟩ := hSw; go_simp; try (with_reducible rfl))
  try simp only [Act.put, List.getElem_toArray, List.getElem_cons_succ, List.getElem_cons_zero, List.setIfInBounds_toArray, List.set_cons_zero, List.set_cons_succ]
  refine wpAnyH_take (i := 2) (v := ?_) rfl (by kernel_rfl) (by kernel_rfl) (by kernel_rfl) (fun _ _ _ h => h) (Or.inl ⟨by rfl, ?_⟩) (by assumption) ?_
  rotate_left
  · (intro w hSw; obtain ⟨s0, s1, s2⟩ := hSw; go_simp; try (with_reducible rfl))
  try simp only [Act.put, List.getElem_toArray, List.getElem_cons_succ, List.getElem_cons_zero, List.setIfInBounds_toArray, List.set_cons_zero, List.set_cons_succ]
  refine wpAnyH_take (i := 3) (v := ?_) rfl (by kernel_rfl) (by kernel_rfl) (by kernel_rfl) (fun _ _ _ h => h) (Or.inl ⟨by rfl, ?_⟩) (by assumption) ?_
  rotate_left
  · (intro w hSw; obtain ⟨s0, s1, s2⟩ := hSw; go_simp; try (with_reducible rfl))
  try simp only [Act.put, List.getElem_toArray, List.getElem_cons_succ, List.getElem_cons_zero, List.setIfInBounds_toArray, List.set_cons_zero, List.set_cons_succ]
  refine wpAnyH_take (i := 4) (v := ?_) rfl (by kernel_rfl) (by kernel_rfl) (by kernel_rfl) (fun _ _ _ h => h) (Or.inl ⟨by rfl, ?_⟩) (by assumption) ?_
  rotate_left
  · (intro w hSw; obtain ⟨s0, s1, s2⟩ := hSw; go_simp; try (with_reducible rfl))
  try simp only [Act.put, List.getElem_toArray, List.getElem_cons_succ, List.getElem_cons_zero, List.setIfInBounds_toArray, List.set_cons_zero, List.set_cons_succ]
  refine wpAnyH_ready (rs := [5, 9, 10]) (by kernel_rfl) (by simp) ?_
  refine AllReadyH.cons rfl (fun K hK => ?_) (AllReadyH.cons rfl (fun K hK => ?_) (AllReadyH.cons rfl (fun K hK => ?_) AllReadyH.nil))
  · go_simp
    go_at_call 127
    refine same_call (HCUT.out _ (by repeat (first | exact Below.refl _ _ | apply Below.drew | apply below_drewN | refine bl_al ?_ (Nat.le_refl _) _ | refine Below.setCell ?_ (by simp; try omega) _))) ?_
    dsimp only
    refine hK.out _ _ (HSF.out _ (by repeat (first | exact Below.refl _ _ | apply Below.drew | apply below_drewN | refine bl_al ?_ (Nat.le_refl _) _ | refine Below.setCell ?_ (by simp; try omega) _))) (fun hHeld => ?_)
    clear hK K
    try simp only [Act.put, List.getElem_toArray, List.getElem_cons_succ, List.getElem_cons_zero, List.setIfInBounds_toArray, List.set_cons_zero, List.set_cons_succ]
    refine wpAnyH_take (i := 6) (v := ?_) rfl (by kernel_rfl) (by kernel_rfl) (by kernel_rfl) (fun _ _ _ h => h) (Or.inl ⟨by rfl, ?_⟩) (by assumption) ?_
    rotate_left
    · (intro w hSw; obtain ⟨s0, s1, s2⟩ := hSw; go_simp; try (with_reducible rfl))
    try simp only [Act.put, List.getElem_toArray, List.getElem_cons_succ, List.getElem_cons_zero, List.setIfInBounds_toArray, List.set_cons_zero, List.set_cons_succ]
    refine wpAnyH_take (i := 7) (v := ?_) rfl (by kernel_rfl) (by kernel_rfl) (by kernel_rfl) (fun _ _ _ h => h) (Or.inl ⟨by rfl, ?_⟩) (by assumption) ?_
    rotate_left
    · (intro w hSw; obtain ⟨s0, s1, s2⟩ := hSw; go_simp; try (with_reducible rfl))
    try simp only [Act.put, List.getElem_toArray, List.getElem_cons_succ, List.getElem_cons_zero, List.setIfInBounds_toArray, List.set_cons_zero, List.set_cons_succ]
    refine wpAnyH_take (i := 8) (v := ?_) rfl (by kernel_rfl) (by kernel_rfl) (by kernel_rfl) (fun _ _ _ h => h) (Or.inl ⟨by rfl, ?_⟩) (by assumption) ?_
    rotate_left
    · (intro w hSw; obtain ⟨s0, s1, s2⟩ := hSw; go_simp; try (with_reducible rfl))
    try simp only [Act.put, List.getElem_toArray, List.getElem_cons_succ, List.getElem_cons_zero, List.setIfInBounds_toArray, List.set_cons_zero, List.set_cons_succ]
    refine wpAnyH_ready (rs := [9, 10]) (by kernel_rfl) (by simp) ?_
    refine AllReadyH.cons rfl (fun K hK => ?_) (AllReadyH.cons rfl (fun K hK => ?_) AllReadyH.nil)
    · go_simp
      refine hK.out _ _ (HSF.out _ (by repeat (first | exact Below.refl _ _ | apply Below.drew | apply below_drewN | refine bl_al ?_ (Nat.le_refl _) _ | refine Below.setCell ?_ (by simp; try omega) _))) (fun hHeld => ?_)
      clear hK K
      try simp only [Act.put, List.getElem_toArray, List.getElem_cons_succ, List.getElem_cons_zero, List.setIfInBounds_toArray, List.set_cons_zero, List.set_cons_succ]
      refine wpAnyH_ready (rs := [10]) (by kernel_rfl) (by simp) ?_
      refine AllReadyH.cons rfl (fun K hK => ?_) AllReadyH.nil
      · go_simp
        refine hK.out _ _ (HSF.out _ (by repeat (first | exact Below.refl _ _ | apply Below.drew | apply below_drewN | refine bl_al ?_ (Nat.le_refl _) _ | refine Below.setCell ?_ (by simp; try omega) _))) (fun hHeld => ?_)
        clear hK K
        try simp only [Act.put, List.getElem_toArray, List.getElem_cons_succ, List.getElem_cons_zero, List.setIfInBounds_toArray, List.set_cons_zero, List.set_cons_succ]
        refine wpAnyH_ready (rs := [11]) (by kernel_rfl) (by simp) ?_
        refine AllReadyH.cons rfl (fun K hK => ?_) AllReadyH.nil
        go_simp
        refine hK.out _ _ (HSF.out _ (by repeat (first | exact Below.refl _ _ | apply Below.drew | apply below_drewN | refine bl_al ?_ (Nat.le_refl _) _ | refine Below.setCell ?_ (by simp; try omega) _))) (fun hHeld => ?_)
        clear hK K
        try simp only [Act.put, List.getElem_toArray, List.getElem_cons_succ, List.getElem_cons_zero, List.setIfInBounds_toArray, List.set_cons_zero, List.set_cons_succ]
        refine wpAnyH_ready (rs := [12]) (by kernel_rfl) (by simp) ?_
        refine AllReadyH.cons rfl (fun K hK => ?_) AllReadyH.nil
        go_simp
        refine hK.out _ _ (HSF.out _ (by repeat (first | exact Below.refl _ _ | apply Below.drew | apply below_drewN | refine bl_al ?_ (Nat.le_refl _) _ | refine Below.setCell ?_ (by simp; try omega) _))) (fun hHeld => ?_)
        clear hK K
        try simp only [Act.put, List.getElem_toArray, List.getElem_cons_succ, List.getElem_cons_zero, List.setIfInBounds_toArray, List.set_cons_zero, List.set_cons_succ]
        refine wpAnyH_done (by kernel_rfl) ?_ _
        go_wp2
        go_ret
        exact AgTo.of HBX.out HB.out HQ.out HR.out hxs HX12.out (by repeat (first | exact Below.refl _ _ | apply Below.drew | apply below_drewN | refine bl_al ?_ (Nat.le_refl _) _ | refine Below.setCell ?_ (by simp; try omega) _)) (by rw [← hxs]; simp) (by rw [← hxs]; simp) (by simp; try omega) (by simp; try omega)
    · go_simp
      refine hK.out _ _ (HSF.out _ (by repeat (first | exact Below.refl _ _ | apply Below.drew | apply below_drewN | refine bl_al ?_ (Nat.le_refl _) _ | refine Below.setCell ?_ (by simp; try omega) _))) (fun hHeld => ?_)
      clear hK K
      try simp only [Act.put, List.getElem_toArray, List.getElem_cons_succ, List.getElem_cons_zero, List.setIfInBounds_toArray, List.set_cons_zero, List.set_cons_succ]
      refine wpAnyH_ready (rs := [9]) (by kernel_rfl) (by simp) ?_
      refine AllReadyH.cons rfl (fun K hK => ?_) AllReadyH.nil
      · go_simp
        refine hK.out _ _ (HSF.out _ (by repeat (first | exact Below.refl _ _ | apply Below.drew | apply below_drewN | refine bl_al ?_ (Nat.le_refl _) _ | refine Below.setCell ?_ (by simp; try omega) _))) (fun hHeld => ?_)
        clear hK K
        try simp only [Act.put, List.getElem_toArray, List.getElem_cons_succ, List.getElem_cons_zero, List.setIfInBounds_toArray, List.set_cons_zero, List.set_cons_succ]
        refine wpAnyH_ready (rs := [11]) (by kernel_rfl) (by simp) ?_
        refine AllReadyH.cons rfl (fun K hK => ?_) AllReadyH.nil
        go_simp
        refine hK.out _ _ (HSF.out _ (by repeat (first | exact Below.refl _ _ | apply Below.drew | apply below_drewN | refine bl_al ?_ (Nat.le_refl _) _ | refine Below.setCell ?_ (by simp; try omega) _))) (fun hHeld => ?_)
        clear hK K
        try simp only [Act.put, List.getElem_toArray, List.getElem_cons_succ, List.getElem_cons_zero, List.setIfInBounds_toArray, List.set_cons_zero, List.set_cons_succ]
        refine wpAnyH_ready (rs := [12]) (by kernel_rfl) (by simp) ?_
        refine AllReadyH.cons rfl (fun K hK => ?_) AllReadyH.nil
        go_simp
        refine hK.out _ _ (HSF.out _ (by repeat (first | exact Below.refl _ _ | apply Below.drew | apply below_drewN | refine bl_al ?_ (Nat.le_refl _) _ | refine Below.setCell ?_ (by simp; try omega) _))) (fun hHeld => ?_)
        clear hK K
        try simp only [Act.put, List.getElem_toArray, List.getElem_cons_succ, List.getElem_cons_zero, List.setIfInBounds_toArray, List.set_cons_zero, List.set_cons_succ]
        refine wpAnyH_done (by kernel_rfl) ?_ _
        go_wp2
        go_ret
        exact AgTo.of HBX.out HB.out HQ.out HR.out hxs HX12.out (by repeat (first | exact Below.refl _ _ | apply Below.drew | apply below_drewN | refine bl_al ?_ (Nat.le_refl _) _ | refine Below.setCell ?_ (by simp; try omega) _)) (by rw [← hxs]; simp) (by rw [← hxs]; simp) (by simp; try omega) (by simp; try omega)
  · go_simp
    refine hK.out _ _ (HSF.out _ (by repeat (first | exact Below.refl _ _ | apply Below.drew | apply below_drewN | refine bl_al ?_ (Nat.le_refl _) _ | refine Below.setCell ?_ (by simp; try omega) _))) (fun hHeld => ?_)
    clear hK K
    try simp only [Act.put, List.getElem_toArray, List.getElem_cons_succ, List.getElem_cons_zero, List.setIfInBounds_toArray, List.set_cons_zero, List.set_cons_succ]
    refine wpAnyH_ready (rs := [5, 10]) (by kernel_rfl) (by simp) ?_
    refine AllReadyH.cons rfl (fun K hK => ?_) (AllReadyH.cons rfl (fun K hK => ?_) AllReadyH.nil)
    · go_simp
      go_at_call 127
      refine same_call (HCUT.out _ (by repeat (first | exact Below.refl _ _ | apply Below.drew | apply below_drewN | refine bl_al ?_ (Nat.le_refl _) _ | refine Below.setCell ?_ (by simp; try omega) _))) ?_
      dsimp only
      refine hK.out _ _ (HSF.out _ (by repeat (first | exact Below.refl _ _ | apply Below.drew | apply below_drewN | refine bl_al ?_ (Nat.le_refl _) _ | refine Below.setCell ?_ (by simp; try omega) _))) (fun hHeld => ?_)
      clear hK K
      try simp only [Act.put, List.getElem_toArray, List.getElem_cons_succ, List.getElem_cons_zero, List.setIfInBounds_toArray, List.set_cons_zero, List.set_cons_succ]
      refine wpAnyH_take (i := 6) (v := ?_) rfl (by kernel_rfl) (by kernel_rfl) (by kernel_rfl) (fun _ _ _ h => h) (Or.inl ⟨by rfl, ?_⟩) (by assumption) ?_
      rotate_left
      · (intro w hSw; obtain ⟨s0, s1, s2⟩ := hSw; go_simp; try (with_reducible rfl))
      try simp only [Act.put, List.getElem_toArray, List.getElem_cons_succ, List.getElem_cons_zero, List.setIfInBounds_toArray, List.set_cons_zero, List.set_cons_succ]
      refine wpAnyH_take (i := 7) (v := ?_) rfl (by kernel_rfl) (by kernel_rfl) (by kernel_rfl) (fun _ _ _ h => h) (Or.inl ⟨by rfl, ?_⟩) (by assumption) ?_
      rotate_left
      · (intro w hSw; obtain ⟨s0, s1, s2⟩ := hSw; go_simp; try (with_reducible rfl))
      try simp only [Act.put, List.getElem_toArray, List.getElem_cons_succ, List.getElem_cons_zero, List.setIfInBounds_toArray, List.set_cons_zero, List.set_cons_succ]
      refine wpAnyH_take (i := 8) (v := ?_) rfl (by kernel_rfl) (by kernel_rfl) (by kernel_rfl) (fun _ _ _ h => h) (Or.inl ⟨by rfl, ?_⟩) (by assumption) ?_
      rotate_left
      · (intro w hSw; obtain ⟨s0, s1, s2⟩ := hSw; go_simp; try (with_reducible rfl))
      try simp only [Act.put, List.getElem_toArray, List.getElem_cons_succ, List.getElem_cons_zero, List.setIfInBounds_toArray, List.set_cons_zero, List.set_cons_succ]
      refine wpAnyH_ready (rs := [10]) (by kernel_rfl) (by simp) ?_
      refine AllReadyH.cons rfl (fun K hK => ?_) AllReadyH.nil
      · go_simp
        refine hK.out _ _ (HSF.out _ (by repeat (first | exact Below.refl _ _ | apply Below.drew | apply below_drewN | refine bl_al ?_ (Nat.le_refl _) _ | refine Below.setCell ?_ (by simp; try omega) _))) (fun hHeld => ?_)
        clear hK K
        try simp only [Act.put, List.getElem_toArray, List.getElem_cons_succ, List.getElem_cons_zero, List.setIfInBounds_toArray, List.set_cons_zero, List.set_cons_succ]
        refine wpAnyH_ready (rs := [11]) (by kernel_rfl) (by simp) ?_
        refine AllReadyH.cons rfl (fun K hK => ?_) AllReadyH.nil
        go_simp
        refine hK.out _ _ (HSF.out _ (by repeat (first | exact Below.refl _ _ | apply Below.drew | apply below_drewN | refine bl_al ?_ (Nat.le_refl _) _ | refine Below.setCell ?_ (by simp; try omega) _))) (fun hHeld => ?_)
        clear hK K
        try simp only [Act.put, List.getElem_toArray, List.getElem_cons_succ, List.getElem_cons_zero, List.setIfInBounds_toArray, List.set_cons_zero, List.set_cons_succ]
        refine wpAnyH_ready (rs := [12]) (by kernel_rfl) (by simp) ?_
        refine AllReadyH.cons rfl (fun K hK => ?_) AllReadyH.nil
        go_simp
        refine hK.out _ _ (HSF.out _ (by repeat (first | exact Below.refl _ _ | apply Below.drew | apply below_drewN | refine bl_al ?_ (Nat.le_refl _) _ | refine Below.setCell ?_ (by simp; try omega) _))) (fun hHeld => ?_)
        clear hK K
        try simp only [Act.put, List.getElem_toArray, List.getElem_cons_succ, List.getElem_cons_zero, List.setIfInBounds_toArray, List.set_cons_zero, List.set_cons_succ]
        refine wpAnyH_done (by kernel_rfl) ?_ _
        go_wp2
        go_ret
        exact AgTo.of HBX.out HB.out HQ.out HR.out hxs HX12.out (by repeat (first | exact Below.refl _ _ | apply Below.drew | apply below_drewN | refine bl_al ?_ (Nat.le_refl _) _ | refine Below.setCell ?_ (by simp; try omega) _)) (by rw [← hxs]; simp) (by rw [← hxs]; simp) (by simp; try omega) (by simp; try omega)
    · go_simp
      refine hK.out _ _ (HSF.out _ (by repeat (first | exact Below.refl _ _ | apply Below.drew | apply below_drewN | refine bl_al ?_ (Nat.le_refl _) _ | refine Below.setCell ?_ (by simp; try omega) _))) (fun hHeld => ?_)
      clear hK K
      try simp only [Act.put, List.getElem_toArray, List.getElem_cons_succ, List.getElem_cons_zero, List.setIfInBounds_toArray, List.set_cons_zero, List.set_cons_succ]
      refine wpAnyH_ready (rs := [5]) (by kernel_rfl) (by simp) ?_
      refine AllReadyH.cons rfl (fun K hK => ?_) AllReadyH.nil
      · go_simp
        go_at_call 127
        refine same_call (HCUT.out _ (by repeat (first | exact Below.refl _ _ | apply Below.drew | apply below_drewN | refine bl_al ?_ (Nat.le_refl _) _ | refine Below.setCell ?_ (by simp; try omega) _))) ?_
        dsimp only
        refine hK.out _ _ (HSF.out _ (by repeat (first | exact Below.refl _ _ | apply Below.drew | apply below_drewN | refine bl_al ?_ (Nat.le_refl _) _ | refine Below.setCell ?_ (by simp; try omega) _))) (fun hHeld => ?_)
        clear hK K
        try simp only [Act.put, List.getElem_toArray, List.getElem_cons_succ, List.getElem_cons_zero, List.setIfInBounds_toArray, List.set_cons_zero, List.set_cons_succ]
        refine wpAnyH_take (i := 6) (v := ?_) rfl (by kernel_rfl) (by kernel_rfl) (by kernel_rfl) (fun _ _ _ h => h) (Or.inl ⟨by rfl, ?_⟩) (by assumption) ?_
        rotate_left
        · (intro w hSw; obtain ⟨s0, s1, s2⟩ := hSw; go_simp; try (with_reducible rfl))
        try simp only [Act.put, List.getElem_toArray, List.getElem_cons_succ, List.getElem_cons_zero, List.setIfInBounds_toArray, List.set_cons_zero, List.set_cons_succ]
        refine wpAnyH_take (i := 7) (v := ?_) rfl (by kernel_rfl) (by kernel_rfl) (by kernel_rfl) (fun _ _ _ h => h) (Or.inl ⟨by rfl, ?_⟩) (by assumption) ?_
        rotate_left
        · (intro w hSw; obtain ⟨s0, s1, s2⟩ := hSw; go_simp; try (with_reducible rfl))
        try simp only [Act.put, List.getElem_toArray, List.getElem_cons_succ, List.getElem_cons_zero, List.setIfInBounds_toArray, List.set_cons_zero, List.set_cons_succ]
        refine wpAnyH_take (i := 8) (v := ?_) rfl (by kernel_rfl) (by kernel_rfl) (by kernel_rfl) (fun _ _ _ h => h) (Or.inl ⟨by rfl, ?_⟩) (by assumption) ?_
        rotate_left
        · (intro w hSw; obtain ⟨s0, s1, s2⟩ := hSw; go_simp; try (with_reducible rfl))
        try simp only [Act.put, List.getElem_toArray, List.getElem_cons_succ, List.getElem_cons_zero, List.setIfInBounds_toArray, List.set_cons_zero, List.set_cons_succ]
        refine wpAnyH_ready (rs := [11]) (by kernel_rfl) (by simp) ?_
        refine AllReadyH.cons rfl (fun K hK => ?_) AllReadyH.nil
        go_simp
        refine hK.out _ _ (HSF.out _ (by repeat (first | exact Below.refl _ _ | apply Below.drew | apply below_drewN | refine bl_al ?_ (Nat.le_refl _) _ | refine Below.setCell ?_ (by simp; try omega) _))) (fun hHeld => ?_)
        clear hK K
        try simp only [Act.put, List.getElem_toArray, List.getElem_cons_succ, List.getElem_cons_zero, List.setIfInBounds_toArray, List.set_cons_zero, List.set_cons_succ]
        refine wpAnyH_ready (rs := [12]) (by kernel_rfl) (by simp) ?_
        refine AllReadyH.cons rfl (fun K hK => ?_) AllReadyH.nil
        go_simp
        refine hK.out _ _ (HSF.out _ (by repeat (first | exact Below.refl _ _ | apply Below.drew | apply below_drewN | refine bl_al ?_ (Nat.le_refl _) _ | refine Below.setCell ?_ (by simp; try omega) _))) (fun hHeld => ?_)
        clear hK K
        try simp only [Act.put, List.getElem_toArray, List.getElem_cons_succ, List.getElem_cons_zero, List.setIfInBounds_toArray, List.set_cons_zero, List.set_cons_succ]
        refine wpAnyH_done (by kernel_rfl) ?_ _
        go_wp2
        go_ret
        exact AgTo.of HBX.out HB.out HQ.out HR.out hxs HX12.out (by repeat (first | exact Below.refl _ _ | apply Below.drew | apply below_drewN | refine bl_al ?_ (Nat.le_refl _) _ | refine Below.setCell ?_ (by simp; try omega) _)) (by rw [← hxs]; simp) (by rw [← hxs]; simp) (by simp; try omega) (by simp; try omega)
  · go_simp
    refine hK.out _ _ (HSF.out _ (by repeat (first | exact Below.refl _ _ | apply Below.drew | apply below_drewN | refine bl_al ?_ (Nat.le_refl _) _ | refine Below.setCell ?_ (by simp; try omega) _))) (fun hHeld => ?_)
    clear hK K
    try simp only [Act.put, List.getElem_toArray, List.getElem_cons_succ, List.getElem_cons_zero, List.setIfInBounds_toArray, List.set_cons_zero, List.set_cons_succ]
    refine wpAnyH_ready (rs := [5, 9]) (by kernel_rfl) (by simp) ?_
    refine AllReadyH.cons rfl (fun K hK => ?_) (AllReadyH.cons rfl (fun K hK => ?_) AllReadyH.nil)
    · go_simp
      go_at_call 127
      refine same_call (HCUT.out _ (by repeat (first | exact Below.refl _ _ | apply Below.drew | apply below_drewN | refine bl_al ?_ (Nat.le_refl _) _ | refine Below.setCell ?_ (by simp; try omega) _))) ?_
      dsimp only
      refine hK.out _ _ (HSF.out _ (by repeat (first | exact Below.refl _ _ | apply Below.drew | apply below_drewN | refine bl_al ?_ (Nat.le_refl _) _ | refine Below.setCell ?_ (by simp; try omega) _))) (fun hHeld => ?_)
      clear hK K
      try simp only [Act.put, List.getElem_toArray, List.getElem_cons_succ, List.getElem_cons_zero, List.setIfInBounds_toArray, List.set_cons_zero, List.set_cons_succ]
      refine wpAnyH_take (i := 6) (v := ?_) rfl (by kernel_rfl) (by kernel_rfl) (by kernel_rfl) (fun _ _ _ h => h) (Or.inl ⟨by rfl, ?_⟩) (by assumption) ?_
      rotate_left
      · (intro w hSw; obtain ⟨s0, s1, s2⟩ := hSw; go_simp; try (with_reducible rfl))
      try simp only [Act.put, List.getElem_toArray, List.getElem_cons_succ, List.getElem_cons_zero, List.setIfInBounds_toArray, List.set_cons_zero, List.set_cons_succ]
      refine wpAnyH_take (i := 7) (v := ?_) rfl (by kernel_rfl) (by kernel_rfl) (by kernel_rfl) (fun _ _ _ h => h) (Or.inl ⟨by rfl, ?_⟩) (by assumption) ?_
      rotate_left
      · (intro w hSw; obtain ⟨s0, s1, s2⟩ := hSw; go_simp; try (with_reducible rfl))
      try simp only [Act.put, List.getElem_toArray, List.getElem_cons_succ, List.getElem_cons_zero, List.setIfInBounds_toArray, List.set_cons_zero, List.set_cons_succ]
      refine wpAnyH_take (i := 8) (v := ?_) rfl (by kernel_rfl) (by kernel_rfl) (by kernel_rfl) (fun _ _ _ h => h) (Or.inl ⟨by rfl, ?_⟩) (by assumption) ?_
      rotate_left
      · (intro w hSw; obtain ⟨s0, s1, s2⟩ := hSw; go_simp; try (with_reducible rfl))
      try simp only [Act.put, List.getElem_toArray, List.getElem_cons_succ, List.getElem_cons_zero, List.setIfInBounds_toArray, List.set_cons_zero, List.set_cons_succ]
      refine wpAnyH_ready (rs := [9]) (by kernel_rfl) (by simp) ?_
      refine AllReadyH.cons rfl (fun K hK => ?_) AllReadyH.nil
      · go_simp
        refine hK.out _ _ (HSF.out _ (by repeat (first | exact Below.refl _ _ | apply Below.drew | apply below_drewN | refine bl_al ?_ (Nat.le_refl _) _ | refine Below.setCell ?_ (by simp; try omega) _))) (fun hHeld => ?_)
        clear hK K
        try simp only [Act.put, List.getElem_toArray, List.getElem_cons_succ, List.getElem_cons_zero, List.setIfInBounds_toArray, List.set_cons_zero, List.set_cons_succ]
        refine wpAnyH_ready (rs := [11]) (by kernel_rfl) (by simp) ?_
        refine AllReadyH.cons rfl (fun K hK => ?_) AllReadyH.nil
        go_simp
        refine hK.out _ _ (HSF.out _ (by repeat (first | exact Below.refl _ _ | apply Below.drew | apply below_drewN | refine bl_al ?_ (Nat.le_refl _) _ | refine Below.setCell ?_ (by simp; try omega) _))) (fun hHeld => ?_)
        clear hK K
        try simp only [Act.put, List.getElem_toArray, List.getElem_cons_succ, List.getElem_cons_zero, List.setIfInBounds_toArray, List.set_cons_zero, List.set_cons_succ]
        refine wpAnyH_ready (rs := [12]) (by kernel_rfl) (by simp) ?_
        refine AllReadyH.cons rfl (fun K hK => ?_) AllReadyH.nil
        go_simp
        refine hK.out _ _ (HSF.out _ (by repeat (first | exact Below.refl _ _ | apply Below.drew | apply below_drewN | refine bl_al ?_ (Nat.le_refl _) _ | refine Below.setCell ?_ (by simp; try omega) _))) (fun hHeld => ?_)
        clear hK K
        try simp only [Act.put, List.getElem_toArray, List.getElem_cons_succ, List.getElem_cons_zero, List.setIfInBounds_toArray, List.set_cons_zero, List.set_cons_succ]
        refine wpAnyH_done (by kernel_rfl) ?_ _
        go_wp2
        go_ret
        exact AgTo.of HBX.out HB.out HQ.out HR.out hxs HX12.out (by repeat (first | exact Below.refl _ _ | apply Below.drew | apply below_drewN | refine bl_al ?_ (Nat.le_refl _) _ | refine Below.setCell ?_ (by simp; try omega) _)) (by rw [← hxs]; simp) (by rw [← hxs]; simp) (by simp; try omega) (by simp; try omega)
    · go_simp
      refine hK.out _ _ (HSF.out _ (by repeat (first | exact Below.refl _ _ | apply Below.drew | apply below_drewN | refine bl_al ?_ (Nat.le_refl _) _ | refine Below.setCell ?_ (by simp; try omega) _))) (fun hHeld => ?_)
      clear hK K
      try simp only [Act.put, List.getElem_toArray, List.getElem_cons_succ, List.getElem_cons_zero, List.setIfInBounds_toArray, List.set_cons_zero, List.set_cons_succ]
      refine wpAnyH_ready (rs := [5]) (by kernel_rfl) (by simp) ?_
      refine AllReadyH.cons rfl (fun K hK => ?_) AllReadyH.nil
      · go_simp
        go_at_call 127
        refine same_call (HCUT.out _ (by repeat (first | exact Below.refl _ _ | apply Below.drew | apply below_drewN | refine bl_al ?_ (Nat.le_refl _) _ | refine Below.setCell ?_ (by simp; try omega) _))) ?_
        dsimp only
        refine hK.out _ _ (HSF.out _ (by repeat (first | exact Below.refl _ _ | apply Below.drew | apply below_drewN | refine bl_al ?_ (Nat.le_refl _) _ | refine Below.setCell ?_ (by simp; try omega) _))) (fun hHeld => ?_)
        clear hK K
        try simp only [Act.put, List.getElem_toArray, List.getElem_cons_succ, List.getElem_cons_zero, List.setIfInBounds_toArray, List.set_cons_zero, List.set_cons_succ]
        refine wpAnyH_take (i := 6) (v := ?_) rfl (by kernel_rfl) (by kernel_rfl) (by kernel_rfl) (fun _ _ _ h => h) (Or.inl ⟨by rfl, ?_⟩) (by assumption) ?_
        rotate_left
        · (intro w hSw; obtain ⟨s0, s1, s2⟩ := hSw; go_simp; try (with_reducible rfl))
        try simp only [Act.put, List.getElem_toArray, List.getElem_cons_succ, List.getElem_cons_zero, List.setIfInBounds_toArray, List.set_cons_zero, List.set_cons_succ]
        refine wpAnyH_take (i := 7) (v := ?_) rfl (by kernel_rfl) (by kernel_rfl) (by kernel_rfl) (fun _ _ _ h => h) (Or.inl ⟨by rfl, ?_⟩) (by assumption) ?_
        rotate_left
        · (intro w hSw; obtain ⟨s0, s1, s2⟩ := hSw; go_simp; try (with_reducible rfl))
        try simp only [Act.put, List.getElem_toArray, List.getElem_cons_succ, List.getElem_cons_zero, List.setIfInBounds_toArray, List.set_cons_zero, List.set_cons_succ]
        refine wpAnyH_take (i := 8) (v := ?_) rfl (by kernel_rfl) (by kernel_rfl) (by kernel_rfl) (fun _ _ _ h => h) (Or.inl ⟨by rfl, ?_⟩) (by assumption) ?_
        rotate_left
        · (intro w hSw; obtain ⟨s0, s1, s2⟩ := hSw; go_simp; try (with_reducible rfl))
        try simp only [Act.put, List.getElem_toArray, List.getElem_cons_succ, List.getElem_cons_zero, List.setIfInBounds_toArray, List.set_cons_zero, List.set_cons_succ]
        refine wpAnyH_ready (rs := [11]) (by kernel_rfl) (by simp) ?_
        refine AllReadyH.cons rfl (fun K hK => ?_) AllReadyH.nil
        go_simp
        refine hK.out _ _ (HSF.out _ (by repeat (first | exact Below.refl _ _ | apply Below.drew | apply below_drewN | refine bl_al ?_ (Nat.le_refl _) _ | refine Below.setCell ?_ (by simp; try omega) _))) (fun hHeld => ?_)
        clear hK K
        try simp only [Act.put, List.getElem_toArray, List.getElem_cons_succ, List.getElem_cons_zero, List.setIfInBounds_toArray, List.set_cons_zero, List.set_cons_succ]
        refine wpAnyH_ready (rs := [12]) (by kernel_rfl) (by simp) ?_
        refine AllReadyH.cons rfl (fun K hK => ?_) AllReadyH.nil
        go_simp
        refine hK.out _ _ (HSF.out _ (by repeat (first | exact Below.refl _ _ | apply Below.drew | apply below_drewN | refine bl_al ?_ (Nat.le_refl _) _ | refine Below.setCell ?_ (by simp; try omega) _))) (fun hHeld => ?_)
        clear hK K
        try simp only [Act.put, List.getElem_toArray, List.getElem_cons_succ, List.getElem_cons_zero, List.setIfInBounds_toArray, List.set_cons_zero, List.set_cons_succ]
        refine wpAnyH_done (by kernel_rfl) ?_ _
        go_wp2
        go_ret
        exact AgTo.of HBX.out HB.out HQ.out HR.out hxs HX12.out (by repeat (first | exact Below.refl _ _ | apply Below.drew | apply below_drewN | refine bl_al ?_ (Nat.le_refl _) _ | refine Below.setCell ?_ (by simp; try omega) _)) (by rw [← hxs]; simp) (by rw [← hxs]; simp) (by simp; try omega) (by simp; try omega)
end Go.Proofs.YtiemnbanehdmnaaGreatDoor

/- packed: among, Find. -/

namespace Go.Proofs.YtiemnbanehdmnaaGreatDoor
open Go.RowKit

/-- r cells stand ahead of the key. -/
structure Fnd (cs : List Cl) (q : List Int) (r : Nat) : Prop where
  le : r ≤ cs.length
  lo : ∀ i c, i < r → cs[i]? = some c → kl c.key q
  hi : ∀ i c, r ≤ i → cs[i]? = some c → ¬ kl c.key q
/-- What Find comes to. -/
def FindTo (cs : List Cl) (q : List Int) (w : World) (e : Ending) (w' : World) : Prop :=
  ∃ r : Nat, ∃ is : Bool, e = .returned (.tuple #[.int .i64 (r : Int), .bool is]) ∧ Hid (Below w.heap.size w w') ∧ Hid (Fnd cs q r ∧ (is = true ↔ ∃ c, cs[r]? = some c ∧ c.key = q))
set_option maxRecDepth 100000 in
theorem rs_at {cs : List Cl} (h : Rs cs) {i j : Nat} {c d : Cl} (hij : i < j) (hc : cs[i]? = some c) (hd : cs[j]? = some d) : kl c.key d.key := by
  unfold Rs at h
  rw [List.pairwise_iff_getElem] at h
  obtain ⟨h1, e1⟩ := List.getElem?_eq_some_iff.1 hc
  obtain ⟨h2, e2⟩ := List.getElem?_eq_some_iff.1 hd
  have := h i j h1 h2 hij
  rwa [e1, e2] at this
/-- All that the function which searches holds. -/
structure Am (w : World) (o1 l1 : Nat) (low : Nat) (F : Value) : Prop where
  c1 : w.cell? ⟨o1, 0, none⟩ = some F
  c2 : w.cell? ⟨l1, 0, none⟩ = some (.int .i64 (low : Int))
  h1 : o1 < w.heap.size
  h2 : l1 < w.heap.size
set_option maxRecDepth 100000 in
theorem Am.go {w v : World} {o1 l1 low : Nat} {F : Value} (h : Am w o1 l1 low F) (hb : Below w.heap.size w v) : Am v o1 l1 low F :=
  ⟨(hb.cell (p := ⟨o1, 0, none⟩) h.h1).trans h.c1, (hb.cell (p := ⟨l1, 0, none⟩) h.h2).trans h.c2, Nat.lt_of_lt_of_le h.h1 hb.size, Nat.lt_of_lt_of_le h.h2 hb.size⟩
set_option maxRecDepth 100000 in
theorem among1_any (w : World) (o1 l1 low j i b1 b2 b3 b4 : Nat) (o : Int) (hA : Am w o1 l1 low (.func (.func 128) #[] #[.pointer (some ⟨b1, 0, none⟩), .pointer (some ⟨b2, 0, none⟩), .pointer (some ⟨b3, 0, none⟩), .pointer (some ⟨b4, 0, none⟩)])) (hi : low + j = i) (hb : i ≤ 65536)
    (hF : Calls Tryz.prog 128 #[.int .i64 (i : Int), .pointer (some ⟨b1, 0, none⟩), .pointer (some ⟨b2, 0, none⟩), .pointer (some ⟨b3, 0, none⟩), .pointer (some ⟨b4, 0, none⟩)] w fun e w' => e = .returned (.int .i64 o) ∧ Hid (Below w.heap.size w w')) :
    Calls Tryz.prog 126 #[.int .i64 (j : Int), .pointer (some ⟨o1, 0, none⟩), .pointer (some ⟨l1, 0, none⟩)] w fun e w' => e = .returned (.bool (decide (0 ≤ o))) ∧ Hid (Below w.heap.size w w') := by
  obtain ⟨c1, c2, h1, h2⟩ := hA
  have HF := hidden hF
  have hiI : (low : Int) + (j : Int) = (i : Int) := by omega
  have bi : (i : Int) ≤ 65536 := by omega
  have bj : (j : Int) ≤ 65536 := by omega
  have bl : (low : Int) ≤ 65536 := by omega
  clear hF hi
  go_enter Tryz.func126, Tryz.ntmps126
  go_wp2_with (first | (go_at_call 128; refine HF.out.mono ?_; rintro e w2 ⟨rfl, HB2⟩))
  go_ret
  exact ⟨rfl, HB2⟩
set_option maxRecDepth 100000 in
set_option maxHeartbeats 2000000 in
/-- sort.Search, of a page's cells. -/
theorem search7_any (w : World) (o1 l1 low N : Nat) (cs : List Cl) (q : List Int) (hr : Rs cs) (hN : low + N ≤ cs.length) (hb : cs.length ≤ 65536) (b1 b2 b3 b4 : Nat)
    (hA : Am w o1 l1 low (.func (.func 128) #[] #[.pointer (some ⟨b1, 0, none⟩), .pointer (some ⟨b2, 0, none⟩), .pointer (some ⟨b3, 0, none⟩), .pointer (some ⟨b4, 0, none⟩)]))
    (hF : ∀ u (i : Nat) (c : Cl), Below w.heap.size w u → cs[i]? = some c → Calls Tryz.prog 128 #[.int .i64 (i : Int), .pointer (some ⟨b1, 0, none⟩), .pointer (some ⟨b2, 0, none⟩), .pointer (some ⟨b3, 0, none⟩), .pointer (some ⟨b4, 0, none⟩)] u fun e w' => e = .returned (.int .i64 (ordL c.key q)) ∧ Hid (Below u.heap.size u w'))
    (hlo : ∀ i c, i < low → cs[i]? = some c → kl c.key q) (hhi : ∀ i c, low + N ≤ i → cs[i]? = some c → ¬ kl c.key q) :
    Calls Tryz.prog 125 #[.int .i64 (N : Int), .func (.func 126) #[] #[.pointer (some ⟨o1, 0, none⟩), .pointer (some ⟨l1, 0, none⟩)]] w fun e w' => ∃ r : Nat, e = .returned (.int .i64 (r : Int)) ∧ Hid (Below w.heap.size w w') ∧ Hid (Fnd cs q (low + r) ∧ r ≤ N) := by
  have HA := hidden hA
  have HF := hidden hF
  have HRS := hidden hr
  have HLO := hidden hlo
  have HHI := hidden hhi
  clear hA hF hr hlo hhi
  go_enter Tryz.func125, Tryz.ntmps125
  go_wp2_with fail
  go_loopw [5, 6] (fun s5 s6 wr => ∃ lo hi : Nat, s5 = .int .i64 lo ∧ s6 = .int .i64 hi ∧ lo ≤ hi ∧ hi ≤ N ∧ Hid (Below w.heap.size w wr) ∧ Hid ((∀ i c, i < low + lo → cs[i]? = some c → kl c.key q) ∧ ∀ i c, low + hi ≤ i → cs[i]? = some c → ¬ kl c.key q)) (fun s5 s6 _ => (intOf s6).toNat - (intOf s5).toNat)
  case atStart => exact ⟨0, N, rfl, rfl, by omega, by omega, hidden (Below.refl _ _), hidden ⟨HLO.out, HHI.out⟩⟩
  case round =>
    obtain ⟨lo, hi, rfl, rfl, hlh, hhs, HB, HI⟩ := hrel
    have b1' : (lo : Int) ≤ 65536 := by omega
    have b2' : (hi : Int) ≤ 65536 := by omega
    by_cases hlt : lo < hi
    · have hltI : (lo : Int) < (hi : Int) := by omega
      obtain ⟨m, hm⟩ : ∃ m, (lo + hi) / 2 = m := ⟨_, rfl⟩
      have hmI : ((lo : Int) + (hi : Int)) / 2 = (m : Int) := by omega
      have m3 : (m : Int) ≤ 65536 := by omega
      have HML : Hid (lo ≤ m ∧ m < hi) := hidden (by omega)
      obtain ⟨c, hc⟩ : ∃ c, cs[low + m]? = some c := ⟨_, List.getElem?_eq_getElem (by omega)⟩
      have HC := hidden hc
      have h3 := ordL_three c.key q
      have HKL : Hid (kl c.key q ↔ ordL c.key q < 0) := hidden (by unfold kl; omega)
      have HFM := hidden (among1_any wr o1 l1 low m (low + m) b1 b2 b3 b4 (ordL c.key q) (HA.out.go HB.out) rfl (by omega) (HF.out wr (low + m) c HB.out hc))
      clear hm hc
      generalize ordL c.key q = o at *
      by_cases ho : o < 0
      · have d1 : decide (0 ≤ o) = false := decide_eq_false (by omega)
        rw [d1] at HFM
        clear h3
        go_wp2_with (first | (go_at_call 126; refine HFM.out.mono ?_; rintro e w2 ⟨rfl, HB2⟩))
        go_roundw
        case rel =>
          refine ⟨m + 1, hi, by go_num, rfl, by have := HML.out; omega, hhs, hidden (bl_go HB.out (Nat.le_refl _) HB2.out), hidden ⟨fun i d hi' hd => ?_, HI.out.2⟩⟩
          by_cases e : i = low + m
          · subst e
            rw [HC.out] at hd
            injection hd with hd
            subst hd
            exact HKL.out.2 ho
          · exact kl_trans _ _ _ (rs_at HRS.out (by omega) hd HC.out) (HKL.out.2 ho)
        case measure => have := HML.out; simp [intOf]; omega
      · have d1 : decide (0 ≤ o) = true := decide_eq_true (by omega)
        rw [d1] at HFM
        clear h3
        go_wp2_with (first | (go_at_call 126; refine HFM.out.mono ?_; rintro e w2 ⟨rfl, HB2⟩))
        go_roundw
        case rel =>
          refine ⟨lo, m, rfl, by go_num, by have := HML.out; omega, by have := HML.out; omega, hidden (bl_go HB.out (Nat.le_refl _) HB2.out), hidden ⟨HI.out.1, fun i d hi' hd hk => ?_⟩⟩
          by_cases e : i = low + m
          · subst e
            rw [HC.out] at hd
            injection hd with hd
            subst hd
            have := HKL.out.1 hk
            omega
          · have := HKL.out.1 (kl_trans _ _ _ (rs_at HRS.out (by omega) HC.out hd) hk)
            omega
        case measure => have := HML.out; simp [intOf]; omega
    · obtain rfl : hi = lo := by omega
      have hltI : ¬ (hi : Int) < (hi : Int) := by omega
      go_wp2
      go_ret
      exact ⟨hi, rfl, HB, hidden ⟨⟨by omega, HI.out.1, HI.out.2⟩, hhs⟩⟩
set_option maxRecDepth 100000 in
set_option maxHeartbeats 2000000 in
theorem among_any (w : World) (a : Nat) (k : Int) (n : Nat) (po : Option Addr) (pn pc : Nat) (bo : Option Addr) (bn bc : Nat) (so : Option Addr) (sn sc : Nat) (ws : Int) (P body : List Int) (st : List Nat) (cs : List Cl) (h : PgQ w a k n po pn pc bo bn bc so sn sc ws P body st) (hl : LayQ k P cs body st) (hr : Rs cs) (hbn : bn ≤ 1099511627776) (hsn : sn ≤ 65536) (low high : Nat) (hlh : low ≤ high) (hhs : high ≤ sn)
    (b1 b2 b3 b4 : Nat) (qo : Option Addr) (qn qc : Nat) (ro : Option Addr) (rn rc : Nat) (b : Bool) (q : List Int) (hA : Ag w a b1 b2 b3 b4 qo qn qc ro rn rc b P q) (hlo : ∀ i c, i < low → cs[i]? = some c → kl c.key q) (hhi : ∀ i c, high ≤ i → cs[i]? = some c → ¬ kl c.key q) :
    Calls Tryz.prog 76 #[.pointer (some ⟨a, 0, none⟩), .int .i64 (low : Int), .int .i64 (high : Int), .func (.func 128) #[] #[.pointer (some ⟨b1, 0, none⟩), .pointer (some ⟨b2, 0, none⟩), .pointer (some ⟨b3, 0, none⟩), .pointer (some ⟨b4, 0, none⟩)]] w fun e w' => FindTo cs q w e w' := by
  have hcs : cs.length = sn := by rw [← hl.len, h.starts.hlen]
  obtain ⟨N, hN⟩ : ∃ N, high - low = N := ⟨_, rfl⟩
  have hNI : (high : Int) - (low : Int) = (N : Int) := by omega
  obtain ⟨s, hs⟩ : ∃ s, w.heap.size = s := ⟨_, rfl⟩
  obtain ⟨x, hx⟩ : ∃ x, (w.alloc (.cells #[.int .i64 (low : Int)] 3)).alloc (.cells #[.func (.func 128) #[] #[.pointer (some ⟨b1, 0, none⟩), .pointer (some ⟨b2, 0, none⟩), .pointer (some ⟨b3, 0, none⟩), .pointer (some ⟨b4, 0, none⟩)]] 68) = x := ⟨_, rfl⟩
  have hbx : Below w.heap.size w x := by rw [← hx]; exact bl_al (bl_al (Below.refl _ _) (Nat.le_refl _) _) (Nat.le_refl _) _
  have hAm : Am x (s + 1) s low (.func (.func 128) #[] #[.pointer (some ⟨b1, 0, none⟩), .pointer (some ⟨b2, 0, none⟩), .pointer (some ⟨b3, 0, none⟩), .pointer (some ⟨b4, 0, none⟩)]) := by
    rw [← hx, ← hs]
    exact ⟨by simp, by simp, by simp, by simp; omega⟩
  have HF : Hid (∀ u (i : Nat) (c : Cl), Below x.heap.size x u → cs[i]? = some c → Calls Tryz.prog 128 #[.int .i64 (i : Int), .pointer (some ⟨b1, 0, none⟩), .pointer (some ⟨b2, 0, none⟩), .pointer (some ⟨b3, 0, none⟩), .pointer (some ⟨b4, 0, none⟩)] u fun e w' => e = .returned (.int .i64 (ordL c.key q)) ∧ Hid (Below u.heap.size u w')) := hidden fun u i c hu hc =>
    against1_any u a k n po pn pc bo bn bc so sn sc ws P body st cs (h.on (bl_go hbx (Nat.le_refl _) hu)) hl i c hc hbn b1 b2 b3 b4 qo qn qc ro rn rc b q (hA.go (bl_go hbx (Nat.le_refl _) hu))
  have HSR : Hid (∀ u, Below x.heap.size x u → Calls Tryz.prog 125 #[.int .i64 (N : Int), .func (.func 126) #[] #[.pointer (some ⟨s + 1, 0, none⟩), .pointer (some ⟨s, 0, none⟩)]] u fun e w' => ∃ r : Nat, e = .returned (.int .i64 (r : Int)) ∧ (w'.cell? ⟨s + 1, 0, none⟩ = some (.func (.func 128) #[] #[.pointer (some ⟨b1, 0, none⟩), .pointer (some ⟨b2, 0, none⟩), .pointer (some ⟨b3, 0, none⟩), .pointer (some ⟨b4, 0, none⟩)]) ∧ w'.cell? ⟨s, 0, none⟩ = some (.int .i64 (low : Int)) ∧ r ≤ N) ∧ Hid (Below x.heap.size x w') ∧ Hid (Fnd cs q (low + r))) := by
    refine hidden fun u hu => (search7_any u (s + 1) s low N cs q hr (by omega) (by omega) b1 b2 b3 b4 (hAm.go hu) (fun v i c hv hc => HF.out v i c (bl_go hu (Nat.le_refl _) hv) hc) hlo (fun i c hi => hhi i c (by omega))).mono ?_
    rintro e w' ⟨r, rfl, HB, HQ⟩
    have hb := bl_go hu (Nat.le_refl _) HB.out
    have h3 := hAm.go hb
    exact ⟨r, rfl, ⟨h3.c1, h3.c2, HQ.out.2⟩, hidden hb, hidden HQ.out.1⟩
  have HLN : Hid (∀ u, Below x.heap.size x u → Calls Tryz.prog 26 #[.pointer (some ⟨a, 0, none⟩)] u fun e w' => e = .returned (.int .i64 (sn : Int)) ∧ w' = u) := hidden fun u hu => qlen_any u a k n po pn pc bo bn bc so sn sc ws P body st (h.on (bl_go hbx (Nat.le_refl _) hu))
  have HBX := hidden hbx
  have HCS := hidden hcs
  obtain ⟨y1, y2, _, _⟩ := hAm
  have bl : (low : Int) ≤ 65536 := by omega
  have bh : (high : Int) ≤ 65536 := by omega
  have bN : (N : Int) ≤ 65536 := by omega
  have hwN : IntKind.i64.wrap (N : Int) = (N : Int) := by rw [IntKind.wrap_i64]; omega
  clear h hl hr hA hlo hhi hcs hbx
  go_enter Tryz.func76, Tryz.ntmps76
  go_wp2_with fail
  go_region_with (first | (go_at_call 125; refine (HSR.out _ (by first | exact Below.refl _ _ | exact (Below.refl _ _).drew | exact bl_dr (Below.refl _ _) _)).mono ?_; rintro e w2 ⟨r, rfl, ⟨z1, z2, hrN⟩, HB2, HQ2⟩))
  all_goals
    obtain ⟨i, hi⟩ : ∃ i, low + r = i := ⟨_, rfl⟩
    have hiI : (low : Int) + (r : Int) = (i : Int) := by omega
    have bi : (i : Int) ≤ 65536 := by omega
    have br : (r : Int) ≤ 65536 := by omega
    have hwi : IntKind.i64.wrap (i : Int) = (i : Int) := by rw [IntKind.wrap_i64]; omega
    have HFN : Hid (Fnd cs q i) := hidden (by rw [← hi]; exact HQ2.out)
    by_cases hlt : i < sn
    · have hltI : (i : Int) < (sn : Int) := by omega
      obtain ⟨c, hc⟩ : ∃ c, cs[i]? = some c := ⟨_, List.getElem?_eq_getElem (by rw [HCS.out]; exact hlt)⟩
      have HEQ : Hid (ordL c.key q = 0 ↔ ∃ d, cs[i]? = some d ∧ d.key = q) := hidden (by
        rw [hc]
        constructor
        · intro h
          exact ⟨c, rfl, ordL_eq _ _ h⟩
        · rintro ⟨d, hd, rfl⟩
          injection hd with hd
          subst hd
          exact ordL_self _)
      have HFM : Hid (∀ u, Below w2.heap.size w2 u → Calls Tryz.prog 128 #[.int .i64 (i : Int), .pointer (some ⟨b1, 0, none⟩), .pointer (some ⟨b2, 0, none⟩), .pointer (some ⟨b3, 0, none⟩), .pointer (some ⟨b4, 0, none⟩)] u fun e w' => e = .returned (.int .i64 (ordL c.key q)) ∧ Hid (Below u.heap.size u w')) := hidden fun u hu => HF.out u i c (bl_go HB2.out (Nat.le_refl _) hu) hc
      have HLN2 : Hid (∀ u, Below w2.heap.size w2 u → Calls Tryz.prog 26 #[.pointer (some ⟨a, 0, none⟩)] u fun e w' => e = .returned (.int .i64 (sn : Int)) ∧ w' = u) := hidden fun u hu => HLN.out u (bl_go HB2.out (Nat.le_refl _) hu)
      clear hc hi
      generalize ordL c.key q = o at *
      by_cases ho : o = 0
      · subst ho
        go_wp2_with (first | (go_at_call 26; refine same_call (HLN2.out _ (by first | exact Below.refl _ _ | exact (Below.refl _ _).drew | exact bl_dr (Below.refl _ _) _)) ?_) | (go_at_call 128; refine (HFM.out _ (by first | exact Below.refl _ _ | exact (Below.refl _ _).drew | exact bl_dr (Below.refl _ _) _)).mono ?_; rintro e w3 ⟨rfl, HB3⟩))
        go_ret2
        exact ⟨i, true, rfl, hidden (bl_go (bl_go HBX.out (Nat.le_refl _) HB2.out) (Nat.le_refl _) (by first | exact HB3.out | exact bl_go (Below.refl _ _).drew (Nat.le_refl _) HB3.out | exact bl_go (bl_dr (Below.refl _ _) _) (Nat.le_refl _) HB3.out)), hidden ⟨HFN.out, by simpa using HEQ.out⟩⟩
      · have d1 : (o == 0) = false := by simpa using ho
        go_wp2_with (first | (go_at_call 26; refine same_call (HLN2.out _ (by first | exact Below.refl _ _ | exact (Below.refl _ _).drew | exact bl_dr (Below.refl _ _) _)) ?_) | (go_at_call 128; refine (HFM.out _ (by first | exact Below.refl _ _ | exact (Below.refl _ _).drew | exact bl_dr (Below.refl _ _) _)).mono ?_; rintro e w3 ⟨rfl, HB3⟩))
        go_ret2
        exact ⟨i, false, rfl, hidden (bl_go (bl_go HBX.out (Nat.le_refl _) HB2.out) (Nat.le_refl _) (by first | exact HB3.out | exact bl_go (Below.refl _ _).drew (Nat.le_refl _) HB3.out | exact bl_go (bl_dr (Below.refl _ _) _) (Nat.le_refl _) HB3.out)), hidden ⟨HFN.out, by simpa using fun x h1 h2 => ho (HEQ.out.2 ⟨x, h1, h2⟩)⟩⟩
    · have hltI : ¬ (i : Int) < (sn : Int) := by omega
      have HNO : Hid (cs[i]? = none) := hidden (List.getElem?_eq_none (by rw [HCS.out]; omega))
      have HLN2 : Hid (∀ u, Below w2.heap.size w2 u → Calls Tryz.prog 26 #[.pointer (some ⟨a, 0, none⟩)] u fun e w' => e = .returned (.int .i64 (sn : Int)) ∧ w' = u) := hidden fun u hu => HLN.out u (bl_go HB2.out (Nat.le_refl _) hu)
      clear hi
      go_wp2_with (first | (go_at_call 26; refine same_call (HLN2.out _ (by first | exact Below.refl _ _ | exact (Below.refl _ _).drew | exact bl_dr (Below.refl _ _) _)) ?_))
      go_ret2
      exact ⟨i, false, rfl, hidden (bl_go (bl_go HBX.out (Nat.le_refl _) HB2.out) (Nat.le_refl _) (by first | exact Below.refl _ _ | exact (Below.refl _ _).drew | exact bl_dr (Below.refl _ _) _)), hidden ⟨HFN.out, by simp [HNO.out]⟩⟩

set_option maxRecDepth 100000 in
theorem findQ_any (w : World) (a : Nat) (k : Int) (n : Nat) (po : Option Addr) (pn pc : Nat) (bo : Option Addr) (bn bc : Nat) (so : Option Addr) (sn sc : Nat) (ws : Int) (P body : List Int) (st : List Nat) (cs : List Cl) (h : PgQ w a k n po pn pc bo bn bc so sn sc ws P body st) (hl : LayQ k P cs body st) (hr : Rs cs) (hbn : bn ≤ 1099511627776) (hsn : sn ≤ 65536) (qo : Option Addr) (qn qc : Nat) (q : List Int) (hq : Sl w qo qn qc q) :
    Calls Tryz.prog 34 #[.pointer (some ⟨a, 0, none⟩), .slice qo qn qc] w fun e w' => FindTo cs q w e w' := by
  have hcs : cs.length = sn := by rw [← hl.len, h.starts.hlen]
  have HLN := hidden (qlen_any w a k n po pn pc bo bn bc so sn sc ws P body st h)
  have HAG := hidden (against_any w a k n po pn pc _ _ ws P h.row h.pre qo qn qc q hq)
  have HAM : Hid (∀ u b1 b2 b3 b4 ro rn rc b, Hid (Ag u a b1 b2 b3 b4 qo qn qc ro rn rc b P q) → Hid (Below w.heap.size w u) → Calls Tryz.prog 76 #[.pointer (some ⟨a, 0, none⟩), .int .i64 0, .int .i64 (sn : Int), .func (.func 128) #[] #[.pointer (some ⟨b1, 0, none⟩), .pointer (some ⟨b2, 0, none⟩), .pointer (some ⟨b3, 0, none⟩), .pointer (some ⟨b4, 0, none⟩)]] u fun e w' => FindTo cs q u e w') := hidden fun u b1 b2 b3 b4 ro rn rc b hA hu =>
    among_any u a k n po pn pc bo bn bc so sn sc ws P body st cs (h.on hu.out) hl hr hbn hsn 0 sn (Nat.zero_le _) (Nat.le_refl _) b1 b2 b3 b4 qo qn qc ro rn rc b q hA.out (fun i c hi => by omega) (fun i c hi hc => by
      have := (List.getElem?_eq_some_iff.1 hc).1
      omega)
  clear h hl hr hq hcs
  go_enter Tryz.func34, Tryz.ntmps34
  go_wp2_with (first
    | (go_at_call 26; refine same_call HLN.out ?_)
    | (go_at_call 77; refine HAG.out.mono ?_; rintro e w1 ⟨b1, b2, b3, b4, ro, rn, rc, b, rfl, HA1, HB1⟩)
    | (go_at_call 76; refine (HAM.out _ _ _ _ _ _ _ _ _ HA1 HB1).mono ?_; rintro e w2 ⟨r, is, rfl, HB2, HQ2⟩))
  go_ret2
  exact ⟨r, is, rfl, hidden (bl_go HB1.out (Nat.le_refl _) HB2.out), HQ2⟩
end Go.Proofs.YtiemnbanehdmnaaGreatDoor
