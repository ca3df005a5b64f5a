import Derived.Test.YtofafbmpbkjhnaaGreatDoorJ30
namespace Go.Proofs.YtofafbmpbkjhnaaGreatDoor
set_option maxRecDepth 100000
set_option maxHeartbeats 2000000
open Go.RowKit
theorem zcx (ao bo : Option Addr) (n m c d : Nat) (la lb : List Int) (w : World) (ha : Sl w ao n c la) (hb : Sl w bo m d lb) :
  Calls Tryz.prog 293 #[.slice ao n c, .slice bo m d] w fun e w' => e = .returned (.bool (decide (la.take lb.length = lb))) ∧ w' = w := by
 have h1 := ha.hlen
 have h2 := hb.hlen
 have h3 := ha.hcap
 by_cases hle : m ≤ n
 ·have HE := zaa (equal7 ao bo m m c d (la.take m) lb w (ha.take m hle) hb)
  have hmI : (m : Int) ≤ (n : Int) := by omega
  have hmc : m ≤ c := by omega
  have hmcI : (m : Int) ≤ (c : Int) := by omega
  rw [h2]
  generalize decide (la.take m = lb) = bb at *
  clear ha hb
  go_enter Tryz.func293, Tryz.ntmps293
  go_wp2_with (go_at_call 151; refine zae HE.out ?_)
  go_ret
  exact ⟨rfl, rfl⟩
 ·have hmI : ¬ (m : Int) ≤ (n : Int) := by omega
  have hd : decide (la.take lb.length = lb) = false := decide_eq_false (by
   intro h
   have := congrArg List.length h
   rw [zJ] at this
   omega)
  rw [hd]
  clear ha hb
  go_enter Tryz.func293, Tryz.ntmps293
  go_wp2
  go_ret
  exact ⟨rfl, rfl⟩
theorem cut_row (ao bo : Option Addr) (n m c d : Nat) (la lb : List Int) (w : World) (ha : Sl w ao n c la) (hb : Sl w bo m d lb) : ∃ (ro : Option Addr) (rn rc : Nat) (b : Bool), b = decide (la.take lb.length = lb) ∧ Sl w ro rn rc (if b then la.drop lb.length else la) ∧
  ∀ u, Below w.heap.size w u → Calls Tryz.prog 288 #[.slice ao n c, .slice bo m d] u fun e w' => e = .returned (.tuple #[.slice ro rn rc, .bool b]) ∧ w' = u := by
 have h1 := ha.hlen
 have h2 := hb.hlen
 have h3 := ha.hcap
 have HP := zaa (fun u (hu : Below w.heap.size w u) => zcx ao bo n m c d la lb u (ha.on Lr hu) (hb.on Lr hu))
 cases hd : decide (la.take lb.length = lb) with
 | false =>
  rw [hd] at HP
  refine ⟨ao, n, c, false, rfl, by simpa using ha, fun u hu => ?_⟩
  have HQ := zaa (HP.out u hu)
  clear ha hb HP hu
  go_enter Tryz.func288, Tryz.ntmps288
  go_wp2_with (go_at_call 293; refine zae HQ.out ?_)
  go_ret2
  exact ⟨rfl, rfl⟩
 | true =>
  rw [hd] at HP
  have hmn : m ≤ n := by
   have := congrArg List.length (show la.take lb.length = lb by simpa using hd)
   rw [zJ] at this
   omega
  have hmc : m ≤ c := by omega
  have hmcI : (m : Int) ≤ (c : Int) := by omega
  have hmnI : (m : Int) ≤ (n : Int) := by omega
  rw [h2]
  rcases sl_from ha m hmn with ⟨rfl, rfl, rfl⟩ | ⟨a, rfl, ⟨hcn, hs⟩ | ⟨hcn, hs⟩⟩
  ·obtain rfl : m = 0 := by omega
   refine ⟨none, 0, 0, true, rfl, by simpa using ha, fun u hu => ?_⟩
   have HQ := zaa (HP.out u hu)
   clear ha hb HP hu
   go_enter Tryz.func288, Tryz.ntmps288
   go_wp2_with (go_at_call 293; refine zae HQ.out ?_)
   go_ret2
   exact ⟨rfl, rfl⟩
  ·subst hcn
   obtain rfl : n = c := by omega
   refine ⟨some a, n - n, n - n, true, rfl, by simpa using hs, fun u hu => ?_⟩
   have HQ := zaa (HP.out u hu)
   clear ha hb HP hu hs
   go_enter Tryz.func288, Tryz.ntmps288
   go_wp2_with (go_at_call 293; refine zae HQ.out ?_)
   go_ret2
   exact ⟨by simp, rfl⟩
  ·have hcn2 : c - m ≠ 0 := by omega
   have hcn3 : m < c := by omega
   have hcn4 : (m : Int) < (c : Int) := by omega
   refine ⟨some (a.add m), n - m, c - m, true, rfl, by simpa using hs, fun u hu => ?_⟩
   have HQ := zaa (HP.out u hu)
   clear ha hb HP hu hs
   go_enter Tryz.func288, Tryz.ntmps288
   go_wp2_with (go_at_call 293; refine zae HQ.out ?_)
   go_ret2
   exact ⟨by simp, rfl⟩
theorem ordQ_app (P a b : List Int) : ordL (P ++ a) (P ++ b) = ordL a b := by
 induction P with
 | nil => rfl
 | cons x P ih => simp [ordL, ih]
theorem ordQ_pre : ∀ (P r q : List Int), q.take P.length ≠ P → ordL (P ++ r) q = ordL P q
 | [], r, q, h => absurd (by simp) h
 | x :: P, r, [], h => by simp [ordL]
 | x :: P, r, y :: q, h => by
  have ih := ordQ_pre P r q
  simp only [List.cons_append, ordL]
  by_cases h1 : x < y
  ·rw [if_pos h1, if_pos h1]
  ·rw [if_neg h1, if_neg h1]
   by_cases h2 : y < x
   ·rw [if_pos h2, if_pos h2]
   ·rw [if_neg h2, if_neg h2]
    obtain rfl : x = y := by omega
    exact ih fun e => h (by simp [e])
theorem prest_any (w : World) (a : Nat) (k : Int) (n : Nat) (po : Option Addr) (pn pc : Nat) (bo : Option Addr) (bn bc : Nat) (so : Option Addr) (sn sc : Nat) (ws : Int) (P body : List Int) (st : List Nat) (cs : List Cl) (h : PgQ w a k n po pn pc bo bn bc so sn sc ws P body st) (hl : LayQ k P cs body st) (i : Nat) (c : Cl) (hci : cs[i]? = some c) (hbn : bn ≤ 1099511627776) :
  Calls Tryz.prog 290 #[.pointer (some ⟨a, 0, none⟩), .int .i64 (i : Int)] w fun e w' => ∃ ko kn kc, e = .returned (.slice ko kn kc) ∧ Hid (Sl w' ko kn kc (c.key.drop (if k = 3 ∧ i = 0 then 0 else P.length))) ∧ Hid (Below w.heap.size w w') := by
 obtain ⟨c0, c1, c2, c3, c4, c5⟩ := h.cells
 have hcf := hl.fit c (List.mem_of_getElem? hci)
 obtain ⟨r, hat⟩ := hl.at_ i c hci
 have hil : i < sn := by
  have := (zH.1 hci).1
  have := hl.len
  have := h.starts.hlen
  omega
 generalize (if k = 3 ∧ i = 0 then 0 else P.length) = m at *
 have hlen : (st.getD i 0) < bn := by
  have h1 := congrArg List.length hat
  rw [zK, zG, h.body.hlen] at h1
  have := qB_pos m c
  omega
 obtain ⟨s0, hst⟩ : ∃ s0, st.getD i 0 = s0 := ⟨_, rfl⟩
 rw [hst] at hat hlen
 obtain ⟨s1, hs1⟩ : ∃ s1, s0 + 1 = s1 := ⟨_, rfl⟩
 have hsI : (s0 : Int) + 1 = (s1 : Int) := by omega
 have hpt : ∃ r', pT (body.drop s1) = some (c.key.drop m, r') := by
  rw [← hs1, ← List.drop_drop, hat]
  unfold qB
  simp only [List.cons_append, List.nil_append, List.drop_succ_cons, List.drop_zero, zM]
  have := hcf.key
  have h3 := pT_mid (c.key.drop m) ((if c.kd = 1 then uB (c.val.length : Int) ++ c.val else uB (c.pg % 18446744073709551616) ++ uB (c.ct % 18446744073709551616)) ++ r) (by rw [zK]; omega)
  rw [zK] at h3
  exact ⟨_, h3⟩
 obtain ⟨r', hpt⟩ := hpt
 obtain ⟨gb, off, rfl⟩ : ∃ gb off, bo = some ⟨gb, off, none⟩ := by
  rcases h.body.hat with h0 | ⟨b, off, e, _⟩
  ·omega
  ·exact ⟨b, off, e⟩
 obtain ⟨gs, offs, rfl, hgs, hcs⟩ : ∃ b off, so = some ⟨b, off, none⟩ ∧ b < w.heap.size ∧ ∀ j, j < sn → w.cell? ⟨b, off + j, none⟩ = some (.int .i64 ((st.getD j 0 : Nat) : Int)) := by
  rcases h.starts.hat with h0 | h0
  ·omega
  ·exact h0
 have cj := hcs i hil
 rw [hst] at cj
 have HPT := zaa hpt
 have HSL := zaa h.body
 have i0 : (i : Int) < (sn : Int) := by omega
 have i1 : i < sn := hil
 have hs1b : s1 ≤ bn := by omega
 have hs0I : (s0 : Int) ≤ 1099511627776 := by omega
 have hs1I : (s1 : Int) ≤ 1099511627776 := by omega
 have hbx : ∀ o, Below w.heap.size w (w.alloc o) := fun o => zac Br Lr _
 have HBX := zaa hbx
 have d2 := fun o => (h.on (hbx o)).cells.2.2.2.1
 have d3 := fun o => (h.on (hbx o)).cells.2.2.2.2.1
 have dj := fun o => ((hbx o).cell (p := ⟨gs, offs + i, none⟩) hgs).trans cj
 have HW : Hid (IntKind.i64.wrap (s1 : Int) = (s1 : Int)) := zaa (by rw [IntKind.wrap_i64]; omega)
 clear h hpt hcs hcf hbx hci hl hat hst hs1
 go_enter Tryz.func290, Tryz.ntmps290
 go_wp2_with fail
 go_region
 obtain ⟨g4, hg4⟩ : ∃ g4, w.heap.size = g4 := ⟨_, rfl⟩
 obtain ⟨x, hx⟩ : ∃ x, (w.alloc (.cells #[.slice (some ⟨gb, off, none⟩) bn bc, .int .i64 (s1 : Int), .bool false] 194)).drew = x := ⟨_, rfl⟩
 have hbx : Below w.heap.size w x := by rw [← hx]; exact (HBX.out _).drew
 have HRD : Hid (Rdq x g4 (some ⟨gb, off, none⟩) bn bc s1 false) := by
  rw [← hx, ← hg4]
  exact zaa (heap_alloc_last w _)
 have HTX := zaa (utext_any body x g4 gb off bn bc s1 false HRD.out (HSL.out.on Lr hbx) hs1b)
 have HBX2 := zaa hbx
 have HG4 := zaa hg4
 try simp only [hsI, HW.out]
 try rw [hx, hg4]
 clear hx hbx c0 c1 c2 c3 c4 c5 cj d2 d3 dj hg4
 go_wp2_with (go_at_call 229; refine HTX.out.mono ?_; rintro e w2 ⟨ko, kn, kc, p, en', t, rfl, HR2, HCF, HQ⟩)
 go_ret
 obtain ⟨q1, _, _, q4⟩ := HQ.out
 rw [HPT.out] at q4
 rcases q4 with ⟨q4, _⟩ | ⟨q4, _⟩
 ·injection q4 with q4
  injection q4 with q4 _
  subst q4
  exact ⟨ko, kn, kc, rfl, zaa q1, zaa (HBX2.out.trans (HCF.out.below HBX2.out.size (by have := HG4.out; intro i hi e; omega)))⟩
 ·cases q4
structure Ag (w : World) (a b1 b2 b3 b4 : Nat) (qo : Option Addr) (qn qc : Nat) (ro : Option Addr) (rn rc : Nat) (b : Bool) (P q : List Int) : Prop where
 c1 : w.cell? ⟨b1, 0, none⟩ = some (.pointer (some ⟨a, 0, none⟩))
 c2 : w.cell? ⟨b2, 0, none⟩ = some (.slice qo qn qc)
 c3 : w.cell? ⟨b3, 0, none⟩ = some (.bool b)
 c4 : w.cell? ⟨b4, 0, none⟩ = some (.slice ro rn rc)
 l1 : b1 < w.heap.size
 l2 : b2 < w.heap.size
 l3 : b3 < w.heap.size
 l4 : b4 < w.heap.size
 hq : Sl w qo qn qc q
 hr : Sl w ro rn rc (if b then q.drop P.length else q)
 hb : b = decide (q.take P.length = P)
theorem Ag.go {w v : World} {a b1 b2 b3 b4 : Nat} {qo : Option Addr} {qn qc : Nat} {ro : Option Addr} {rn rc : Nat} {b : Bool} {P q : List Int} (h : Ag w a b1 b2 b3 b4 qo qn qc ro rn rc b P q) (hb : Below w.heap.size w v) : Ag v a b1 b2 b3 b4 qo qn qc ro rn rc b P q :=
 ⟨(hb.cell (p := ⟨b1, 0, none⟩) h.l1).trans h.c1, (hb.cell (p := ⟨b2, 0, none⟩) h.l2).trans h.c2, (hb.cell (p := ⟨b3, 0, none⟩) h.l3).trans h.c3, (hb.cell (p := ⟨b4, 0, none⟩) h.l4).trans h.c4, zO h.l1 hb.size, zO h.l2 hb.size, zO h.l3 hb.size, zO h.l4 hb.size, h.hq.on Lr hb, h.hr.on Lr hb, h.hb⟩
theorem against1_any (w : World) (a : Nat) (k : Int) (n : Nat) (po : Option Addr) (pn pc : Nat) (bo : Option Addr) (bn bc : Nat) (so : Option Addr) (sn sc : Nat) (ws : Int) (P body : List Int) (st : List Nat) (cs : List Cl) (h : PgQ w a k n po pn pc bo bn bc so sn sc ws P body st) (hl : LayQ k P cs body st) (i : Nat) (c : Cl) (hci : cs[i]? = some c) (hbn : bn ≤ 1099511627776)
  (b1 b2 b3 b4 : Nat) (qo : Option Addr) (qn qc : Nat) (ro : Option Addr) (rn rc : Nat) (b : Bool) (q : List Int) (hA : Ag w a b1 b2 b3 b4 qo qn qc ro rn rc b P q) :
  Calls Tryz.prog 289 #[.int .i64 (i : Int), .pointer (some ⟨b1, 0, none⟩), .pointer (some ⟨b2, 0, none⟩), .pointer (some ⟨b3, 0, none⟩), .pointer (some ⟨b4, 0, none⟩)] w fun e w' => e = .returned (.int .i64 (ordL c.key q)) ∧ Hid (Below w.heap.size w w') := by
 obtain ⟨p0, p1, p2, p3, p4, p5⟩ := h.cells
 have HA := zaa hA
 have HR : Hid (∀ u, Below w.heap.size w u → Calls Tryz.prog 290 #[.pointer (some ⟨a, 0, none⟩), .int .i64 (i : Int)] u fun e w' => ∃ ko kn kc, e = .returned (.slice ko kn kc) ∧ (w'.cell? ⟨b2, 0, none⟩ = some (.slice qo qn qc) ∧ w'.cell? ⟨b4, 0, none⟩ = some (.slice ro rn rc)) ∧ Hid (Sl w' ko kn kc (c.key.drop (if k = 3 ∧ i = 0 then 0 else P.length)) ∧ Below w.heap.size w w')) := by
  refine zaa fun u hu => (prest_any u a k n po pn pc bo bn bc so sn sc ws P body st cs (h.on hu) hl i c hci hbn).mono ?_
  rintro e w' ⟨ko, kn, kc, rfl, HS, HB⟩
  have hb := zab hu Lr HB.out
  have ha := HA.out.go hb
  exact ⟨ko, kn, kc, rfl, ⟨ha.c2, ha.c4⟩, zaa ⟨HS.out, hb⟩⟩
 have HBEG : Hid (¬ (k = 3 ∧ i = 0) → c.key.take P.length = P) := zaa fun hc => hl.beg c (zco hci hc)
 have HPR := zaa h.pre
 obtain ⟨c1, c2, c3, c4, l1, l2, l3, l4, hq, hr, hb⟩ := hA
 have HB0 := zaa hb
 by_cases hk : k = 3 ∧ i = 0
 ·have HSW : Hid (∀ u, Calls Tryz.prog 153 #[.int .i64 k, .int .i64 (i : Int)] u fun e w' => e = .returned (.bool true) ∧ w' = u) := zaa (fun u => by
   have := zba k (i : Int) u
   rwa [decide_eq_true (show k = 3 ∧ (i : Int) = 0 by omega)] at this)
  rw [if_pos hk] at HR
  have HC : Hid (∀ u ko kn kc, Hid (Sl u ko kn kc (c.key.drop 0) ∧ Below w.heap.size w u) → Calls Tryz.prog 183 #[.slice ko kn kc, .slice qo qn qc] u fun e w' => e = .returned (.int .i64 (ordL c.key q)) ∧ w' = u) := zaa fun u ko kn kc hu => by
   have := zdd ko qo kn qn kc qc _ q u hu.out.1 (HA.out.hq.on Lr hu.out.2)
   simpa using this
  clear h hl hk hb hq hr hci
  go_enter Tryz.func289, Tryz.ntmps289
  go_wp2_with (go_at_call 153; refine zae (HSW.out _) ?_)
  go_region_with (first
   | (go_at_call 183; refine zae (HC.out _ _ _ _ (by first | exact HS1 | exact zaa ⟨HS1.out.1.on Lr Br.drew, HS1.out.2.drew⟩ | exact zaa ⟨HS1.out.1.drewN _, zad HS1.out.2 _⟩)) ?_)
   | (go_at_call 290; refine (HR.out _ (by first | exact Br | exact Br.drew | exact zad Br _)).mono ?_; rintro e u1 ⟨ko, kn, kc, rfl, ⟨x2, x4⟩, HS1⟩))
  all_goals
   go_wp2
   go_ret
   exact ⟨rfl, zaa (by first | exact HS1.out.2 | exact HS1.out.2.drew | exact zad HS1.out.2 _)⟩
 ·have HSW : Hid (∀ u, Calls Tryz.prog 153 #[.int .i64 k, .int .i64 (i : Int)] u fun e w' => e = .returned (.bool false) ∧ w' = u) := zaa (fun u => by
   have := zba k (i : Int) u
   rwa [decide_eq_false (show ¬ (k = 3 ∧ (i : Int) = 0) by omega)] at this)
  have hbeg := HBEG.out hk
  rw [if_neg hk] at HR
  cases b with
  | true =>
   have HC : Hid (∀ u ko kn kc, Hid (Sl u ko kn kc (c.key.drop P.length) ∧ Below w.heap.size w u) → Calls Tryz.prog 183 #[.slice ko kn kc, .slice ro rn rc] u fun e w' => e = .returned (.int .i64 (ordL c.key q)) ∧ w' = u) := zaa fun u ko kn kc hu => by
    have h3 := HA.out.hr.on Lr hu.out.2
    rw [if_pos rfl] at h3
    have := zdd ko ro kn rn kc rc _ _ u hu.out.1 h3
    have e1 : c.key = P ++ c.key.drop P.length := by
     conv => lhs; rw [← List.take_append_drop P.length c.key, hbeg]
    have e2 : q = P ++ q.drop P.length := by
     conv => lhs; rw [← List.take_append_drop P.length q, show q.take P.length = P from by simpa using HB0.out.symm]
    have e3 : ordL c.key q = ordL (c.key.drop P.length) (q.drop P.length) := by
     conv => lhs; rw [e1, e2]
     exact ordQ_app _ _ _
    rw [e3]
    exact this
   clear h hl hk hb hq hr hci hbeg
   go_enter Tryz.func289, Tryz.ntmps289
   go_wp2_with (go_at_call 153; refine zae (HSW.out _) ?_)
   go_region_with (first
    | (go_at_call 183; refine zae (HC.out _ _ _ _ (by first | exact HS1 | exact zaa ⟨HS1.out.1.on Lr Br.drew, HS1.out.2.drew⟩ | exact zaa ⟨HS1.out.1.drewN _, zad HS1.out.2 _⟩)) ?_)
    | (go_at_call 290; refine (HR.out _ (by first | exact Br | exact Br.drew | exact zad Br _)).mono ?_; rintro e u1 ⟨ko, kn, kc, rfl, ⟨x2, x4⟩, HS1⟩))
   all_goals
    go_wp2
    go_ret
    exact ⟨rfl, zaa (by first | exact HS1.out.2 | exact HS1.out.2.drew | exact zad HS1.out.2 _)⟩
  | false =>
   have HC : Hid (∀ u, Below w.heap.size w u → Calls Tryz.prog 183 #[.slice po pn pc, .slice qo qn qc] u fun e w' => e = .returned (.int .i64 (ordL c.key q)) ∧ w' = u) := zaa fun u hu => by
    have := zdd po qo pn qn pc qc P q u (HPR.out.on Lr hu) (HA.out.hq.on Lr hu)
    have e1 : c.key = P ++ c.key.drop P.length := by
     conv => lhs; rw [← List.take_append_drop P.length c.key, hbeg]
    have e3 : ordL c.key q = ordL P q := by
     conv => lhs; rw [e1]
     exact ordQ_pre _ _ _ (by simpa using HB0.out.symm)
    rw [e3]
    exact this
   clear h hl hk hb hq hr hci hbeg
   go_enter Tryz.func289, Tryz.ntmps289
   go_wp2_with (go_at_call 153; refine zae (HSW.out _) ?_)
   go_region_with (first | (go_at_call 183; refine zae (HC.out _ (by first | exact Br | exact Br.drew | exact zad Br _)) ?_))
   all_goals
    go_wp2
    go_ret
    exact ⟨rfl, zaa (by first | exact Br | exact Br.drew | exact zad Br _)⟩
def AgTo (a : Nat) (qo : Option Addr) (qn qc : Nat) (P q : List Int) (w : World) (e : Ending) (w' : World) : Prop :=
 ∃ (b1 b2 b3 b4 : Nat) (ro : Option Addr) (rn rc : Nat) (b : Bool), e = .returned (.func (.func 289) #[] #[.pointer (some ⟨b1, 0, none⟩), .pointer (some ⟨b2, 0, none⟩), .pointer (some ⟨b3, 0, none⟩), .pointer (some ⟨b4, 0, none⟩)]) ∧ Hid (Ag w' a b1 b2 b3 b4 qo qn qc ro rn rc b P q) ∧ Hid (Below w.heap.size w w')
theorem AgTo.of {w x z : World} {a s b3 b4 : Nat} {qo : Option Addr} {qn qc : Nat} {ro : Option Addr} {rn rc : Nat} {b : Bool} {P q : List Int} (hbx : Below w.heap.size w x) (hb : b = decide (q.take P.length = P)) (hq : Sl x qo qn qc q) (hr : Sl x ro rn rc (if b then q.drop P.length else q)) (hxs : x.heap.size = s + 2) (h12 : x.cell? ⟨s, 0, none⟩ = some (.pointer (some ⟨a, 0, none⟩)) ∧ x.cell? ⟨s + 1, 0, none⟩ = some (.slice qo qn qc)) (hz : Below x.heap.size x z)
  (c3 : z.cell? ⟨b3, 0, none⟩ = some (.bool b)) (c4 : z.cell? ⟨b4, 0, none⟩ = some (.slice ro rn rc)) (l3 : b3 < z.heap.size) (l4 : b4 < z.heap.size) :
  AgTo a qo qn qc P q w (.returned (.func (.func 289) #[] #[.pointer (some ⟨s, 0, none⟩), .pointer (some ⟨s + 1, 0, none⟩), .pointer (some ⟨b3, 0, none⟩), .pointer (some ⟨b4, 0, none⟩)])) z := by
 have := hz.size
 exact ⟨s, s + 1, b3, b4, ro, rn, rc, b, rfl, zaa ⟨(hz.cell (p := ⟨s, 0, none⟩) (by simp only; omega)).trans h12.1, (hz.cell (p := ⟨s + 1, 0, none⟩) (by simp only; omega)).trans h12.2, c3, c4, by omega, by omega, l3, l4, hq.on Lr hz, hr.on Lr hz, hb⟩, zaa (zab hbx Lr hz)⟩
theorem against_any (w : World) (a : Nat) (k : Int) (n : Nat) (po : Option Addr) (pn pc : Nat) (vb vs : Value) (ws : Int) (P : List Int) (h : QR w a k n (.slice po pn pc) vb vs ws) (hP : Sl w po pn pc P) (qo : Option Addr) (qn qc : Nat) (q : List Int) (hq : Sl w qo qn qc q) :
  Calls Tryz.prog 280 #[.pointer (some ⟨a, 0, none⟩), .slice qo qn qc] w fun e w' => AgTo a qo qn qc P q w e w' := by
 obtain ⟨x, hx⟩ : ∃ x, (w.alloc (.cells #[.pointer (some ⟨a, 0, none⟩)] 115)).alloc (.cells #[.slice qo qn qc] 41) = x := ⟨_, rfl⟩
 have hbx : Below w.heap.size w x := by rw [← hx]; exact zac (zac Br Lr _) Lr _
 obtain ⟨ro, rn, rc, b, hb, hr, hcut⟩ := cut_row qo po qn pn qc pc q P x (hq.on Lr hbx) (hP.on Lr hbx)
 have HCUT := zaa hcut
 obtain ⟨p0, p1, p2, p3, p4, p5⟩ := (show QR x a k n (.slice po pn pc) vb vs ws from zaf h hbx).cells
 have p2a := fun o => (show QR (x.alloc o) a k n (.slice po pn pc) vb vs ws from zaf (zaf h hbx) (zac Br Lr _)).cells.2.2.1
 have p2b := fun o o' => (show QR ((x.alloc o).alloc o') a k n (.slice po pn pc) vb vs ws from zaf (zaf h hbx) (zac (zac Br Lr _) Lr _)).cells.2.2.1
 obtain ⟨s, hs⟩ : ∃ s, w.heap.size = s := ⟨_, rfl⟩
 have x1 : x.cell? ⟨s, 0, none⟩ = some (.pointer (some ⟨a, 0, none⟩)) := by rw [← hx, ← hs]; simp
 have x2 : x.cell? ⟨s + 1, 0, none⟩ = some (.slice qo qn qc) := by rw [← hx, ← hs]; simp
 have hxs : x.heap.size = s + 2 := by rw [← hx, ← hs]; simp
 have HSF : Hid (∀ u, Below x.heap.size x u → u.cell? ⟨s, 0, none⟩ = some (.pointer (some ⟨a, 0, none⟩)) ∧ u.cell? ⟨s + 1, 0, none⟩ = some (.slice qo qn qc) ∧ u.cell? ⟨a, 2, none⟩ = some (.slice po pn pc)) := zaa fun u hu => ⟨(hu.cell (p := ⟨s, 0, none⟩) (by simp only; omega)).trans x1, (hu.cell (p := ⟨s + 1, 0, none⟩) (by simp only; omega)).trans x2, (show QR u a k n (.slice po pn pc) vb vs ws from zaf (zaf h hbx) hu).cells.2.2.1⟩
 have HBX := zaa hbx
 have HB := zaa hb
 have HR := zaa hr
 have HQ := zaa (hq.on Lr hbx)
 have HX12 := zaa (And.intro x1 x2)
 clear h hP hq hcut hb hr p2a p2b hbx
 go_enter Tryz.func280, Tryz.ntmps280
 go_wp2_with fail
 refine wp_region_held_drew (S := (fun u => u.cell? ⟨s, 0, none⟩ = some (.pointer (some ⟨a, 0, none⟩)) ∧ u.cell? ⟨s + 1, 0, none⟩ = some (.slice qo qn qc) ∧ u.cell? ⟨a, 2, none⟩ = some (.slice po pn pc))) (by kernel_rfl) (HSF.out _ Br.drew) (fun hHeld => ?_)
 refine zT (i := 0) (v := ?_) rfl ?_ (fun _ _ _ h => h) ?_
 rotate_left
 ·(rintro w ⟨s0, s1, s2⟩; go_simp; try with_reducible rfl)
 try simp only [Act.put, zA, zC, zD, zE, zF]
 refine zT (i := 1) (v := ?_) rfl ?_ (fun _ _ _ h => h) ?_
 rotate_left
 ·(rintro w ⟨s0, s1, s2⟩; go_simp; try with_reducible rfl)
 try simp only [Act.put, zA, zB, zC, zD, zE, zF]
 refine zT (i := 2) (v := ?_) rfl ?_ (fun _ _ _ h => h) ?_
 rotate_left
 ·(rintro w ⟨s0, s1, s2⟩; go_simp; try with_reducible rfl)
 try simp only [Act.put, zA, zB, zC, zD, zE, zF]
 refine zT (i := 3) (v := ?_) rfl ?_ (fun _ _ _ h => h) ?_
 rotate_left
 ·(rintro w ⟨s0, s1, s2⟩; go_simp; try with_reducible rfl)
 try simp only [Act.put, zA, zB, zC, zD, zE, zF]
 refine zT (i := 4) (v := ?_) rfl ?_ (fun _ _ _ h => h) ?_
 rotate_left
 ·(rintro w ⟨s0, s1, s2⟩; go_simp; try with_reducible rfl)
 try simp only [Act.put, zA, zB, zC, zD, zE, zF]
 refine wpAnyH_ready (rs := [5, 9, 10]) (by kernel_rfl) (by simp) ?_
 refine AllReadyH.cons rfl (fun K hK => ?_) (AllReadyH.cons rfl (fun K hK => ?_) (AllReadyH.cons rfl (fun K hK => ?_) AllReadyH.nil))
 ·go_simp
  go_at_call 288
  refine zae (HCUT.out _ (by repeat (first | exact Br | apply Below.drew | apply below_drewN | refine zac ?_ Lr _ | refine Below.setCell ?_ (by simp; try omega) _))) ?_
  dsimp only
  refine hK.out _ _ (HSF.out _ (by repeat (first | exact Br | apply Below.drew | apply below_drewN | refine zac ?_ Lr _ | refine Below.setCell ?_ (by simp; try omega) _))) (fun hHeld => ?_)
  clear hK K
  try simp only [Act.put, zA, zB, zC, zD, zE, zF]
  refine zT (i := 6) (v := ?_) rfl ?_ (fun _ _ _ h => h) ?_
  rotate_left
  ·(rintro w ⟨s0, s1, s2⟩; go_simp; try with_reducible rfl)
  try simp only [Act.put, zA, zB, zC, zD, zE, zF]
  refine zT (i := 7) (v := ?_) rfl ?_ (fun _ _ _ h => h) ?_
  rotate_left
  ·(rintro w ⟨s0, s1, s2⟩; go_simp; try with_reducible rfl)
  try simp only [Act.put, zA, zB, zC, zD, zE, zF]
  refine zT (i := 8) (v := ?_) rfl ?_ (fun _ _ _ h => h) ?_
  rotate_left
  ·(rintro w ⟨s0, s1, s2⟩; go_simp; try with_reducible rfl)
  try simp only [Act.put, zA, zB, zC, zD, zE, zF]
  refine wpAnyH_ready (rs := [9, 10]) (by kernel_rfl) (by simp) ?_
  refine AllReadyH.cons rfl (fun K hK => ?_) (AllReadyH.cons rfl (fun K hK => ?_) AllReadyH.nil)
  ·go_simp
   refine hK.out _ _ (HSF.out _ (by repeat (first | exact Br | apply Below.drew | apply below_drewN | refine zac ?_ Lr _ | refine Below.setCell ?_ (by simp; try omega) _))) (fun hHeld => ?_)
   clear hK K
   try simp only [Act.put, zA, zB, zC, zD, zE, zF]
   refine zY (i := 10) rfl fun K hK => ?_
   ·go_simp
    refine hK.out _ _ (HSF.out _ (by repeat (first | exact Br | apply Below.drew | apply below_drewN | refine zac ?_ Lr _ | refine Below.setCell ?_ (by simp; try omega) _))) (fun hHeld => ?_)
    clear hK K
    try simp only [Act.put, zA, zB, zC, zD, zE, zF]
    refine zY (i := 11) rfl fun K hK => ?_
    go_simp
    refine hK.out _ _ (HSF.out _ (by repeat (first | exact Br | apply Below.drew | apply below_drewN | refine zac ?_ Lr _ | refine Below.setCell ?_ (by simp; try omega) _))) (fun hHeld => ?_)
    clear hK K
    try simp only [Act.put, zA, zB, zC, zD, zE, zF]
    refine zY (i := 12) rfl fun K hK => ?_
    go_simp
    refine hK.out _ _ (HSF.out _ (by repeat (first | exact Br | apply Below.drew | apply below_drewN | refine zac ?_ Lr _ | refine Below.setCell ?_ (by simp; try omega) _))) (fun hHeld => ?_)
    clear hK K
    try simp only [Act.put, zA, zB, zC, zD, zE, zF]
    refine wpAnyH_done (by kernel_rfl) ?_ _
    go_wp2
    go_ret
    exact AgTo.of HBX.out HB.out HQ.out HR.out hxs HX12.out (by repeat (first | exact Br | apply Below.drew | apply below_drewN | refine zac ?_ Lr _ | refine Below.setCell ?_ (by simp; try omega) _)) (by rw [← hxs]; simp) (by rw [← hxs]; simp) (by simp; try omega) (by simp; try omega)
  ·go_simp
   refine hK.out _ _ (HSF.out _ (by repeat (first | exact Br | apply Below.drew | apply below_drewN | refine zac ?_ Lr _ | refine Below.setCell ?_ (by simp; try omega) _))) (fun hHeld => ?_)
   clear hK K
   try simp only [Act.put, zA, zB, zC, zD, zE, zF]
   refine zY (i := 9) rfl fun K hK => ?_
   ·go_simp
    refine hK.out _ _ (HSF.out _ (by repeat (first | exact Br | apply Below.drew | apply below_drewN | refine zac ?_ Lr _ | refine Below.setCell ?_ (by simp; try omega) _))) (fun hHeld => ?_)
    clear hK K
    try simp only [Act.put, zA, zB, zC, zD, zE, zF]
    refine zY (i := 11) rfl fun K hK => ?_
    go_simp
    refine hK.out _ _ (HSF.out _ (by repeat (first | exact Br | apply Below.drew | apply below_drewN | refine zac ?_ Lr _ | refine Below.setCell ?_ (by simp; try omega) _))) (fun hHeld => ?_)
    clear hK K
    try simp only [Act.put, zA, zB, zC, zD, zE, zF]
    refine zY (i := 12) rfl fun K hK => ?_
    go_simp
    refine hK.out _ _ (HSF.out _ (by repeat (first | exact Br | apply Below.drew | apply below_drewN | refine zac ?_ Lr _ | refine Below.setCell ?_ (by simp; try omega) _))) (fun hHeld => ?_)
    clear hK K
    try simp only [Act.put, zA, zB, zC, zD, zE, zF]
    refine wpAnyH_done (by kernel_rfl) ?_ _
    go_wp2
    go_ret
    exact AgTo.of HBX.out HB.out HQ.out HR.out hxs HX12.out (by repeat (first | exact Br | apply Below.drew | apply below_drewN | refine zac ?_ Lr _ | refine Below.setCell ?_ (by simp; try omega) _)) (by rw [← hxs]; simp) (by rw [← hxs]; simp) (by simp; try omega) (by simp; try omega)
 ·go_simp
  refine hK.out _ _ (HSF.out _ (by repeat (first | exact Br | apply Below.drew | apply below_drewN | refine zac ?_ Lr _ | refine Below.setCell ?_ (by simp; try omega) _))) (fun hHeld => ?_)
  clear hK K
  try simp only [Act.put, zA, zB, zC, zD, zE, zF]
  refine wpAnyH_ready (rs := [5, 10]) (by kernel_rfl) (by simp) ?_
  refine AllReadyH.cons rfl (fun K hK => ?_) (AllReadyH.cons rfl (fun K hK => ?_) AllReadyH.nil)
  ·go_simp
   go_at_call 288
   refine zae (HCUT.out _ (by repeat (first | exact Br | apply Below.drew | apply below_drewN | refine zac ?_ Lr _ | refine Below.setCell ?_ (by simp; try omega) _))) ?_
   dsimp only
   refine hK.out _ _ (HSF.out _ (by repeat (first | exact Br | apply Below.drew | apply below_drewN | refine zac ?_ Lr _ | refine Below.setCell ?_ (by simp; try omega) _))) (fun hHeld => ?_)
   clear hK K
   try simp only [Act.put, zA, zB, zC, zD, zE, zF]
   refine zT (i := 6) (v := ?_) rfl ?_ (fun _ _ _ h => h) ?_
   rotate_left
   ·(rintro w ⟨s0, s1, s2⟩; go_simp; try with_reducible rfl)
   try simp only [Act.put, zA, zB, zC, zD, zE, zF]
   refine zT (i := 7) (v := ?_) rfl ?_ (fun _ _ _ h => h) ?_
   rotate_left
   ·(rintro w ⟨s0, s1, s2⟩; go_simp; try with_reducible rfl)
   try simp only [Act.put, zA, zB, zC, zD, zE, zF]
   refine zT (i := 8) (v := ?_) rfl ?_ (fun _ _ _ h => h) ?_
   rotate_left
   ·(rintro w ⟨s0, s1, s2⟩; go_simp; try with_reducible rfl)
   try simp only [Act.put, zA, zB, zC, zD, zE, zF]
   refine zY (i := 10) rfl fun K hK => ?_
   ·go_simp
    refine hK.out _ _ (HSF.out _ (by repeat (first | exact Br | apply Below.drew | apply below_drewN | refine zac ?_ Lr _ | refine Below.setCell ?_ (by simp; try omega) _))) (fun hHeld => ?_)
    clear hK K
    try simp only [Act.put, zA, zB, zC, zD, zE, zF]
    refine zY (i := 11) rfl fun K hK => ?_
    go_simp
    refine hK.out _ _ (HSF.out _ (by repeat (first | exact Br | apply Below.drew | apply below_drewN | refine zac ?_ Lr _ | refine Below.setCell ?_ (by simp; try omega) _))) (fun hHeld => ?_)
    clear hK K
    try simp only [Act.put, zA, zB, zC, zD, zE, zF]
    refine zY (i := 12) rfl fun K hK => ?_
    go_simp
    refine hK.out _ _ (HSF.out _ (by repeat (first | exact Br | apply Below.drew | apply below_drewN | refine zac ?_ Lr _ | refine Below.setCell ?_ (by simp; try omega) _))) (fun hHeld => ?_)
    clear hK K
    try simp only [Act.put, zA, zB, zC, zD, zE, zF]
    refine wpAnyH_done (by kernel_rfl) ?_ _
    go_wp2
    go_ret
    exact AgTo.of HBX.out HB.out HQ.out HR.out hxs HX12.out (by repeat (first | exact Br | apply Below.drew | apply below_drewN | refine zac ?_ Lr _ | refine Below.setCell ?_ (by simp; try omega) _)) (by rw [← hxs]; simp) (by rw [← hxs]; simp) (by simp; try omega) (by simp; try omega)
  ·go_simp
   refine hK.out _ _ (HSF.out _ (by repeat (first | exact Br | apply Below.drew | apply below_drewN | refine zac ?_ Lr _ | refine Below.setCell ?_ (by simp; try omega) _))) (fun hHeld => ?_)
   clear hK K
   try simp only [Act.put, zA, zB, zC, zD, zE, zF]
   refine zY (i := 5) rfl fun K hK => ?_
   ·go_simp
    go_at_call 288
    refine zae (HCUT.out _ (by repeat (first | exact Br | apply Below.drew | apply below_drewN | refine zac ?_ Lr _ | refine Below.setCell ?_ (by simp; try omega) _))) ?_
    dsimp only
    refine hK.out _ _ (HSF.out _ (by repeat (first | exact Br | apply Below.drew | apply below_drewN | refine zac ?_ Lr _ | refine Below.setCell ?_ (by simp; try omega) _))) (fun hHeld => ?_)
    clear hK K
    try simp only [Act.put, zA, zB, zC, zD, zE, zF]
    refine zT (i := 6) (v := ?_) rfl ?_ (fun _ _ _ h => h) ?_
    rotate_left
    ·(rintro w ⟨s0, s1, s2⟩; go_simp; try with_reducible rfl)
    try simp only [Act.put, zA, zB, zC, zD, zE, zF]
    refine zT (i := 7) (v := ?_) rfl ?_ (fun _ _ _ h => h) ?_
    rotate_left
    ·(rintro w ⟨s0, s1, s2⟩; go_simp; try with_reducible rfl)
    try simp only [Act.put, zA, zB, zC, zD, zE, zF]
    refine zT (i := 8) (v := ?_) rfl ?_ (fun _ _ _ h => h) ?_
    rotate_left
    ·(rintro w ⟨s0, s1, s2⟩; go_simp; try with_reducible rfl)
    try simp only [Act.put, zA, zB, zC, zD, zE, zF]
    refine zY (i := 11) rfl fun K hK => ?_
    go_simp
    refine hK.out _ _ (HSF.out _ (by repeat (first | exact Br | apply Below.drew | apply below_drewN | refine zac ?_ Lr _ | refine Below.setCell ?_ (by simp; try omega) _))) (fun hHeld => ?_)
    clear hK K
    try simp only [Act.put, zA, zB, zC, zD, zE, zF]
    refine zY (i := 12) rfl fun K hK => ?_
    go_simp
    refine hK.out _ _ (HSF.out _ (by repeat (first | exact Br | apply Below.drew | apply below_drewN | refine zac ?_ Lr _ | refine Below.setCell ?_ (by simp; try omega) _))) (fun hHeld => ?_)
    clear hK K
    try simp only [Act.put, zA, zB, zC, zD, zE, zF]
    refine wpAnyH_done (by kernel_rfl) ?_ _
    go_wp2
    go_ret
    exact AgTo.of HBX.out HB.out HQ.out HR.out hxs HX12.out (by repeat (first | exact Br | apply Below.drew | apply below_drewN | refine zac ?_ Lr _ | refine Below.setCell ?_ (by simp; try omega) _)) (by rw [← hxs]; simp) (by rw [← hxs]; simp) (by simp; try omega) (by simp; try omega)
 ·go_simp
  refine hK.out _ _ (HSF.out _ (by repeat (first | exact Br | apply Below.drew | apply below_drewN | refine zac ?_ Lr _ | refine Below.setCell ?_ (by simp; try omega) _))) (fun hHeld => ?_)
  clear hK K
  try simp only [Act.put, zA, zB, zC, zD, zE, zF]
  refine wpAnyH_ready (rs := [5, 9]) (by kernel_rfl) (by simp) ?_
  refine AllReadyH.cons rfl (fun K hK => ?_) (AllReadyH.cons rfl (fun K hK => ?_) AllReadyH.nil)
  ·go_simp
   go_at_call 288
   refine zae (HCUT.out _ (by repeat (first | exact Br | apply Below.drew | apply below_drewN | refine zac ?_ Lr _ | refine Below.setCell ?_ (by simp; try omega) _))) ?_
   dsimp only
   refine hK.out _ _ (HSF.out _ (by repeat (first | exact Br | apply Below.drew | apply below_drewN | refine zac ?_ Lr _ | refine Below.setCell ?_ (by simp; try omega) _))) (fun hHeld => ?_)
   clear hK K
   try simp only [Act.put, zA, zB, zC, zD, zE, zF]
   refine zT (i := 6) (v := ?_) rfl ?_ (fun _ _ _ h => h) ?_
   rotate_left
   ·(rintro w ⟨s0, s1, s2⟩; go_simp; try with_reducible rfl)
   try simp only [Act.put, zA, zB, zC, zD, zE, zF]
   refine zT (i := 7) (v := ?_) rfl ?_ (fun _ _ _ h => h) ?_
   rotate_left
   ·(rintro w ⟨s0, s1, s2⟩; go_simp; try with_reducible rfl)
   try simp only [Act.put, zA, zB, zC, zD, zE, zF]
   refine zT (i := 8) (v := ?_) rfl ?_ (fun _ _ _ h => h) ?_
   rotate_left
   ·(rintro w ⟨s0, s1, s2⟩; go_simp; try with_reducible rfl)
   try simp only [Act.put, zA, zB, zC, zD, zE, zF]
   refine zY (i := 9) rfl fun K hK => ?_
   ·go_simp
    refine hK.out _ _ (HSF.out _ (by repeat (first | exact Br | apply Below.drew | apply below_drewN | refine zac ?_ Lr _ | refine Below.setCell ?_ (by simp; try omega) _))) (fun hHeld => ?_)
    clear hK K
    try simp only [Act.put, zA, zB, zC, zD, zE, zF]
    refine zY (i := 11) rfl fun K hK => ?_
    go_simp
    refine hK.out _ _ (HSF.out _ (by repeat (first | exact Br | apply Below.drew | apply below_drewN | refine zac ?_ Lr _ | refine Below.setCell ?_ (by simp; try omega) _))) (fun hHeld => ?_)
    clear hK K
    try simp only [Act.put, zA, zB, zC, zD, zE, zF]
    refine zY (i := 12) rfl fun K hK => ?_
    go_simp
    refine hK.out _ _ (HSF.out _ (by repeat (first | exact Br | apply Below.drew | apply below_drewN | refine zac ?_ Lr _ | refine Below.setCell ?_ (by simp; try omega) _))) (fun hHeld => ?_)
    clear hK K
    try simp only [Act.put, zA, zB, zC, zD, zE, zF]
    refine wpAnyH_done (by kernel_rfl) ?_ _
    go_wp2
    go_ret
    exact AgTo.of HBX.out HB.out HQ.out HR.out hxs HX12.out (by repeat (first | exact Br | apply Below.drew | apply below_drewN | refine zac ?_ Lr _ | refine Below.setCell ?_ (by simp; try omega) _)) (by rw [← hxs]; simp) (by rw [← hxs]; simp) (by simp; try omega) (by simp; try omega)
  ·go_simp
   refine hK.out _ _ (HSF.out _ (by repeat (first | exact Br | apply Below.drew | apply below_drewN | refine zac ?_ Lr _ | refine Below.setCell ?_ (by simp; try omega) _))) (fun hHeld => ?_)
   clear hK K
   try simp only [Act.put, zA, zB, zC, zD, zE, zF]
   refine zY (i := 5) rfl fun K hK => ?_
   ·go_simp
    go_at_call 288
    refine zae (HCUT.out _ (by repeat (first | exact Br | apply Below.drew | apply below_drewN | refine zac ?_ Lr _ | refine Below.setCell ?_ (by simp; try omega) _))) ?_
    dsimp only
    refine hK.out _ _ (HSF.out _ (by repeat (first | exact Br | apply Below.drew | apply below_drewN | refine zac ?_ Lr _ | refine Below.setCell ?_ (by simp; try omega) _))) (fun hHeld => ?_)
    clear hK K
    try simp only [Act.put, zA, zB, zC, zD, zE, zF]
    refine zT (i := 6) (v := ?_) rfl ?_ (fun _ _ _ h => h) ?_
    rotate_left
    ·(rintro w ⟨s0, s1, s2⟩; go_simp; try with_reducible rfl)
    try simp only [Act.put, zA, zB, zC, zD, zE, zF]
    refine zT (i := 7) (v := ?_) rfl ?_ (fun _ _ _ h => h) ?_
    rotate_left
    ·(rintro w ⟨s0, s1, s2⟩; go_simp; try with_reducible rfl)
    try simp only [Act.put, zA, zB, zC, zD, zE, zF]
    refine zT (i := 8) (v := ?_) rfl ?_ (fun _ _ _ h => h) ?_
    rotate_left
    ·(rintro w ⟨s0, s1, s2⟩; go_simp; try with_reducible rfl)
    try simp only [Act.put, zA, zB, zC, zD, zE, zF]
    refine zY (i := 11) rfl fun K hK => ?_
    go_simp
    refine hK.out _ _ (HSF.out _ (by repeat (first | exact Br | apply Below.drew | apply below_drewN | refine zac ?_ Lr _ | refine Below.setCell ?_ (by simp; try omega) _))) (fun hHeld => ?_)
    clear hK K
    try simp only [Act.put, zA, zB, zC, zD, zE, zF]
    refine zY (i := 12) rfl fun K hK => ?_
    go_simp
    refine hK.out _ _ (HSF.out _ (by repeat (first | exact Br | apply Below.drew | apply below_drewN | refine zac ?_ Lr _ | refine Below.setCell ?_ (by simp; try omega) _))) (fun hHeld => ?_)
    clear hK K
    try simp only [Act.put, zA, zB, zC, zD, zE, zF]
    refine wpAnyH_done (by kernel_rfl) ?_ _
    go_wp2
    go_ret
    exact AgTo.of HBX.out HB.out HQ.out HR.out hxs HX12.out (by repeat (first | exact Br | apply Below.drew | apply below_drewN | refine zac ?_ Lr _ | refine Below.setCell ?_ (by simp; try omega) _)) (by rw [← hxs]; simp) (by rw [← hxs]; simp) (by simp; try omega) (by simp; try omega)
theorem rs_at {cs : List Cl} (h : Rs cs) {i j : Nat} {c d : Cl} (hij : i < j) (hc : cs[i]? = some c) (hd : cs[j]? = some d) : kl c.key d.key := by
 unfold Rs at h
 rw [List.pairwise_iff_getElem] at h
 obtain ⟨h1, e1⟩ := zH.1 hc
 obtain ⟨h2, e2⟩ := zH.1 hd
 have := h i j h1 h2 hij
 rwa [e1, e2] at this
structure Am (w : World) (o1 l1 : Nat) (low : Nat) (F : Value) : Prop where
 c1 : w.cell? ⟨o1, 0, none⟩ = some F
 c2 : w.cell? ⟨l1, 0, none⟩ = some (.int .i64 (low : Int))
 h1 : o1 < w.heap.size
 h2 : l1 < w.heap.size
theorem Am.go {w v : World} {o1 l1 low : Nat} {F : Value} (h : Am w o1 l1 low F) (hb : Below w.heap.size w v) : Am v o1 l1 low F :=
 ⟨(hb.cell (p := ⟨o1, 0, none⟩) h.h1).trans h.c1, (hb.cell (p := ⟨l1, 0, none⟩) h.h2).trans h.c2, zO h.h1 hb.size, zO h.h2 hb.size⟩
theorem among1_any (w : World) (o1 l1 low j i b1 b2 b3 b4 : Nat) (o : Int) (hA : Am w o1 l1 low (.func (.func 289) #[] #[.pointer (some ⟨b1, 0, none⟩), .pointer (some ⟨b2, 0, none⟩), .pointer (some ⟨b3, 0, none⟩), .pointer (some ⟨b4, 0, none⟩)])) (hi : low + j = i) (hb : i ≤ 65536)
  (hF : Calls Tryz.prog 289 #[.int .i64 (i : Int), .pointer (some ⟨b1, 0, none⟩), .pointer (some ⟨b2, 0, none⟩), .pointer (some ⟨b3, 0, none⟩), .pointer (some ⟨b4, 0, none⟩)] w fun e w' => e = .returned (.int .i64 o) ∧ Hid (Below w.heap.size w w')) :
  Calls Tryz.prog 287 #[.int .i64 (j : Int), .pointer (some ⟨o1, 0, none⟩), .pointer (some ⟨l1, 0, none⟩)] w fun e w' => e = .returned (.bool (decide (0 ≤ o))) ∧ Hid (Below w.heap.size w w') := by
 obtain ⟨c1, c2, h1, h2⟩ := hA
 have HF := zaa hF
 have hiI : (low : Int) + (j : Int) = (i : Int) := by omega
 have bi : (i : Int) ≤ 65536 := by omega
 have bj : (j : Int) ≤ 65536 := by omega
 have bl : (low : Int) ≤ 65536 := by omega
 clear hF hi
 go_enter Tryz.func287, Tryz.ntmps287
 go_wp2_with (go_at_call 289; refine HF.out.mono ?_; rintro e w2 ⟨rfl, HB2⟩)
 go_ret
 exact ⟨rfl, HB2⟩
theorem search7_any (w : World) (o1 l1 low N : Nat) (cs : List Cl) (q : List Int) (hr : Rs cs) (hN : low + N ≤ cs.length) (hb : cs.length ≤ 65536) (b1 b2 b3 b4 : Nat)
  (hA : Am w o1 l1 low (.func (.func 289) #[] #[.pointer (some ⟨b1, 0, none⟩), .pointer (some ⟨b2, 0, none⟩), .pointer (some ⟨b3, 0, none⟩), .pointer (some ⟨b4, 0, none⟩)]))
  (hF : ∀ u (i : Nat) (c : Cl), Below w.heap.size w u → cs[i]? = some c → Calls Tryz.prog 289 #[.int .i64 (i : Int), .pointer (some ⟨b1, 0, none⟩), .pointer (some ⟨b2, 0, none⟩), .pointer (some ⟨b3, 0, none⟩), .pointer (some ⟨b4, 0, none⟩)] u fun e w' => e = .returned (.int .i64 (ordL c.key q)) ∧ Hid (Below u.heap.size u w'))
  (hlo : ∀ i c, i < low → cs[i]? = some c → kl c.key q) (hhi : ∀ i c, low + N ≤ i → cs[i]? = some c → ¬ kl c.key q) :
  Calls Tryz.prog 128 #[.int .i64 (N : Int), .func (.func 287) #[] #[.pointer (some ⟨o1, 0, none⟩), .pointer (some ⟨l1, 0, none⟩)]] w fun e w' => ∃ r : Nat, e = .returned (.int .i64 (r : Int)) ∧ Hid (Below w.heap.size w w') ∧ Hid (Fnd cs q (low + r) ∧ r ≤ N) := by
 have HA := zaa hA
 have HF := zaa hF
 have HRS := zaa hr
 have HLO := zaa hlo
 have HHI := zaa hhi
 clear hA hF hr hlo hhi
 go_enter Tryz.func128, Tryz.ntmps128
 go_wp2_with fail
 go_loopw [5, 6] (fun s5 s6 wr => ∃ lo hi : Nat, s5 = .int .i64 lo ∧ s6 = .int .i64 hi ∧ lo ≤ hi ∧ hi ≤ N ∧ Hid (Below w.heap.size w wr) ∧ Hid ((∀ i c, i < low + lo → cs[i]? = some c → kl c.key q) ∧ ∀ i c, low + hi ≤ i → cs[i]? = some c → ¬ kl c.key q)) (fun s5 s6 _ => (intOf s6).toNat - (intOf s5).toNat)
 case atStart => exact ⟨0, N, rfl, rfl, by omega, by omega, zaa Br, zaa ⟨HLO.out, HHI.out⟩⟩
 case round =>
  obtain ⟨lo, hi, rfl, rfl, hlh, hhs, HB, HI⟩ := hrel
  have b1' : (lo : Int) ≤ 65536 := by omega
  have b2' : (hi : Int) ≤ 65536 := by omega
  by_cases hlt : lo < hi
  ·have hltI : (lo : Int) < (hi : Int) := by omega
   obtain ⟨m, hm⟩ : ∃ m, (lo + hi) / 2 = m := ⟨_, rfl⟩
   have hmI : ((lo : Int) + (hi : Int)) / 2 = (m : Int) := by omega
   have m3 : (m : Int) ≤ 65536 := by omega
   have HML : Hid (lo ≤ m ∧ m < hi) := zaa (by omega)
   obtain ⟨c, hc⟩ : ∃ c, cs[low + m]? = some c := ⟨_, zI (by omega)⟩
   have HC := zaa hc
   have h3 := zcg c.key q
   have HKL : Hid (kl c.key q ↔ ordL c.key q < 0) := zaa (by unfold kl; omega)
   have HFM := zaa (among1_any wr o1 l1 low m (low + m) b1 b2 b3 b4 (ordL c.key q) (HA.out.go HB.out) rfl (by omega) (HF.out wr (low + m) c HB.out hc))
   clear hm hc
   generalize ordL c.key q = o at *
   by_cases ho : o < 0
   ·have d1 : decide (0 ≤ o) = false := decide_eq_false (by omega)
    rw [d1] at HFM
    clear h3
    go_wp2_with (go_at_call 287; refine HFM.out.mono ?_; rintro e w2 ⟨rfl, HB2⟩)
    go_roundw
    case rel =>
     refine ⟨m + 1, hi, by go_num, rfl, by have := HML.out; omega, hhs, zaa (zab HB.out Lr HB2.out), zaa ⟨fun i d hi' hd => ?_, HI.out.2⟩⟩
     by_cases e : i = low + m
     ·subst e
      rw [HC.out] at hd
      injection hd with hd
      subst hd
      exact HKL.out.2 ho
     ·exact zce _ _ _ (rs_at HRS.out (by omega) hd HC.out) (HKL.out.2 ho)
    case measure => have := HML.out; simp [intOf]; omega
   ·have d1 : decide (0 ≤ o) = true := decide_eq_true (by omega)
    rw [d1] at HFM
    clear h3
    go_wp2_with (go_at_call 287; refine HFM.out.mono ?_; rintro e w2 ⟨rfl, HB2⟩)
    go_roundw
    case rel =>
     refine ⟨lo, m, rfl, by go_num, by have := HML.out; omega, by have := HML.out; omega, zaa (zab HB.out Lr HB2.out), zaa ⟨HI.out.1, fun i d hi' hd hk => ?_⟩⟩
     by_cases e : i = low + m
     ·subst e
      rw [HC.out] at hd
      injection hd with hd
      subst hd
      have := HKL.out.1 hk
      omega
     ·have := HKL.out.1 (zce _ _ _ (rs_at HRS.out (by omega) HC.out hd) hk)
      omega
    case measure => have := HML.out; simp [intOf]; omega
  ·obtain rfl : hi = lo := by omega
   have hltI : ¬ (hi : Int) < (hi : Int) := by omega
   go_wp2
   go_ret
   exact ⟨hi, rfl, HB, zaa ⟨⟨by omega, HI.out.1, HI.out.2⟩, hhs⟩⟩
theorem among_any (w : World) (a : Nat) (k : Int) (n : Nat) (po : Option Addr) (pn pc : Nat) (bo : Option Addr) (bn bc : Nat) (so : Option Addr) (sn sc : Nat) (ws : Int) (P body : List Int) (st : List Nat) (cs : List Cl) (h : PgQ w a k n po pn pc bo bn bc so sn sc ws P body st) (hl : LayQ k P cs body st) (hr : Rs cs) (hbn : bn ≤ 1099511627776) (hsn : sn ≤ 65536) (low high : Nat) (hlh : low ≤ high) (hhs : high ≤ sn)
  (b1 b2 b3 b4 : Nat) (qo : Option Addr) (qn qc : Nat) (ro : Option Addr) (rn rc : Nat) (b : Bool) (q : List Int) (hA : Ag w a b1 b2 b3 b4 qo qn qc ro rn rc b P q) (hlo : ∀ i c, i < low → cs[i]? = some c → kl c.key q) (hhi : ∀ i c, high ≤ i → cs[i]? = some c → ¬ kl c.key q) :
  Calls Tryz.prog 279 #[.pointer (some ⟨a, 0, none⟩), .int .i64 (low : Int), .int .i64 (high : Int), .func (.func 289) #[] #[.pointer (some ⟨b1, 0, none⟩), .pointer (some ⟨b2, 0, none⟩), .pointer (some ⟨b3, 0, none⟩), .pointer (some ⟨b4, 0, none⟩)]] w fun e w' => FindTo cs q w e w' := by
 have hcs : cs.length = sn := by rw [← hl.len, h.starts.hlen]
 obtain ⟨N, hN⟩ : ∃ N, high - low = N := ⟨_, rfl⟩
 have hNI : (high : Int) - (low : Int) = (N : Int) := by omega
 obtain ⟨s, hs⟩ : ∃ s, w.heap.size = s := ⟨_, rfl⟩
 obtain ⟨x, hx⟩ : ∃ x, (w.alloc (.cells #[.int .i64 (low : Int)] 3)).alloc (.cells #[.func (.func 289) #[] #[.pointer (some ⟨b1, 0, none⟩), .pointer (some ⟨b2, 0, none⟩), .pointer (some ⟨b3, 0, none⟩), .pointer (some ⟨b4, 0, none⟩)]] 64) = x := ⟨_, rfl⟩
 have hbx : Below w.heap.size w x := by rw [← hx]; exact zac (zac Br Lr _) Lr _
 have hAm : Am x (s + 1) s low (.func (.func 289) #[] #[.pointer (some ⟨b1, 0, none⟩), .pointer (some ⟨b2, 0, none⟩), .pointer (some ⟨b3, 0, none⟩), .pointer (some ⟨b4, 0, none⟩)]) := by
  rw [← hx, ← hs]
  exact ⟨by simp, by simp, by simp, by simp; omega⟩
 have HF : Hid (∀ u (i : Nat) (c : Cl), Below x.heap.size x u → cs[i]? = some c → Calls Tryz.prog 289 #[.int .i64 (i : Int), .pointer (some ⟨b1, 0, none⟩), .pointer (some ⟨b2, 0, none⟩), .pointer (some ⟨b3, 0, none⟩), .pointer (some ⟨b4, 0, none⟩)] u fun e w' => e = .returned (.int .i64 (ordL c.key q)) ∧ Hid (Below u.heap.size u w')) := zaa fun u i c hu hc =>
  against1_any u a k n po pn pc bo bn bc so sn sc ws P body st cs (h.on (zab hbx Lr hu)) hl i c hc hbn b1 b2 b3 b4 qo qn qc ro rn rc b q (hA.go (zab hbx Lr hu))
 have HSR : Hid (∀ u, Below x.heap.size x u → Calls Tryz.prog 128 #[.int .i64 (N : Int), .func (.func 287) #[] #[.pointer (some ⟨s + 1, 0, none⟩), .pointer (some ⟨s, 0, none⟩)]] u fun e w' => ∃ r : Nat, e = .returned (.int .i64 (r : Int)) ∧ (w'.cell? ⟨s + 1, 0, none⟩ = some (.func (.func 289) #[] #[.pointer (some ⟨b1, 0, none⟩), .pointer (some ⟨b2, 0, none⟩), .pointer (some ⟨b3, 0, none⟩), .pointer (some ⟨b4, 0, none⟩)]) ∧ w'.cell? ⟨s, 0, none⟩ = some (.int .i64 (low : Int)) ∧ r ≤ N) ∧ Hid (Below x.heap.size x w') ∧ Hid (Fnd cs q (low + r))) := by
  refine zaa fun u hu => (search7_any u (s + 1) s low N cs q hr (by omega) (by omega) b1 b2 b3 b4 (hAm.go hu) (fun v i c hv hc => HF.out v i c (zab hu Lr hv) hc) hlo (fun i c hi => hhi i c (by omega))).mono ?_
  rintro e w' ⟨r, rfl, HB, HQ⟩
  have hb := zab hu Lr HB.out
  have h3 := hAm.go hb
  exact ⟨r, rfl, ⟨h3.c1, h3.c2, HQ.out.2⟩, zaa hb, zaa HQ.out.1⟩
 have HLN : Hid (∀ u, Below x.heap.size x u → Calls Tryz.prog 159 #[.pointer (some ⟨a, 0, none⟩)] u fun e w' => e = .returned (.int .i64 (sn : Int)) ∧ w' = u) := zaa fun u hu => zbl u a k n po pn pc bo bn bc so sn sc ws P body st (h.on (zab hbx Lr hu))
 have HBX := zaa hbx
 have HCS := zaa hcs
 obtain ⟨y1, y2, _, _⟩ := hAm
 have bl : (low : Int) ≤ 65536 := by omega
 have bh : (high : Int) ≤ 65536 := by omega
 have bN : (N : Int) ≤ 65536 := by omega
 have hwN : IntKind.i64.wrap (N : Int) = (N : Int) := by rw [IntKind.wrap_i64]; omega
 clear h hl hr hA hlo hhi hcs hbx
 go_enter Tryz.func279, Tryz.ntmps279
 go_wp2_with fail
 go_region_with (first | (go_at_call 128; refine (HSR.out _ (by first | exact Br | exact Br.drew | exact zad Br _)).mono ?_; rintro e w2 ⟨r, rfl, ⟨z1, z2, hrN⟩, HB2, HQ2⟩))
 all_goals
  obtain ⟨i, hi⟩ : ∃ i, low + r = i := ⟨_, rfl⟩
  have hiI : (low : Int) + (r : Int) = (i : Int) := by omega
  have bi : (i : Int) ≤ 65536 := by omega
  have br : (r : Int) ≤ 65536 := by omega
  have hwi : IntKind.i64.wrap (i : Int) = (i : Int) := by rw [IntKind.wrap_i64]; omega
  have HFN : Hid (Fnd cs q i) := zaa (by rw [← hi]; exact HQ2.out)
  by_cases hlt : i < sn
  ·have hltI : (i : Int) < (sn : Int) := by omega
   obtain ⟨c, hc⟩ : ∃ c, cs[i]? = some c := ⟨_, zI (by rw [HCS.out]; exact hlt)⟩
   have HEQ : Hid (ordL c.key q = 0 ↔ ∃ d, cs[i]? = some d ∧ d.key = q) := zaa (by
    rw [hc]
    constructor
    ·intro h
     exact ⟨c, rfl, ordL_eq _ _ h⟩
    ·rintro ⟨d, hd, rfl⟩
     injection hd with hd
     subst hd
     exact ordL_self _)
   have HFM : Hid (∀ u, Below w2.heap.size w2 u → Calls Tryz.prog 289 #[.int .i64 (i : Int), .pointer (some ⟨b1, 0, none⟩), .pointer (some ⟨b2, 0, none⟩), .pointer (some ⟨b3, 0, none⟩), .pointer (some ⟨b4, 0, none⟩)] u fun e w' => e = .returned (.int .i64 (ordL c.key q)) ∧ Hid (Below u.heap.size u w')) := zaa fun u hu => HF.out u i c (zab HB2.out Lr hu) hc
   have HLN2 : Hid (∀ u, Below w2.heap.size w2 u → Calls Tryz.prog 159 #[.pointer (some ⟨a, 0, none⟩)] u fun e w' => e = .returned (.int .i64 (sn : Int)) ∧ w' = u) := zaa fun u hu => HLN.out u (zab HB2.out Lr hu)
   clear hc hi
   generalize ordL c.key q = o at *
   by_cases ho : o = 0
   ·subst ho
    go_wp2_with (first | (go_at_call 159; refine zae (HLN2.out _ (by first | exact Br | exact Br.drew | exact zad Br _)) ?_) | (go_at_call 289; refine (HFM.out _ (by first | exact Br | exact Br.drew | exact zad Br _)).mono ?_; rintro e w3 ⟨rfl, HB3⟩))
    go_ret2
    exact ⟨i, true, rfl, zaa (zab (zab HBX.out Lr HB2.out) Lr (by first | exact HB3.out | exact zab Br.drew Lr HB3.out | exact zab (zad Br _) Lr HB3.out)), zaa ⟨HFN.out, by simpa using HEQ.out⟩⟩
   ·have d1 : (o == 0) = false := by simpa using ho
    go_wp2_with (first | (go_at_call 159; refine zae (HLN2.out _ (by first | exact Br | exact Br.drew | exact zad Br _)) ?_) | (go_at_call 289; refine (HFM.out _ (by first | exact Br | exact Br.drew | exact zad Br _)).mono ?_; rintro e w3 ⟨rfl, HB3⟩))
    go_ret2
    exact ⟨i, false, rfl, zaa (zab (zab HBX.out Lr HB2.out) Lr (by first | exact HB3.out | exact zab Br.drew Lr HB3.out | exact zab (zad Br _) Lr HB3.out)), zaa ⟨HFN.out, by simpa using fun x h1 h2 => ho (HEQ.out.2 ⟨x, h1, h2⟩)⟩⟩
  ·have hltI : ¬ (i : Int) < (sn : Int) := by omega
   have HNO : Hid (cs[i]? = none) := zaa (List.getElem?_eq_none (by rw [HCS.out]; omega))
   have HLN2 : Hid (∀ u, Below w2.heap.size w2 u → Calls Tryz.prog 159 #[.pointer (some ⟨a, 0, none⟩)] u fun e w' => e = .returned (.int .i64 (sn : Int)) ∧ w' = u) := zaa fun u hu => HLN.out u (zab HB2.out Lr hu)
   clear hi
   go_wp2_with (go_at_call 159; refine zae (HLN2.out _ (by first | exact Br | exact Br.drew | exact zad Br _)) ?_)
   go_ret2
   exact ⟨i, false, rfl, zaa (zab (zab HBX.out Lr HB2.out) Lr (by first | exact Br | exact Br.drew | exact zad Br _)), zaa ⟨HFN.out, by simp [HNO.out]⟩⟩
theorem findQ_any (w : World) (a : Nat) (k : Int) (n : Nat) (po : Option Addr) (pn pc : Nat) (bo : Option Addr) (bn bc : Nat) (so : Option Addr) (sn sc : Nat) (ws : Int) (P body : List Int) (st : List Nat) (cs : List Cl) (h : PgQ w a k n po pn pc bo bn bc so sn sc ws P body st) (hl : LayQ k P cs body st) (hr : Rs cs) (hbn : bn ≤ 1099511627776) (hsn : sn ≤ 65536) (qo : Option Addr) (qn qc : Nat) (q : List Int) (hq : Sl w qo qn qc q) :
  Calls Tryz.prog 271 #[.pointer (some ⟨a, 0, none⟩), .slice qo qn qc] w fun e w' => FindTo cs q w e w' := by
 have hcs : cs.length = sn := by rw [← hl.len, h.starts.hlen]
 have HLN := zaa (zbl w a k n po pn pc bo bn bc so sn sc ws P body st h)
 have HAG := zaa (against_any w a k n po pn pc _ _ ws P h.row h.pre qo qn qc q hq)
 have HAM : Hid (∀ u b1 b2 b3 b4 ro rn rc b, Hid (Ag u a b1 b2 b3 b4 qo qn qc ro rn rc b P q) → Hid (Below w.heap.size w u) → Calls Tryz.prog 279 #[.pointer (some ⟨a, 0, none⟩), .int .i64 0, .int .i64 (sn : Int), .func (.func 289) #[] #[.pointer (some ⟨b1, 0, none⟩), .pointer (some ⟨b2, 0, none⟩), .pointer (some ⟨b3, 0, none⟩), .pointer (some ⟨b4, 0, none⟩)]] u fun e w' => FindTo cs q u e w') := zaa fun u b1 b2 b3 b4 ro rn rc b hA hu =>
  among_any u a k n po pn pc bo bn bc so sn sc ws P body st cs (h.on hu.out) hl hr hbn hsn 0 sn (Nat.zero_le _) Lr b1 b2 b3 b4 qo qn qc ro rn rc b q hA.out (fun i c hi => by omega) (fun i c hi hc => by
   have := (zH.1 hc).1
   omega)
 clear h hl hr hq hcs
 go_enter Tryz.func271, Tryz.ntmps271
 go_wp2_with (first
  | (go_at_call 159; refine zae HLN.out ?_)
  | (go_at_call 280; refine HAG.out.mono ?_; rintro e w1 ⟨b1, b2, b3, b4, ro, rn, rc, b, rfl, HA1, HB1⟩)
  | (go_at_call 279; refine (HAM.out _ _ _ _ _ _ _ _ _ HA1 HB1).mono ?_; rintro e w2 ⟨r, is, rfl, HB2, HQ2⟩))
 go_ret2
 exact ⟨r, is, rfl, zaa (zab HB1.out Lr HB2.out), HQ2⟩
end Go.Proofs.YtofafbmpbkjhnaaGreatDoor
