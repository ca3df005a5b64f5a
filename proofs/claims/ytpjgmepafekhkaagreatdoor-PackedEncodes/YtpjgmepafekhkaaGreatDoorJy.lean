/- packed: against, and its function. -/
import Derived.Test.YtpjgmepafekhkaaGreatDoorJv
namespace Go.Proofs.YtpjgmepafekhkaaGreatDoor
open Go.RowKit

/-- What against's function holds. -/
structure Ag (w : World) (a b1 b2 b3 b4 : Nat) (qo : Option Addr) (qn qc : Nat) (ro : Option Addr) (rn rc : Nat) (b : Bool) (P q : List Int) : Prop where
  c1 : w.cell? ⟨b1, 0, none⟩ = some (.pointer (some ⟨a, 0, none⟩))
  c2 : w.cell? ⟨b2, 0, none⟩ = some (.slice qo qn qc)
  c3 : w.cell? ⟨b3, 0, none⟩ = some (.bool b)
  c4 : w.cell? ⟨b4, 0, none⟩ = some (.slice ro rn rc)
  l1 : b1 < w.heap.size
  l2 : b2 < w.heap.size
  l3 : b3 < w.heap.size
  l4 : b4 < w.heap.size
  hq : Sl w qo qn qc q
  hr : Sl w ro rn rc (if b then q.drop P.length else q)
  hb : b = decide (q.take P.length = P)
set_option maxRecDepth 100000 in
theorem Ag.go {w v : World} {a b1 b2 b3 b4 : Nat} {qo : Option Addr} {qn qc : Nat} {ro : Option Addr} {rn rc : Nat} {b : Bool} {P q : List Int} (h : Ag w a b1 b2 b3 b4 qo qn qc ro rn rc b P q) (hb : Below w.heap.size w v) : Ag v a b1 b2 b3 b4 qo qn qc ro rn rc b P q :=
  ⟨(hb.cell (p := ⟨b1, 0, none⟩) h.l1).trans h.c1, (hb.cell (p := ⟨b2, 0, none⟩) h.l2).trans h.c2, (hb.cell (p := ⟨b3, 0, none⟩) h.l3).trans h.c3, (hb.cell (p := ⟨b4, 0, none⟩) h.l4).trans h.c4, Nat.lt_of_lt_of_le h.l1 hb.size, Nat.lt_of_lt_of_le h.l2 hb.size, Nat.lt_of_lt_of_le h.l3 hb.size, Nat.lt_of_lt_of_le h.l4 hb.size, h.hq.on (Nat.le_refl _) hb, h.hr.on (Nat.le_refl _) hb, h.hb⟩

set_option maxRecDepth 100000 in
set_option maxHeartbeats 2000000 in
theorem against1_any (w : World) (a : Nat) (k : Int) (n : Nat) (po : Option Addr) (pn pc : Nat) (bo : Option Addr) (bn bc : Nat) (so : Option Addr) (sn sc : Nat) (ws : Int) (P body : List Int) (st : List Nat) (cs : List Cl) (h : PgQ w a k n po pn pc bo bn bc so sn sc ws P body st) (hl : LayQ k P cs body st) (i : Nat) (c : Cl) (hci : cs[i]? = some c) (hbn : bn ≤ 1099511627776)
    (b1 b2 b3 b4 : Nat) (qo : Option Addr) (qn qc : Nat) (ro : Option Addr) (rn rc : Nat) (b : Bool) (q : List Int) (hA : Ag w a b1 b2 b3 b4 qo qn qc ro rn rc b P q) :
    Calls Tryz.prog 92 #[.int .i64 (i : Int), .pointer (some ⟨b1, 0, none⟩), .pointer (some ⟨b2, 0, none⟩), .pointer (some ⟨b3, 0, none⟩), .pointer (some ⟨b4, 0, none⟩)] w fun e w' => e = .returned (.int .i64 (ordL c.key q)) ∧ Hid (Below w.heap.size w w') := by
  obtain ⟨p0, p1, p2, p3, p4, p5⟩ := h.cells
  have HA := hidden hA
  have HR : Hid (∀ u, Below w.heap.size w u → Calls Tryz.prog 93 #[.pointer (some ⟨a, 0, none⟩), .int .i64 (i : Int)] u fun e w' => ∃ ko kn kc, e = .returned (.slice ko kn kc) ∧ (w'.cell? ⟨b2, 0, none⟩ = some (.slice qo qn qc) ∧ w'.cell? ⟨b4, 0, none⟩ = some (.slice ro rn rc)) ∧ Hid (Sl w' ko kn kc (c.key.drop (if k = 3 ∧ i = 0 then 0 else P.length)) ∧ Below w.heap.size w w')) := by
    refine hidden fun u hu => (prest_any u a k n po pn pc bo bn bc so sn sc ws P body st cs (h.on hu) hl i c hci hbn).mono ?_
    rintro e w' ⟨ko, kn, kc, rfl, HS, HB⟩
    have hb := bl_go hu (Nat.le_refl _) HB.out
    have ha := HA.out.go hb
    exact ⟨ko, kn, kc, rfl, ⟨ha.c2, ha.c4⟩, hidden ⟨HS.out, hb⟩⟩
  have HBEG : Hid (¬ (k = 3 ∧ i = 0) → c.key.take P.length = P) := hidden fun hc => hl.beg c (mem_ktl hci hc)
  have HPR := hidden h.pre
  obtain ⟨c1, c2, c3, c4, l1, l2, l3, l4, hq, hr, hb⟩ := hA
  have HB0 := hidden hb
  by_cases hk : k = 3 ∧ i = 0
  · have HSW : Hid (∀ u, Calls Tryz.prog 54 #[.int .i64 k, .int .i64 (i : Int)] u fun e w' => e = .returned (.bool true) ∧ w' = u) := hidden (fun u => by
      have := standsWhole_any k (i : Int) u
      rwa [decide_eq_true (show k = 3 ∧ (i : Int) = 0 by omega)] at this)
    rw [if_pos hk] at HR
    have HC : Hid (∀ u ko kn kc, Hid (Sl u ko kn kc (c.key.drop 0) ∧ Below w.heap.size w u) → Calls Tryz.prog 65 #[.slice ko kn kc, .slice qo qn qc] u fun e w' => e = .returned (.int .i64 (ordL c.key q)) ∧ w' = u) := hidden fun u ko kn kc hu => by
      have := compare_any ko qo kn qn kc qc _ q u hu.out.1 (HA.out.hq.on (Nat.le_refl _) hu.out.2)
      simpa using this
    clear h hl hk hb hq hr hci
    go_enter Tryz.func92, Tryz.ntmps92
    go_wp2_with (first | (go_at_call 54; refine same_call (HSW.out _) ?_))
    go_region_with (first
      | (go_at_call 65; refine same_call (HC.out _ _ _ _ (by first | exact HS1 | exact hidden ⟨HS1.out.1.on (Nat.le_refl _) (Below.refl _ _).drew, HS1.out.2.drew⟩ | exact hidden ⟨HS1.out.1.drewN _, bl_dr HS1.out.2 _⟩)) ?_)
      | (go_at_call 93; refine (HR.out _ (by first | exact Below.refl _ _ | exact (Below.refl _ _).drew | exact bl_dr (Below.refl _ _) _)).mono ?_; rintro e u1 ⟨ko, kn, kc, rfl, ⟨x2, x4⟩, HS1⟩))
    all_goals
      go_wp2
      go_ret
      exact ⟨rfl, hidden (by first | exact HS1.out.2 | exact HS1.out.2.drew | exact bl_dr HS1.out.2 _)⟩
  · have HSW : Hid (∀ u, Calls Tryz.prog 54 #[.int .i64 k, .int .i64 (i : Int)] u fun e w' => e = .returned (.bool false) ∧ w' = u) := hidden (fun u => by
      have := standsWhole_any k (i : Int) u
      rwa [decide_eq_false (show ¬ (k = 3 ∧ (i : Int) = 0) by omega)] at this)
    have hbeg := HBEG.out hk
    rw [if_neg hk] at HR
    cases b with
    | true =>
      have HC : Hid (∀ u ko kn kc, Hid (Sl u ko kn kc (c.key.drop P.length) ∧ Below w.heap.size w u) → Calls Tryz.prog 65 #[.slice ko kn kc, .slice ro rn rc] u fun e w' => e = .returned (.int .i64 (ordL c.key q)) ∧ w' = u) := hidden fun u ko kn kc hu => by
        have h3 := HA.out.hr.on (Nat.le_refl _) hu.out.2
        rw [if_pos rfl] at h3
        have := compare_any ko ro kn rn kc rc _ _ u hu.out.1 h3
        have e1 : c.key = P ++ c.key.drop P.length := by
          conv => lhs; rw [← List.take_append_drop P.length c.key, hbeg]
        have e2 : q = P ++ q.drop P.length := by
          conv => lhs; rw [← List.take_append_drop P.length q, show q.take P.length = P from by simpa using HB0.out.symm]
        have e3 : ordL c.key q = ordL (c.key.drop P.length) (q.drop P.length) := by
          conv => lhs; rw [e1, e2]
          exact ordQ_app _ _ _
        rw [e3]
        exact this
      clear h hl hk hb hq hr hci hbeg
      go_enter Tryz.func92, Tryz.ntmps92
      go_wp2_with (first | (go_at_call 54; refine same_call (HSW.out _) ?_))
      go_region_with (first
        | (go_at_call 65; refine same_call (HC.out _ _ _ _ (by first | exact HS1 | exact hidden ⟨HS1.out.1.on (Nat.le_refl _) (Below.refl _ _).drew, HS1.out.2.drew⟩ | exact hidden ⟨HS1.out.1.drewN _, bl_dr HS1.out.2 _⟩)) ?_)
        | (go_at_call 93; refine (HR.out _ (by first | exact Below.refl _ _ | exact (Below.refl _ _).drew | exact bl_dr (Below.refl _ _) _)).mono ?_; rintro e u1 ⟨ko, kn, kc, rfl, ⟨x2, x4⟩, HS1⟩))
      all_goals
        go_wp2
        go_ret
        exact ⟨rfl, hidden (by first | exact HS1.out.2 | exact HS1.out.2.drew | exact bl_dr HS1.out.2 _)⟩
    | false =>
      have HC : Hid (∀ u, Below w.heap.size w u → Calls Tryz.prog 65 #[.slice po pn pc, .slice qo qn qc] u fun e w' => e = .returned (.int .i64 (ordL c.key q)) ∧ w' = u) := hidden fun u hu => by
        have := compare_any po qo pn qn pc qc P q u (HPR.out.on (Nat.le_refl _) hu) (HA.out.hq.on (Nat.le_refl _) hu)
        have e1 : c.key = P ++ c.key.drop P.length := by
          conv => lhs; rw [← List.take_append_drop P.length c.key, hbeg]
        have e3 : ordL c.key q = ordL P q := by
          conv => lhs; rw [e1]
          exact ordQ_pre _ _ _ (by simpa using HB0.out.symm)
        rw [e3]
        exact this
      clear h hl hk hb hq hr hci hbeg
      go_enter Tryz.func92, Tryz.ntmps92
      go_wp2_with (first | (go_at_call 54; refine same_call (HSW.out _) ?_))
      go_region_with (first | (go_at_call 65; refine same_call (HC.out _ (by first | exact Below.refl _ _ | exact (Below.refl _ _).drew | exact bl_dr (Below.refl _ _) _)) ?_))
      all_goals
        go_wp2
        go_ret
        exact ⟨rfl, hidden (by first | exact Below.refl _ _ | exact (Below.refl _ _).drew | exact bl_dr (Below.refl _ _) _)⟩

end Go.Proofs.YtpjgmepafekhkaaGreatDoor

/- packed: against. -/

namespace Go.Proofs.YtpjgmepafekhkaaGreatDoor
open Go.RowKit

/-- What against comes to. -/
def AgTo (a : Nat) (qo : Option Addr) (qn qc : Nat) (P q : List Int) (w : World) (e : Ending) (w' : World) : Prop :=
  ∃ (b1 b2 b3 b4 : Nat) (ro : Option Addr) (rn rc : Nat) (b : Bool), e = .returned (.func (.func 92) #[] #[.pointer (some ⟨b1, 0, none⟩), .pointer (some ⟨b2, 0, none⟩), .pointer (some ⟨b3, 0, none⟩), .pointer (some ⟨b4, 0, none⟩)]) ∧ Hid (Ag w' a b1 b2 b3 b4 qo qn qc ro rn rc b P q) ∧ Hid (Below w.heap.size w w')
set_option maxRecDepth 100000 in
theorem AgTo.of {w x z : World} {a s b3 b4 : Nat} {qo : Option Addr} {qn qc : Nat} {ro : Option Addr} {rn rc : Nat} {b : Bool} {P q : List Int} (hbx : Below w.heap.size w x) (hb : b = decide (q.take P.length = P)) (hq : Sl x qo qn qc q) (hr : Sl x ro rn rc (if b then q.drop P.length else q)) (hxs : x.heap.size = s + 2) (h12 : x.cell? ⟨s, 0, none⟩ = some (.pointer (some ⟨a, 0, none⟩)) ∧ x.cell? ⟨s + 1, 0, none⟩ = some (.slice qo qn qc)) (hz : Below x.heap.size x z)
    (c3 : z.cell? ⟨b3, 0, none⟩ = some (.bool b)) (c4 : z.cell? ⟨b4, 0, none⟩ = some (.slice ro rn rc)) (l3 : b3 < z.heap.size) (l4 : b4 < z.heap.size) :
    AgTo a qo qn qc P q w (.returned (.func (.func 92) #[] #[.pointer (some ⟨s, 0, none⟩), .pointer (some ⟨s + 1, 0, none⟩), .pointer (some ⟨b3, 0, none⟩), .pointer (some ⟨b4, 0, none⟩)])) z := by
  have := hz.size
  exact ⟨s, s + 1, b3, b4, ro, rn, rc, b, rfl, hidden ⟨(hz.cell (p := ⟨s, 0, none⟩) (by simp only; omega)).trans h12.1, (hz.cell (p := ⟨s + 1, 0, none⟩) (by simp only; omega)).trans h12.2, c3, c4, by omega, by omega, l3, l4, hq.on (Nat.le_refl _) hz, hr.on (Nat.le_refl _) hz, hb⟩, hidden (bl_go hbx (Nat.le_refl _) hz)⟩
set_option maxRecDepth 100000 in
set_option maxHeartbeats 2000000 in
theorem against_any (w : World) (a : Nat) (k : Int) (n : Nat) (po : Option Addr) (pn pc : Nat) (vb vs : Value) (ws : Int) (P : List Int) (h : QR w a k n (.slice po pn pc) vb vs ws) (hP : Sl w po pn pc P) (qo : Option Addr) (qn qc : Nat) (q : List Int) (hq : Sl w qo qn qc q) :
    Calls Tryz.prog 60 #[.pointer (some ⟨a, 0, none⟩), .slice qo qn qc] w fun e w' => AgTo a qo qn qc P q w e w' := by
  obtain ⟨x, hx⟩ : ∃ x, (w.alloc (.cells #[.pointer (some ⟨a, 0, none⟩)] 41)).alloc (.cells #[.slice qo qn qc] 26) = x := ⟨_, rfl⟩
  have hbx : Below w.heap.size w x := by rw [← hx]; exact bl_al (bl_al (Below.refl _ _) (Nat.le_refl _) _) (Nat.le_refl _) _
  obtain ⟨ro, rn, rc, b, hb, hr, hcut⟩ := cut_row qo po qn pn qc pc q P x (hq.on (Nat.le_refl _) hbx) (hP.on (Nat.le_refl _) hbx)
  have HCUT := hidden hcut
  obtain ⟨p0, p1, p2, p3, p4, p5⟩ := (show QR x a k n (.slice po pn pc) vb vs ws from box_on h hbx).cells
  have p2a := fun o => (show QR (x.alloc o) a k n (.slice po pn pc) vb vs ws from box_on (box_on h hbx) (bl_al (Below.refl _ _) (Nat.le_refl _) _)).cells.2.2.1
  have p2b := fun o o' => (show QR ((x.alloc o).alloc o') a k n (.slice po pn pc) vb vs ws from box_on (box_on h hbx) (bl_al (bl_al (Below.refl _ _) (Nat.le_refl _) _) (Nat.le_refl _) _)).cells.2.2.1
  obtain ⟨s, hs⟩ : ∃ s, w.heap.size = s := ⟨_, rfl⟩
  have x1 : x.cell? ⟨s, 0, none⟩ = some (.pointer (some ⟨a, 0, none⟩)) := by rw [← hx, ← hs]; simp
  have x2 : x.cell? ⟨s + 1, 0, none⟩ = some (.slice qo qn qc) := by rw [← hx, ← hs]; simp
  have hxs : x.heap.size = s + 2 := by rw [← hx, ← hs]; simp
  have HSF : Hid (∀ u, Below x.heap.size x u → u.cell? ⟨s, 0, none⟩ = some (.pointer (some ⟨a, 0, none⟩)) ∧ u.cell? ⟨s + 1, 0, none⟩ = some (.slice qo qn qc) ∧ u.cell? ⟨a, 2, none⟩ = some (.slice po pn pc)) := hidden fun u hu => ⟨(hu.cell (p := ⟨s, 0, none⟩) (by simp only; omega)).trans x1, (hu.cell (p := ⟨s + 1, 0, none⟩) (by simp only; omega)).trans x2, (show QR u a k n (.slice po pn pc) vb vs ws from box_on (box_on h hbx) hu).cells.2.2.1⟩
  have HBX := hidden hbx
  have HB := hidden hb
  have HR := hidden hr
  have HQ := hidden (hq.on (Nat.le_refl _) hbx)
  have HX12 := hidden (And.intro x1 x2)
  clear h hP hq hcut hb hr p2a p2b hbx
  go_enter Tryz.func60, Tryz.ntmps60
  go_wp2_with fail
  refine wp_region_held_drew (S := (fun u => u.cell? ⟨s, 0, none⟩ = some (.pointer (some ⟨a, 0, none⟩)) ∧ u.cell? ⟨s + 1, 0, none⟩ = some (.slice qo qn qc) ∧ u.cell? ⟨a, 2, none⟩ = some (.slice po pn pc))) (by kernel_rfl) (HSF.out _ (Below.refl _ _).drew) (fun hHeld => ?_)
  refine wpAnyH_take (i := 0) (v := ?_) rfl (by kernel_rfl) (by kernel_rfl) (by kernel_rfl) (fun _ _ _ h => h) (Or.inl ⟨by rfl, ?_⟩) (by assumption) ?_
  rotate_left
  · (intro w hSw; obtain ⟨s0, s1, s2⟩ := hSw; go_simp; try (with_reducible rfl))
  try simp only [Act.put, List.getElem_toArray, List.getElem_cons_zero, List.setIfInBounds_toArray, List.set_cons_zero, List.set_cons_succ]
  refine wpAnyH_take (i := 1) (v := ?_) rfl (by kernel_rfl) (by kernel_rfl) (by kernel_rfl) (fun _ _ _ h => h) (Or.inl ⟨by rfl, ?_⟩) (by assumption) ?_
  rotate_left
  · (intro w hSw; obtain ⟨s0, s1, s2⟩ := hSw; go_simp; try (with_reducible rfl))
  try simp only [Act.put, List.getElem_toArray, List.getElem_cons_succ, List.getElem_cons_zero, List.setIfInBounds_toArray, List.set_cons_zero, List.set_cons_succ]
  refine wpAnyH_take (i := 2) (v := ?_) rfl (by kernel_rfl) (by kernel_rfl) (by kernel_rfl) (fun _ _ _ h => h) (Or.inl ⟨by rfl, ?_⟩) (by assumption) ?_
  rotate_left
  · (intro w hSw; obtain ⟨s0, s1, s2⟩ := hSw; go_simp; try (with_reducible rfl))
  try simp only [Act.put, List.getElem_toArray, List.getElem_cons_succ, List.getElem_cons_zero, List.setIfInBounds_toArray, List.set_cons_zero, List.set_cons_succ]
  refine wpAnyH_take (i := 3) (v := ?_) rfl (by kernel_rfl) (by kernel_rfl) (by kernel_rfl) (fun _ _ _ h => h) (Or.inl ⟨by rfl, ?_⟩) (by assumption) ?_
  rotate_left
  · (intro w hSw; obtain ⟨s0, s1, s2⟩ := hSw; go_simp; try (with_reducible rfl))
  try simp only [Act.put, List.getElem_toArray, List.getElem_cons_succ, List.getElem_cons_zero, List.setIfInBounds_toArray, List.set_cons_zero, List.set_cons_succ]
  refine wpAnyH_take (i := 4) (v := ?_) rfl (by kernel_rfl) (by kernel_rfl) (by kernel_rfl) (fun _ _ _ h => h) (Or.inl ⟨by rfl, ?_⟩) (by assumption) ?_
  rotate_left
  · (intro w hSw; obtain ⟨s0, s1, s2⟩ := hSw; go_simp; try (with_reducible rfl))
  try simp only [Act.put, List.getElem_toArray, List.getElem_cons_succ, List.getElem_cons_zero, List.setIfInBounds_toArray, List.set_cons_zero, List.set_cons_succ]
  refine wpAnyH_ready (rs := [5, 9, 10]) (by kernel_rfl) (by simp) ?_
  refine AllReadyH.cons rfl (fun K hK => ?_) (AllReadyH.cons rfl (fun K hK => ?_) (AllReadyH.cons rfl (fun K hK => ?_) AllReadyH.nil))
  · go_simp
    go_at_call 91
    refine same_call (HCUT.out _ (by repeat (first | exact Below.refl _ _ | apply Below.drew | apply below_drewN | refine bl_al ?_ (Nat.le_refl _) _ | refine Below.setCell ?_ (by simp; try omega) _))) ?_
    dsimp only
    refine hK.out _ _ (HSF.out _ (by repeat (first | exact Below.refl _ _ | apply Below.drew | apply below_drewN | refine bl_al ?_ (Nat.le_refl _) _ | refine Below.setCell ?_ (by simp; try omega) _))) (fun hHeld => ?_)
    clear hK K
    try simp only [Act.put, List.getElem_toArray, List.getElem_cons_succ, List.getElem_cons_zero, List.setIfInBounds_toArray, List.set_cons_zero, List.set_cons_succ]
    refine wpAnyH_take (i := 6) (v := ?_) rfl (by kernel_rfl) (by kernel_rfl) (by kernel_rfl) (fun _ _ _ h => h) (Or.inl ⟨by rfl, ?_⟩) (by assumption) ?_
    rotate_left
    · (intro w hSw; obtain ⟨s0, s1, s2⟩ := hSw; go_simp; try (with_reducible rfl))
    try simp only [Act.put, List.getElem_toArray, List.getElem_cons_succ, List.getElem_cons_zero, List.setIfInBounds_toArray, List.set_cons_zero, List.set_cons_succ]
    refine wpAnyH_take (i := 7) (v := ?_) rfl (by kernel_rfl) (by kernel_rfl) (by kernel_rfl) (fun _ _ _ h => h) (Or.inl ⟨by rfl, ?_⟩) (by assumption) ?_
    rotate_left
    · (intro w hSw; obtain ⟨s0, s1, s2⟩ := hSw; go_simp; try (with_reducible rfl))
    try simp only [Act.put, List.getElem_toArray, List.getElem_cons_succ, List.getElem_cons_zero, List.setIfInBounds_toArray, List.set_cons_zero, List.set_cons_succ]
    refine wpAnyH_take (i := 8) (v := ?_) rfl (by kernel_rfl) (by kernel_rfl) (by kernel_rfl) (fun _ _ _ h => h) (Or.inl ⟨by rfl, ?_⟩) (by assumption) ?_
    rotate_left
    · (intro w hSw; obtain ⟨s0, s1, s2⟩ := hSw; go_simp; try (with_reducible rfl))
    try simp only [Act.put, List.getElem_toArray, List.getElem_cons_succ, List.getElem_cons_zero, List.setIfInBounds_toArray, List.set_cons_zero, List.set_cons_succ]
    refine wpAnyH_ready (rs := [9, 10]) (by kernel_rfl) (by simp) ?_
    refine AllReadyH.cons rfl (fun K hK => ?_) (AllReadyH.cons rfl (fun K hK => ?_) AllReadyH.nil)
    · go_simp
      refine hK.out _ _ (HSF.out _ (by repeat (first | exact Below.refl _ _ | apply Below.drew | apply below_drewN | refine bl_al ?_ (Nat.le_refl _) _ | refine Below.setCell ?_ (by simp; try omega) _))) (fun hHeld => ?_)
      clear hK K
      try simp only [Act.put, List.getElem_toArray, List.getElem_cons_succ, List.getElem_cons_zero, List.setIfInBounds_toArray, List.set_cons_zero, List.set_cons_succ]
      refine wpAnyH_ready (rs := [10]) (by kernel_rfl) (by simp) ?_
      refine AllReadyH.cons rfl (fun K hK => ?_) AllReadyH.nil
      · go_simp
        refine hK.out _ _ (HSF.out _ (by repeat (first | exact Below.refl _ _ | apply Below.drew | apply below_drewN | refine bl_al ?_ (Nat.le_refl _) _ | refine Below.setCell ?_ (by simp; try omega) _))) (fun hHeld => ?_)
        clear hK K
        try simp only [Act.put, List.getElem_toArray, List.getElem_cons_succ, List.getElem_cons_zero, List.setIfInBounds_toArray, List.set_cons_zero, List.set_cons_succ]
        refine wpAnyH_ready (rs := [11]) (by kernel_rfl) (by simp) ?_
        refine AllReadyH.cons rfl (fun K hK => ?_) AllReadyH.nil
        go_simp
        refine hK.out _ _ (HSF.out _ (by repeat (first | exact Below.refl _ _ | apply Below.drew | apply below_drewN | refine bl_al ?_ (Nat.le_refl _) _ | refine Below.setCell ?_ (by simp; try omega) _))) (fun hHeld => ?_)
        clear hK K
        try simp only [Act.put, List.getElem_toArray, List.getElem_cons_succ, List.getElem_cons_zero, List.setIfInBounds_toArray, List.set_cons_zero, List.set_cons_succ]
        refine wpAnyH_ready (rs := [12]) (by kernel_rfl) (by simp) ?_
        refine AllReadyH.cons rfl (fun K hK => ?_) AllReadyH.nil
        go_simp
        refine hK.out _ _ (HSF.out _ (by repeat (first | exact Below.refl _ _ | apply Below.drew | apply below_drewN | refine bl_al ?_ (Nat.le_refl _) _ | refine Below.setCell ?_ (by simp; try omega) _))) (fun hHeld => ?_)
        clear hK K
        try simp only [Act.put, List.getElem_toArray, List.getElem_cons_succ, List.getElem_cons_zero, List.setIfInBounds_toArray, List.set_cons_zero, List.set_cons_succ]
        refine wpAnyH_done (by kernel_rfl) ?_ _
        go_wp2
        go_ret
        exact AgTo.of HBX.out HB.out HQ.out HR.out hxs HX12.out (by repeat (first | exact Below.refl _ _ | apply Below.drew | apply below_drewN | refine bl_al ?_ (Nat.le_refl _) _ | refine Below.setCell ?_ (by simp; try omega) _)) (by rw [← hxs]; simp) (by rw [← hxs]; simp) (by simp; try omega) (by simp; try omega)
    · go_simp
      refine hK.out _ _ (HSF.out _ (by repeat (first | exact Below.refl _ _ | apply Below.drew | apply below_drewN | refine bl_al ?_ (Nat.le_refl _) _ | refine Below.setCell ?_ (by simp; try omega) _))) (fun hHeld => ?_)
      clear hK K
      try simp only [Act.put, List.getElem_toArray, List.getElem_cons_succ, List.getElem_cons_zero, List.setIfInBounds_toArray, List.set_cons_zero, List.set_cons_succ]
      refine wpAnyH_ready (rs := [9]) (by kernel_rfl) (by simp) ?_
      refine AllReadyH.cons rfl (fun K hK => ?_) AllReadyH.nil
      · go_simp
        refine hK.out _ _ (HSF.out _ (by repeat (first | exact Below.refl _ _ | apply Below.drew | apply below_drewN | refine bl_al ?_ (Nat.le_refl _) _ | refine Below.setCell ?_ (by simp; try omega) _))) (fun hHeld => ?_)
        clear hK K
        try simp only [Act.put, List.getElem_toArray, List.getElem_cons_succ, List.getElem_cons_zero, List.setIfInBounds_toArray, List.set_cons_zero, List.set_cons_succ]
        refine wpAnyH_ready (rs := [11]) (by kernel_rfl) (by simp) ?_
        refine AllReadyH.cons rfl (fun K hK => ?_) AllReadyH.nil
        go_simp
        refine hK.out _ _ (HSF.out _ (by repeat (first | exact Below.refl _ _ | apply Below.drew | apply below_drewN | refine bl_al ?_ (Nat.le_refl _) _ | refine Below.setCell ?_ (by simp; try omega) _))) (fun hHeld => ?_)
        clear hK K
        try simp only [Act.put, List.getElem_toArray, List.getElem_cons_succ, List.getElem_cons_zero, List.setIfInBounds_toArray, List.set_cons_zero, List.set_cons_succ]
        refine wpAnyH_ready (rs := [12]) (by kernel_rfl) (by simp) ?_
        refine AllReadyH.cons rfl (fun K hK => ?_) AllReadyH.nil
        go_simp
        refine hK.out _ _ (HSF.out _ (by repeat (first | exact Below.refl _ _ | apply Below.drew | apply below_drewN | refine bl_al ?_ (Nat.le_refl _) _ | refine Below.setCell ?_ (by simp; try omega) _))) (fun hHeld => ?_)
        clear hK K
        try simp only [Act.put, List.getElem_toArray, List.getElem_cons_succ, List.getElem_cons_zero, List.setIfInBounds_toArray, List.set_cons_zero, List.set_cons_succ]
        refine wpAnyH_done (by kernel_rfl) ?_ _
        go_wp2
        go_ret
        exact AgTo.of HBX.out HB.out HQ.out HR.out hxs HX12.out (by repeat (first | exact Below.refl _ _ | apply Below.drew | apply below_drewN | refine bl_al ?_ (Nat.le_refl _) _ | refine Below.setCell ?_ (by simp; try omega) _)) (by rw [← hxs]; simp) (by rw [← hxs]; simp) (by simp; try omega) (by simp; try omega)
  · go_simp
    refine hK.out _ _ (HSF.out _ (by repeat (first | exact Below.refl _ _ | apply Below.drew | apply below_drewN | refine bl_al ?_ (Nat.le_refl _) _ | refine Below.setCell ?_ (by simp; try omega) _))) (fun hHeld => ?_)
    clear hK K
    try simp only [Act.put, List.getElem_toArray, List.getElem_cons_succ, List.getElem_cons_zero, List.setIfInBounds_toArray, List.set_cons_zero, List.set_cons_succ]
    refine wpAnyH_ready (rs := [5, 10]) (by kernel_rfl) (by simp) ?_
    refine AllReadyH.cons rfl (fun K hK => ?_) (AllReadyH.cons rfl (fun K hK => ?_) AllReadyH.nil)
    · go_simp
      go_at_call 91
      refine same_call (HCUT.out _ (by repeat (first | exact Below.refl _ _ | apply Below.drew | apply below_drewN | refine bl_al ?_ (Nat.le_refl _) _ | refine Below.setCell ?_ (by simp; try omega) _))) ?_
      dsimp only
      refine hK.out _ _ (HSF.out _ (by repeat (first | exact Below.refl _ _ | apply Below.drew | apply below_drewN | refine bl_al ?_ (Nat.le_refl _) _ | refine Below.setCell ?_ (by simp; try omega) _))) (fun hHeld => ?_)
      clear hK K
      try simp only [Act.put, List.getElem_toArray, List.getElem_cons_succ, List.getElem_cons_zero, List.setIfInBounds_toArray, List.set_cons_zero, List.set_cons_succ]
      refine wpAnyH_take (i := 6) (v := ?_) rfl (by kernel_rfl) (by kernel_rfl) (by kernel_rfl) (fun _ _ _ h => h) (Or.inl ⟨by rfl, ?_⟩) (by assumption) ?_
      rotate_left
      · (intro w hSw; obtain ⟨s0, s1, s2⟩ := hSw; go_simp; try (with_reducible rfl))
      try simp only [Act.put, List.getElem_toArray, List.getElem_cons_succ, List.getElem_cons_zero, List.setIfInBounds_toArray, List.set_cons_zero, List.set_cons_succ]
      refine wpAnyH_take (i := 7) (v := ?_) rfl (by kernel_rfl) (by kernel_rfl) (by kernel_rfl) (fun _ _ _ h => h) (Or.inl ⟨by rfl, ?_⟩) (by assumption) ?_
      rotate_left
      · (intro w hSw; obtain ⟨s0, s1, s2⟩ := hSw; go_simp; try (with_reducible rfl))
      try simp only [Act.put, List.getElem_toArray, List.getElem_cons_succ, List.getElem_cons_zero, List.setIfInBounds_toArray, List.set_cons_zero, List.set_cons_succ]
      refine wpAnyH_take (i := 8) (v := ?_) rfl (by kernel_rfl) (by kernel_rfl) (by kernel_rfl) (fun _ _ _ h => h) (Or.inl ⟨by rfl, ?_⟩) (by assumption) ?_
      rotate_left
      · (intro w hSw; obtain ⟨s0, s1, s2⟩ := hSw; go_simp; try (with_reducible rfl))
      try simp only [Act.put, List.getElem_toArray, List.getElem_cons_succ, List.getElem_cons_zero, List.setIfInBounds_toArray, List.set_cons_zero, List.set_cons_succ]
      refine wpAnyH_ready (rs := [10]) (by kernel_rfl) (by simp) ?_
      refine AllReadyH.cons rfl (fun K hK => ?_) AllReadyH.nil
      · go_simp
        refine hK.out _ _ (HSF.out _ (by repeat (first | exact Below.refl _ _ | apply Below.drew | apply below_drewN | refine bl_al ?_ (Nat.le_refl _) _ | refine Below.setCell ?_ (by simp; try omega) _))) (fun hHeld => ?_)
        clear hK K
        try simp only [Act.put, List.getElem_toArray, List.getElem_cons_succ, List.getElem_cons_zero, List.setIfInBounds_toArray, List.set_cons_zero, List.set_cons_succ]
        refine wpAnyH_ready (rs := [11]) (by kernel_rfl) (by simp) ?_
        refine AllReadyH.cons rfl (fun K hK => ?_) AllReadyH.nil
        go_simp
        refine hK.out _ _ (HSF.out _ (by repeat (first | exact Below.refl _ _ | apply Below.drew | apply below_drewN | refine bl_al ?_ (Nat.le_refl _) _ | refine Below.setCell ?_ (by simp; try omega) _))) (fun hHeld => ?_)
        clear hK K
        try simp only [Act.put, List.getElem_toArray, List.getElem_cons_succ, List.getElem_cons_zero, List.setIfInBounds_toArray, List.set_cons_zero, List.set_cons_succ]
        refine wpAnyH_ready (rs := [12]) (by kernel_rfl) (by simp) ?_
        refine AllReadyH.cons rfl (fun K hK => ?_) AllReadyH.nil
        go_simp
        refine hK.out _ _ (HSF.out _ (by repeat (first | exact Below.refl _ _ | apply Below.drew | apply below_drewN | refine bl_al ?_ (Nat.le_refl _) _ | refine Below.setCell ?_ (by simp; try omega) _))) (fun hHeld => ?_)
        clear hK K
        try simp only [Act.put, List.getElem_toArray, List.getElem_cons_succ, List.getElem_cons_zero, List.setIfInBounds_toArray, List.set_cons_zero, List.set_cons_succ]
        refine wpAnyH_done (by kernel_rfl) ?_ _
        go_wp2
        go_ret
        exact AgTo.of HBX.out HB.out HQ.out HR.out hxs HX12.out (by repeat (first | exact Below.refl _ _ | apply Below.drew | apply below_drewN | refine bl_al ?_ (Nat.le_refl _) _ | refine Below.setCell ?_ (by simp; try omega) _)) (by rw [← hxs]; simp) (by rw [← hxs]; simp) (by simp; try omega) (by simp; try omega)
    · go_simp
      refine hK.out _ _ (HSF.out _ (by repeat (first | exact Below.refl _ _ | apply Below.drew | apply below_drewN | refine bl_al ?_ (Nat.le_refl _) _ | refine Below.setCell ?_ (by simp; try omega) _))) (fun hHeld => ?_)
      clear hK K
      try simp only [Act.put, List.getElem_toArray, List.getElem_cons_succ, List.getElem_cons_zero, List.setIfInBounds_toArray, List.set_cons_zero, List.set_cons_succ]
      refine wpAnyH_ready (rs := [5]) (by kernel_rfl) (by simp) ?_
      refine AllReadyH.cons rfl (fun K hK => ?_) AllReadyH.nil
      · go_simp
        go_at_call 91
        refine same_call (HCUT.out _ (by repeat (first | exact Below.refl _ _ | apply Below.drew | apply below_drewN | refine bl_al ?_ (Nat.le_refl _) _ | refine Below.setCell ?_ (by simp; try omega) _))) ?_
        dsimp only
        refine hK.out _ _ (HSF.out _ (by repeat (first | exact Below.refl _ _ | apply Below.drew | apply below_drewN | refine bl_al ?_ (Nat.le_refl _) _ | refine Below.setCell ?_ (by simp; try omega) _))) (fun hHeld => ?_)
        clear hK K
        try simp only [Act.put, List.getElem_toArray, List.getElem_cons_succ, List.getElem_cons_zero, List.setIfInBounds_toArray, List.set_cons_zero, List.set_cons_succ]
        refine wpAnyH_take (i := 6) (v := ?_) rfl (by kernel_rfl) (by kernel_rfl) (by kernel_rfl) (fun _ _ _ h => h) (Or.inl ⟨by rfl, ?_⟩) (by assumption) ?_
        rotate_left
        · (intro w hSw; obtain ⟨s0, s1, s2⟩ := hSw; go_simp; try (with_reducible rfl))
        try simp only [Act.put, List.getElem_toArray, List.getElem_cons_succ, List.getElem_cons_zero, List.setIfInBounds_toArray, List.set_cons_zero, List.set_cons_succ]
        refine wpAnyH_take (i := 7) (v := ?_) rfl (by kernel_rfl) (by kernel_rfl) (by kernel_rfl) (fun _ _ _ h => h) (Or.inl ⟨by rfl, ?_⟩) (by assumption) ?_
        rotate_left
        · (intro w hSw; obtain ⟨s0, s1, s2⟩ := hSw; go_simp; try (with_reducible rfl))
        try simp only [Act.put, List.getElem_toArray, List.getElem_cons_succ, List.getElem_cons_zero, List.setIfInBounds_toArray, List.set_cons_zero, List.set_cons_succ]
        refine wpAnyH_take (i := 8) (v := ?_) rfl (by kernel_rfl) (by kernel_rfl) (by kernel_rfl) (fun _ _ _ h => h) (Or.inl ⟨by rfl, ?_⟩) (by assumption) ?_
        rotate_left
        · (intro w hSw; obtain ⟨s0, s1, s2⟩ := hSw; go_simp; try (with_reducible rfl))
        try simp only [Act.put, List.getElem_toArray, List.getElem_cons_succ, List.getElem_cons_zero, List.setIfInBounds_toArray, List.set_cons_zero, List.set_cons_succ]
        refine wpAnyH_ready (rs := [11]) (by kernel_rfl) (by simp) ?_
        refine AllReadyH.cons rfl (fun K hK => ?_) AllReadyH.nil
        go_simp
        refine hK.out _ _ (HSF.out _ (by repeat (first | exact Below.refl _ _ | apply Below.drew | apply below_drewN | refine bl_al ?_ (Nat.le_refl _) _ | refine Below.setCell ?_ (by simp; try omega) _))) (fun hHeld => ?_)
        clear hK K
        try simp only [Act.put, List.getElem_toArray, List.getElem_cons_succ, List.getElem_cons_zero, List.setIfInBounds_toArray, List.set_cons_zero, List.set_cons_succ]
        refine wpAnyH_ready (rs := [12]) (by kernel_rfl) (by simp) ?_
        refine AllReadyH.cons rfl (fun K hK => ?_) AllReadyH.nil
        go_simp
        refine hK.out _ _ (HSF.out _ (by repeat (first | exact Below.refl _ _ | apply Below.drew | apply below_drewN | refine bl_al ?_ (Nat.le_refl _) _ | refine Below.setCell ?_ (by simp; try omega) _))) (fun hHeld => ?_)
        clear hK K
        try simp only [Act.put, List.getElem_toArray, List.getElem_cons_succ, List.getElem_cons_zero, List.setIfInBounds_toArray, List.set_cons_zero, List.set_cons_succ]
        refine wpAnyH_done (by kernel_rfl) ?_ _
        go_wp2
        go_ret
        exact AgTo.of HBX.out HB.out HQ.out HR.out hxs HX12.out (by repeat (first | exact Below.refl _ _ | apply Below.drew | apply below_drewN | refine bl_al ?_ (Nat.le_refl _) _ | refine Below.setCell ?_ (by simp; try omega) _)) (by rw [← hxs]; simp) (by rw [← hxs]; simp) (by simp; try omega) (by simp; try omega)
  · go_simp
    refine hK.out _ _ (HSF.out _ (by repeat (first | exact Below.refl _ _ | apply Below.drew | apply below_drewN | refine bl_al ?_ (Nat.le_refl _) _ | refine Below.setCell ?_ (by simp; try omega) _))) (fun hHeld => ?_)
    clear hK K
    try simp only [Act.put, List.getElem_toArray, List.getElem_cons_succ, List.getElem_cons_zero, List.setIfInBounds_toArray, List.set_cons_zero, List.set_cons_succ]
    refine wpAnyH_ready (rs := [5, 9]) (by kernel_rfl) (by simp) ?_
    refine AllReadyH.cons rfl (fun K hK => ?_) (AllReadyH.cons rfl (fun K hK => ?_) AllReadyH.nil)
    · go_simp
      go_at_call 91
      refine same_call (HCUT.out _ (by repeat (first | exact Below.refl _ _ | apply Below.drew | apply below_drewN | refine bl_al ?_ (Nat.le_refl _) _ | refine Below.setCell ?_ (by simp; try omega) _))) ?_
      dsimp only
      refine hK.out _ _ (HSF.out _ (by repeat (first | exact Below.refl _ _ | apply Below.drew | apply below_drewN | refine bl_al ?_ (Nat.le_refl _) _ | refine Below.setCell ?_ (by simp; try omega) _))) (fun hHeld => ?_)
      clear hK K
      try simp only [Act.put, List.getElem_toArray, List.getElem_cons_succ, List.getElem_cons_zero, List.setIfInBounds_toArray, List.set_cons_zero, List.set_cons_succ]
      refine wpAnyH_take (i := 6) (v := ?_) rfl (by kernel_rfl) (by kernel_rfl) (by kernel_rfl) (fun _ _ _ h => h) (Or.inl ⟨by rfl, ?_⟩) (by assumption) ?_
      rotate_left
      · (intro w hSw; obtain ⟨s0, s1, s2⟩ := hSw; go_simp; try (with_reducible rfl))
      try simp only [Act.put, List.getElem_toArray, List.getElem_cons_succ, List.getElem_cons_zero, List.setIfInBounds_toArray, List.set_cons_zero, List.set_cons_succ]
      refine wpAnyH_take (i := 7) (v := ?_) rfl (by kernel_rfl) (by kernel_rfl) (by kernel_rfl) (fun _ _ _ h => h) (Or.inl ⟨by rfl, ?_⟩) (by assumption) ?_
      rotate_left
      · (intro w hSw; obtain ⟨s0, s1, s2⟩ := hSw; go_simp; try (with_reducible rfl))
      try simp only [Act.put, List.getElem_toArray, List.getElem_cons_succ, List.getElem_cons_zero, List.setIfInBounds_toArray, List.set_cons_zero, List.set_cons_succ]
      refine wpAnyH_take (i := 8) (v := ?_) rfl (by kernel_rfl) (by kernel_rfl) (by kernel_rfl) (fun _ _ _ h => h) (Or.inl ⟨by rfl, ?_⟩) (by assumption) ?_
      rotate_left
      · (intro w hSw; obtain ⟨s0, s1, s2⟩ := hSw; go_simp; try (with_reducible rfl))
      try simp only [Act.put, List.getElem_toArray, List.getElem_cons_succ, List.getElem_cons_zero, List.setIfInBounds_toArray, List.set_cons_zero, List.set_cons_succ]
      refine wpAnyH_ready (rs := [9]) (by kernel_rfl) (by simp) ?_
      refine AllReadyH.cons rfl (fun K hK => ?_) AllReadyH.nil
      · go_simp
        refine hK.out _ _ (HSF.out _ (by repeat (first | exact Below.refl _ _ | apply Below.drew | apply below_drewN | refine bl_al ?_ (Nat.le_refl _) _ | refine Below.setCell ?_ (by simp; try omega) _))) (fun hHeld => ?_)
        clear hK K
        try simp only [Act.put, List.getElem_toArray, List.getElem_cons_succ, List.getElem_cons_zero, List.setIfInBounds_toArray, List.set_cons_zero, List.set_cons_succ]
        refine wpAnyH_ready (rs := [11]) (by kernel_rfl) (by simp) ?_
        refine AllReadyH.cons rfl (fun K hK => ?_) AllReadyH.nil
        go_simp
        refine hK.out _ _ (HSF.out _ (by repeat (first | exact Below.refl _ _ | apply Below.drew | apply below_drewN | refine bl_al ?_ (Nat.le_refl _) _ | refine Below.setCell ?_ (by simp; try omega) _))) (fun hHeld => ?_)
        clear hK K
        try simp only [Act.put, List.getElem_toArray, List.getElem_cons_succ, List.getElem_cons_zero, List.setIfInBounds_toArray, List.set_cons_zero, List.set_cons_succ]
        refine wpAnyH_ready (rs := [12]) (by kernel_rfl) (by simp) ?_
        refine AllReadyH.cons rfl (fun K hK => ?_) AllReadyH.nil
        go_simp
        refine hK.out _ _ (HSF.out _ (by repeat (first | exact Below.refl _ _ | apply Below.drew | apply below_drewN | refine bl_al ?_ (Nat.le_refl _) _ | refine Below.setCell ?_ (by simp; try omega) _))) (fun hHeld => ?_)
        clear hK K
        try simp only [Act.put, List.getElem_toArray, List.getElem_cons_succ, List.getElem_cons_zero, List.setIfInBounds_toArray, List.set_cons_zero, List.set_cons_succ]
        refine wpAnyH_done (by kernel_rfl) ?_ _
        go_wp2
        go_ret
        exact AgTo.of HBX.out HB.out HQ.out HR.out hxs HX12.out (by repeat (first | exact Below.refl _ _ | apply Below.drew | apply below_drewN | refine bl_al ?_ (Nat.le_refl _) _ | refine Below.setCell ?_ (by simp; try omega) _)) (by rw [← hxs]; simp) (by rw [← hxs]; simp) (by simp; try omega) (by simp; try omega)
    · go_simp
      refine hK.out _ _ (HSF.out _ (by repeat (first | exact Below.refl _ _ | apply Below.drew | apply below_drewN | refine bl_al ?_ (Nat.le_refl _) _ | refine Below.setCell ?_ (by simp; try omega) _))) (fun hHeld => ?_)
      clear hK K
      try simp only [Act.put, List.getElem_toArray, List.getElem_cons_succ, List.getElem_cons_zero, List.setIfInBounds_toArray, List.set_cons_zero, List.set_cons_succ]
      refine wpAnyH_ready (rs := [5]) (by kernel_rfl) (by simp) ?_
      refine AllReadyH.cons rfl (fun K hK => ?_) AllReadyH.nil
      · go_simp
        go_at_call 91
        refine same_call (HCUT.out _ (by repeat (first | exact Below.refl _ _ | apply Below.drew | apply below_drewN | refine bl_al ?_ (Nat.le_refl _) _ | refine Below.setCell ?_ (by simp; try omega) _))) ?_
        dsimp only
        refine hK.out _ _ (HSF.out _ (by repeat (first | exact Below.refl _ _ | apply Below.drew | apply below_drewN | refine bl_al ?_ (Nat.le_refl _) _ | refine Below.setCell ?_ (by simp; try omega) _))) (fun hHeld => ?_)
        clear hK K
        try simp only [Act.put, List.getElem_toArray, List.getElem_cons_succ, List.getElem_cons_zero, List.setIfInBounds_toArray, List.set_cons_zero, List.set_cons_succ]
        refine wpAnyH_take (i := 6) (v := ?_) rfl (by kernel_rfl) (by kernel_rfl) (by kernel_rfl) (fun _ _ _ h => h) (Or.inl ⟨by rfl, ?_⟩) (by assumption) ?_
        rotate_left
        · (intro w hSw; obtain ⟨s0, s1, s2⟩ := hSw; go_simp; try (with_reducible rfl))
        try simp only [Act.put, List.getElem_toArray, List.getElem_cons_succ, List.getElem_cons_zero, List.setIfInBounds_toArray, List.set_cons_zero, List.set_cons_succ]
        refine wpAnyH_take (i := 7) (v := ?_) rfl (by kernel_rfl) (by kernel_rfl) (by kernel_rfl) (fun _ _ _ h => h) (Or.inl ⟨by rfl, ?_⟩) (by assumption) ?_
        rotate_left
        · (intro w hSw; obtain ⟨s0, s1, s2⟩ := hSw; go_simp; try (with_reducible rfl))
        try simp only [Act.put, List.getElem_toArray, List.getElem_cons_succ, List.getElem_cons_zero, List.setIfInBounds_toArray, List.set_cons_zero, List.set_cons_succ]
        refine wpAnyH_take (i := 8) (v := ?_) rfl (by kernel_rfl) (by kernel_rfl) (by kernel_rfl) (fun _ _ _ h => h) (Or.inl ⟨by rfl, ?_⟩) (by assumption) ?_
        rotate_left
        · (intro w hSw; obtain ⟨s0, s1, s2⟩ := hSw; go_simp; try (with_reducible rfl))
        try simp only [Act.put, List.getElem_toArray, List.getElem_cons_succ, List.getElem_cons_zero, List.setIfInBounds_toArray, List.set_cons_zero, List.set_cons_succ]
        refine wpAnyH_ready (rs := [11]) (by kernel_rfl) (by simp) ?_
        refine AllReadyH.cons rfl (fun K hK => ?_) AllReadyH.nil
        go_simp
        refine hK.out _ _ (HSF.out _ (by repeat (first | exact Below.refl _ _ | apply Below.drew | apply below_drewN | refine bl_al ?_ (Nat.le_refl _) _ | refine Below.setCell ?_ (by simp; try omega) _))) (fun hHeld => ?_)
        clear hK K
        try simp only [Act.put, List.getElem_toArray, List.getElem_cons_succ, List.getElem_cons_zero, List.setIfInBounds_toArray, List.set_cons_zero, List.set_cons_succ]
        refine wpAnyH_ready (rs := [12]) (by kernel_rfl) (by simp) ?_
        refine AllReadyH.cons rfl (fun K hK => ?_) AllReadyH.nil
        go_simp
        refine hK.out _ _ (HSF.out _ (by repeat (first | exact Below.refl _ _ | apply Below.drew | apply below_drewN | refine bl_al ?_ (Nat.le_refl _) _ | refine Below.setCell ?_ (by simp; try omega) _))) (fun hHeld => ?_)
        clear hK K
        try simp only [Act.put, List.getElem_toArray, List.getElem_cons_succ, List.getElem_cons_zero, List.setIfInBounds_toArray, List.set_cons_zero, List.set_cons_succ]
        refine wpAnyH_done (by kernel_rfl) ?_ _
        go_wp2
        go_ret
        exact AgTo.of HBX.out HB.out HQ.out HR.out hxs HX12.out (by repeat (first | exact Below.refl _ _ | apply Below.drew | apply below_drewN | refine bl_al ?_ (Nat.le_refl _) _ | refine Below.setCell ?_ (by simp; try omega) _)) (by rw [← hxs]; simp) (by rw [← hxs]; simp) (by simp; try omega) (by simp; try omega)
end Go.Proofs.YtpjgmepafekhkaaGreatDoor
