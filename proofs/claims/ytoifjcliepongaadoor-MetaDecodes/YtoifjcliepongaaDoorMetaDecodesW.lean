/- The walk of the law MetaDecodes, its first half: each answer is the document's. -/
import Derived.Test.YtoifjcliepongaaDoorNa
import Derived.Test.YtoifjcliepongaaDoorMy
namespace Go.Proofs.YtoifjcliepongaaDoor
open Go.RowKit

/-- What Decode answers, said of values. -/
def DecIs (l : List Int) (m : Mt) (c : Int) : Prop := Says l m ∧ c = 0 ∨ (¬ ∃ m', Says l m') ∧ m = Mt.z ∧ c = 50
set_option maxRecDepth 100000 in
theorem DecIs.det {l : List Int} {m m' : Mt} {c c' : Int} (h : DecIs l m c) (k : DecIs l m' c') : m' = m ∧ c' = c := by
  rcases h with ⟨h1, h2⟩ | ⟨h1, h2, h3⟩ <;> rcases k with ⟨k1, k2⟩ | ⟨k1, k2, k3⟩
  · exact ⟨k1.one h1, by omega⟩
  · exact absurd ⟨m, h1⟩ k1
  · exact absurd ⟨m', k1⟩ h1
  · exact ⟨by rw [k2, h2], by omega⟩
set_option maxRecDepth 100000 in
theorem Pk.det {m1 m2 m m' : Mt} {s s' c c' : Int} (h : Pk m1 m2 m s c) (k : Pk m1 m2 m' s' c') : m' = m ∧ s' = s ∧ c' = c := by
  rcases h with ⟨h1, h2, h3, h4, h5⟩ | ⟨h1, h2, h3, h4, h5⟩ | ⟨h1, h2, h3, h4, h5⟩ <;> rcases k with ⟨k1, k2, k3, k4, k5⟩ | ⟨k1, k2, k3, k4, k5⟩ | ⟨k1, k2, k3, k4, k5⟩
  · exact ⟨by rw [k3, h3], by omega, by omega⟩
  · exact absurd ⟨h1, h2⟩ k1
  · exact absurd h2 k1
  · exact absurd ⟨k1, k2⟩ h1
  · exact ⟨by rw [k3, h3], by omega, by omega⟩
  · rcases h2 with h2 | h2
    · exact absurd h2 k1
    · omega
  · exact absurd k2 h1
  · rcases k2 with k2 | k2
    · exact absurd k2 h1
    · omega
  · exact ⟨by rw [k3, h3], by omega, by omega⟩
set_option maxRecDepth 100000 in
theorem ChIs.det {la lb : List Int} {m m' : Mt} {s s' c c' : Int} (h : ChIs la lb m s c) (k : ChIs la lb m' s' c') : m' = m ∧ s' = s ∧ c' = c := by
  obtain ⟨m1, m2, h1, h2, h3⟩ := h
  exact h3.det (k.pk h1 h2)
/-- What stands while the answers are gathered: what is lent, and the answers. -/
structure Kd (w0 u : World) (gx gy nx ny : Nat) (lx ly : List Int) (L : List (Nat × Mt)) : Prop where
  bl : Below w0.heap.size w0 u
  rx : Ry u gx (nx + 8) (lx ++ spN)
  ry : Ry u gy (ny + 8) (ly ++ spN)
  rows : ∀ p ∈ L, u.heap[p.1]? = some (.cells (mtC p.2) 24 (0, 0)) ∧ p.1 ≠ gx ∧ p.1 ≠ gy ∧ w0.heap.size ≤ p.1
  ne : gx ≠ gy
  bx : w0.heap.size ≤ gx
  b_y : w0.heap.size ≤ gy
  srt : L.Pairwise (fun p q => q.1 < p.1)
set_option maxRecDepth 100000 in
theorem Kd.on {w0 u v : World} {gx gy nx ny : Nat} {lx ly : List Int} {L : List (Nat × Mt)} (h : Kd w0 u gx gy nx ny lx ly L) (hb : Below u.heap.size u v) : Kd w0 v gx gy nx ny lx ly L :=
  ⟨bl_go h.bl (Nat.le_refl _) hb, h.rx.on hb, h.ry.on hb, fun p hp => ⟨box_on (h.rows p hp).1 hb, (h.rows p hp).2⟩, h.ne, h.bx, h.b_y, h.srt⟩
set_option maxRecDepth 100000 in
theorem Kd.box {w0 u : World} {gx gy nx ny : Nat} {lx ly : List Int} {L : List (Nat × Mt)} (h : Kd w0 u gx gy nx ny lx ly L) (m : Mt) : Kd w0 (u.alloc (.cells (mtC m) 24)) gx gy nx ny lx ly ((u.heap.size, m) :: L) := by
  have h2 := h.on ((Below.refl _ _).alloc (Nat.le_refl _) (.cells (mtC m) 24))
  refine ⟨h2.bl, h2.rx, h2.ry, fun p hp => ?_, h.ne, h.bx, h.b_y, List.Pairwise.cons (fun p hp => lt_some (h.rows p hp).1) h.srt⟩
  rcases List.mem_cons.1 hp with rfl | hp
  · exact ⟨row_new u m _, by have := h.rx.lt; omega, by have := h.ry.lt; omega, h.bl.size⟩
  · exact h2.rows p hp
set_option maxRecDepth 100000 in
theorem Kd.slx {w0 u : World} {gx gy nx ny c : Nat} {lx ly : List Int} {L : List (Nat × Mt)} (h : Kd w0 u gx gy nx ny lx ly L) (hl : lx.length = nx) (hc : nx ≤ c) (hn : nx ≤ 140737488355328) : Sl u (some ⟨gx, 0, none⟩) nx c lx := by
  have := h.rx.pre nx (by omega)
  rw [List.take_left' hl] at this
  exact this.sl hc hn
set_option maxRecDepth 100000 in
theorem Kd.sly {w0 u : World} {gx gy nx ny c : Nat} {lx ly : List Int} {L : List (Nat × Mt)} (h : Kd w0 u gx gy nx ny lx ly L) (hl : ly.length = ny) (hc : ny ≤ c) (hn : ny ≤ 140737488355328) : Sl u (some ⟨gy, 0, none⟩) ny c ly := by
  have := h.ry.pre ny (by omega)
  rw [List.take_left' hl] at this
  exact this.sl hc hn

set_option maxRecDepth 100000 in
theorem Kd.sub {w0 u : World} {gx gy nx ny : Nat} {lx ly : List Int} {L L' : List (Nat × Mt)} (h : Kd w0 u gx gy nx ny lx ly L) (hs : L'.Sublist L) : Kd w0 u gx gy nx ny lx ly L' :=
  ⟨h.bl, h.rx, h.ry, fun p hp => h.rows p (hs.subset hp), h.ne, h.bx, h.b_y, h.srt.sublist hs⟩
set_option maxRecDepth 100000 in
theorem Ry.far {w w' : World} {g g' n : Nat} {l : List Int} (h : Ry w g n l) (hg : w.grownBy w' (some g')) (hne : g ≠ g') : Ry w' g n l := by
  obtain ⟨c, f, h1, h2⟩ := h.row
  exact ⟨h.hlen, h.wf, c, f, (hg.block _ (lt_some h1) (fun e => by injection e with e; exact hne e)).trans h1, h2⟩
set_option maxRecDepth 100000 in
theorem Kd.putx {w0 u v : World} {gx gy nx ny : Nat} {lx lx' ly : List Int} {L : List (Nat × Mt)} (h : Kd w0 u gx gy nx ny lx ly L) (hg : u.grownBy v (some gx)) (hr : Ry v gx (nx + 8) (lx' ++ spN)) : Kd w0 v gx gy nx ny lx' ly L :=
  ⟨h.bl.trans ((Below.refl _ _).grown hg h.bl.size (fun x hx => by injection hx with hx; have := h.bx; omega)), hr, h.ry.far hg (fun e => h.ne e.symm), fun p hp => ⟨(hg.block _ (lt_some (h.rows p hp).1) (fun e => by injection e with e; exact (h.rows p hp).2.1 e)).trans (h.rows p hp).1, (h.rows p hp).2⟩, h.ne, h.bx, h.b_y, h.srt⟩
set_option maxRecDepth 100000 in
theorem Kd.puty {w0 u v : World} {gx gy nx ny : Nat} {lx ly ly' : List Int} {L : List (Nat × Mt)} (h : Kd w0 u gx gy nx ny lx ly L) (hg : u.grownBy v (some gy)) (hr : Ry v gy (ny + 8) (ly' ++ spN)) : Kd w0 v gx gy nx ny lx ly' L :=
  ⟨h.bl.trans ((Below.refl _ _).grown hg h.bl.size (fun x hx => by injection hx with hx; have := h.b_y; omega)), h.rx.far hg h.ne, hr, fun p hp => ⟨(hg.block _ (lt_some (h.rows p hp).1) (fun e => by injection e with e; exact (h.rows p hp).2.2.1 e)).trans (h.rows p hp).1, (h.rows p hp).2⟩, h.ne, h.bx, h.b_y, h.srt⟩
set_option maxRecDepth 100000 in
theorem Ry.other {w : World} {g g' n : Nat} {l : List Int} (h : Ry w g n l) (cs : Array Value) (hne : g ≠ g') : Ry (w.setRow g' cs) g n l := by
  obtain ⟨c, f, h1, h2⟩ := h.row
  exact ⟨h.hlen, h.wf, c, f, (setRow_other _ _ _ _ hne).trans h1, h2⟩
set_option maxRecDepth 100000 in
/-- An answer is written over. -/
theorem Kd.redo {w0 u : World} {gx gy nx ny : Nat} {lx ly : List Int} {L1 L2 : List (Nat × Mt)} {q : Nat} {m m' : Mt} (h : Kd w0 u gx gy nx ny lx ly (L1 ++ (q, m) :: L2)) : Kd w0 (u.setRow q (mtC m')) gx gy nx ny lx ly (L1 ++ (q, m') :: L2) := by
  have hq := h.rows (q, m) (by simp)
  have hp := List.pairwise_append.1 h.srt
  have hp2 := List.pairwise_cons.1 hp.2.1
  refine ⟨below_setRow h.bl hq.2.2.2 _, h.rx.other _ (Ne.symm hq.2.1), h.ry.other _ (Ne.symm hq.2.2.1), fun p hp' => ?_, h.ne, h.bx, h.b_y, ?_⟩
  · rcases List.mem_append.1 hp' with h1 | h1
    · have hlt : q < p.1 := hp.2.2 p h1 (q, m) (by simp)
      have hr := h.rows p (by simp [h1])
      exact ⟨(setRow_other _ _ _ _ (by omega)).trans hr.1, hr.2⟩
    · rcases List.mem_cons.1 h1 with rfl | h1
      · exact ⟨setRow_heap _ _ _ _ _ _ hq.1, hq.2⟩
      · have hlt : p.1 < q := hp2.1 p h1
        have hr := h.rows p (by simp [h1])
        exact ⟨(setRow_other _ _ _ _ (by omega)).trans hr.1, hr.2⟩
  · refine List.pairwise_append.2 ⟨hp.1, List.pairwise_cons.2 ⟨fun p hp' => hp2.1 p hp', hp2.2⟩, fun a ha b hb => ?_⟩
    rcases List.mem_cons.1 hb with rfl | hb
    · exact hp.2.2 a ha (q, m) (by simp)
    · exact hp.2.2 a ha b (by simp [hb])
set_option maxRecDepth 100000 in
/-- copy(x, b), both of one length. -/
theorem copy_into (w : World) (ty : TypeId) (g n c : Nat) (l l' : List Int) (ao : Option Addr) (cb : Nat) (hr : Ry w g (n + 8) (l ++ spN)) (hl : l.length = n) (hs : Sl w ao n cb l') :
    ∃ w', (Builtin.copy_ #[29, 29] ty #[.slice (some ⟨g, 0, none⟩) n c, .slice ao n cb]).run Tryd.prog w = .ok (goInt n) w' ∧ Ry w' g (n + 8) (l' ++ spN) ∧ w.grownBy w' (some g) := by
  obtain ⟨i0, hi, hz0, hz1, hz2⟩ := info_parts info5
  have hsz : (Tryd.prog.info? 5).map (·.size) = some 1 := by rw [hi]; simp [hz1]
  have hl' := hs.hlen
  rcases hs.hat with h0 | ⟨b, off, rfl, hbl, hbc⟩
  · subst h0
    obtain rfl : l = [] := List.eq_nil_of_length_eq_zero hl
    obtain rfl : l' = [] := List.eq_nil_of_length_eq_zero hl'
    exact ⟨w, run_copy_none w _ _ ty 5 _ _ 0 c 0 cb Tryd.underlying29 hsz rfl, hr, World.grownBy.refl w _⟩
  · have hrun := run_copy_cells (P := Tryd.prog) w 29 29 ty 5 g 0 n c ⟨b, off, none⟩ n cb (By l') Tryd.underlying29 hsz (by rw [By_length, hl']; exact (Nat.min_self n).symm) (sl_src5 hs)
      (fun j hj => by rw [By_length, hl'] at hj; rw [Nat.zero_add, hr.cell j (by omega)]; rfl) (fun j hj => by rw [By_length, hl'] at hj; rw [Nat.zero_add]; exact hr.free j (by omega)) (By_one l')
    rw [By_length, hl'] at hrun
    have h2 := Ry.sets l' 0 w _ hr (by omega) hs.wf
    have e : splice (l ++ spN) 0 l' = l' ++ spN := by
      unfold splice
      rw [List.take_zero, List.nil_append, Nat.zero_add, List.drop_left' (by omega)]
    rw [e] at h2
    exact ⟨_, hrun, h2, setCells_grown g _ _ _⟩

set_option maxRecDepth 100000 in
set_option maxHeartbeats 8000000 in
theorem walk_MetaDecodes (ao : Option Addr) (n ca : Nat) (la : List Int) (bo : Option Addr) (k cb : Nat) (lb : List Int) (w : World) (ht : Tab w) (h0 : 0 < w.heap.size) (ha : Sl w ao n ca la) (hn : n ≤ 140737488351232) (hb : Sl w bo k cb lb) (hk : k ≤ 140737488351232) :
    Calls Tryd.prog 5 #[.slice ao n ca, .slice bo k cb] w fun e w' => e = .returned (.bool true) ∧ Below w.heap.size w w' := by
  have HA := hidden ha
  have HB := hidden hb
  have HT := hidden ht
  have HLA := hidden ha.hlen
  have HLB := hidden hb.hlen
  clear ha hb ht
  have HAW := hidden (awake_any w HT.out h0)
  go_enter Tryd.func5, Tryd.ntmps5
  go_wp2_with (go_at_call 7; refine HAW.out.mono ?_; rintro e w1 ⟨rfl, hb1⟩; have HB1 := hidden hb1; clear hb1; refine Hid.out ?_)
  apply hidden
  clear HAW
  have HL1 := hidden (lent_any ao n ca la w1 (HA.out.on (Nat.le_refl _) HB1.out) hn)
  go_wp2_with (go_at_call 15; refine HL1.out.mono ?_; rintro e w2 ⟨gx, cx, rfl, hcx, hrx, hgx, hb2⟩; have HRX := hidden hrx; have HB2 := hidden hb2; have HGX := hidden hgx; clear hrx hb2 hgx; refine Hid.out ?_)
  apply hidden
  have HW2 := hidden (bl_go HB1.out (Nat.le_refl _) HB2.out)
  clear HL1
  have HL2 := hidden (lent_any bo k cb lb w2 (HB.out.on (Nat.le_refl _) HW2.out) hk)
  go_wp2_with (go_at_call 15; refine HL2.out.mono ?_; rintro e w3 ⟨gy, cy, rfl, hcy, hry, hgy, hb3⟩; have HRY := hidden hry; have HB3 := hidden hb3; have HGY := hidden hgy; clear hry hb3 hgy; refine Hid.out ?_)
  apply hidden
  have K0 : Hid (Kd w w3 gx gy n k la lb []) := hidden ⟨bl_go HW2.out (Nat.le_refl _) HB3.out, HRX.out.on HB3.out, HRY.out, (fun p hp => by cases hp), by have := HRX.out.lt; have := HGY.out; omega, by have := HGX.out; have := HB1.out.size; omega, by have := HGY.out; have := HW2.out.size; omega, List.Pairwise.nil⟩
  have hcx2 : n ≤ cx := by omega
  have hcy2 : k ≤ cy := by omega
  clear HL2 HRX HRY HB1 HB2 HB3 HGX HGY HW2
  have HC := hidden (decode_any _ _ _ _ _ (K0.out.slx HLA.out hcx2 (by omega)) (HT.out.on K0.out.bl h0) (Nat.lt_of_lt_of_le h0 K0.out.bl.size))
  go_wp2_with (go_at_call 16; refine HC.out.mono ?_; rintro e u0 ⟨m0, c0, rfl, hd, hb⟩; have HD0 : Hid (DecIs _ m0 c0) := hidden hd; have HBL := hidden hb; clear hd hb; refine Hid.out ?_)
  apply hidden
  rw [mtV_eq]
  have K1 := hidden ((K0.out.on HBL.out).box m0)
  obtain ⟨q0, hq0⟩ : ∃ q, u0.heap.size = q := ⟨_, rfl⟩
  rw [hq0] at K1
  have hz0 : q0 < (u0.alloc (.cells (mtC m0) 24)).heap.size := by rw [← hq0]; simp
  clear HC HBL K0
  have HC := hidden (decode_any _ _ _ _ _ (K1.out.sly HLB.out hcy2 (by omega)) (HT.out.on K1.out.bl h0) (Nat.lt_of_lt_of_le h0 K1.out.bl.size))
  go_wp2_with (go_at_call 16; refine HC.out.mono ?_; rintro e u1 ⟨m1, c1, rfl, hd, hb⟩; have HD1 : Hid (DecIs _ m1 c1) := hidden hd; have HBL := hidden hb; clear hd hb; refine Hid.out ?_)
  apply hidden
  try rw [hq0]
  clear hq0
  rw [mtV_eq]
  have K2 := hidden ((K1.out.on HBL.out).box m1)
  obtain ⟨q1, hq1⟩ : ∃ q, u1.heap.size = q := ⟨_, rfl⟩
  rw [hq1] at K2
  have hz1 : q1 < (u1.alloc (.cells (mtC m1) 24)).heap.size := by rw [← hq1]; simp
  clear HC HBL K1
  have HC := hidden (choose_any _ _ _ _ _ _ _ _ _ (K2.out.slx HLA.out hcx2 (by omega)) (K2.out.sly HLB.out hcy2 (by omega)) (HT.out.on K2.out.bl h0) (Nat.lt_of_lt_of_le h0 K2.out.bl.size))
  go_wp2_with (go_at_call 17; refine HC.out.mono ?_; rintro e u2 ⟨m2, s2, c2, rfl, hd, hb⟩; have HD2 := hidden hd; have HBL := hidden hb; clear hd hb; refine Hid.out ?_)
  apply hidden
  try rw [hq1]
  clear hq1
  rw [mtV_eq]
  have K3 := hidden ((K2.out.on HBL.out).box m2)
  obtain ⟨q2, hq2⟩ : ∃ q, u2.heap.size = q := ⟨_, rfl⟩
  rw [hq2] at K3
  have hz2 : q2 < (u2.alloc (.cells (mtC m2) 24)).heap.size := by rw [← hq2]; simp
  clear HC HBL K2
  have HC := hidden (choose_any _ _ _ _ _ _ _ _ _ (K3.out.sly HLB.out hcy2 (by omega)) (K3.out.slx HLA.out hcx2 (by omega)) (HT.out.on K3.out.bl h0) (Nat.lt_of_lt_of_le h0 K3.out.bl.size))
  go_wp2_with (go_at_call 17; refine HC.out.mono ?_; rintro e u3 ⟨m3, s3, c3, rfl, hd, hb⟩; have HD3 := hidden hd; have HBL := hidden hb; clear hd hb; refine Hid.out ?_)
  apply hidden
  try rw [hq2]
  clear hq2
  rw [mtV_eq]
  have K4 := hidden ((K3.out.on HBL.out).box m3)
  obtain ⟨q3, hq3⟩ : ∃ q, u3.heap.size = q := ⟨_, rfl⟩
  rw [hq3] at K4
  have hz3 : q3 < (u3.alloc (.cells (mtC m3) 24)).heap.size := by rw [← hq3]; simp
  clear HC HBL K3
  have HC := hidden (rDecode_any _ _ _ _ _ (HA.out.on (Nat.le_refl _) K4.out.bl))
  go_wp2_with (go_at_call 18; refine HC.out.mono ?_; rintro e u4 ⟨m4, c4, rfl, hd, hb⟩; have HD4 : Hid (DecIs _ m4 c4) := hidden hd; have HBL := hidden hb; clear hd hb; refine Hid.out ?_)
  apply hidden
  try rw [hq3]
  clear hq3
  obtain ⟨em4, ec4⟩ := HD0.out.det HD4.out
  rw [em4, ec4]
  clear HD4 em4 ec4
  rw [mtV_eq]
  have K5 := hidden ((K4.out.on HBL.out).box m0)
  obtain ⟨q4, hq4⟩ : ∃ q, u4.heap.size = q := ⟨_, rfl⟩
  rw [hq4] at K5
  have hz4 : q4 < (u4.alloc (.cells (mtC m0) 24)).heap.size := by rw [← hq4]; simp
  clear HC HBL K4
  have HC := hidden (rDecode_any _ _ _ _ _ (HB.out.on (Nat.le_refl _) K5.out.bl))
  go_wp2_with (go_at_call 18; refine HC.out.mono ?_; rintro e u5 ⟨m5, c5, rfl, hd, hb⟩; have HD5 : Hid (DecIs _ m5 c5) := hidden hd; have HBL := hidden hb; clear hd hb; refine Hid.out ?_)
  apply hidden
  try rw [hq4]
  clear hq4
  obtain ⟨em5, ec5⟩ := HD1.out.det HD5.out
  rw [em5, ec5]
  clear HD5 em5 ec5
  rw [mtV_eq]
  have K6 := hidden ((K5.out.on HBL.out).box m1)
  obtain ⟨q5, hq5⟩ : ∃ q, u5.heap.size = q := ⟨_, rfl⟩
  rw [hq5] at K6
  have hz5 : q5 < (u5.alloc (.cells (mtC m1) 24)).heap.size := by rw [← hq5]; simp
  clear HC HBL K5
  have HC := hidden (rChoose_any _ _ _ _ _ _ _ _ _ (HA.out.on (Nat.le_refl _) K6.out.bl) (HB.out.on (Nat.le_refl _) K6.out.bl))
  go_wp2_with (go_at_call 19; refine HC.out.mono ?_; rintro e u6 ⟨m6, s6, c6, rfl, hd, hb⟩; have HD6 := hidden hd; have HBL := hidden hb; clear hd hb; refine Hid.out ?_)
  apply hidden
  try rw [hq5]
  clear hq5
  obtain ⟨em6, es6, ec6⟩ := HD2.out.det HD6.out
  rw [em6, es6, ec6]
  clear HD6 em6 es6 ec6
  rw [mtV_eq]
  have K7 := hidden ((K6.out.on HBL.out).box m2)
  obtain ⟨q6, hq6⟩ : ∃ q, u6.heap.size = q := ⟨_, rfl⟩
  rw [hq6] at K7
  have hz6 : q6 < (u6.alloc (.cells (mtC m2) 24)).heap.size := by rw [← hq6]; simp
  clear HC HBL K6
  have HC := hidden (rChoose_any _ _ _ _ _ _ _ _ _ (HB.out.on (Nat.le_refl _) K7.out.bl) (HA.out.on (Nat.le_refl _) K7.out.bl))
  go_wp2_with (go_at_call 19; refine HC.out.mono ?_; rintro e u7 ⟨m7, s7, c7, rfl, hd, hb⟩; have HD7 := hidden hd; have HBL := hidden hb; clear hd hb; refine Hid.out ?_)
  apply hidden
  try rw [hq6]
  clear hq6
  obtain ⟨em7, es7, ec7⟩ := HD3.out.det HD7.out
  rw [em7, es7, ec7]
  clear HD7 em7 es7 ec7
  rw [mtV_eq]
  have KU := hidden (K7.out.on HBL.out)
  have K8 := hidden (KU.out.box m3)
  clear HC HBL K7
  have R0 := KU.out.rows (q0, m0) (by simp)
  have R1 := KU.out.rows (q1, m1) (by simp)
  have R2 := KU.out.rows (q2, m2) (by simp)
  have R3 := KU.out.rows (q3, m3) (by simp)
  have R4 := KU.out.rows (q4, m0) (by simp)
  have R5 := KU.out.rows (q5, m1) (by simp)
  have R6 := KU.out.rows (q6, m2) (by simp)
  obtain ⟨a0, a1, a2, a3, a4, a5, a6, a7⟩ := row8 R0.1
  obtain ⟨b0, b1, b2, b3, b4, b5, b6, b7⟩ := row8 R1.1
  obtain ⟨d0, d1, d2, d3, d4, d5, d6, d7⟩ := row8 R2.1
  obtain ⟨f0, f1, f2, f3, f4, f5, f6, f7⟩ := row8 R3.1
  obtain ⟨g0, g1, g2, g3, g4, g5, g6, g7⟩ := row8 R4.1
  obtain ⟨i0, i1, i2, i3, i4, i5, i6, i7⟩ := row8 R5.1
  obtain ⟨j0, j1, j2, j3, j4, j5, j6, j7⟩ := row8 R6.1
  have l0 := lt_some R0.1
  have l1 := lt_some R1.1
  have l2 := lt_some R2.1
  have l3 := lt_some R3.1
  have l4 := lt_some R4.1
  have l5 := lt_some R5.1
  have l6 := lt_some R6.1
  have e0 := eq_yes m0
  have e1 := eq_yes m1
  have e2 := eq_yes m2
  have e3 := eq_yes m3
  rw [mtV_eq] at e0 e1 e2 e3
  clear R0 R1 R2 R3 R4 R5 R6 hz0 hz1 hz2 hz3 hz4 hz5 hz6
  by_cases hnk : n = k
  · subst hnk
    obtain ⟨v1, hcp1, hrx1, hgr1⟩ := copy_into _ 3 gx n cx la lb bo cb K8.out.rx HLA.out (HB.out.on (Nat.le_refl _) K8.out.bl)
    have KV1 := hidden (K8.out.putx hgr1 hrx1)
    have HCP1 := hidden hcp1
    clear hcp1 hrx1 hgr1
    go_wp2_with (refine Lib.wpList_copy_run _ rfl _ _ 29 29 rfl _ _ rfl rfl HCP1.out ?_; refine Hid.out ?_)
    apply hidden
    clear a0 a1 a2 a3 a4 a5 a6 a7 b0 b1 b2 b3 b4 b5 b6 b7 d0 d1 d2 d3 d4 d5 d6 d7 f0 f1 f2 f3 f4 f5 f6 f7 g0 g1 g2 g3 g4 g5 g6 g7 i0 i1 i2 i3 i4 i5 i6 i7 j0 j1 j2 j3 j4 j5 j6 j7
    obtain ⟨v2, hcp2, hry2, hgr2⟩ := copy_into v1 3 gy n cy lb la ao ca KV1.out.ry HLB.out (HA.out.on (Nat.le_refl _) KV1.out.bl)
    have KV2 : Hid (Kd w v2 gx gy n n lb la ([(u7.heap.size, m3), (q5, m1), (q2, m2)] ++ (q0, m0) :: [])) := hidden ((KV1.out.puty hgr2 hry2).sub (.cons_cons _ (.cons _ (.cons_cons _ (.cons _ (.cons _ (.cons_cons _ (.cons _ (.cons_cons _ .slnil)))))))))
    have HCP2 := hidden hcp2
    clear hcp2 hry2 hgr2 HCP1 K8 KU KV1
    go_wp2_with (refine Lib.wpList_copy_run _ rfl _ _ 29 29 rfl _ _ rfl rfl HCP2.out ?_; refine Hid.out ?_)
    apply hidden
    clear HCP2
    have HC := hidden (decode_any _ _ _ _ _ (KV2.out.slx HLB.out hcx2 (by omega)) (HT.out.on KV2.out.bl h0) (Nat.lt_of_lt_of_le h0 KV2.out.bl.size))
    go_wp2_with (go_at_call 16; refine HC.out.mono ?_; rintro e v3 ⟨m8, c8, rfl, hd, hb⟩; have HD8 : Hid (DecIs _ m8 c8) := hidden hd; have HBL := hidden hb; clear hd hb; refine Hid.out ?_)
    apply hidden
    obtain ⟨em8, ec8⟩ := HD1.out.det HD8.out
    rw [em8, ec8, mtV_eq]
    have KV3 := hidden (KV2.out.on HBL.out)
    have HQ0 := hidden (KV3.out.rows (q0, m0) (by simp)).1
    have KV4 : Hid (Kd w (v3.setRow q0 (mtC m1)) gx gy n n lb la ([(u7.heap.size, m3), (q5, m1)] ++ (q2, m2) :: [(q0, m1)])) := hidden (KV3.out.redo (m' := m1))
    clear HC HBL HD8 em8 ec8 KV2 KV3
    have HC := hidden (choose_any _ _ _ _ _ _ _ _ _ (KV4.out.slx HLB.out hcx2 (by omega)) (KV4.out.sly HLA.out hcy2 (by omega)) (HT.out.on KV4.out.bl h0) (Nat.lt_of_lt_of_le h0 KV4.out.bl.size))
    go_wp2_with (first
      | (refine wpList_store_row rfl _ _ _ rfl q0 (mtC m1) (by rfl) (by rfl) 24 _ HQ0.out (mtC_size _) (by rfl) (mtC_one _) ?_)
      | (go_at_call 17; refine HC.out.mono ?_; rintro e v5 ⟨m9, s9, c9, rfl, hd, hb⟩; have HD9 := hidden hd; have HBL := hidden hb; clear hd hb; refine Hid.out ?_))
    apply hidden
    obtain ⟨em9, es9, ec9⟩ := HD3.out.det HD9.out
    rw [em9, es9, ec9, mtV_eq]
    have KV5 := hidden (KV4.out.on HBL.out)
    have HQ2 := hidden (KV5.out.rows (q2, m2) (by simp)).1
    have KV6 : Hid (Kd w (v5.setRow q2 (mtC m3)) gx gy n n lb la ([(u7.heap.size, m3), (q5, m1)] ++ (q2, m3) :: [(q0, m1)])) := hidden (KV5.out.redo (m' := m3))
    clear HC HBL HD9 em9 es9 ec9 KV4 KV5 HQ0
    have HK1 := hidden (kept_any gx n cx lb bo cb _ KV6.out.rx hcx (HB.out.on (Nat.le_refl _) KV6.out.bl) hn)
    go_wp2_with (first
      | (refine wpList_store_row rfl _ _ _ rfl q2 (mtC m3) (by rfl) (by rfl) 24 _ HQ2.out (mtC_size _) (by rfl) (mtC_one _) ?_)
      | (go_at_call 20; refine HK1.out.mono ?_; rintro e v7 ⟨rfl, hg1⟩; have HG1 := hidden hg1; clear hg1; refine Hid.out ?_))
    apply hidden
    have HV7 : Hid (Below w.heap.size w v7) := hidden (KV6.out.bl.trans ((Below.refl _ _).grown HG1.out KV6.out.bl.size (fun x hx => by injection hx with hx; have := KV6.out.bx; omega)))
    have HRY := hidden (KV6.out.ry.far HG1.out (fun e => KV6.out.ne e.symm))
    have HROW : Hid (∀ p ∈ ([(u7.heap.size, m3), (q5, m1)] ++ (q2, m3) :: [(q0, m1)]), v7.heap[p.1]? = some (.cells (mtC p.2) 24 (0, 0))) := hidden fun p hp => (HG1.out.block _ (lt_some (KV6.out.rows p hp).1) (fun e => by injection e with e; exact (KV6.out.rows p hp).2.1 e)).trans (KV6.out.rows p hp).1
    have HK2 := hidden (kept_any gy n cy la ao ca v7 HRY.out hcy (HA.out.on (Nat.le_refl _) HV7.out) hn)
    clear HK1 HQ2
    go_wp2_with (go_at_call 20; refine HK2.out.mono ?_; rintro e v8 ⟨rfl, hg2⟩; have HG2 := hidden hg2; clear hg2; refine Hid.out ?_)
    apply hidden
    have HROW8 : Hid (∀ p ∈ ([(u7.heap.size, m3), (q5, m1)] ++ (q2, m3) :: [(q0, m1)]), v8.heap[p.1]? = some (.cells (mtC p.2) 24 (0, 0))) := hidden fun p hp => (HG2.out.block _ (lt_some (HROW.out p hp)) (fun e => by injection e with e; exact (KV6.out.rows p hp).2.2.1 e)).trans (HROW.out p hp)
    have HV8 : Hid (Below w.heap.size w v8) := hidden (HV7.out.trans ((Below.refl _ _).grown HG2.out HV7.out.size (fun x hx => by injection hx with hx; have := KV6.out.b_y; omega)))
    obtain ⟨q7, hq7⟩ : ∃ q, u7.heap.size = q := ⟨_, rfl⟩
    rw [hq7] at HROW8 ⊢
    obtain ⟨a0, a1, a2, a3, a4, a5, a6, a7⟩ := row8 (HROW8.out (q0, m1) (by simp))
    obtain ⟨b0, b1, b2, b3, b4, b5, b6, b7⟩ := row8 (HROW8.out (q5, m1) (by simp))
    obtain ⟨d0, d1, d2, d3, d4, d5, d6, d7⟩ := row8 (HROW8.out (q2, m3) (by simp))
    obtain ⟨f0, f1, f2, f3, f4, f5, f6, f7⟩ := row8 (HROW8.out (q7, m3) (by simp))
    clear HROW HROW8 HRY HG1 HG2 HK2 KV6 HV7 hq7
    go_wp2
    go_ret
    exact ⟨rfl, HV8.out⟩
  · have hnk2 : ¬ (n : Int) = (k : Int) := by omega
    have HK1 := hidden (kept_any gx n cx la ao ca _ K8.out.rx hcx (HA.out.on (Nat.le_refl _) K8.out.bl) hn)
    go_wp2_with (go_at_call 20; refine HK1.out.mono ?_; rintro e v1 ⟨rfl, hg1⟩; have HG1 := hidden hg1; clear hg1; refine Hid.out ?_)
    apply hidden
    have HV1 : Hid (Below w.heap.size w v1) := hidden (K8.out.bl.trans ((Below.refl _ _).grown HG1.out K8.out.bl.size (fun x hx => by injection hx with hx; have := K8.out.bx; omega)))
    have HRY : Hid (Ry v1 gy (k + 8) (lb ++ spN)) := hidden (by
      obtain ⟨c, f, h1, h2⟩ := K8.out.ry.row
      exact ⟨K8.out.ry.hlen, K8.out.ry.wf, c, f, (HG1.out.block _ (lt_some h1) (fun h => by injection h with h; exact K8.out.ne h.symm)).trans h1, h2⟩)
    have HK2 := hidden (kept_any gy k cy lb bo cb v1 HRY.out hcy (HB.out.on (Nat.le_refl _) HV1.out) hk)
    clear a0 a1 a2 a3 a4 a5 a6 a7 b0 b1 b2 b3 b4 b5 b6 b7 d0 d1 d2 d3 d4 d5 d6 d7 f0 f1 f2 f3 f4 f5 f6 f7 g0 g1 g2 g3 g4 g5 g6 g7 i0 i1 i2 i3 i4 i5 i6 i7 j0 j1 j2 j3 j4 j5 j6 j7 HK1
    go_wp2_with (go_at_call 20; refine HK2.out.mono ?_; rintro e v2 ⟨rfl, hg2⟩; have HG2 := hidden hg2; clear hg2)
    go_ret
    exact ⟨rfl, HV1.out.trans ((Below.refl _ _).grown HG2.out HV1.out.size (fun x hx => by injection hx with hx; have := K8.out.b_y; omega))⟩
end Go.Proofs.YtoifjcliepongaaDoor
