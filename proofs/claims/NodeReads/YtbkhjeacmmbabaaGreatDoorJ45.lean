import Derived.Test.YtbkhjeacmmbabaaGreatDoorJ44
namespace Go.Proofs.YtbkhjeacmmbabaaGreatDoor
set_option maxRecDepth 100000
set_option maxHeartbeats 4000000
open Go.RowKit
theorem OwnB.lowE {w : World} {B C : Nat} {v : Value} {l : List Int} (h : OwnB w C v l) (hB : B ≤ C) : OwnB w B v l := by
 unfold OwnB at *
 refine ⟨h.1, ?_⟩
 rcases h.2 with h2 | ⟨g, c, cur, e, hg, h4⟩
 ·exact .inl h2
 ·exact .inr ⟨g, c, cur, e, zN hB hg, h4⟩
theorem OwnB.geE {w : World} {C k : Nat} {v : Value} {l : List Int} (h : OwnB w C v l) (hv : v.ownBlock = some k) : C ≤ k := by
 unfold OwnB at h
 rcases h.2 with ⟨rfl, _⟩ | ⟨g, c, cur, rfl, hg, h4⟩
 ·simp [Value.ownBlock] at hv
 ·have : g = k := by simpa [Value.ownBlock] using hv
  omega
theorem rcopied_any (key val : List Int) (kd pg ct : Int) (ka va : Option Addr) (kn vn kc vc : Nat) (w : World) (hk : Sl w ka kn kc key) (hv : Sl w va vn vc val) :
  Calls Tryz.prog 143 #[.agg #[.slice ka kn kc, .int .i64 kd, .slice va vn vc, .int .i64 pg, .int .i64 ct]] w fun e w' => ∃ ao a2 bo b2, e = .returned (.agg #[.slice ao key.length a2, .int .i64 kd, .slice bo val.length b2, .int .i64 pg, .int .i64 ct]) ∧ Hid (OwnB w' w.heap.size (.slice ao key.length a2) key ∧ OwnB w' w.heap.size (.slice bo val.length b2) val) ∧ Hid (Below w.heap.size w w') := by
 obtain ⟨s, hs⟩ : ∃ s, w.heap.size = s := ⟨_, rfl⟩
 have hz : (w.alloc (.cells #[.slice ka kn kc, .int .i64 kd, .slice va vn vc, .int .i64 pg, .int .i64 ct] 50)).heap.size = s + 1 := by rw [← hs]; simp
 obtain ⟨x, hx⟩ : ∃ x, (w.alloc (.cells #[.slice ka kn kc, .int .i64 kd, .slice va vn vc, .int .i64 pg, .int .i64 ct] 50)).alloc (.cells #[.slice none 0 0, .int .i64 0, .slice none 0 0, .int .i64 0, .int .i64 0] 50) = x := ⟨_, rfl⟩
 have N : Below w.heap.size w x := by rw [← hx]; exact zab (zab Br Lr _) Lr _
 have V : Hid (C5 x s (.slice ka kn kc) (.int .i64 kd) (.slice va vn vc) (.int .i64 pg) (.int .i64 ct)) := by
  have h1 := heap_alloc_last w (.cells #[.slice ka kn kc, .int .i64 kd, .slice va vn vc, .int .i64 pg, .int .i64 ct] 50)
  rw [hs] at h1
  rw [← hx]
  exact zaa ((Below.heap_alloc _ _ _ (by rw [hz]; exact Nat.lt_succ_self _)).trans h1)
 have A8 : Hid (C5 x (s + 1) (.slice none 0 0) (.int .i64 0) (.slice none 0 0) (.int .i64 0) (.int .i64 0)) := by
  have := heap_alloc_last (w.alloc (.cells #[.slice ka kn kc, .int .i64 kd, .slice va vn vc, .int .i64 pg, .int .i64 ct] 50)) (.cells #[.slice none 0 0, .int .i64 0, .slice none 0 0, .int .i64 0, .int .i64 0] 50)
  rw [hz, hx] at this
  exact zaa this
 have W := zaa hv
 have O := zaa N
 have P : x.heap.size = s + 2 := by rw [← hx, ← hs]; simp
 have A : ∀ (u : World) (C : Nat), OwnB u C (.slice none 0 0) [] := fun u C => World.ownsRow_nil _ _ _ _
 obtain ⟨v1, u1, Q, E, Z⟩ := run_app_sl x 22 x.heap.size [] key (.slice none 0 0) ka kn kc (A _ _) (hk.on Lr N) (by have := hk.hroom; simp; omega) Lr
 have F : Below x.heap.size x u1 := Z.below (A _ _) Lr
 rw [List.nil_append] at E
 obtain ⟨ao, a2, rfl⟩ := E.slice
 have B : C5 u1 s (.slice ka kn kc) (.int .i64 kd) (.slice va vn vc) (.int .i64 pg) (.int .i64 ct) := zag V.out F
 have L : C5 u1 (s + 1) (.slice none 0 0) (.int .i64 0) (.slice none 0 0) (.int .i64 0) (.int .i64 0) := zag A8.out F
 obtain ⟨X, hX⟩ : ∃ X, Value.slice ao key.length a2 = X := ⟨_, rfl⟩
 rw [hX] at Q E
 obtain ⟨y1, A0⟩ : ∃ y, u1.setCell ⟨s, 0, none⟩ X = y := ⟨_, rfl⟩
 have I : Cf (· = s) u1 y1 := by rw [← A0]; exact Cf.set _ _ _ _
 have A1 : Hid (C5 y1 s X (.int .i64 kd) (.slice va vn vc) (.int .i64 pg) (.int .i64 ct)) := zaa (by rw [← A0]; exact (B.set X).1)
 have A9 : Hid (C5 y1 (s + 1) (.slice none 0 0) (.int .i64 0) (.slice none 0 0) (.int .i64 0) (.int .i64 0)) := zaa (L.cf I zq)
 have B0 : Hid (OwnB y1 x.heap.size X key) := zaa (E.cfX I (fun k hk e => by have := E.geE hk; omega))
 have J : Hid (Below w.heap.size w y1) := zaa ((O.out.trans (F.mono O.out.size)).trans (I.below (zN O.out.size F.size) (by intro i hi e; omega)))
 have A2 : Hid (Sl y1 va vn vc val) := zaa (W.out.on Lr J.out)
 have R : s + 2 ≤ y1.heap.size := by have := I.size; have := F.size; omega
 obtain ⟨v2, u2, T, G, A3⟩ := run_app_sl y1 22 y1.heap.size [] val (.slice none 0 0) va vn vc (A _ _) A2.out (by have := hv.hroom; simp; omega) Lr
 have H : Below y1.heap.size y1 u2 := A3.below (A _ _) Lr
 rw [List.nil_append] at G
 obtain ⟨bo, b2, rfl⟩ := G.slice
 have D : C5 u2 s X (.int .i64 kd) (.slice va vn vc) (.int .i64 pg) (.int .i64 ct) := zag A1.out H
 have M : C5 u2 (s + 1) (.slice none 0 0) (.int .i64 0) (.slice none 0 0) (.int .i64 0) (.int .i64 0) := zag A9.out H
 obtain ⟨Y, hY⟩ : ∃ Y, Value.slice bo val.length b2 = Y := ⟨_, rfl⟩
 rw [hY] at T G
 obtain ⟨y2, A4⟩ : ∃ y, u2.setCell ⟨s, 2, none⟩ Y = y := ⟨_, rfl⟩
 have K : Cf (· = s) u2 y2 := by rw [← A4]; exact Cf.set _ _ _ _
 have B1 : Hid (C5 y2 s X (.int .i64 kd) Y (.int .i64 pg) (.int .i64 ct)) := zaa (by rw [← A4]; exact (D.set Y).2.2.1)
 have U : Hid (C5 y2 (s + 1) (.slice none 0 0) (.int .i64 0) (.slice none 0 0) (.int .i64 0) (.int .i64 0)) := zaa (M.cf K zq)
 have A5 : Hid (OwnB y2 x.heap.size X key) := zaa ((B0.out.on Lr H).cfX K (fun k hk e => by have := E.geE hk; omega))
 have A6 : Hid (OwnB y2 y1.heap.size Y val) := zaa (G.cfX K (fun k hk e => by have := G.geE hk; omega))
 have A7 : Hid (Below w.heap.size w y2) := zaa ((J.out.trans (H.mono J.out.size)).trans (K.below (zN J.out.size H.size) (by intro i hi e; omega)))
 obtain ⟨c0, c1, c2, c3, c4⟩ := V.out.cells
 obtain ⟨d0, d1, d2, d3, d4⟩ := B.cells
 obtain ⟨f0, f1, f2, f3, f4⟩ := B.free
 obtain ⟨e0, e1, e2, e3, e4⟩ := A1.out.cells
 obtain ⟨i0, i1, i2, i3, i4⟩ := D.cells
 obtain ⟨j0, j1, j2, j3, j4⟩ := D.free
 obtain ⟨g0, g1, g2, g3, g4⟩ := B1.out.cells
 obtain ⟨b0, b1, b2', b3, b4⟩ := U.out.cells
 obtain ⟨h0, h1, h2, h3, h4⟩ := U.out.free
 subst hX
 subst hY
 have B2 := zaa P
 have B3 := zaa R
 have B4 := zaa hs
 clear hk hv N A E G Z A3 F H B D L M I K P R hz W A2 J
 go_enter Tryz.func143, Tryz.ntmps143
 go_wp2_with (at_builtin; refine zdf rfl _ _ _ _ rfl _ _ rfl rfl Q ?_; refine Hid.out ?_)
 apply zaa
 clear Q
 go_wp2_with (at_builtin; refine zdf rfl _ _ _ _ rfl _ _ rfl rfl T ?_; refine Hid.out ?_)
 apply zaa
 clear T
 go_wp2
 refine bodyPost_ret (results_cell_row rfl _ _ (s + 1) 50 #[.slice ao key.length a2, .int .i64 kd, .slice bo val.length b2, .int .i64 pg, .int .i64 ct] (0, 0) _ zr (U.out.put _ _ _ _ _) Tryz.underlying50 rfl zal) rfl ?_
 have hf := zaq y2 (s + 1) (.slice ao key.length a2) (.int .i64 kd) (.slice bo val.length b2) (.int .i64 pg) (.int .i64 ct)
 have P := B2.out
 have R := B3.out
 have B5 := B4.out
 refine ⟨ao, a2, bo, b2, rfl, zaa ⟨?_, ?_⟩, zaa (A7.out.trans (hf.below A7.out.size (by intro i hi e; omega)))⟩
 ·exact (A5.out.cfX hf (fun k hk e => by have := A5.out.geE hk; omega)).lowE zq
 ·exact (A6.out.cfX hf (fun k hk e => by have := A6.out.geE hk; omega)).lowE zq
theorem radd_nil (ao : Option Addr) (n c : Nat) (l : List Int) (w : World) (hs : Sl w ao n c l) :
  Calls Tryz.prog 101 #[.slice none 0 0, .slice ao n c] w fun e w' => ∃ a' c', e = .returned (.slice a' n c') ∧ Hid (OwnB w' w.heap.size (.slice a' n c') l) ∧ Hid (Below w.heap.size w w') := by
 have A := hs.hroom
 have B := hs.hlen
 refine (zbz (.slice none 0 0) w.heap.size [] l ao n c w (OwnB.nil _ _) hs (.inr fun p _ e => by cases e) (by simpa using A) Lr).mono ?_
 rintro e w' ⟨v, rfl, HO, HG⟩
 have ho := HO.out
 rw [List.nil_append] at ho
 obtain ⟨a', c', rfl⟩ := zch ho
 rw [B] at ho ⊢
 exact ⟨a', c', rfl, zaa ho, zaa (HG.out.below (OwnB.nil w w.heap.size) Lr)⟩
theorem dcopied_any (c : Cl) (ka va : Option Addr) (kc vc : Nat) (w : World) (hk : Sl w ka c.key.length kc c.key) (hv : Sl w va c.val.length vc c.val) :
  Calls Tryz.prog 144 #[.agg #[.slice ka c.key.length kc, .int .i64 c.kd, .slice va c.val.length vc, .int .i64 c.pg, .int .i64 c.ct]] w fun e w' => ∃ ao a2 bo b2, e = .returned (.agg #[.slice ao c.key.length a2, .int .i64 c.kd, .slice bo c.val.length b2, .int .i64 c.pg, .int .i64 c.ct]) ∧ Hid (OwnB w' w.heap.size (.slice ao c.key.length a2) c.key ∧ OwnB w' w.heap.size (.slice bo c.val.length b2) c.val ∧ ∀ z, (Value.slice ao c.key.length a2).ownBlock = some z → ¬ (Value.slice bo c.val.length b2).ownBlock = some z) ∧ Hid (Below w.heap.size w w') := by
 obtain ⟨key, kd, val, pg, ct⟩ := c
 simp only at hk hv ⊢
 obtain ⟨kn, O⟩ : ∃ kn, key.length = kn := ⟨_, rfl⟩
 obtain ⟨vn, P⟩ : ∃ vn, val.length = vn := ⟨_, rfl⟩
 rw [O] at hk ⊢
 rw [P] at hv ⊢
 clear O P
 obtain ⟨s, hs⟩ : ∃ s, w.heap.size = s := ⟨_, rfl⟩
 have hz : (w.alloc (.cells #[.slice ka kn kc, .int .i64 kd, .slice va vn vc, .int .i64 pg, .int .i64 ct] 50)).heap.size = s + 1 := by rw [← hs]; simp
 obtain ⟨x, hx⟩ : ∃ x, (w.alloc (.cells #[.slice ka kn kc, .int .i64 kd, .slice va vn vc, .int .i64 pg, .int .i64 ct] 50)).alloc (.cells #[.slice none 0 0, .int .i64 0, .slice none 0 0, .int .i64 0, .int .i64 0] 50) = x := ⟨_, rfl⟩
 have J : Below w.heap.size w x := by rw [← hx]; exact zab (zab Br Lr _) Lr _
 have H : Hid (C5 x s (.slice ka kn kc) (.int .i64 kd) (.slice va vn vc) (.int .i64 pg) (.int .i64 ct)) := by
  have h1 := heap_alloc_last w (.cells #[.slice ka kn kc, .int .i64 kd, .slice va vn vc, .int .i64 pg, .int .i64 ct] 50)
  rw [hs] at h1
  rw [← hx]
  exact zaa ((Below.heap_alloc _ _ _ (by rw [hz]; exact Nat.lt_succ_self _)).trans h1)
 have N : Hid (C5 x (s + 1) (.slice none 0 0) (.int .i64 0) (.slice none 0 0) (.int .i64 0) (.int .i64 0)) := by
  have := heap_alloc_last (w.alloc (.cells #[.slice ka kn kc, .int .i64 kd, .slice va vn vc, .int .i64 pg, .int .i64 ct] 50)) (.cells #[.slice none 0 0, .int .i64 0, .slice none 0 0, .int .i64 0, .int .i64 0] 50)
  rw [hz, hx] at this
  exact zaa this
 have K : Hid (x.heap.size = s + 2 ∧ w.heap.size = s) := zaa ⟨by rw [← hx, ← hs]; simp, hs⟩
 have Y := zaa hv
 have Q := zaa J
 have R := zaa (radd_nil ka kn kc key x (hk.on Lr J))
 obtain ⟨c0, c1, c2, c3, c4⟩ := H.out.cells
 clear hk hv J hz
 go_enter Tryz.func144, Tryz.ntmps144
 go_wp2_with (go_at_call 101; refine R.out.mono ?_; rintro e u1 ⟨ao, a2, rfl, T, C⟩; refine Hid.out ?_)
 apply zaa
 clear R c0 c1 c2 c3 c4 hx hs
 have A : C5 u1 s (.slice ka kn kc) (.int .i64 kd) (.slice va vn vc) (.int .i64 pg) (.int .i64 ct) := zag H.out C.out
 obtain ⟨y1, L⟩ : ∃ y, u1.setCell ⟨s, 0, none⟩ (.slice ao kn a2) = y := ⟨_, rfl⟩
 have E : Cf (· = s) u1 y1 := by rw [← L]; exact Cf.set _ _ _ _
 have F : Hid (C5 y1 s (.slice ao kn a2) (.int .i64 kd) (.slice va vn vc) (.int .i64 pg) (.int .i64 ct) ∧ C5 y1 (s + 1) (.slice none 0 0) (.int .i64 0) (.slice none 0 0) (.int .i64 0) (.int .i64 0) ∧ OwnB y1 (s + 2) (.slice ao kn a2) key ∧ Below w.heap.size w y1 ∧ s + 2 ≤ y1.heap.size) := zaa (by
  obtain ⟨M, U⟩ := K.out
  have ho := T.out
  rw [M] at ho
  refine ⟨by rw [← L]; exact (A.set _).1, C5.cf (w := u1) (zag N.out C.out) E zq, ho.cfX E (fun k hk e => by have := (ho.blk hk).1; omega), ?_, ?_⟩
  ·exact (zae Q.out Lr C.out).trans (E.below (zae Q.out Lr C.out).size (by intro i hi e; omega))
  ·have := E.size
   have := C.out.size
   omega)
 obtain ⟨d0, d1, d2, d3, d4⟩ := A.cells
 obtain ⟨f0, f1, f2, f3, f4⟩ := A.free
 obtain ⟨e0, e1, e2, e3, e4⟩ := F.out.1.cells
 have V := zaa (radd_nil va vn vc val y1 (Y.out.on Lr F.out.2.2.2.1))
 clear A E H N T C
 go_wp2_with (go_at_call 101; refine V.out.mono ?_; rintro e u2 ⟨bo, b2, rfl, W, D⟩; refine Hid.out ?_)
 apply zaa
 clear V d0 d1 d2 d3 d4 f0 f1 f2 f3 f4 e0 e1 e2 e3 e4 L
 have B : C5 u2 s (.slice ao kn a2) (.int .i64 kd) (.slice va vn vc) (.int .i64 pg) (.int .i64 ct) := zag F.out.1 D.out
 obtain ⟨y2, X⟩ : ∃ y, u2.setCell ⟨s, 2, none⟩ (.slice bo vn b2) = y := ⟨_, rfl⟩
 have G : Cf (· = s) u2 y2 := by rw [← X]; exact Cf.set _ _ _ _
 have I : Hid (C5 y2 s (.slice ao kn a2) (.int .i64 kd) (.slice bo vn b2) (.int .i64 pg) (.int .i64 ct) ∧ C5 y2 (s + 1) (.slice none 0 0) (.int .i64 0) (.slice none 0 0) (.int .i64 0) (.int .i64 0) ∧ OwnB y2 (s + 2) (.slice ao kn a2) key ∧ OwnB y2 y1.heap.size (.slice bo vn b2) val ∧ Below w.heap.size w y2 ∧ (∀ z, (Value.slice ao kn a2).ownBlock = some z → z < y1.heap.size)) := zaa (by
  obtain ⟨M, U⟩ := K.out
  obtain ⟨q1, q2, q3, q4, q5⟩ := F.out
  have ho := W.out
  have q3' := q3.on Lr D.out
  refine ⟨by rw [← X]; exact (B.set _).2.2.1, C5.cf (w := u2) (zag q2 D.out) G zq, q3'.cfX G (fun k hk e => by have := (q3.blk hk).1; omega), ho.cfX G (fun k hk e => by have := (ho.blk hk).1; omega), ?_, fun z hz => (q3.blk hz).2⟩
  exact (zae q4 Lr D.out).trans (G.below (zae q4 Lr D.out).size (by intro i hi e; omega)))
 obtain ⟨i0, i1, i2, i3, i4⟩ := B.cells
 obtain ⟨j0, j1, j2, j3, j4⟩ := B.free
 obtain ⟨g0, g1, g2, g3, g4⟩ := I.out.1.cells
 obtain ⟨b0, b1, b2', b3, b4⟩ := I.out.2.1.cells
 obtain ⟨h0, h1, h2, h3, h4⟩ := I.out.2.1.free
 clear B G W D
 go_wp2
 obtain ⟨q1, q2, q3, q4, q5, q6⟩ := I.out
 refine bodyPost_ret (results_cell_row rfl _ _ (s + 1) 50 #[.slice ao kn a2, .int .i64 kd, .slice bo vn b2, .int .i64 pg, .int .i64 ct] (0, 0) _ zr (q2.put _ _ _ _ _) Tryz.underlying50 rfl zal) rfl ?_
 have hf := zaq y2 (s + 1) (.slice ao kn a2) (.int .i64 kd) (.slice bo vn b2) (.int .i64 pg) (.int .i64 ct)
 obtain ⟨M, U⟩ := K.out
 have A1 := F.out.2.2.2.2
 refine ⟨ao, a2, bo, b2, rfl, zaa ⟨?_, ?_, fun z Z A0 => ?_⟩, zaa (q5.trans (hf.below q5.size (by intro i hi e; omega)))⟩
 ·exact (q3.cfX hf (fun k hk e => by have := (q3.blk hk).1; omega)).low zq
 ·exact (q4.cfX hf (fun k hk e => by have := (q4.blk hk).1; omega)).low zq
 ·have := q6 z Z
  have := (q4.blk A0).1
  omega
def RcTo (c : Cl) (w : World) (e : Ending) (w' : World) : Prop :=
 ∃ ka kn kc va vn vc, e = .returned (.tuple #[.agg #[.slice ka kn kc, .int .i64 c.kd, .slice va vn vc, .int .i64 c.pg, .int .i64 c.ct], .int .i64 0]) ∧ Hid (kn = c.key.length ∧ vn = c.val.length ∧ OwnB w' w.heap.size (.slice ka kn kc) c.key ∧ OwnB w' w.heap.size (.slice va vn vc) c.val) ∧ Hid (Below w.heap.size w w')
theorem r6kind_any (w : World) (r : Nat) (k : Int) (n : Nat) (v : Value) (h : D6 w r k n v) :
  Calls Tryz.prog 62 #[.pointer (some ⟨r, 0, none⟩)] w fun e w' => e = .returned (.int .i64 k) ∧ w' = w := by
 obtain ⟨p0, p1, p2⟩ := h.cells
 clear h
 go_enter Tryz.func62, Tryz.ntmps62
 go_wp2_with fail
 go_ret
 exact ⟨rfl, rfl⟩
theorem r6len_any (w : World) (r : Nat) (k : Int) (n : Nat) (so : Option Addr) (sn sc : Nat) (h : D6 w r k n (.slice so sn sc)) :
  Calls Tryz.prog 64 #[.pointer (some ⟨r, 0, none⟩)] w fun e w' => e = .returned (.int .i64 (sn : Int)) ∧ w' = w := by
 obtain ⟨p0, p1, p2⟩ := h.cells
 clear h
 go_enter Tryz.func64, Tryz.ntmps64
 go_wp2_with fail
 go_ret
 exact ⟨rfl, rfl⟩
theorem r6used_any (w : World) (r : Nat) (k : Int) (n : Nat) (so : Option Addr) (sn sc : Nat) (cs : List Cl) (h : D6 w r k n (.slice so sn sc)) (hs : SlC w so sn sc cs) (hz : szN cs ≤ 65536) :
  Calls Tryz.prog 66 #[.pointer (some ⟨r, 0, none⟩)] w fun e w' => e = .returned (.int .i64 (szN cs : Int)) ∧ Hid (Below w.heap.size w w') := by
 obtain ⟨p0, p1, p2⟩ := h.cells
 have HZ : Hid (∀ u, Below w.heap.size w u → Calls Tryz.prog 96 #[.int .i64 k, .slice so sn sc] u fun e u' => e = .returned (.int .i64 (szN cs : Int)) ∧ Hid (Below w.heap.size w u')) := by
  refine zaa fun u hu => (rsize6_any k so sn sc cs u (hs.on hu) zq).mono ?_
  rintro e u' ⟨rfl, h⟩
  exact ⟨rfl, zaa (zae hu Lr h.out)⟩
 generalize szN cs = Z at *
 clear h hs
 go_enter Tryz.func66, Tryz.ntmps66
 go_wp2_with fail
 go_region_law (first
  | (go_simp; go_at_call 96; refine (HZ.out _ zW1).mono ?_; rintro e u1 ⟨rfl, A⟩))
 all_goals (try go_wp2_with fail)
 all_goals go_ret
 all_goals exact ⟨rfl, A⟩
theorem r6cell_any (w : World) (r : Nat) (k : Int) (n : Nat) (so : Option Addr) (sn sc : Nat) (cs : List Cl) (h : D6 w r k n (.slice so sn sc)) (hs : SlC w so sn sc cs) (i : Nat) (c : Cl) (D : cs[i]? = some c) :
  Calls Tryz.prog 106 #[.pointer (some ⟨r, 0, none⟩), .int .i64 (i : Int)] w (RcTo c w) := by
 obtain ⟨s, hsz⟩ : ∃ s, w.heap.size = s := ⟨_, rfl⟩
 obtain ⟨y, hy⟩ : ∃ y, w.alloc (.cells #[.slice none 0 0, .int .i64 0, .slice none 0 0, .int .i64 0, .int .i64 0] 50) = y := ⟨_, rfl⟩
 have C : Below w.heap.size w y := by rw [← hy]; exact zab Br Lr _
 have N : Hid (C5 y s (.slice none 0 0) (.int .i64 0) (.slice none 0 0) (.int .i64 0) (.int .i64 0)) := by rw [← hy, ← hsz]; exact zaa (C5.box _ _ _ _ _ _)
 have O := zaa C
 have F : D6 y r k n (.slice so sn sc) := (C.block r (zaf h)).trans h
 have G := hs.on C
 have U := hs.hroom
 have P : i < sn := by rw [← hs.hlen]; exact (zH.1 D).1
 obtain ⟨p0, p1, p2⟩ := F.cells
 have E : s + 1 ≤ y.heap.size := by rw [← hy, ← hsz]; simp
 obtain ⟨b, off, c', ka, kc, va, vc, rfl, hb, B, d0, d1, d2, d3, d4, hk, hv⟩ := G.item i P
 rw [D] at B
 injection B with B
 subst B
 have HC := zaa (rcopied_any c.key c.val c.kd c.pg c.ct ka va c.key.length c.val.length kc vc y hk hv)
 unfold RcTo
 obtain ⟨key, kd, val, pg, ct⟩ := c
 simp only at d0 d1 d2 d3 d4 HC ⊢
 obtain ⟨kn, H⟩ : ∃ kn, key.length = kn := ⟨_, rfl⟩
 obtain ⟨vn, I⟩ : ∃ vn, val.length = vn := ⟨_, rfl⟩
 rw [H] at d0 HC ⊢
 rw [I] at d2 HC ⊢
 have Q := zaa E
 have R := zaa hsz
 have V : (i : Int) < (sn : Int) := zq
 have W : ¬ (i : Int) < 0 := zq
 have X : ¬ (sn : Int) ≤ (i : Int) := zq
 have Y : decide ((i : Int) < 0) = false := by simp
 have Z : decide ((sn : Int) ≤ (i : Int)) = false := by simp; omega
 clear h hs F G D C E hk hv H I hb
 go_enter Tryz.func106, Tryz.ntmps106
 go_wp2_with (go_at_call 143; refine HC.out.mono ?_; rintro e u2 ⟨ao, a2, bo, b2, rfl, HG, J⟩; refine Hid.out ?_)
 apply zaa
 have A : C5 u2 s (.slice none 0 0) (.int .i64 0) (.slice none 0 0) (.int .i64 0) (.int .i64 0) := zag N.out J.out
 have T := zaa A
 obtain ⟨b0, b1, b2', b3, b4⟩ := A.cells
 obtain ⟨h0, h1, h2, h3, h4⟩ := A.free
 clear A HC p0 p1 p2 d0 d1 d2 d3 d4
 go_wp2
 refine bodyPost_ret (zaz rfl _ _ s 50 #[.slice ao kn a2, .int .i64 kd, .slice bo vn b2, .int .i64 pg, .int .i64 ct] (0, 0) _ (.int .i64 0) zr zr (T.out.put _ _ _ _ _) Tryz.underlying50 rfl zal) rfl ?_
 have hf := zaq u2 s (.slice ao kn a2) (.int .i64 kd) (.slice bo vn b2) (.int .i64 pg) (.int .i64 ct)
 have E := Q.out
 have A0 := R.out
 have K := HG.out.1
 have L := HG.out.2
 have M := zae O.out Lr J.out
 refine ⟨ao, kn, a2, bo, vn, b2, rfl, zaa ⟨rfl, rfl, ?_, ?_⟩, zaa (M.trans (hf.below M.size (by intro i hi e; omega)))⟩
 ·exact (K.cfX hf (fun z hz e => by have := (K.blk hz).1; omega)).low zq
 ·exact (L.cfX hf (fun z hz e => by have := (L.blk hz).1; omega)).low zq
theorem r7cell_any (w : World) (r : Nat) (k : Int) (n : Nat) (so : Option Addr) (sn sc : Nat) (sv : Value) (ws : Int) (cs : List Cl) (h : QD w r k n (.slice so sn sc) sv ws) (hs : SlC w so sn sc cs) (i : Nat) (c : Cl) (D : cs[i]? = some c) :
  Calls Tryz.prog 107 #[.pointer (some ⟨r, 0, none⟩), .int .i64 (i : Int)] w (RcTo c w) := by
 obtain ⟨s, hsz⟩ : ∃ s, w.heap.size = s := ⟨_, rfl⟩
 obtain ⟨y, hy⟩ : ∃ y, w.alloc (.cells #[.slice none 0 0, .int .i64 0, .slice none 0 0, .int .i64 0, .int .i64 0] 50) = y := ⟨_, rfl⟩
 have C : Below w.heap.size w y := by rw [← hy]; exact zab Br Lr _
 have N : Hid (C5 y s (.slice none 0 0) (.int .i64 0) (.slice none 0 0) (.int .i64 0) (.int .i64 0)) := by rw [← hy, ← hsz]; exact zaa (C5.box _ _ _ _ _ _)
 have O := zaa C
 have F : QD y r k n (.slice so sn sc) sv ws := (C.block r (zaf h)).trans h
 have G := hs.on C
 have U := hs.hroom
 have P : i < sn := by rw [← hs.hlen]; exact (zH.1 D).1
 obtain ⟨p0, p1, p2, p3, p4⟩ := F.cells
 have E : s + 1 ≤ y.heap.size := by rw [← hy, ← hsz]; simp
 obtain ⟨b, off, c', ka, kc, va, vc, rfl, hb, B, d0, d1, d2, d3, d4, hk, hv⟩ := G.item i P
 rw [D] at B
 injection B with B
 subst B
 have HC := zaa (dcopied_any c ka va kc vc y hk hv)
 unfold RcTo
 obtain ⟨key, kd, val, pg, ct⟩ := c
 simp only at d0 d1 d2 d3 d4 HC ⊢
 obtain ⟨kn, H⟩ : ∃ kn, key.length = kn := ⟨_, rfl⟩
 obtain ⟨vn, I⟩ : ∃ vn, val.length = vn := ⟨_, rfl⟩
 rw [H] at d0 HC ⊢
 rw [I] at d2 HC ⊢
 have Q := zaa E
 have R := zaa hsz
 have V : (i : Int) < (sn : Int) := zq
 have W : ¬ (i : Int) < 0 := zq
 have X : ¬ (sn : Int) ≤ (i : Int) := zq
 have Y : decide ((i : Int) < 0) = false := by simp
 have Z : decide ((sn : Int) ≤ (i : Int)) = false := by simp; omega
 clear h hs F G D C E hk hv H I hb
 go_enter Tryz.func107, Tryz.ntmps107
 go_wp2_with (go_at_call 144; refine HC.out.mono ?_; rintro e u2 ⟨ao, a2, bo, b2, rfl, HG, J⟩; refine Hid.out ?_)
 apply zaa
 have A : C5 u2 s (.slice none 0 0) (.int .i64 0) (.slice none 0 0) (.int .i64 0) (.int .i64 0) := zag N.out J.out
 have T := zaa A
 obtain ⟨b0, b1, b2', b3, b4⟩ := A.cells
 obtain ⟨h0, h1, h2, h3, h4⟩ := A.free
 clear A HC p0 p1 p2 p3 p4 d0 d1 d2 d3 d4
 go_wp2
 refine bodyPost_ret (zaz rfl _ _ s 50 #[.slice ao kn a2, .int .i64 kd, .slice bo vn b2, .int .i64 pg, .int .i64 ct] (0, 0) _ (.int .i64 0) zr zr (T.out.put _ _ _ _ _) Tryz.underlying50 rfl zal) rfl ?_
 have hf := zaq u2 s (.slice ao kn a2) (.int .i64 kd) (.slice bo vn b2) (.int .i64 pg) (.int .i64 ct)
 have E := Q.out
 have A0 := R.out
 have K := HG.out.1
 have L := HG.out.2.1
 have M := zae O.out Lr J.out
 refine ⟨ao, kn, a2, bo, vn, b2, rfl, zaa ⟨rfl, rfl, ?_, ?_⟩, zaa (M.trans (hf.below M.size (by intro i hi e; omega)))⟩
 ·exact (K.cfX hf (fun z hz e => by have := (K.blk hz).1; omega)).low zq
 ·exact (L.cfX hf (fun z hz e => by have := (L.blk hz).1; omega)).low zq
theorem Yes.small {l : List Int} {cs : List Cl} (h : Yes l cs) (hw : ∀ c ∈ cs, c.Wf) : ∀ c ∈ cs, c.Wf ∧ c.key.length ≤ 140737488355328 ∧ c.val.length ≤ 140737488355328 := fun c hc => ⟨hw c hc, by have := (h.len.2 c hc).1; omega, by have := (h.len.2 c hc).2; omega⟩
theorem OwnD.sl8 {w : World} {co : Option Addr} {cn cc : Nat} {l : List Int} {cs : List Cl} (h : OwnD w 0 (.slice co cn cc) cs) (hy : Yes l cs) (hw : ∀ c ∈ cs, c.Wf) : SlC w co cn cc cs := by
 obtain ⟨ao, cap, e, hs⟩ := h.slc (hy.small hw) (by have := hy.len.1; omega)
 injection e with e1 e2 e3
 rw [e1, e2, e3]
 exact hs
theorem zct {w : World} {x : Nat} {a b c : Value} (h : w.heap[x]? = some (.cells #[a, b, c] 71 (0, 0))) : w.cell? ⟨x, 0, none⟩ = some a ∧ w.cell? ⟨x, 1, none⟩ = some b ∧ w.cell? ⟨x, 2, none⟩ = some c := by
 refine ⟨?_, ?_, ?_⟩ <;> (rw [cell_of_row _ _ _ _ _ _ h]; rfl)
theorem RX.kind {w : World} {x : Nat} {l : List Int} {cs : List Cl} (h : RX w x l cs) :
  Calls Tryz.prog 27 #[.pointer (some ⟨x, 0, none⟩)] w fun e w' => e = .returned (.int .i64 (l.getD 0 0)) ∧ w' = w := by
 rcases h with ⟨e, r, co, cc, h1, h2, h3⟩ | ⟨e, r, co, cc, sv, h1, h2, h3, h4⟩
 ·obtain ⟨c0, c1, c2⟩ := zct h1
  have HK := zaa (r6kind_any w r _ _ _ h2)
  generalize l.getD 0 0 = k at *
  clear h1 h2 h3 e
  go_enter Tryz.func27, Tryz.ntmps27
  go_wp2_with (go_at_call 62; refine zad HK.out ?_)
  go_ret
  exact ⟨rfl, rfl⟩
 ·obtain ⟨c0, c1, c2⟩ := zct h1
  have HK := zaa (dkind_any w r _ _ _ _ _ h2)
  generalize l.getD 0 0 = k at *
  clear h1 h2 h3 h4 e
  go_enter Tryz.func27, Tryz.ntmps27
  go_wp2_with (go_at_call 63; refine zad HK.out ?_)
  go_ret
  exact ⟨rfl, rfl⟩
theorem RX.len {w : World} {x : Nat} {l : List Int} {cs : List Cl} (h : RX w x l cs) :
  Calls Tryz.prog 28 #[.pointer (some ⟨x, 0, none⟩)] w fun e w' => e = .returned (.int .i64 (cs.length : Int)) ∧ w' = w := by
 rcases h with ⟨e, r, co, cc, h1, h2, h3⟩ | ⟨e, r, co, cc, sv, h1, h2, h3, h4⟩
 ·obtain ⟨c0, c1, c2⟩ := zct h1
  have HK := zaa (r6len_any w r _ _ _ _ _ h2)
  generalize cs.length = N at *
  clear h1 h2 h3 e
  go_enter Tryz.func28, Tryz.ntmps28
  go_wp2_with (go_at_call 64; refine zad HK.out ?_)
  go_ret
  exact ⟨rfl, rfl⟩
 ·obtain ⟨c0, c1, c2⟩ := zct h1
  have HK := zaa (dlen_any w r _ _ _ _ _ _ _ h2)
  generalize cs.length = N at *
  clear h1 h2 h3 h4 e
  go_enter Tryz.func28, Tryz.ntmps28
  go_wp2_with (go_at_call 65; refine zad HK.out ?_)
  go_ret
  exact ⟨rfl, rfl⟩
theorem RX.used {w : World} {x : Nat} {l : List Int} {cs : List Cl} (h : RX w x l cs) (hy : Yes l cs) (hw : ∀ c ∈ cs, c.Wf) :
  Calls Tryz.prog 29 #[.pointer (some ⟨x, 0, none⟩)] w fun e w' => e = .returned (.int .i64 ((usX l cs : Nat) : Int)) ∧ Hid (Below w.heap.size w w') := by
 rcases h with ⟨e, r, co, cc, h1, h2, h3⟩ | ⟨e, r, co, cc, sv, h1, h2, h3, h4⟩
 ·obtain ⟨c0, c1, c2⟩ := zct h1
  have hi : Is (l.getD 0 0) l.length cs l := by rcases hy with ⟨_, h⟩ | ⟨h, _⟩; exact h; omega
  have hu : usX l cs = szN cs := by unfold usX; rw [if_pos e]
  have HK := zaa (r6used_any w r _ _ _ _ _ cs h2 (h3.sl8 hy hw) (by have := hi.fit; have := zas hi.sz; omega))
  rw [hu]
  generalize szN cs = Z at *
  clear h1 h2 h3 e hi hu hy hw
  go_enter Tryz.func29, Tryz.ntmps29
  go_wp2_with (go_at_call 66; refine HK.out.mono ?_; rintro e w1 ⟨rfl, HB⟩)
  go_ret
  exact ⟨rfl, HB⟩
 ·obtain ⟨c0, c1, c2⟩ := zct h1
  have hi : IsQ (l.getD 0 0) l.length cs l := by rcases hy with ⟨h, _⟩ | ⟨_, h⟩; omega; exact h
  have hu : usX l cs = szQ (l.getD 0 0) (shP (l.getD 0 0) cs).length cs := by unfold usX; rw [if_neg zq]
  have hz := zbj (l.getD 0 0) (shP (l.getD 0 0) cs).length cs
  have hp := zas hi.sz
  have hf := hi.fit
  obtain ⟨so, sc, rfl⟩ := h4.shape
  have A : ∀ (j : Nat) (c : Cl), cs[j]? = some c → ¬ (l.getD 0 0 = 3 ∧ j = 0) → (shP (l.getD 0 0) cs).length ≤ c.key.length := by
   intro j c hj B
   have hm : c ∈ ktl (l.getD 0 0) cs := by
    unfold ktl
    split
    ·rename_i C
     obtain ⟨j', rfl⟩ : ∃ j', j = j' + 1 := ⟨j - 1, by have : j ≠ 0 := fun e => B ⟨C, e⟩; omega⟩
     exact List.mem_of_getElem? (i := j') (by rw [List.getElem?_tail]; exact hj)
    ·exact List.mem_of_getElem? hj
   have := congrArg List.length (zby (l.getD 0 0) cs c hm)
   rw [zJ] at this
   omega
  have HK := zaa (dused_any w r _ _ _ _ _ so _ sc _ cs h2 (h3.sl8 hy hw) A (chk_fit hi.ok hi.sz) (by have := hy.len.1; omega) zq)
  rw [hu]
  generalize szQ (l.getD 0 0) (shP (l.getD 0 0) cs).length cs = Z at *
  clear h1 h2 h3 h4 e hi hu hy hw hz hp hf A
  go_enter Tryz.func29, Tryz.ntmps29
  go_wp2_with (go_at_call 67; refine HK.out.mono ?_; rintro e w1 ⟨rfl, HB⟩)
  go_ret
  exact ⟨rfl, HB⟩
theorem RX.cell {w : World} {x : Nat} {l : List Int} {cs : List Cl} (h : RX w x l cs) (hy : Yes l cs) (hw : ∀ c ∈ cs, c.Wf) (i : Nat) (c : Cl) (hc : cs[i]? = some c) :
  Calls Tryz.prog 61 #[.pointer (some ⟨x, 0, none⟩), .int .i64 (i : Int)] w (RcTo c w) := by
 obtain ⟨s, hsz⟩ : ∃ s, w.heap.size = s := ⟨_, rfl⟩
 obtain ⟨y, J⟩ : ∃ y, w.alloc (.cells #[.slice none 0 0, .int .i64 0, .slice none 0 0, .int .i64 0, .int .i64 0] 50) = y := ⟨_, rfl⟩
 have I : Below w.heap.size w y := by rw [← J]; exact zab Br Lr _
 have L : Hid (C5 y s (.slice none 0 0) (.int .i64 0) (.slice none 0 0) (.int .i64 0) (.int .i64 0)) := by rw [← J, ← hsz]; exact zaa (C5.box _ _ _ _ _ _)
 have M := zaa I
 have N : Hid (s + 1 ≤ y.heap.size) := zaa (by rw [← J, ← hsz]; simp)
 have O := zaa hsz
 have hl := hy.len.1
 have R : (i : Int) ≤ 65536 := by have := (zH.1 hc).1; omega
 rcases h.on I with ⟨e, r, co, cc, h1, h2, h3⟩ | ⟨e, r, co, cc, sv, h1, h2, h3, h4⟩
 ·obtain ⟨c0, c1, c2⟩ := zct h1
  have HC := zaa (r6cell_any y r _ _ co _ cc cs h2 (h3.sl8 hy hw) i c hc)
  unfold RcTo at HC ⊢
  obtain ⟨kd, B⟩ : ∃ kd, c.kd = kd := ⟨_, rfl⟩
  obtain ⟨pg, C⟩ : ∃ pg, c.pg = pg := ⟨_, rfl⟩
  obtain ⟨ct, D⟩ : ∃ ct, c.ct = ct := ⟨_, rfl⟩
  rw [B, C, D] at HC ⊢
  clear h1 h2 h3 h e hc hy hw I hl B C D
  go_enter Tryz.func61, Tryz.ntmps61
  go_wp2_with (go_at_call 106; refine HC.out.mono ?_; rintro e u2 ⟨ka, kn, kc, va, vn, vc, rfl, HG, E⟩; refine Hid.out ?_)
  apply zaa
  have A : C5 u2 s (.slice none 0 0) (.int .i64 0) (.slice none 0 0) (.int .i64 0) (.int .i64 0) := zag L.out E.out
  have K := zaa A
  obtain ⟨b0, b1, b2', b3, b4⟩ := A.cells
  obtain ⟨h0, h1, h2, h3, h4⟩ := A.free
  clear A HC c0 c1 c2
  go_wp2
  refine bodyPost_ret (zaz rfl _ _ s 50 #[.slice ka kn kc, .int .i64 kd, .slice va vn vc, .int .i64 pg, .int .i64 ct] (0, 0) _ (.int .i64 0) zr zr (K.out.put _ _ _ _ _) Tryz.underlying50 rfl zal) rfl ?_
  have hf := zaq u2 s (.slice ka kn kc) (.int .i64 kd) (.slice va vn vc) (.int .i64 pg) (.int .i64 ct)
  have P := N.out
  have Q := O.out
  obtain ⟨g1, g2, F, G⟩ := HG.out
  have H := zae M.out Lr E.out
  refine ⟨ka, kn, kc, va, vn, vc, rfl, zaa ⟨g1, g2, ?_, ?_⟩, zaa (H.trans (hf.below H.size (by intro i hi e; omega)))⟩
  ·exact (F.cfX hf (fun z hz e => by have := (F.blk hz).1; omega)).low zq
  ·exact (G.cfX hf (fun z hz e => by have := (G.blk hz).1; omega)).low zq
 ·obtain ⟨c0, c1, c2⟩ := zct h1
  have HC := zaa (r7cell_any y r _ _ co _ cc sv 0 cs h2 (h3.sl8 hy hw) i c hc)
  unfold RcTo at HC ⊢
  obtain ⟨kd, B⟩ : ∃ kd, c.kd = kd := ⟨_, rfl⟩
  obtain ⟨pg, C⟩ : ∃ pg, c.pg = pg := ⟨_, rfl⟩
  obtain ⟨ct, D⟩ : ∃ ct, c.ct = ct := ⟨_, rfl⟩
  rw [B, C, D] at HC ⊢
  clear h1 h2 h3 h4 h e hc hy hw I hl B C D
  go_enter Tryz.func61, Tryz.ntmps61
  go_wp2_with (go_at_call 107; refine HC.out.mono ?_; rintro e u2 ⟨ka, kn, kc, va, vn, vc, rfl, HG, E⟩; refine Hid.out ?_)
  apply zaa
  have A : C5 u2 s (.slice none 0 0) (.int .i64 0) (.slice none 0 0) (.int .i64 0) (.int .i64 0) := zag L.out E.out
  have K := zaa A
  obtain ⟨b0, b1, b2', b3, b4⟩ := A.cells
  obtain ⟨h0, h1, h2, h3, h4⟩ := A.free
  clear A HC c0 c1 c2
  go_wp2
  refine bodyPost_ret (zaz rfl _ _ s 50 #[.slice ka kn kc, .int .i64 kd, .slice va vn vc, .int .i64 pg, .int .i64 ct] (0, 0) _ (.int .i64 0) zr zr (K.out.put _ _ _ _ _) Tryz.underlying50 rfl zal) rfl ?_
  have hf := zaq u2 s (.slice ka kn kc) (.int .i64 kd) (.slice va vn vc) (.int .i64 pg) (.int .i64 ct)
  have P := N.out
  have Q := O.out
  obtain ⟨g1, g2, F, G⟩ := HG.out
  have H := zae M.out Lr E.out
  refine ⟨ka, kn, kc, va, vn, vc, rfl, zaa ⟨g1, g2, ?_, ?_⟩, zaa (H.trans (hf.below H.size (by intro i hi e; omega)))⟩
  ·exact (F.cfX hf (fun z hz e => by have := (F.blk hz).1; omega)).low zq
  ·exact (G.cfX hf (fun z hz e => by have := (G.blk hz).1; omega)).low zq
end Go.Proofs.YtbkhjeacmmbabaaGreatDoor
