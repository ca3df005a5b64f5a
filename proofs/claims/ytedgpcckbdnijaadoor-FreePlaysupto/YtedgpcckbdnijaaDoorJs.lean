/- The law's step at a pair: the kinds 1, 2, 3. -/
import Derived.Test.YtedgpcckbdnijaaDoorJq
namespace Go.Proofs.YtedgpcckbdnijaaDoor
open Go.RowKit Go.Maps

/-- An op in a block of its own. -/
def Oq (u : World) (o : Nat) (kd A B : Int) : Prop := u.heap[o]? = some (.cells #[.int .i64 kd, .int .i64 A, .int .i64 B] 38 (0, 0))
set_option maxRecDepth 100000 in
theorem Oq.cells {u : World} {o : Nat} {kd A B : Int} (h : Oq u o kd A B) : u.cell? ⟨o, 0, none⟩ = some (.int .i64 kd) ∧ u.cell? ⟨o, 1, none⟩ = some (.int .i64 A) ∧ u.cell? ⟨o, 2, none⟩ = some (.int .i64 B) := by
  unfold Oq at h
  unfold World.cell?
  refine ⟨?_, ?_, ?_⟩ <;> (rw [h]; rfl)
set_option maxRecDepth 100000 in
theorem Oq.cf {u v : World} {o : Nat} {kd A B : Int} {F : Nat → Prop} (h : Oq u o kd A B) (hc : Cf F u v) (hf : ¬ F o) : Oq v o kd A B := (hc.block o (lt_some h) hf).trans h
set_option maxRecDepth 100000 in
theorem below_dr (u : World) (k : Nat) : Below u.heap.size u (u.drewN k) := ⟨rfl, rfl, rfl, Nat.le_refl _, fun _ _ => rfl⟩
set_option maxRecDepth 100000 in
theorem AcTo.drew {w u : World} {b m : Nat} {mv : Value} {last : Int} {K : Int → Option Int} {M : List Mq} {kd A B : Int} (h : AcTo w b m mv last K M kd A B u) (k : Nat) : AcTo w b m mv last K M kd A B (u.drewN k) := ⟨h.1.drew k, h.2.go (Cf.drew _ u k)⟩
/-- The state ahead of a step's calls. -/
structure Sx (u x : World) (z z0 : Nat → Nat) (a c bl ml b bk cnt o : Nat) (full : Prop) (kd A B : Int) (mv : Value) (last : Int) (K : Int → Option Int) (M : List Mq) (v mk : Value) (es : List (Int × Int)) (D : List Dq) : Prop where
  q : Zq x z0 a c bl ml b cnt mv last K M v mk es D
  j : Zj x z0 bk cnt full
  op : Oq x o kd A B
  bel : Below u.heap.size u x
  zx : Zx u z z0
  zo : u.heap.size ≤ o
  oz : z0 o = 0
section
variable {u x u1 u2 : World} {z z0 : Nat → Nat} {a c bl ml b bk cnt o n : Nat} {full : Prop} {kd A B : Int} {mv : Value} {last : Int} {K : Int → Option Int} {M : List Mq} {v mk : Value} {es : List (Int × Int)} {D : List Dq}
set_option maxRecDepth 100000 in
theorem Sx.drew (h : Sx u x z z0 a c bl ml b bk cnt o full kd A B mv last K M v mk es D) (k : Nat) : Sx u (x.drewN k) z z0 a c bl ml b bk cnt o full kd A B mv last K M v mk es D :=
  ⟨h.q.on (below_dr x k) (fun _ _ => rfl), h.j.on (below_dr x k) (fun _ _ => rfl), h.op, h.bel.trans ((below_dr x k).mono h.bel.size), h.zx, h.zo, h.oz⟩
set_option maxRecDepth 100000 in
theorem Zp.more (h : Zp u z a c bl ml b cnt) : Zp u z a c bl ml b (cnt + 1) := by
  obtain ⟨mv, last, K, M, v, mk, es, D, h1⟩ := h
  exact ⟨mv, last, K, M, v, mk, es, D, h1.more⟩
set_option maxRecDepth 100000 in
theorem Sx.fin (h : Sx u x z z0 a c bl ml b bk cnt o full kd A B mv last K M v mk es D) (hz : Zz a c) (h2 : ∃ z', Zx x z0 z' ∧ Zp u2 z' a c bl ml b (cnt + 1) ∧ Cf (fun k => z0 k = a ∨ z0 k = c) x u2) : StTo u z a c bl ml b bk cnt full u2 := by
  obtain ⟨z', h3, h4, h5⟩ := h2
  refine ⟨z', h.zx.trans h3 h.bel.size, h4, (h.j.turn h5 h3 (fun k hk => ?_)).more, (Cf.of_below h.bel).trans h5 (fun k hk e => ?_)⟩
  · have h6 := hz.a5
    have h7 := hz.c5
    rcases hk with e | e <;> (rw [e]; omega)
  · rw [h.zx k hk] at e
    rcases e with e | e
    · exact .inl e
    · exact .inr (.inl e)
set_option maxRecDepth 100000 in
theorem Sx.fin0 (h : Sx u x z z0 a c bl ml b bk cnt o full kd A B mv last K M v mk es D) (hz : Zz a c) (h2 : ∃ z', Zx x z0 z' ∧ Zp u2 z' a c bl ml b cnt ∧ Cf (fun k => z0 k = a ∨ z0 k = c) x u2) : StTo u z a c bl ml b bk cnt full u2 := by
  obtain ⟨z', h3, h4, h5⟩ := h2
  exact h.fin hz ⟨z', h3, h4.more, h5⟩
set_option maxRecDepth 100000 in
theorem Sx.act (h : Sx u x z z0 a c bl ml b bk cnt o full kd A B mv last K M v mk es D) (hz : Zz a c) {kd' A' B' : Int} (h1 : AcTo x bl ml mv last K M kd' A' B' u1) (h2 : DcTo u1 b v mk last D (actK K kd' A' B') u2) : StTo u z a c bl ml b bk cnt full u2 := h.fin0 hz (h.q.act hz h1 h2)
set_option maxRecDepth 100000 in
theorem Sx.op1 (h : Sx u x z z0 a c bl ml b bk cnt o full kd A B mv last K M v mk es D) (ha : a ≠ 0) (hc : Cf (Fb bl ml mv M) x u1) : Oq u1 o kd A B := h.op.cf hc (fun e => ha ((h.q.zl o e).symm.trans h.oz))
set_option maxRecDepth 100000 in
/-- Nothing was done. -/
theorem Sx.none (h : Sx u x z z0 a c bl ml b bk cnt o full kd A B mv last K M v mk es D) (hz : Zz a c) : StTo u z a c bl ml b bk cnt full x := h.fin0 hz ⟨z0, fun _ _ => rfl, ⟨_, _, _, _, _, _, _, _, h.q⟩, Cf.refl _ _⟩
set_option maxRecDepth 100000 in
theorem Sx.start (hp : Zp u z a c bl ml b cnt) (hj : Zj u z bk cnt full) (kd A B : Int) : ∃ z0 mv last K M v mk es D, Sx u (u.alloc (.cells #[.int .i64 kd, .int .i64 A, .int .i64 B] 38)) z z0 a c bl ml b bk cnt u.heap.size full kd A B mv last K M v mk es D := by
  obtain ⟨mv, last, K, M, v, mk, es, D, h⟩ := hp
  have hb : Below u.heap.size u (u.alloc (.cells #[.int .i64 kd, .int .i64 A, .int .i64 B] 38)) := bl_al (Below.refl _ _) (Nat.le_refl _) _
  exact ⟨zN u z 0, mv, last, K, M, v, mk, es, D, ⟨h.on hb (zx_N u z 0), hj.on hb (zx_N u z 0), al_row _ _, hb, zx_N u z 0, Nat.le_refl _, zN_new (Nat.le_refl _)⟩⟩
end
section
variable {u x : World} {z z0 : Nat → Nat} {a c bl ml b bk cnt o : Nat} {full : Prop} {A B : Int} {mv : Value} {last : Int} {K : Int → Option Int} {M : List Mq} {v mk : Value} {es : List (Int × Int)} {D : List Dq}
set_option maxRecDepth 100000 in
set_option maxHeartbeats 2000000 in
theorem step_take (hs : Sx u (u.alloc (.cells #[.int .i64 1, .int .i64 A, .int .i64 B] 38)) z z0 a c bl ml b bk cnt u.heap.size full 1 A B mv last K M v mk es D) (hz : Zz a c) (hT : Tz u) :
    Calls Tryd.prog 8 #[pB bk, pB bl, pB b, .agg #[.int .i64 1, .int .i64 A, .int .i64 B]] u fun e u' => e = .returned (.bool true) ∧ Hid (StTo u z a c bl ml b bk cnt full u') := by
  obtain ⟨x, hx⟩ : ∃ x, u.alloc (.cells #[.int .i64 1, .int .i64 A, .int .i64 B] 38) = x := ⟨_, rfl⟩
  rw [hx] at hs
  obtain ⟨k0, k1, k2⟩ := hs.op.cells
  have HS := hidden hs
  have HT1 := hidden (take_act hs.q.fl (fun j hj => (hs.bel.cell (p := ⟨0, j, none⟩) (World.block_lt_of_cell? u _ (hT j hj))).trans (hT j hj)))
  clear hs hT
  obtain ⟨r, hr⟩ : ∃ r, tkR K = r := ⟨_, rfl⟩
  have HR := hidden hr
  rw [hr] at HT1
  clear hr
  obtain ⟨rp, ro⟩ := r
  simp only at HT1
  go_enter Tryd.func8, Tryd.ntmps8
  go_wp2_with (go_at_call 16; refine HT1.out.mono ?_; rintro e u1 ⟨rfl, HU1⟩; refine Hid.out ?_)
  apply hidden
  have HT2 := hidden (rtake_act (HS.out.q.rm1 hz HU1.out.2) HS.out.q.pq.ent HS.out.q.fl.fs.kept.2)
  rw [HR.out] at HT2
  simp only at HT2
  have e1 : (rp == rp) = true := by simp
  go_wp2_with (go_at_call 29; refine HT2.out.mono ?_; rintro e u2 ⟨rfl, HU2⟩; refine Hid.out ?_)
  apply hidden
  have HF := hidden (HS.out.act hz HU1.out HU2.out)
  clear HT1 HT2 HU1 HU2
  cases ro
  · go_wp2_with fail
    go_ret
    exact ⟨rfl, HF⟩
  · go_wp2_with fail
    go_ret
    exact ⟨rfl, HF⟩
set_option maxRecDepth 100000 in
set_option maxHeartbeats 2000000 in
theorem step_give (hs : Sx u (u.alloc (.cells #[.int .i64 2, .int .i64 A, .int .i64 B] 38)) z z0 a c bl ml b bk cnt u.heap.size full 2 A B mv last K M v mk es D) (hz : Zz a c) (ha : a ≠ 0) :
    Calls Tryd.prog 8 #[pB bk, pB bl, pB b, .agg #[.int .i64 2, .int .i64 A, .int .i64 B]] u fun e u' => e = .returned (.bool true) ∧ Hid (StTo u z a c bl ml b bk cnt full u') := by
  obtain ⟨x, hx⟩ : ∃ x, u.alloc (.cells #[.int .i64 2, .int .i64 A, .int .i64 B] 38) = x := ⟨_, rfl⟩
  rw [hx] at hs
  obtain ⟨k0, k1, k2⟩ := hs.op.cells
  have HS := hidden hs
  obtain ⟨G, hG⟩ : ∃ G, giveE K A B = G := ⟨_, rfl⟩
  have e1 : (G == G) = true := by simp
  have HD1 : Hid (∀ w, (∃ k, w = x.drewN k) → Calls Tryd.prog 17 #[pB bl, .int .i64 A, .int .i64 B] w fun e u1 => e = .returned (.int .i64 G) ∧ Hid (Oq u1 u.heap.size 2 A B ∧ ∀ w', (∃ k, w' = u1.drewN k) → Calls Tryd.prog 30 #[pB b, .int .i64 A, .int .i64 B] w' fun e u2 => e = .returned (.int .i64 G) ∧ Hid (∀ k, StTo u z a c bl ml b bk cnt full (u2.drewN k)))) := hidden (by
    rintro w ⟨k, rfl⟩
    have hk := HS.out.drew k
    have h1 := give_act hk.q.fl A B
    rw [hG] at h1
    refine h1.mono ?_
    rintro e u1 ⟨rfl, HU⟩
    refine ⟨rfl, hidden ⟨hk.op1 ha HU.out.2, ?_⟩⟩
    rintro w' ⟨k', rfl⟩
    have h2 := rgive_act (HS.out.q.fl |> fun _ => (hk.q.rm1 hz (HU.out.drew k').2)) hk.q.pq.ent hk.q.fl.fs.kept.2 A B
    rw [hG] at h2
    refine h2.mono ?_
    rintro e u2 ⟨rfl, HU2⟩
    refine ⟨rfl, hidden (fun k2 => ?_)⟩
    have h3 := hk.act hz (HU.out.drew k') HU2.out
    obtain ⟨z', a1, ⟨_, _, _, _, _, _, _, _, a2⟩, a3, a4⟩ := h3
    exact ⟨z', a1, ⟨_, _, _, _, _, _, _, _, a2.on (below_dr u2 k2) (fun _ _ => rfl)⟩, a3.on (below_dr u2 k2) (fun _ _ => rfl), a4.go (Cf.drew _ u2 k2)⟩)
  clear hs hG
  go_enter Tryd.func8, Tryd.ntmps8
  go_wp2_with fail
  go_region_law (first
    | (go_simp; go_at_call 30; refine (HD2.out _ (by first | exact ⟨0, rfl⟩ | exact ⟨1, rfl⟩ | exact ⟨2, rfl⟩ | exact ⟨_, rfl⟩)).mono ?_; rintro e u2 ⟨rfl, HU2⟩)
    | (go_simp; go_at_call 17; refine (HD1.out _ (by first | exact ⟨0, rfl⟩ | exact ⟨1, rfl⟩ | exact ⟨2, rfl⟩ | exact ⟨_, rfl⟩)).mono ?_; rintro e u1 ⟨rfl, HU1⟩; have HD2 := hidden HU1.out.2; obtain ⟨q0, q1, q2⟩ := HU1.out.1.cells))
  all_goals
    go_wp2_with fail
    go_ret
    exact ⟨rfl, hidden (by first | exact HU2.out 0 | exact HU2.out 1 | exact HU2.out _)⟩
end
end Go.Proofs.YtedgpcckbdnijaaDoor

/- The law's step at a pair: the other kinds. -/

namespace Go.Proofs.YtedgpcckbdnijaaDoor
open Go.RowKit Go.Maps

section
variable {u x : World} {z z0 : Nat → Nat} {a c bl ml b bk cnt o : Nat} {full : Prop} {A B : Int} {mv : Value} {last : Int} {K : Int → Option Int} {M : List Mq} {v mk : Value} {es : List (Int × Int)} {D : List Dq}
set_option maxRecDepth 100000 in
theorem StTo.drew {u2 : World} (h : StTo u z a c bl ml b bk cnt full u2) (k : Nat) : StTo u z a c bl ml b bk cnt full (u2.drewN k) := by
  obtain ⟨z', a1, ⟨_, _, _, _, _, _, _, _, a2⟩, a3, a4⟩ := h
  exact ⟨z', a1, ⟨_, _, _, _, _, _, _, _, a2.on (below_dr u2 k) (fun _ _ => rfl)⟩, a3.on (below_dr u2 k) (fun _ _ => rfl), a4.go (Cf.drew _ u2 k)⟩
set_option maxRecDepth 100000 in
set_option maxHeartbeats 2000000 in
theorem step_rel (hs : Sx u (u.alloc (.cells #[.int .i64 3, .int .i64 A, .int .i64 B] 38)) z z0 a c bl ml b bk cnt u.heap.size full 3 A B mv last K M v mk es D) (hz : Zz a c) (ha : a ≠ 0) :
    Calls Tryd.prog 8 #[pB bk, pB bl, pB b, .agg #[.int .i64 3, .int .i64 A, .int .i64 B]] u fun e u' => e = .returned (.bool true) ∧ Hid (StTo u z a c bl ml b bk cnt full u') := by
  obtain ⟨x, hx⟩ : ∃ x, u.alloc (.cells #[.int .i64 3, .int .i64 A, .int .i64 B] 38) = x := ⟨_, rfl⟩
  rw [hx] at hs
  obtain ⟨k0, k1, k2⟩ := hs.op.cells
  have HS := hidden hs
  obtain ⟨G, hG⟩ : ∃ G : Int, ((kL K (dueF A)).length : Int) = G := ⟨_, rfl⟩
  have e1 : (G == G) = true := by simp
  have HD1 : Hid (∀ w, (∃ k, w = x.drewN k) → Calls Tryd.prog 18 #[pB bl, .int .i64 A] w fun e u1 => e = .returned (.int .i64 G) ∧ Hid (Oq u1 u.heap.size 3 A B ∧ ∀ w', (∃ k, w' = u1.drewN k) → Calls Tryd.prog 31 #[pB b, .int .i64 A] w' fun e u2 => e = .returned (.int .i64 G) ∧ Hid (∀ k, StTo u z a c bl ml b bk cnt full (u2.drewN k)))) := hidden (by
    rintro w ⟨k, rfl⟩
    have hk := HS.out.drew k
    have h1 := rel_act hk.q.fl A 0
    rw [hG] at h1
    refine h1.mono ?_
    rintro e u1 ⟨rfl, HU⟩
    refine ⟨rfl, hidden ⟨hk.op1 ha HU.out.2, ?_⟩⟩
    rintro w' ⟨k', rfl⟩
    have h2 := rrel_act (hk.q.rm1 hz (HU.out.drew k').2) hk.q.pq.ent hk.q.fl.fs.kept.2 A 0
    rw [hG] at h2
    refine h2.mono ?_
    rintro e u2 ⟨rfl, HU2⟩
    exact ⟨rfl, hidden (fun k2 => (hk.act hz (HU.out.drew k') HU2.out).drew k2)⟩)
  clear hs hG
  go_enter Tryd.func8, Tryd.ntmps8
  go_wp2_with fail
  go_region_law (first
    | (go_simp; go_at_call 31; refine (HD2.out _ (by first | exact ⟨0, rfl⟩ | exact ⟨1, rfl⟩ | exact ⟨2, rfl⟩ | exact ⟨_, rfl⟩)).mono ?_; rintro e u2 ⟨rfl, HU2⟩)
    | (go_simp; go_at_call 18; refine (HD1.out _ (by first | exact ⟨0, rfl⟩ | exact ⟨1, rfl⟩ | exact ⟨2, rfl⟩ | exact ⟨_, rfl⟩)).mono ?_; rintro e u1 ⟨rfl, HU1⟩; have HD2 := hidden HU1.out.2; obtain ⟨q0, q1, q2⟩ := HU1.out.1.cells))
  all_goals
    go_wp2_with fail
    go_ret
    exact ⟨rfl, hidden (by first | exact HU2.out 0 | exact HU2.out 1 | exact HU2.out _)⟩
end
end Go.Proofs.YtedgpcckbdnijaaDoor
