/- The document's with: an entry more, at its place. -/
import Derived.Test.YtbbljldnaiiemaaDoorJa
namespace Go.Proofs.YtbbljldnaiiemaaDoor
open Go.RowKit

/-- One round of with. -/
def wStep (e : Int × Int) (s : Bool × List (Int × Int)) (x : Int × Int) : Bool × List (Int × Int) := if (!s.1 && decide (e.1 < x.1)) = true then (true, (s.2 ++ [e]) ++ [x]) else (s.1, s.2 ++ [x])
def wSt (es : List (Int × Int)) (e : Int × Int) (k : Nat) : Bool × List (Int × Int) := (es.take k).foldl (wStep e) (false, [])
def wAll (es : List (Int × Int)) (e : Int × Int) : List (Int × Int) := if (wSt es e es.length).1 = true then (wSt es e es.length).2 else (wSt es e es.length).2 ++ [e]
set_option maxRecDepth 100000 in
theorem wSt_next (es : List (Int × Int)) (e : Int × Int) (k : Nat) (hk : k < es.length) : wSt es e (k + 1) = wStep e (wSt es e k) (es.getD k (0, 0)) := by
  unfold wSt
  rw [List.take_add_one, List.foldl_append, List.getD, List.getElem?_eq_getElem hk]
  rfl
set_option maxRecDepth 100000 in
theorem wSt_len (es : List (Int × Int)) (e : Int × Int) : ∀ k, k ≤ es.length → (wSt es e k).2.length = k + (if (wSt es e k).1 = true then 1 else 0)
  | 0, _ => rfl
  | k + 1, h => by
    have ih := wSt_len es e k (by omega)
    rw [wSt_next es e k (by omega)]
    unfold wStep
    by_cases c : (wSt es e k).1 = true
    · rw [if_pos c] at ih
      simp [c, ih]
    · rw [if_neg c] at ih
      have c' : (wSt es e k).1 = false := by simpa using c
      generalize es.getD k (0, 0) = y
      by_cases d : e.1 < y.1
      · simp [c', d, ih]
      · simp [c', d, ih]
set_option maxRecDepth 100000 in
theorem wAll_len (es : List (Int × Int)) (e : Int × Int) : (wAll es e).length = es.length + 1 := by
  have h := wSt_len es e es.length (Nat.le_refl _)
  unfold wAll
  by_cases c : (wSt es e es.length).1 = true
  · rw [if_pos c]; rw [if_pos c] at h; exact h
  · rw [if_neg c]; rw [if_neg c] at h; rw [List.length_append, h]; rfl
set_option maxRecDepth 100000 in
theorem OwnE.low {w : World} {B C : Nat} {v : Value} {l : List (Int × Int)} (h : OwnE w C v l) (hB : B ≤ C) : OwnE w B v l := by
  unfold OwnE at *
  exact ⟨h.1, h.2.imp id (fun ⟨g, cap, cur, e, hg, r⟩ => ⟨g, cap, cur, e, Nat.le_trans hB hg, r⟩)⟩
set_option maxRecDepth 100000 in
theorem Rl.put {w x U : World} {B b : Nat} {v m v' : Value} {la : Int} {es L : List (Int × Int)} (h : Rl w B b v m la es) (hX : Below w.heap.size w x) (hU : Below x.heap.size x U) (ho : OwnE U x.heap.size v' L) (hl : L.length ≤ 65536) (hb : B ≤ b) :
    Rl (U.setCell ⟨b, 0, none⟩ v') B b v' m la L ∧ Cf (· = b) w (U.setCell ⟨b, 0, none⟩ v') := by
  have hbl := lt_some h.box
  have hWU := bl_go hX (Nat.le_refl _) hU
  have hx := hX.size
  refine ⟨⟨?_, ?_, hl⟩, (Cf.of_below hWU).go (Cf.setCell (F := (· = b)) U (p := ⟨b, 0, none⟩) rfl _)⟩
  · have e : U.heap[b]? = some (.cells [v, m, .int .i64 la].toArray 78 (0, 0)) := (hWU.block b hbl).trans h.box
    exact set_row e
  · refine (ho.cf (Cf.setCell (F := (· = b)) U (p := ⟨b, 0, none⟩) rfl _) (fun k hk e => ?_)).low (by omega)
    have := ho.lt hk
    omega
set_option maxRecDepth 100000 in
set_option maxHeartbeats 4000000 in
theorem rwith_any (w : World) (B b : Nat) (v m : Value) (la : Int) (es : List (Int × Int)) (p t : Int) (h : Rl w B b v m la es) (hlen : es.length < 65536) (hb : B ≤ b) :
    Calls Tryd.prog 40 #[pB b, .agg #[.int .i64 p, .int .i64 t]] w fun e u => e = .returned (.tuple #[]) ∧ Hid (∃ v', Rl u B b v' m la (wAll es (p, t))) ∧ Hid (Cf (· = b) w u) := by
  obtain ⟨ao, cap, rfl, hc⟩ := h.own.cells
  have hbx := h.box
  have hbl := lt_some hbx
  have HC := hidden hc
  have HH := hidden h
  have hlI : (es.length : Int) < 65536 := by omega
  clear h hc
  obtain ⟨N, hN⟩ : ∃ N, es.length = N := ⟨_, rfl⟩
  have HN := hidden hN
  obtain ⟨x, hx⟩ : ∃ x, w.alloc (.cells #[.int .i64 p, .int .i64 t] 81) = x := ⟨_, rfl⟩
  have hbx2 : Below w.heap.size w x := by rw [← hx]; exact bl_al (Below.refl _ _) (Nat.le_refl _) _
  have HX := hidden hbx2
  have HE0 : Hid (x.cell? ⟨w.heap.size, 0, none⟩ = some (.int .i64 p) ∧ x.cell? ⟨w.heap.size, 1, none⟩ = some (.int .i64 t) ∧ w.heap.size < x.heap.size) := hidden (by rw [← hx]; simp)
  rw [hN] at hlen hlI HC
  clear hN hbx hbx2
  go_enter Tryd.func40, Tryd.ntmps40
  go_wp2_with fail
  have HST : Hid (∀ k, k < N → wSt es (p, t) (k + 1) = wStep (p, t) (wSt es (p, t) k) (es.getD k (0, 0))) := hidden (fun k hk => wSt_next es (p, t) k (by rw [HN.out]; exact hk))
  have HSL : Hid (∀ k, k ≤ N → (wSt es (p, t) k).2.length ≤ k + 1) := hidden (fun k hk => by
    have := wSt_len es (p, t) k (by rw [HN.out]; exact hk)
    split at this <;> omega)
  go_loopw [4, 5, 6] (fun o inn i wr => ∃ k : Nat, k ≤ N ∧ i = .int .i64 (k : Int) ∧ inn = .bool (wSt es (p, t) k).1 ∧ ∃ vo vc, o = .slice vo (wSt es (p, t) k).2.length vc ∧ Hid (OwnE wr x.heap.size (.slice vo (wSt es (p, t) k).2.length vc) (wSt es (p, t) k).2) ∧ Hid (Below x.heap.size x wr)) (fun _ _ i _ => N - (RowKit.intOf i).toNat)
  case atStart => exact ⟨0, by omega, rfl, rfl, none, 0, rfl, hidden (OwnE.nil _ _), hidden (Below.refl _ _)⟩
  case round =>
    obtain ⟨k, hk, rfl, rfl, vo, vc, rfl, HO, HB⟩ := hrel
    have HWX : Hid (Below w.heap.size w wr) := hidden (bl_go HX.out (Nat.le_refl _) HB.out)
    by_cases hlt : k < N
    · rcases HC.out with h0 | ⟨g, rfl, _, hgl, hcc⟩
      · omega
      have hltI : (k : Int) < (N : Int) := by omega
      have hsl := HSL.out k hk
      have HSN := hidden (HST.out k hlt)
      have HZZ : Hid (w.cell? ⟨b, 0, none⟩ = some (.slice (some ⟨g, 0, none⟩) N cap) ∧ w.cell? ⟨g, k * 2, none⟩ = some (.int .i64 (es.getD k (0, 0)).1) ∧ w.cell? ⟨g, k * 2 + 1, none⟩ = some (.int .i64 (es.getD k (0, 0)).2)) := hidden ⟨by rw [cell_of_row _ _ 0 _ _ _ HH.out.box, HN.out]; rfl, hcc k hlt⟩
      clear hcc
      obtain ⟨⟨z, z2⟩, hz⟩ : ∃ z, es.getD k (0, 0) = z := ⟨_, rfl⟩
      rw [hz] at HZZ HSN
      clear hz
      obtain ⟨⟨inn, out⟩, hst⟩ : ∃ s, wSt es (p, t) k = s := ⟨_, rfl⟩
      rw [hst] at HO hsl HSN ⊢
      clear hst
      simp only at hsl ⊢
      simp only at HO
      have HFA : Hid (∀ u, Below x.heap.size x u → u.cell? ⟨b, 0, none⟩ = some (.slice (some ⟨g, 0, none⟩) N cap) ∧ u.cell? ⟨g, k * 2, none⟩ = some (.int .i64 z) ∧ u.cell? ⟨g, k * 2 + 1, none⟩ = some (.int .i64 z2) ∧ u.cell? ⟨w.heap.size, 0, none⟩ = some (.int .i64 p) ∧ u.cell? ⟨w.heap.size, 1, none⟩ = some (.int .i64 t)) := hidden (fun u h2 => by
        have h1 := bl_go HX.out (Nat.le_refl _) h2
        exact ⟨(h1.cell (p := ⟨b, 0, none⟩) hbl).trans HZZ.out.1, (h1.cell (p := ⟨g, k * 2, none⟩) hgl).trans HZZ.out.2.1, (h1.cell (p := ⟨g, k * 2 + 1, none⟩) hgl).trans HZZ.out.2.2, (h2.cell (p := ⟨w.heap.size, 0, none⟩) HE0.out.2.2).trans HE0.out.1, (h2.cell (p := ⟨w.heap.size, 1, none⟩) HE0.out.2.2).trans HE0.out.2.1⟩)
      obtain ⟨a0, a1, a2, a3, a4⟩ := HFA.out wr HB.out
      cases inn with
      | true =>
        have HSN2 : Hid (wSt es (p, t) (k + 1) = (true, out ++ [(z, z2)])) := hidden (by rw [HSN.out]; rfl)
        clear HSN
        go_wp2_with fail
        go_quiet (fail)
        clear a0 a1 a2 a3 a4
        obtain ⟨U, hU⟩ : ∃ U, wr.drewN nq = U := ⟨_, rfl⟩
        have hbq : Below wr.heap.size wr U := by rw [← hU]; exact bl_dr (Below.refl _ _) nq
        have HOU := hidden (HO.out.below hbq)
        have HBU := hidden (bl_go HB.out (Nat.le_refl _) hbq)
        obtain ⟨a0, a1, a2, a3, a4⟩ := HFA.out U HBU.out
        rw [hU]
        clear hU hbq HO HB
        obtain ⟨y2, hy2⟩ : ∃ y, U.alloc (.cells #[.int .i64 z, .int .i64 z2] 81) = y := ⟨_, rfl⟩
        have hb2 : Below U.heap.size U y2 := by rw [← hy2]; exact bl_al (Below.refl _ _) (Nat.le_refl _) _
        have q0 : y2.cell? ⟨U.heap.size, 0, none⟩ = some (.int .i64 z) := by rw [← hy2]; simp
        have q1 : y2.cell? ⟨U.heap.size, 1, none⟩ = some (.int .i64 z2) := by rw [← hy2]; simp
        have HOY : Hid (OwnE y2 x.heap.size (.slice vo out.length vc) out) := hidden (HOU.out.below hb2)
        have HBY : Hid (Below x.heap.size x y2) := hidden (bl_go HBU.out (Nat.le_refl _) hb2)
        have hsy : x.heap.size ≤ y2.heap.size := HBY.out.size
        clear hb2
        go_wp2_with (at_builtin; refine app_e _ rfl _ _ rfl x.heap.size out (z, z2) _ U.heap.size rfl rfl HOY.out q0 q1 (by omega) hsy ?_; refine Hid.out ?_)
        apply hidden
        intro v4 w4 ho4 hg4
        have HB4 : Hid (Below x.heap.size x w4) := hidden (HBY.out.trans (own_below HOY.out hsy hg4.grow))
        obtain ⟨vo4, vc4, rfl, _⟩ := ho4.cells
        have HO4 := hidden ho4
        clear hy2 q0 q1 HOY HBY hsy ho4 hg4
        go_wp2_with fail
        go_roundw
        case rel =>
          refine ⟨k + 1, by omega, by go_num, ?_, vo4, vc4, ?_, ?_, HB4⟩
          · rw [HSN2.out]
          · rw [HSN2.out]
          · rw [HSN2.out]; exact HO4
        case measure => simp [RowKit.intOf]; omega
      | false =>
        by_cases hpz : p < z
        · have HSN2 : Hid (wSt es (p, t) (k + 1) = (true, (out ++ [(p, t)]) ++ [(z, z2)])) := hidden (by rw [HSN.out]; unfold wStep; simp [hpz])
          clear HSN
          have hpd : decide (p < z) = true := by simpa using hpz
          go_wp2_with fail
          go_quiet (fail)
          clear a0 a1 a2 a3 a4
          obtain ⟨U, hU⟩ : ∃ U, wr.drewN nq = U := ⟨_, rfl⟩
          have hbq : Below wr.heap.size wr U := by rw [← hU]; exact bl_dr (Below.refl _ _) nq
          have HOU := hidden (HO.out.below hbq)
          have HBU := hidden (bl_go HB.out (Nat.le_refl _) hbq)
          obtain ⟨a0, a1, a2, a3, a4⟩ := HFA.out U HBU.out
          rw [hU]
          clear hU hbq HO HB
          obtain ⟨y1, hy1⟩ : ∃ y, U.alloc (.cells #[.int .i64 p, .int .i64 t] 81) = y := ⟨_, rfl⟩
          have hb1 : Below U.heap.size U y1 := by rw [← hy1]; exact bl_al (Below.refl _ _) (Nat.le_refl _) _
          have q0 : y1.cell? ⟨U.heap.size, 0, none⟩ = some (.int .i64 p) := by rw [← hy1]; simp
          have q1 : y1.cell? ⟨U.heap.size, 1, none⟩ = some (.int .i64 t) := by rw [← hy1]; simp
          have HOY : Hid (OwnE y1 x.heap.size (.slice vo out.length vc) out) := hidden (HOU.out.below hb1)
          have HBY : Hid (Below x.heap.size x y1) := hidden (bl_go HBU.out (Nat.le_refl _) hb1)
          have hsy : x.heap.size ≤ y1.heap.size := HBY.out.size
          clear hb1
          go_wp2_with (at_builtin; refine app_e _ rfl _ _ rfl x.heap.size out (p, t) _ U.heap.size rfl rfl HOY.out q0 q1 (by omega) hsy ?_; refine Hid.out ?_)
          apply hidden
          intro v3 w3 ho3 hg3
          have HB3 : Hid (Below x.heap.size x w3) := hidden (HBY.out.trans (own_below HOY.out hsy hg3.grow))
          obtain ⟨vo3, vc3, rfl, _⟩ := ho3.cells
          obtain ⟨O1, hO1⟩ : ∃ O, out ++ [(p, t)] = O := ⟨_, rfl⟩
          have hl1 : O1.length = out.length + 1 := by rw [← hO1]; simp
          rw [hO1] at ho3 HSN2
          rw [hO1]
          have HO3 := hidden ho3
          have hbO : O1.length + 1 ≤ 1000000 := by omega
          clear hl1
          clear hy1 q0 q1 HOY HBY hsy ho3 hg3 a0 a1 a2 a3 a4 HOU HBU hO1
          obtain ⟨a0, a1, a2, a3, a4⟩ := HFA.out w3 HB3.out
          obtain ⟨y2, hy2⟩ : ∃ y, w3.alloc (.cells #[.int .i64 z, .int .i64 z2] 81) = y := ⟨_, rfl⟩
          have hb2 : Below w3.heap.size w3 y2 := by rw [← hy2]; exact bl_al (Below.refl _ _) (Nat.le_refl _) _
          have q0 : y2.cell? ⟨w3.heap.size, 0, none⟩ = some (.int .i64 z) := by rw [← hy2]; simp
          have q1 : y2.cell? ⟨w3.heap.size, 1, none⟩ = some (.int .i64 z2) := by rw [← hy2]; simp
          have HOY : Hid (OwnE y2 x.heap.size (.slice vo3 O1.length vc3) O1) := hidden (HO3.out.below hb2)
          have HBY : Hid (Below x.heap.size x y2) := hidden (bl_go HB3.out (Nat.le_refl _) hb2)
          have hsy : x.heap.size ≤ y2.heap.size := HBY.out.size
          clear hb2
          go_wp2_with (at_builtin; refine app_e _ rfl _ _ rfl x.heap.size O1 (z, z2) _ w3.heap.size rfl rfl HOY.out q0 q1 hbO hsy ?_; refine Hid.out ?_)
          apply hidden
          intro v4 w4 ho4 hg4
          have HB4 : Hid (Below x.heap.size x w4) := hidden (HBY.out.trans (own_below HOY.out hsy hg4.grow))
          obtain ⟨vo4, vc4, rfl, _⟩ := ho4.cells
          have HO4 := hidden ho4
          clear hy2 q0 q1 HOY HBY hsy ho4 hg4
          go_wp2_with fail
          go_roundw
          case rel =>
            refine ⟨k + 1, by omega, by go_num, ?_, vo4, vc4, ?_, ?_, HB4⟩
            · rw [HSN2.out]
            · rw [HSN2.out]
            · rw [HSN2.out]; exact HO4
          case measure => simp [RowKit.intOf]; omega
        · have HSN2 : Hid (wSt es (p, t) (k + 1) = (false, out ++ [(z, z2)])) := hidden (by rw [HSN.out]; unfold wStep; simp [hpz])
          clear HSN
          have hpd : decide (p < z) = false := by simpa using hpz
          clear hpz
          go_wp2_with fail
          go_quiet (fail)
          clear a0 a1 a2 a3 a4
          obtain ⟨U, hU⟩ : ∃ U, wr.drewN nq = U := ⟨_, rfl⟩
          have hbq : Below wr.heap.size wr U := by rw [← hU]; exact bl_dr (Below.refl _ _) nq
          have HOU := hidden (HO.out.below hbq)
          have HBU := hidden (bl_go HB.out (Nat.le_refl _) hbq)
          obtain ⟨a0, a1, a2, a3, a4⟩ := HFA.out U HBU.out
          rw [hU]
          clear hU hbq HO HB
          obtain ⟨y2, hy2⟩ : ∃ y, U.alloc (.cells #[.int .i64 z, .int .i64 z2] 81) = y := ⟨_, rfl⟩
          have hb2 : Below U.heap.size U y2 := by rw [← hy2]; exact bl_al (Below.refl _ _) (Nat.le_refl _) _
          have q0 : y2.cell? ⟨U.heap.size, 0, none⟩ = some (.int .i64 z) := by rw [← hy2]; simp
          have q1 : y2.cell? ⟨U.heap.size, 1, none⟩ = some (.int .i64 z2) := by rw [← hy2]; simp
          have HOY : Hid (OwnE y2 x.heap.size (.slice vo out.length vc) out) := hidden (HOU.out.below hb2)
          have HBY : Hid (Below x.heap.size x y2) := hidden (bl_go HBU.out (Nat.le_refl _) hb2)
          have hsy : x.heap.size ≤ y2.heap.size := HBY.out.size
          clear hb2
          go_wp2_with (at_builtin; refine app_e _ rfl _ _ rfl x.heap.size out (z, z2) _ U.heap.size rfl rfl HOY.out q0 q1 (by omega) hsy ?_; refine Hid.out ?_)
          apply hidden
          intro v4 w4 ho4 hg4
          have HB4 : Hid (Below x.heap.size x w4) := hidden (HBY.out.trans (own_below HOY.out hsy hg4.grow))
          obtain ⟨vo4, vc4, rfl, _⟩ := ho4.cells
          have HO4 := hidden ho4
          clear hy2 q0 q1 HOY HBY hsy ho4 hg4
          go_wp2_with fail
          go_roundw
          case rel =>
            refine ⟨k + 1, by omega, by go_num, ?_, vo4, vc4, ?_, ?_, HB4⟩
            · rw [HSN2.out]
            · rw [HSN2.out]
            · rw [HSN2.out]; exact HO4
          case measure => simp [RowKit.intOf]; omega
    · have hkN : k = N := by omega
      subst hkN
      have hge : ¬ (k : Int) < (k : Int) := by omega
      have hsl := HSL.out k hk
      have HWL : Hid ((wAll es (p, t)).length ≤ 65536) := hidden (by rw [wAll_len, HN.out]; omega)
      have HWA : Hid (wAll es (p, t) = if (wSt es (p, t) k).1 = true then (wSt es (p, t) k).2 else (wSt es (p, t) k).2 ++ [(p, t)]) := hidden (by unfold wAll; rw [HN.out])
      obtain ⟨⟨inn, out⟩, hst⟩ : ∃ s, wSt es (p, t) k = s := ⟨_, rfl⟩
      rw [hst] at HO hsl HWA ⊢
      clear hst
      simp only at hsl ⊢
      simp only at HO HWA
      have HFA : Hid (∀ u, Below x.heap.size x u → u.cell? ⟨b, 0, none⟩ = some (.slice ao k cap) ∧ u.frozen? ⟨b, 0, none⟩ = false ∧ u.cell? ⟨w.heap.size, 0, none⟩ = some (.int .i64 p) ∧ u.cell? ⟨w.heap.size, 1, none⟩ = some (.int .i64 t)) := hidden (fun u h2 => by
        have h1 := bl_go HX.out (Nat.le_refl _) h2
        have hbu := (h1.block b hbl).trans HH.out.box
        refine ⟨by rw [cell_of_row _ _ 0 _ _ _ hbu, HN.out]; rfl, by simp [World.frozen?, hbu], (h2.cell (p := ⟨w.heap.size, 0, none⟩) HE0.out.2.2).trans HE0.out.1, (h2.cell (p := ⟨w.heap.size, 1, none⟩) HE0.out.2.2).trans HE0.out.2.1⟩)
      cases inn with
      | true =>
        obtain ⟨a0, fb, a3, a4⟩ := HFA.out wr HB.out
        have HFIN := hidden (HH.out.put HX.out HB.out HO.out (by have := HWL.out; rw [HWA.out] at this; exact this) hb)
        have HWE : Hid (wAll es (p, t) = out) := hidden (by rw [HWA.out]; rfl)
        clear HWA
        go_wp2_with fail
        go_end0
        exact ⟨rfl, hidden ⟨_, by rw [HWE.out]; exact HFIN.out.1⟩, hidden HFIN.out.2⟩
      | false =>
        obtain ⟨a0, fb, a3, a4⟩ := HFA.out wr HB.out
        have HWE : Hid (wAll es (p, t) = out ++ [(p, t)]) := hidden (by rw [HWA.out]; rfl)
        clear HWA
        obtain ⟨y1, hy1⟩ : ∃ y, wr.alloc (.cells #[.int .i64 p, .int .i64 t] 81) = y := ⟨_, rfl⟩
        have hb1 : Below wr.heap.size wr y1 := by rw [← hy1]; exact bl_al (Below.refl _ _) (Nat.le_refl _) _
        have q0 : y1.cell? ⟨wr.heap.size, 0, none⟩ = some (.int .i64 p) := by rw [← hy1]; simp
        have q1 : y1.cell? ⟨wr.heap.size, 1, none⟩ = some (.int .i64 t) := by rw [← hy1]; simp
        have HOY : Hid (OwnE y1 x.heap.size (.slice vo out.length vc) out) := hidden (HO.out.below hb1)
        have HBY : Hid (Below x.heap.size x y1) := hidden (bl_go HB.out (Nat.le_refl _) hb1)
        have hsy : x.heap.size ≤ y1.heap.size := HBY.out.size
        clear hb1
        go_wp2_with (at_builtin; refine app_e _ rfl _ _ rfl x.heap.size out (p, t) _ wr.heap.size rfl rfl HOY.out q0 q1 (by omega) hsy ?_; refine Hid.out ?_)
        apply hidden
        intro v3 w3 ho3 hg3
        have HB3 : Hid (Below x.heap.size x w3) := hidden (HBY.out.trans (own_below HOY.out hsy hg3.grow))
        obtain ⟨vo3, vc3, rfl, _⟩ := ho3.cells
        have HFIN := hidden (HH.out.put HX.out HB3.out ho3 (by have := HWL.out; rw [HWE.out] at this; exact this) hb)
        obtain ⟨ln, hln⟩ : ∃ ln, (out ++ [(p, t)]).length = ln := ⟨_, rfl⟩
        rw [hln] at HFIN ⊢
        clear hln
        clear hy1 q0 q1 HOY HBY hsy hg3 a0 a3 a4 fb ho3
        obtain ⟨a0, fb, _, _⟩ := HFA.out w3 HB3.out
        go_wp2_with fail
        go_end0
        exact ⟨rfl, hidden ⟨_, by rw [HWE.out]; exact HFIN.out.1⟩, hidden HFIN.out.2⟩
end Go.Proofs.YtbbljldnaiiemaaDoor
