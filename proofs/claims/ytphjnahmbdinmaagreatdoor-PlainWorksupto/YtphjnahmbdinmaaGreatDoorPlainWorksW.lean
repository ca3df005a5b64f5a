/- The law PlainWorks, walked. -/
import Derived.Test.YtphjnahmbdinmaaGreatDoorJ47
import Derived.Test.YtphjnahmbdinmaaGreatDoorP6m
import Derived.Test.YtphjnahmbdinmaaGreatDoorJ16
namespace Go.Proofs.YtphjnahmbdinmaaGreatDoor
open Go.RowKit

set_option maxRecDepth 100000 in
theorem Po.low {w : World} {B C a : Nat} {k : Int} {n : Nat} {vb vs : Value} {cs : List Cl} (h : Po w C a k n vb vs cs) (hB : B ≤ C) : Po w B a k n vb vs cs := ⟨h.row, h.body.low hB, h.starts.lowN hB⟩
set_option maxRecDepth 100000 in
set_option maxHeartbeats 8000000 in
theorem walk_PlainWorks (k n : Int) (a2 : Option Addr) (n2 c2 : Nat) (os : List Op6) (W : World) (hT : Tab W) (h0 : 1 < W.heap.size) (hs : SlO6 W a2 n2 c2 os) (hb : n2 ≤ 1048576) :
    Calls Tryz.prog 3 #[.int .i64 k, .int .i64 n, .slice a2 n2 c2] W fun e W' => e = .returned (.bool true) ∧ Below W.heap.size W W' := by
  have HAW := hidden (awake_any W hT h0)
  have hcap := hs.hcap
  have hnI : (n2 : Int) ≤ 1048576 := by omega
  have HI : Hid (∀ i, i < n2 → ∃ (o : Op6) (ka : Option Addr) (kc : Nat) (va : Option Addr) (vc : Nat) (b off : Nat), a2 = some ⟨b, off, none⟩ ∧ Sl W ka o.c.key.length kc o.c.key ∧ Sl W va o.c.val.length vc o.c.val ∧ ∀ wr, Below W.heap.size W wr → wr.cell? ⟨b, off + i * 7, none⟩ = some (.int .i64 o.q) ∧ wr.cell? ⟨b, off + i * 7 + 1, none⟩ = some (.int .i64 o.x) ∧ wr.cell? ⟨b, off + i * 7 + 2, none⟩ = some (.slice ka o.c.key.length kc) ∧ wr.cell? ⟨b, off + i * 7 + 3, none⟩ = some (.int .i64 o.c.kd) ∧ wr.cell? ⟨b, off + i * 7 + 4, none⟩ = some (.slice va o.c.val.length vc) ∧ wr.cell? ⟨b, off + i * 7 + 5, none⟩ = some (.int .i64 o.c.pg) ∧ wr.cell? ⟨b, off + i * 7 + 6, none⟩ = some (.int .i64 o.c.ct)) := hidden (by
    intro i hi
    rcases hs.hat with h | ⟨b, off, e, hlt, hc⟩
    · omega
    · obtain ⟨o, ho⟩ : ∃ o, os[i]? = some o := ⟨_, List.getElem?_eq_getElem (by have := hs.hlen; omega)⟩
      obtain ⟨ka, kc, va, vc, g0, g1, g2, g3, g4, g5, g6, g7, g8⟩ := hc i o ho
      exact ⟨o, ka, kc, va, vc, b, off, e, g7, g8, fun wr hw => ⟨(hw.cell (p := ⟨b, _, none⟩) hlt).trans g0, (hw.cell (p := ⟨b, _, none⟩) hlt).trans g1, (hw.cell (p := ⟨b, _, none⟩) hlt).trans g2, (hw.cell (p := ⟨b, _, none⟩) hlt).trans g3, (hw.cell (p := ⟨b, _, none⟩) hlt).trans g4, (hw.cell (p := ⟨b, _, none⟩) hlt).trans g5, (hw.cell (p := ⟨b, _, none⟩) hlt).trans g6⟩⟩)
  have HT := hidden hT
  have HH0 := hidden h0
  obtain ⟨B, hB⟩ : ∃ B, W.heap.size = B := ⟨_, rfl⟩
  have HB := hidden hB
  clear hT h0 hs
  go_enter Tryz.func3, Tryz.ntmps3
  go_wp2_with (first | (go_at_call 4; refine HAW.out.mono ?_; rintro e u0 ⟨rfl, HU0⟩; refine Hid.out ?_))
  apply hidden
  have HU0 := hidden HU0
  have HN := hidden (newO_any k n u0)
  clear HAW
  by_cases hok : pw n ∧ isKd k
  · have HN1 : Hid (Calls Tryz.prog 5 #[.int .i64 k, .int .i64 n] u0 fun e w' => e = .returned (.tuple #[.pointer (some ⟨u0.heap.size, 0, none⟩), .int .i64 0]) ∧ Hid (Po w' u0.heap.size u0.heap.size k n.toNat (.slice none 0 0) (.slice none 0 0) []) ∧ Hid (Below u0.heap.size u0 w')) := hidden (HN.out.mono (by
      rintro e w' (⟨hno, _⟩ | ⟨_, _, h1, h2, h3⟩)
      · exact absurd hok hno
      · exact ⟨h1, h2, h3⟩))
    obtain ⟨a, ha⟩ : ∃ a, u0.heap.size = a := ⟨_, rfl⟩
    rw [ha] at HN1
    have HA := hidden ha
    clear HN ha
    go_wp2_with (first | (go_at_call 5; refine HN1.out.mono ?_; rintro e u1 ⟨rfl, HP1, HU1⟩; refine Hid.out ?_))
    apply hidden
    have HR1 : Hid (Calls Tryz.prog 6 #[.int .i64 k, .int .i64 n] u1 fun e w' => e = .returned (.tuple #[.pointer (some ⟨u1.heap.size, 0, none⟩), .int .i64 0]) ∧ Hid (Dp w' u1.heap.size (fun _ => False) u1.heap.size k n.toNat (.slice none 0 0) []) ∧ Hid (Below u1.heap.size u1 w')) := hidden ((rnew_any k n u1).mono (by
      rintro e w' (⟨hno, _⟩ | ⟨_, _, h1, h2, h3⟩)
      · exact absurd hok hno
      · exact ⟨h1, h2, h3⟩))
    obtain ⟨r, hr⟩ : ∃ r, u1.heap.size = r := ⟨_, rfl⟩
    rw [hr] at HR1
    have HR := hidden hr
    clear HN1 hr
    go_wp2_with (first | (go_at_call 6; refine HR1.out.mono ?_; rintro e u2 ⟨rfl, HD2, HU2⟩; refine Hid.out ?_))
    apply hidden
    obtain ⟨X, hX⟩ : ∃ X, u2.heap.size = X := ⟨_, rfl⟩
    obtain ⟨u3, hu3⟩ : ∃ u3, u2.alloc (.cells #[.pointer (some ⟨a, 0, none⟩), .pointer (some ⟨r, 0, none⟩), .slice none 0 0, .slice none 0 0, .slice none 0 0, .slice none 0 0] 36) = u3 := ⟨_, rfl⟩
    have hb3 : Below u2.heap.size u2 u3 := by rw [← hu3]; exact bl_al (Below.refl _ _) (Nat.le_refl _) _
    have hpx3 : PX u3 X a r (.slice none 0 0) (.slice none 0 0) (.slice none 0 0) (.slice none 0 0) := by
      rw [← hu3, ← hX]
      exact heap_alloc_last u2 _
    have ea := HA.out
    have er := HR.out
    have eB := HB.out
    have s0 := HU0.out.size
    have s1 : u0.heap.size ≤ u1.heap.size := by have := HU1.out.size; omega
    have s2 : u1.heap.size ≤ u2.heap.size := by have := HU2.out.size; omega
    have hU1 : Below u0.heap.size u0 u1 := by rw [ea]; exact HU1.out
    have hU2 : Below u1.heap.size u1 u2 := by rw [er]; exact HU2.out
    have hbw : Below W.heap.size W u3 := bl_go (bl_go (bl_go HU0.out (Nat.le_refl _) hU1) (Nat.le_refl _) hU2) (Nat.le_refl _) hb3
    have HW3 := hidden hbw
    have hz : (n.toNat : Int) = n := by have := pw_le hok.1; omega
    have HST : Hid (PaE u3 B X r k n.toNat 0) := hidden (StE.start (a := a) hpx3 (((HP1.out.on hU2).on hb3).low (by omega)) (HD2.out.row.on hb3) hok.2 (by rw [hz]; exact hok.1) (by omega) (by omega) (by omega))
    obtain ⟨m, hm⟩ : ∃ m, n.toNat = m := ⟨_, rfl⟩
    rw [hm] at HST
    clear hb3 hpx3 ea er eB s0 s1 s2 hU1 hU2 hbw hz hok HP1 HU1 HD2 HU2 HR1 HA HR HU0
    go_wp2_with fail
    clear hu3 hX
    go_loopw [13] (fun y wr => ∃ i : Nat, i ≤ n2 ∧ y = .int .i64 (i : Int) ∧ Hid (PaE wr B X r k m i) ∧ Hid (Below W.heap.size W wr)) (fun y _ => n2 - (RowKit.intOf y).toNat)
    case atStart => exact ⟨0, by omega, rfl, HST, HW3⟩
    case round =>
      obtain ⟨i, hi, rfl, HS, HW⟩ := hrel
      clear HST HW3
      have bi : (i : Int) ≤ 1048576 := by omega
      by_cases hlt : i < n2
      · have hltI : (i : Int) < (n2 : Int) := by omega
        obtain ⟨⟨oq, ox, ⟨key, kd, val, pg, ct⟩⟩, ka, kc, va, vc, b, off, rfl, hk, hv, hwr⟩ := HI.out i hlt
        simp only at hk hv hwr
        obtain ⟨d0, d1, d2, d3, d4, d5, d6⟩ := hwr wr HW.out
        have HPL : Hid (Calls Tryz.prog 7 #[.pointer (some ⟨X, 0, none⟩), .agg #[.int .i64 oq, .int .i64 ox, .slice ka key.length kc, .int .i64 kd, .slice va val.length vc, .int .i64 pg, .int .i64 ct]] wr fun e w' => e = .returned (.bool true) ∧ Hid (PaE w' B X r k m (i + 1)) ∧ Hid (Below W.heap.size W w')) := hidden (by
          have hBW : Below B W wr := by rw [← HB.out]; exact HW.out
          refine (play6_any wr W B X r k m i HS.out hBW (by rw [HB.out]; exact Nat.le_refl _) HT.out (by rw [← HB.out]; exact HH0.out) (by have := HW.out.size; have := HH0.out; omega) (by omega) oq ox ka key.length kc kd va val.length vc pg ct key val hk hv).mono ?_
          rintro e w' ⟨rfl, h1, h2⟩
          exact ⟨rfl, h1, hidden (HW.out.trans (by rw [HB.out]; exact h2.out))⟩)
        clear hk hv hwr
        go_wp2_with (first | (go_at_call 7; refine HPL.out.mono ?_; rintro e v0 ⟨rfl, HV0, HV1⟩; refine Hid.out ?_))
        apply hidden
        clear d0 d1 d2 d3 d4 d5 d6 HPL
        obtain ⟨L, hL, cs, a', K, M, vb, vs, vl, v1, v2, v3, v4, us, ps, g, st⟩ := HV0.out
        have hcl : cs.length ≤ 65536 := g.len
        have hszz : szN cs ≤ 65536 := by have := g.size; have := (pw_nat g.sz).2; omega
        have C1 : Hid (∀ u, Below v0.heap.size v0 u → Calls Tryz.prog 8 #[.pointer (some ⟨a', 0, none⟩)] u fun e w' => e = .returned (.int .i64 (cs.length : Int)) ∧ w' = u) := hidden fun u hu => lenO_any u B a' k m vb vs cs (st.on hu).po
        have C2 : Hid (∀ u, Below v0.heap.size v0 u → Calls Tryz.prog 9 #[.pointer (some ⟨r, 0, none⟩)] u fun e w' => e = .returned (.int .i64 (cs.length : Int)) ∧ w' = u) := hidden fun u hu => rlen_any u B K r k m vl cs (st.on hu).dp
        have C3 : Hid (∀ u, Below v0.heap.size v0 u → Calls Tryz.prog 10 #[.pointer (some ⟨a', 0, none⟩)] u fun e w' => e = .returned (.int .i64 (szN cs : Int)) ∧ Hid (Below v0.heap.size v0 w' ∧ w'.cell? ⟨X, 0, none⟩ = some (.pointer (some ⟨a', 0, none⟩)) ∧ w'.cell? ⟨X, 1, none⟩ = some (.pointer (some ⟨r, 0, none⟩)))) := hidden (by
          intro u hu
          refine (usedO_any u B a' k m vb vs cs (st.on hu).po g).mono ?_
          rintro e w' ⟨rfl, h1⟩
          have h2 := bl_go hu (Nat.le_refl _) h1.out
          exact ⟨rfl, hidden ⟨h2, (st.on h2).px.cells.1, (st.on h2).px.cells.2.1⟩⟩)
        have C4 : Hid (∀ u, Below v0.heap.size v0 u → Calls Tryz.prog 11 #[.pointer (some ⟨r, 0, none⟩)] u fun e w' => e = .returned (.int .i64 (szN cs : Int)) ∧ Hid (Below v0.heap.size v0 w' ∧ w'.cell? ⟨X, 0, none⟩ = some (.pointer (some ⟨a', 0, none⟩)) ∧ w'.cell? ⟨X, 1, none⟩ = some (.pointer (some ⟨r, 0, none⟩)))) := hidden (by
          intro u hu
          refine (rused_any u B K r k m vl cs (st.on hu).dp g.rooms (by omega) hszz).mono ?_
          rintro e w' ⟨rfl, h1⟩
          have h2 := bl_go hu (Nat.le_refl _) h1.out
          exact ⟨rfl, hidden ⟨h2, (st.on h2).px.cells.1, (st.on h2).px.cells.2.1⟩⟩)
        have C5' : Hid (∀ u, Below v0.heap.size v0 u → Calls Tryz.prog 12 #[.pointer (some ⟨a', 0, none⟩)] u fun e w' => e = .returned (.int .i64 k) ∧ w' = u) := hidden fun u hu => kindO_any u B a' k m vb vs cs (st.on hu).po
        obtain ⟨p0, p1, p2, p3, p4, p5⟩ := st.px.cells
        obtain ⟨Ln, hLn⟩ : ∃ Ln, cs.length = Ln := ⟨_, rfl⟩
        obtain ⟨Us, hUs⟩ : ∃ Us, szN cs = Us := ⟨_, rfl⟩
        rw [hLn] at C1 C2
        rw [hUs] at C3 C4
        clear hL g st hcl hszz hLn hUs p2 p3 p4 p5
        go_wp2_with fail
        go_upto_region 15 with fail
        go_cut [100] (fun v u => v = .bool false ∧ Hid (Below v0.heap.size v0 u))
        case first =>
          go_wp2_with fail
          -- region 15 begins
          refine wp_region_held_drew (S := fun u => Below v0.heap.size v0 u ∧ u.cell? ⟨X, 0, none⟩ = some (.pointer (some ⟨a', 0, none⟩)) ∧ u.cell? ⟨X, 1, none⟩ = some (.pointer (some ⟨r, 0, none⟩))) (by kernel_rfl) ⟨(Below.refl _ _).drew, p0, p1⟩ (fun hHeld => ?_)
          refine wpAnyH_take (i := 0) (v := ?_) rfl (by kernel_rfl) (by kernel_rfl) (by kernel_rfl) (fun _ _ _ h => h) (Or.inl ⟨by rfl, ?_⟩) (by assumption) ?_
          rotate_left
          · (intro w hSw; obtain ⟨s0, s1, s2⟩ := hSw; go_simp; try (with_reducible rfl))
          try simp only [Act.put, List.getElem_toArray, List.getElem_cons_zero, List.setIfInBounds_toArray, List.set_cons_zero, List.set_cons_succ]
          refine wpAnyH_take (i := 1) (v := ?_) rfl (by kernel_rfl) (by kernel_rfl) (by kernel_rfl) (fun _ _ _ h => h) (Or.inl ⟨by rfl, ?_⟩) (by assumption) ?_
          rotate_left
          · (intro w hSw; obtain ⟨s0, s1, s2⟩ := hSw; go_simp; try (with_reducible rfl))
          try simp only [Act.put, List.getElem_toArray, List.getElem_cons_succ, List.getElem_cons_zero, List.setIfInBounds_toArray, List.set_cons_zero, List.set_cons_succ]
          refine wpAnyH_take (i := 2) (v := ?_) rfl (by kernel_rfl) (by kernel_rfl) (by kernel_rfl) (fun _ _ _ h => h) (Or.inl ⟨by rfl, ?_⟩) (by assumption) ?_
          rotate_left
          · (intro w hSw; obtain ⟨s0, s1, s2⟩ := hSw; go_simp; try (with_reducible rfl))
          try simp only [Act.put, List.getElem_toArray, List.getElem_cons_succ, List.getElem_cons_zero, List.setIfInBounds_toArray, List.set_cons_zero, List.set_cons_succ]
          refine wpAnyH_take (i := 3) (v := ?_) rfl (by kernel_rfl) (by kernel_rfl) (by kernel_rfl) (fun _ _ _ h => h) (Or.inl ⟨by rfl, ?_⟩) (by assumption) ?_
          rotate_left
          · (intro w hSw; obtain ⟨s0, s1, s2⟩ := hSw; go_simp; try (with_reducible rfl))
          try simp only [Act.put, List.getElem_toArray, List.getElem_cons_succ, List.getElem_cons_zero, List.setIfInBounds_toArray, List.set_cons_zero, List.set_cons_succ]
          refine wpAnyH_take (i := 4) (v := ?_) rfl (by kernel_rfl) (by kernel_rfl) (by kernel_rfl) (fun _ _ _ h => h) (Or.inl ⟨by rfl, ?_⟩) (by assumption) ?_
          rotate_left
          · (intro w hSw; obtain ⟨s0, s1, s2⟩ := hSw; go_simp; try (with_reducible rfl))
          try simp only [Act.put, List.getElem_toArray, List.getElem_cons_succ, List.getElem_cons_zero, List.setIfInBounds_toArray, List.set_cons_zero, List.set_cons_succ]
          refine wpAnyH_take (i := 5) (v := ?_) rfl (by kernel_rfl) (by kernel_rfl) (by kernel_rfl) (fun _ _ _ h => h) (Or.inl ⟨by rfl, ?_⟩) (by assumption) ?_
          rotate_left
          · (intro w hSw; obtain ⟨s0, s1, s2⟩ := hSw; go_simp; try (with_reducible rfl))
          try simp only [Act.put, List.getElem_toArray, List.getElem_cons_succ, List.getElem_cons_zero, List.setIfInBounds_toArray, List.set_cons_zero, List.set_cons_succ]
          refine wpAnyH_take (i := 6) (v := ?_) rfl (by kernel_rfl) (by kernel_rfl) (by kernel_rfl) (fun _ _ _ h => h) (Or.inl ⟨by rfl, ?_⟩) (by assumption) ?_
          rotate_left
          · (intro w hSw; obtain ⟨s0, s1, s2⟩ := hSw; go_simp; try (with_reducible rfl))
          try simp only [Act.put, List.getElem_toArray, List.getElem_cons_succ, List.getElem_cons_zero, List.setIfInBounds_toArray, List.set_cons_zero, List.set_cons_succ]
          refine wpAnyH_take (i := 8) (v := ?_) rfl (by kernel_rfl) (by kernel_rfl) (by kernel_rfl) (fun _ _ _ h => h) (Or.inl ⟨by rfl, ?_⟩) (by assumption) ?_
          rotate_left
          · (intro w hSw; obtain ⟨s0, s1, s2⟩ := hSw; go_simp; try (with_reducible rfl))
          try simp only [Act.put, List.getElem_toArray, List.getElem_cons_succ, List.getElem_cons_zero, List.setIfInBounds_toArray, List.set_cons_zero, List.set_cons_succ]
          refine wpAnyH_take (i := 9) (v := ?_) rfl (by kernel_rfl) (by kernel_rfl) (by kernel_rfl) (fun _ _ _ h => h) (Or.inl ⟨by rfl, ?_⟩) (by assumption) ?_
          rotate_left
          · (intro w hSw; obtain ⟨s0, s1, s2⟩ := hSw; go_simp; try (with_reducible rfl))
          try simp only [Act.put, List.getElem_toArray, List.getElem_cons_succ, List.getElem_cons_zero, List.setIfInBounds_toArray, List.set_cons_zero, List.set_cons_succ]
          refine wpAnyH_take (i := 10) (v := ?_) rfl (by kernel_rfl) (by kernel_rfl) (by kernel_rfl) (fun _ _ _ h => h) (Or.inl ⟨by rfl, ?_⟩) (by assumption) ?_
          rotate_left
          · (intro w hSw; obtain ⟨s0, s1, s2⟩ := hSw; go_simp; try (with_reducible rfl))
          try simp only [Act.put, List.getElem_toArray, List.getElem_cons_succ, List.getElem_cons_zero, List.setIfInBounds_toArray, List.set_cons_zero, List.set_cons_succ]
          refine wpAnyH_take (i := 11) (v := ?_) rfl (by kernel_rfl) (by kernel_rfl) (by kernel_rfl) (fun _ _ _ h => h) (Or.inl ⟨by rfl, ?_⟩) (by assumption) ?_
          rotate_left
          · (intro w hSw; obtain ⟨s0, s1, s2⟩ := hSw; go_simp; try (with_reducible rfl))
          try simp only [Act.put, List.getElem_toArray, List.getElem_cons_succ, List.getElem_cons_zero, List.setIfInBounds_toArray, List.set_cons_zero, List.set_cons_succ]
          refine wpAnyH_ready (rs := [7]) (by kernel_rfl) (by simp) ?_
          refine AllReadyH.cons rfl (fun K hK => ?_) AllReadyH.nil
          go_simp
          go_at_call 8
          refine same_call (C1.out _ hHeld.1) ?_
          dsimp only
          refine hK.out _ _ hHeld (fun hHeld => ?_)
          clear hK K
          try simp only [Act.put, List.getElem_toArray, List.getElem_cons_succ, List.getElem_cons_zero, List.setIfInBounds_toArray, List.set_cons_zero, List.set_cons_succ]
          refine wpAnyH_ready (rs := [12]) (by kernel_rfl) (by simp) ?_
          refine AllReadyH.cons rfl (fun K hK => ?_) AllReadyH.nil
          go_simp
          go_at_call 9
          refine same_call (C2.out _ hHeld.1) ?_
          dsimp only
          refine hK.out _ _ hHeld (fun hHeld => ?_)
          clear hK K
          try simp only [Act.put, List.getElem_toArray, List.getElem_cons_succ, List.getElem_cons_zero, List.setIfInBounds_toArray, List.set_cons_zero, List.set_cons_succ]
          refine wpAnyH_take (i := 13) (v := ?_) rfl (by kernel_rfl) (by kernel_rfl) (by kernel_rfl) (fun _ _ _ h => h) (Or.inl ⟨by rfl, ?_⟩) (by assumption) ?_
          rotate_left
          · (intro w hSw; obtain ⟨s0, s1, s2⟩ := hSw; go_simp; try (with_reducible rfl))
          try simp only [Act.put, List.getElem_toArray, List.getElem_cons_succ, List.getElem_cons_zero, List.setIfInBounds_toArray, List.set_cons_zero, List.set_cons_succ]
          refine wpAnyH_take (i := 14) (v := ?_) rfl (by kernel_rfl) (by kernel_rfl) (by kernel_rfl) (fun _ _ _ h => h) (Or.inl ⟨by rfl, ?_⟩) (by assumption) ?_
          rotate_left
          · (intro w hSw; obtain ⟨s0, s1, s2⟩ := hSw; go_simp; try (with_reducible rfl))
          try simp only [Act.put, List.getElem_toArray, List.getElem_cons_succ, List.getElem_cons_zero, List.setIfInBounds_toArray, List.set_cons_zero, List.set_cons_succ]
          refine wpAnyH_take (i := 15) (v := ?_) rfl (by kernel_rfl) (by kernel_rfl) (by kernel_rfl) (fun _ _ _ h => h) (Or.inl ⟨by rfl, ?_⟩) (by assumption) ?_
          rotate_left
          · (intro w hSw; obtain ⟨s0, s1, s2⟩ := hSw; go_simp; try (with_reducible rfl))
          try simp only [Act.put, List.getElem_toArray, List.getElem_cons_succ, List.getElem_cons_zero, List.setIfInBounds_toArray, List.set_cons_zero, List.set_cons_succ]
          refine wpAnyH_take (i := 16) (v := ?_) rfl (by kernel_rfl) (by kernel_rfl) (by kernel_rfl) (fun _ _ _ h => h) (Or.inl ⟨by rfl, ?_⟩) (by assumption) ?_
          rotate_left
          · (intro w hSw; obtain ⟨s0, s1, s2⟩ := hSw; go_simp; try (with_reducible rfl))
          try simp only [Act.put, List.getElem_toArray, List.getElem_cons_succ, List.getElem_cons_zero, List.setIfInBounds_toArray, List.set_cons_zero, List.set_cons_succ]
          refine wpAnyH_take (i := 17) (v := ?_) rfl (by kernel_rfl) (by kernel_rfl) (by kernel_rfl) (fun _ _ _ h => h) (Or.inl ⟨by rfl, ?_⟩) (by assumption) ?_
          rotate_left
          · (intro w hSw; obtain ⟨s0, s1, s2⟩ := hSw; go_simp; try (with_reducible rfl))
          try simp only [Act.put, List.getElem_toArray, List.getElem_cons_succ, List.getElem_cons_zero, List.setIfInBounds_toArray, List.set_cons_zero, List.set_cons_succ]
          refine wpAnyH_take (i := 18) (v := ?_) rfl (by kernel_rfl) (by kernel_rfl) (by kernel_rfl) (fun _ _ _ h => h) (Or.inl ⟨by rfl, ?_⟩) (by assumption) ?_
          rotate_left
          · (intro w hSw; obtain ⟨s0, s1, s2⟩ := hSw; go_simp; try (with_reducible rfl))
          try simp only [Act.put, List.getElem_toArray, List.getElem_cons_succ, List.getElem_cons_zero, List.setIfInBounds_toArray, List.set_cons_zero, List.set_cons_succ]
          refine wpAnyH_take (i := 19) (v := ?_) rfl (by kernel_rfl) (by kernel_rfl) (by kernel_rfl) (fun _ _ _ h => h) (Or.inl ⟨by rfl, ?_⟩) (by assumption) ?_
          rotate_left
          · (intro w hSw; obtain ⟨s0, s1, s2⟩ := hSw; go_simp; try (with_reducible rfl))
          try simp only [Act.put, List.getElem_toArray, List.getElem_cons_succ, List.getElem_cons_zero, List.setIfInBounds_toArray, List.set_cons_zero, List.set_cons_succ]
          refine wpAnyH_take (i := 21) (v := ?_) rfl (by kernel_rfl) (by kernel_rfl) (by kernel_rfl) (fun _ _ _ h => h) (Or.inl ⟨by rfl, ?_⟩) (by assumption) ?_
          rotate_left
          · (intro w hSw; obtain ⟨s0, s1, s2⟩ := hSw; go_simp; try (with_reducible rfl))
          try simp only [Act.put, List.getElem_toArray, List.getElem_cons_succ, List.getElem_cons_zero, List.setIfInBounds_toArray, List.set_cons_zero, List.set_cons_succ]
          refine wpAnyH_take (i := 22) (v := ?_) rfl (by kernel_rfl) (by kernel_rfl) (by kernel_rfl) (fun _ _ _ h => h) (Or.inl ⟨by rfl, ?_⟩) (by assumption) ?_
          rotate_left
          · (intro w hSw; obtain ⟨s0, s1, s2⟩ := hSw; go_simp; try (with_reducible rfl))
          try simp only [Act.put, List.getElem_toArray, List.getElem_cons_succ, List.getElem_cons_zero, List.setIfInBounds_toArray, List.set_cons_zero, List.set_cons_succ]
          refine wpAnyH_take (i := 23) (v := ?_) rfl (by kernel_rfl) (by kernel_rfl) (by kernel_rfl) (fun _ _ _ h => h) (Or.inl ⟨by rfl, ?_⟩) (by assumption) ?_
          rotate_left
          · (intro w hSw; obtain ⟨s0, s1, s2⟩ := hSw; go_simp; try (with_reducible rfl))
          try simp only [Act.put, List.getElem_toArray, List.getElem_cons_succ, List.getElem_cons_zero, List.setIfInBounds_toArray, List.set_cons_zero, List.set_cons_succ]
          refine wpAnyH_take (i := 24) (v := ?_) rfl (by kernel_rfl) (by kernel_rfl) (by kernel_rfl) (fun _ _ _ h => h) (Or.inl ⟨by rfl, ?_⟩) (by assumption) ?_
          rotate_left
          · (intro w hSw; obtain ⟨s0, s1, s2⟩ := hSw; go_simp; try (with_reducible rfl))
          try simp only [Act.put, List.getElem_toArray, List.getElem_cons_succ, List.getElem_cons_zero, List.setIfInBounds_toArray, List.set_cons_zero, List.set_cons_succ]
          refine wpAnyH_ready (rs := [20]) (by kernel_rfl) (by simp) ?_
          refine AllReadyH.cons rfl (fun K hK => ?_) AllReadyH.nil
          go_simp
          go_at_call 10
          refine (C3.out _ hHeld.1).mono ?_
          rintro e x20 ⟨rfl, Hx20⟩
          dsimp only
          refine hK.out _ _ Hx20.out (fun hHeld => ?_)
          clear hK K
          try simp only [Act.put, List.getElem_toArray, List.getElem_cons_succ, List.getElem_cons_zero, List.setIfInBounds_toArray, List.set_cons_zero, List.set_cons_succ]
          refine wpAnyH_ready (rs := [25]) (by kernel_rfl) (by simp) ?_
          refine AllReadyH.cons rfl (fun K hK => ?_) AllReadyH.nil
          go_simp
          go_at_call 11
          refine (C4.out _ hHeld.1).mono ?_
          rintro e x25 ⟨rfl, Hx25⟩
          dsimp only
          refine hK.out _ _ Hx25.out (fun hHeld => ?_)
          clear hK K
          try simp only [Act.put, List.getElem_toArray, List.getElem_cons_succ, List.getElem_cons_zero, List.setIfInBounds_toArray, List.set_cons_zero, List.set_cons_succ]
          refine wpAnyH_take (i := 26) (v := ?_) rfl (by kernel_rfl) (by kernel_rfl) (by kernel_rfl) (fun _ _ _ h => h) (Or.inl ⟨by rfl, ?_⟩) (by assumption) ?_
          rotate_left
          · (intro w hSw; obtain ⟨s0, s1, s2⟩ := hSw; go_simp; try (with_reducible rfl))
          try simp only [Act.put, List.getElem_toArray, List.getElem_cons_succ, List.getElem_cons_zero, List.setIfInBounds_toArray, List.set_cons_zero, List.set_cons_succ]
          refine wpAnyH_take (i := 27) (v := ?_) rfl (by kernel_rfl) (by kernel_rfl) (by kernel_rfl) (fun _ _ _ h => h) (Or.inl ⟨by rfl, ?_⟩) (by assumption) ?_
          rotate_left
          · (intro w hSw; obtain ⟨s0, s1, s2⟩ := hSw; go_simp; try (with_reducible rfl))
          try simp only [Act.put, List.getElem_toArray, List.getElem_cons_succ, List.getElem_cons_zero, List.setIfInBounds_toArray, List.set_cons_zero, List.set_cons_succ]
          refine wpAnyH_take (i := 28) (v := ?_) rfl (by kernel_rfl) (by kernel_rfl) (by kernel_rfl) (fun _ _ _ h => h) (Or.inl ⟨by rfl, ?_⟩) (by assumption) ?_
          rotate_left
          · (intro w hSw; obtain ⟨s0, s1, s2⟩ := hSw; go_simp; try (with_reducible rfl))
          try simp only [Act.put, List.getElem_toArray, List.getElem_cons_succ, List.getElem_cons_zero, List.setIfInBounds_toArray, List.set_cons_zero, List.set_cons_succ]
          refine wpAnyH_take (i := 29) (v := ?_) rfl (by kernel_rfl) (by kernel_rfl) (by kernel_rfl) (fun _ _ _ h => h) (Or.inl ⟨by rfl, ?_⟩) (by assumption) ?_
          rotate_left
          · (intro w hSw; obtain ⟨s0, s1, s2⟩ := hSw; go_simp; try (with_reducible rfl))
          try simp only [Act.put, List.getElem_toArray, List.getElem_cons_succ, List.getElem_cons_zero, List.setIfInBounds_toArray, List.set_cons_zero, List.set_cons_succ]
          refine wpAnyH_take (i := 30) (v := ?_) rfl (by kernel_rfl) (by kernel_rfl) (by kernel_rfl) (fun _ _ _ h => h) (Or.inl ⟨by rfl, ?_⟩) (by assumption) ?_
          rotate_left
          · (intro w hSw; obtain ⟨s0, s1, s2⟩ := hSw; go_simp; try (with_reducible rfl))
          try simp only [Act.put, List.getElem_toArray, List.getElem_cons_succ, List.getElem_cons_zero, List.setIfInBounds_toArray, List.set_cons_zero, List.set_cons_succ]
          refine wpAnyH_take (i := 31) (v := ?_) rfl (by kernel_rfl) (by kernel_rfl) (by kernel_rfl) (fun _ _ _ h => h) (Or.inl ⟨by rfl, ?_⟩) (by assumption) ?_
          rotate_left
          · (intro w hSw; obtain ⟨s0, s1, s2⟩ := hSw; go_simp; try (with_reducible rfl))
          try simp only [Act.put, List.getElem_toArray, List.getElem_cons_succ, List.getElem_cons_zero, List.setIfInBounds_toArray, List.set_cons_zero, List.set_cons_succ]
          refine wpAnyH_take (i := 32) (v := ?_) rfl (by kernel_rfl) (by kernel_rfl) (by kernel_rfl) (fun _ _ _ h => h) (Or.inl ⟨by rfl, ?_⟩) (by assumption) ?_
          rotate_left
          · (intro w hSw; obtain ⟨s0, s1, s2⟩ := hSw; go_simp; try (with_reducible rfl))
          try simp only [Act.put, List.getElem_toArray, List.getElem_cons_succ, List.getElem_cons_zero, List.setIfInBounds_toArray, List.set_cons_zero, List.set_cons_succ]
          refine wpAnyH_take (i := 34) (v := ?_) rfl (by kernel_rfl) (by kernel_rfl) (by kernel_rfl) (fun _ _ _ h => h) (Or.inl ⟨by rfl, ?_⟩) (by assumption) ?_
          rotate_left
          · (intro w hSw; obtain ⟨s0, s1, s2⟩ := hSw; go_simp; try (with_reducible rfl))
          try simp only [Act.put, List.getElem_toArray, List.getElem_cons_succ, List.getElem_cons_zero, List.setIfInBounds_toArray, List.set_cons_zero, List.set_cons_succ]
          refine wpAnyH_ready (rs := [33]) (by kernel_rfl) (by simp) ?_
          refine AllReadyH.cons rfl (fun K hK => ?_) AllReadyH.nil
          go_simp
          go_at_call 12
          refine same_call (C5'.out _ hHeld.1) ?_
          dsimp only
          refine hK.out _ _ hHeld (fun hHeld => ?_)
          clear hK K
          try simp only [Act.put, List.getElem_toArray, List.getElem_cons_succ, List.getElem_cons_zero, List.setIfInBounds_toArray, List.set_cons_zero, List.set_cons_succ]
          refine wpAnyH_take (i := 35) (v := ?_) rfl (by kernel_rfl) (by kernel_rfl) (by kernel_rfl) (fun _ _ _ h => h) (Or.inl ⟨by rfl, ?_⟩) (by assumption) ?_
          rotate_left
          · (intro w hSw; obtain ⟨s0, s1, s2⟩ := hSw; go_simp; try (with_reducible rfl))
          try simp only [Act.put, List.getElem_toArray, List.getElem_cons_succ, List.getElem_cons_zero, List.setIfInBounds_toArray, List.set_cons_zero, List.set_cons_succ]
          refine wpAnyH_take (i := 36) (v := ?_) rfl (by kernel_rfl) (by kernel_rfl) (by kernel_rfl) (fun _ _ _ h => h) (Or.inl ⟨by rfl, ?_⟩) (by assumption) ?_
          rotate_left
          · (intro w hSw; obtain ⟨s0, s1, s2⟩ := hSw; go_simp; try (with_reducible rfl))
          try simp only [Act.put, List.getElem_toArray, List.getElem_cons_succ, List.getElem_cons_zero, List.setIfInBounds_toArray, List.set_cons_zero, List.set_cons_succ]
          refine wpAnyH_done (by kernel_rfl) ?_ _
          (try go_wp2_with fail)
          go_meet
          exact ⟨rfl, hidden hHeld.1⟩
          -- region 15 ends
        obtain ⟨rfl, HU⟩ := hcut
        obtain ⟨uu, huu⟩ : ∃ uu, uu = wc := ⟨_, rfl⟩
        subst huu
        have HSN : Hid (PaE uu B X r k m (i + 1)) := hidden (HV0.out.on HU.out)
        have HWN : Hid (Below W.heap.size W uu) := hidden (bl_go HV1.out (Nat.le_refl _) HU.out)
        clear p0 p1 C1 C2 C3 C4 C5' HU HV0 HV1
        go_wp2_with fail
        go_roundw
        case rel => exact ⟨i + 1, by omega, by go_num, HSN, HWN⟩
        case measure => simp [RowKit.intOf]; omega
      · obtain rfl : i = n2 := by omega
        have hge : ¬ (i : Int) < (i : Int) := by omega
        obtain ⟨L, hL, hst⟩ := HS.out
        have hB1 : 1 < B := by rw [← HB.out]; exact HH0.out
        have htw : Tab wr := HT.out.on HW.out HH0.out
        have hw0 : 1 < wr.heap.size := by have := HW.out.size; have := HH0.out; omega
        have HBY : Hid (Calls Tryz.prog 13 #[.pointer (some ⟨X, 0, none⟩)] wr fun e w' => e = .returned (.bool true) ∧ Hid (PaE w' B X r k m (i + 1)) ∧ Hid (Below W.heap.size W w')) := hidden ((bytes6_go wr B X r k m L hst htw hw0 (by have := hL.2.2.2; omega) (by rw [hL.2.1]; have := hL.2.2.2; omega)).mono (by
          rintro e w' ⟨rfl, h1, h2⟩
          obtain ⟨l, h1⟩ := h1.out
          exact ⟨rfl, hidden ⟨_, hL.pic l, h1⟩, hidden (HW.out.trans (by rw [HB.out]; exact h2.out))⟩))
        clear hL hst htw hw0
        go_wp2_with (first | (go_at_call 13; refine HBY.out.mono ?_; rintro e z1 ⟨rfl, HZ1, HZ2⟩; refine Hid.out ?_))
        apply hidden
        have HOW : Hid (Calls Tryz.prog 14 #[.pointer (some ⟨X, 0, none⟩)] z1 fun e w' => e = .returned (.bool true) ∧ Hid (Below W.heap.size W w')) := hidden ((owned6_go z1 B X r k m (i + 1) HZ1.out (HT.out.on HZ2.out HH0.out) (by have := HZ2.out.size; have := HH0.out; omega) hB1 (by omega)).mono (by
          rintro e w' ⟨rfl, h2⟩
          exact ⟨rfl, hidden (HZ2.out.trans (by rw [HB.out]; exact h2.out))⟩))
        clear hB1 HBY
        go_wp2_with (first | (go_at_call 14; refine HOW.out.mono ?_; rintro e z2 ⟨rfl, HZ3⟩))
        go_ret
        exact ⟨rfl, HZ3.out⟩
  · have HN1 : Hid (Calls Tryz.prog 5 #[.int .i64 k, .int .i64 n] u0 fun e w' => e = .returned (.tuple #[.pointer none, .int .i64 1]) ∧ Hid (Below u0.heap.size u0 w')) := hidden (HN.out.mono (by
      rintro e w' (⟨_, h1, h2⟩ | ⟨h1, h2, _⟩)
      · exact ⟨h1, h2⟩
      · exact absurd ⟨h1, h2⟩ hok))
    clear HN
    go_wp2_with (first | (go_at_call 5; refine HN1.out.mono ?_; rintro e u1 ⟨rfl, HU1⟩; refine Hid.out ?_))
    apply hidden
    have HR1 : Hid (Calls Tryz.prog 6 #[.int .i64 k, .int .i64 n] u1 fun e w' => e = .returned (.tuple #[.pointer none, .int .i64 1]) ∧ w' = u1) := hidden ((rnew_any k n u1).mono (by
      rintro e w' (⟨_, h1, h2⟩ | ⟨h1, h2, _⟩)
      · exact ⟨h1, h2⟩
      · exact absurd ⟨h1, h2⟩ hok))
    clear HN1 hok
    go_wp2_with (first | (go_at_call 6; refine same_call HR1.out ?_))
    go_ret
    exact ⟨rfl, bl_go HU0.out (Nat.le_refl _) HU1.out⟩
end Go.Proofs.YtphjnahmbdinmaaGreatDoor
