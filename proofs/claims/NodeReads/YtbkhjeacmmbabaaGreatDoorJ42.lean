import Derived.Test.YtbkhjeacmmbabaaGreatDoorJ40
namespace Go.Proofs.YtbkhjeacmmbabaaGreatDoor
set_option maxRecDepth 100000
open Go.RowKit
set_option maxHeartbeats 8000000 in
theorem rread_whole (g off n cap : Nat) (l : List Int) (at_ : Nat) (k : Int) (i : Nat) (po : Option Addr) (pn pc : Nat) (P : List Int) (w : World) (hs : Sl w (some ⟨g, off, none⟩) n cap l) (hn : n ≤ 65536) (hP : Sl w po pn pc P) (_hpn : pn ≤ 65536) (_hi : i ≤ 65536) (ha : at_ < n) (he : (rUx l ((at_ + 1 : Nat) : Int)).2.2 = 0) (v t : Nat) (C7 : rUx l ((at_ + 1 : Nat) : Int) = ((v : Int), (t : Int), 0)) (C8 : t + v ≤ n) (C9 : k = 3 ∧ i = 0) :
  Calls Tryz.prog 58 #[.slice (some ⟨g, off, none⟩) n cap, .int .i64 (at_ : Int), .int .i64 k, .int .i64 (i : Int), .slice po pn pc] w (RdTo l at_ k i P w) := by
 have HS := zaa hs
 have HP := zaa hP
 have C4 := hs.hlen
 have G8 := hs.hcap
 have I6 : (n : Int) ≤ 65536 := zq
 obtain ⟨kk, C⟩ : ∃ kk, w.heap.size = kk := ⟨_, rfl⟩
 have B0 : g < kk := by
  rcases hs.hat with h0 | ⟨b, o, e, hb, _⟩
  ·omega
  ·cases e; omega
 have I7 := zaa B0
 have D0 : at_ < l.length := zq
 obtain ⟨x, hx⟩ : ∃ x, l.getD at_ 0 = x := ⟨_, rfl⟩
 have D3 := hs.wf.getD at_
 rw [hx] at D3
 obtain ⟨I8, I9⟩ := D3
 have b0 : (w.alloc (.cells #[.slice none 0 0, .int .i64 0, .slice none 0 0, .int .i64 0, .int .i64 0] 50)).cell? ⟨g, off + at_, none⟩ = some (.int .u8 x) := by
  rcases hs.hat with h0 | ⟨b, o, e, hb, hc⟩
  ·omega
  ·cases e
   rw [← hx]
   exact ((zab (Below.refl w.heap.size w) Lr _).cell (p := ⟨g, off + at_, none⟩) hb).trans (hc at_ zq)
 have TB := two_box7 w (.slice none 0 0) (.int .i64 x) (.slice none 0 0) (.int .i64 0) (.int .i64 0)
 rw [C] at TB
 obtain ⟨y2, D4⟩ : ∃ y2, (w.alloc (.cells #[.slice none 0 0, .int .i64 0, .slice none 0 0, .int .i64 0, .int .i64 0] 50)).alloc (.cells #[.slice none 0 0, .int .i64 x, .slice none 0 0, .int .i64 0, .int .i64 0] 50) = y2 := ⟨_, rfl⟩
 rw [D4] at TB
 have D5 : Hid (Md7 w y2 kk (.slice none 0 0) x []) := zaa ⟨TB.1, TB.2.1, OwnB.nil _ _, TB.2.2, by have := zaf TB.1; omega⟩
 have J0 : ¬ (n : Int) ≤ (at_ : Int) := zq
 have J1 : (at_ : Int) < (n : Int) := zq
 have h0 : ¬ (at_ : Int) < 0 := zq
 have H0 : Hid (∀ u, Below kk w u → Sl u (some ⟨g, off, none⟩) n cap l) := zaa fun u hu => HS.out.on (by rw [C]; exact Lr) hu
 have J2 : Hid (∀ u, Below kk w u → Sl u po pn pc P) := zaa fun u hu => HP.out.on (by rw [C]; exact Lr) hu
 have B1 : Hid (∀ (p : Int) u, Below kk w u → Calls Tryz.prog 100 #[.slice (some ⟨g, off, none⟩) n cap, .int .i64 p] u fun e w' => e = .returned (.tuple #[.int .u64 (rUx l p).1, .int .i64 (rUx l p).2.1, .int .i64 (rUx l p).2.2]) ∧ w' = u) := zaa fun p u hu => zdp _ n cap l p u (H0.out u hu)
 have D7 : Hid (Below kk w y2) := zaa TB.2.2
 clear TB
 obtain ⟨v1, t1, A3, D8, D9, G9, E0⟩ := ru_ok hs.wf zq he
 have H1 := zaa ((B1.out ((at_ + 1 : Nat) : Int) y2 D7.out).mono fun e w' h => (And.intro h.1 (zaa h.2) : _ ∧ Hid (w' = y2)))
 rw [A3] at H1
 simp only at H1
 obtain ⟨s1, E1⟩ : ∃ s1, at_ + 1 = s1 := ⟨_, rfl⟩
 have J3 : (at_ : Int) + 1 = (s1 : Int) := zq
 rw [E1] at H1
 have t1b : (t1 : Int) ≤ 65536 := zq
 obtain ⟨rfl, rfl⟩ : v1 = v ∧ t1 = t := by
  rw [C7] at A3
  injection A3 with q1 q2
  injection q2 with q2 _
  omega
 have U : Hid (pre7 k i P = []) := zaa (by unfold pre7; rw [if_pos C9])
 obtain ⟨po1, pc1, E2, E3, E4⟩ := part_yes g off n cap t1 v1 l w hs hn C8
 have E5 := zaa E2
 have E7 : Hid (∀ u, Below kk w u → Sl u po1 v1 pc1 ((l.drop t1).take v1)) := zaa (by rw [← C]; exact E3)
 have J4 : Hid (∀ p, po1 = some p → p.block < kk) := zaa fun p hp => by rw [E4 p hp]; exact B0
 obtain ⟨t2, E8⟩ : ∃ t2, t1 + v1 = t2 := ⟨_, rfl⟩
 have I3 : (t1 : Int) + (v1 : Int) = (t2 : Int) := zq
 have t2b : (t2 : Int) ≤ 65536 := zq
 have v1b : (v1 : Int) ≤ 65536 := zq
 have J5 := zaa hP.hlen
 have HL := zaa C4
 have N := zaa D0
 have HX := zaa hx
 have O := zaa D8
 have E9 := zaa D9
 have E := zaa E8
 have V : Hid (t2 ≤ n) := zaa zq
 have A4 := zaa E0
 have A5 := zaa hs.wf
 have J6 : (i : Int) ≤ 65536 := zq
 have Z : ((l.drop t1).take v1).length = v1 := by rw [zJ, zK]; omega
 obtain ⟨R1, B2⟩ : ∃ R1, (l.drop t1).take v1 = R1 := ⟨_, rfl⟩
 rw [B2] at E7 Z
 have F0 := zaa B2
 have J7 := zaa Z
 have F1 : Hid (∀ u, Md7 w u kk (.slice none 0 0) x [] → Calls Tryz.prog 101 #[.slice none 0 0, .slice po1 v1 pc1] u fun e w' => ∃ v', e = .returned v' ∧ Hid (OwnB w' kk v' ([] ++ R1)) ∧ Hid (Gr u (.slice none 0 0) w' v')) := zaa fun u hu => zbz (.slice none 0 0) kk [] R1 po1 v1 pc1 u (OwnB.nil _ _) (E7.out u hu.2.2.2.1) (.inr fun p _ => by simp [Value.ownBlock]) zso hu.2.2.2.2
 obtain ⟨rfl, rfl⟩ := C9
 clear hs hP C4 G8 hx A3 C7 B0 D0 E1 D8 D9 he C8 E2 E3 E4 E8 B2 Z G9 E0
 subst D4
 all_goals
  go_enter Tryz.func58, Tryz.ntmps58
  go_wp2_with (go_at_call 100; refine H1.out.mono ?_; rintro e w1 ⟨rfl, F2⟩; refine Hid.out ?_)
  apply zaa
  have Q : Hid (Md7 w w1 kk (.slice none 0 0) x []) := zaa (by rw [F2.out]; exact D5.out)
  have H2 := zaa (E5.out w1)
  have F3 := zaa (F1.out w1 Q.out)
  obtain ⟨g0, g1, g2, g3, g4⟩ := Q.out.2.1.cells
  clear D5 F2 H1 b0 D7 E5 F1
  go_wp2_with (first
   | (go_at_call 57; refine zad H2.out ?_)
   | (go_at_call 101; refine F3.out.mono ?_; rintro e u3 ⟨v3, rfl, A6, A7⟩; refine Hid.out ?_))
  apply zaa
  clear g0 g1 g2 g3 g4 H2
  obtain ⟨KN, B3⟩ : ∃ KN, ([] ++ R1).length = KN := ⟨_, rfl⟩
  obtain ⟨a1, c1', rfl⟩ := zdm A6.out
  rw [B3] at A6 A7 ⊢
  have F4 := zaa B3
  have A := zaa (Q.out.key A6.out A7.out)
  have B4 := Q.out.2.1.gr7 A7.out (Q.out.2.2.1.apart5 Q.out.2.1)
  obtain ⟨d0, d1, d2, d3, d4⟩ := B4.cells
  obtain ⟨f0, f1, f2, f3, f4⟩ := B4.free
  obtain ⟨u4, F5⟩ : ∃ u4, u3.setCell ⟨kk + 1, 0, none⟩ (.slice a1 KN c1') = u4 := ⟨_, rfl⟩
  rw [F5] at A
  have H3 := zaa (B1.out (t2 : Int) u4 A.out.2.2.2.1)
  have F6 := A.out.2.2.2.1
  have H6 := zaa F6
  obtain ⟨e0, e1, e2, e3, e4⟩ := A.out.2.1.cells
  obtain ⟨k0, k1, k2, k3, k4⟩ := A.out.2.1.free
  obtain ⟨c0, c1, c2, c3, c4⟩ := A.out.1.cells
  obtain ⟨j0, j1, j2, j3, j4⟩ := A.out.1.free
  clear B4 F6 F3 B3 A6 A7
  by_cases J : (rUx l (t2 : Int)).2.2 = 0
  ·obtain ⟨m, s3, F7, F8, F9, D, hm⟩ := ru_ok A5.out (by rw [HL.out]; exact V.out) J
   rw [F7] at H3
   simp only at H3
   have s3b : (s3 : Int) ≤ 65536 := by have := HL.out; omega
   have W := zaa F8
   have G0 := zaa F9
   have J8 := zaa hm
   have I4 := zaa D
   clear J F7 F8 F9
   by_cases B : x = 1
   ·by_cases A8 : s3 + m ≤ n
    ·obtain ⟨po2, pc2, G1, B5, H7⟩ := part_yes g off n cap s3 m l w HS.out hn A8
     have H4 := zaa (G1 u4)
     have A0 : ((l.drop s3).take m).length = m := by rw [zJ, zK, HL.out]; omega
     obtain ⟨R2, B6⟩ : ∃ R2, (l.drop s3).take m = R2 := ⟨_, rfl⟩
     rw [B6] at B5 A0
     have G2 := zaa (zbz (.slice none 0 0) kk [] R2 po2 m pc2 u4 (OwnB.nil _ _) (B5 u4 (by rw [C]; exact H6.out)) (.inr fun p _ => by simp [Value.ownBlock]) zso A.out.2.2.2.2)
     rw [List.nil_append] at G2
     have R := zaa (is_val A5.out (by rw [HL.out]; exact hn) N.out O.out (by have := E9.out; omega) (by rw [HL.out, E.out]; exact V.out) (by rw [HX.out]; exact B) (by rw [E.out]; exact W.out) (by rw [E.out]; exact G0.out) (by rw [HL.out]; exact A8))
     rw [F0.out, B6] at R
     have C6 := zaa A0
     obtain ⟨t4, G3⟩ : ∃ t4, s3 + m = t4 := ⟨_, rfl⟩
     have I5 : (s3 : Int) + (m : Int) = (t4 : Int) := zq
     have mb : (m : Int) ≤ 65536 := zq
     have t4b : (t4 : Int) ≤ 65536 := zq
     rw [G3] at R
     clear G1 B5 H7 B6 A0 A8 G3 hm D
     subst B
     go_wp2_with (first
      | (go_at_call 100; refine zad H3.out ?_)
      | (go_at_call 57; refine zad H4.out ?_)
      | (go_at_call 101; refine G2.out.mono ?_; rintro e u5 ⟨v5, rfl, B7, X⟩; refine Hid.out ?_))
     apply zaa
     obtain ⟨a5, c5', rfl⟩ := zdm B7.out
     rw [C6.out] at B7 X ⊢
     have q51 := A.out.2.1.gr7 X.out zsv
     have q50 := A.out.1.gr7 X.out zsv
     have G4 : OwnB u5 kk (.slice a1 KN c1') ([] ++ R1) := World.ownsRow.kept A.out.2.2.1 X.out.grow (by
      cases hz : (Value.slice a1 KN c1').ownBlock with
      | none => exact .inl rfl
      | some z => exact .inr zsv)
     have B8 : Below kk u4 u5 := X.out.below (OwnB.nil u4 kk) A.out.2.2.2.2
     have H8 := B8.size
     have B9 := A.out.2.2.2.2
     have F := Cf.set u5 (kk + 1) 2 (.slice a5 m c5')
     have q61 := (q51.set (.slice a5 m c5')).2.2.1
     have q60 := q50.cf F zq
     have H := G4.c5 F q51
     have C0 := B7.out.c5 F q51
     obtain ⟨u6, C1⟩ : ∃ u6, u5.setCell ⟨kk + 1, 2, none⟩ (.slice a5 m c5') = u6 := ⟨_, rfl⟩
     have T := F.size
     rw [C1] at q61 q60 H C0 F T
     have I := zaq u6 kk (.slice a1 KN c1') (.int .i64 1) (.slice a5 m c5') (.int .i64 0) (.int .i64 0)
     have G : Hid (Below w.heap.size w (put5 u6 kk (.slice a1 KN c1') (.int .i64 1) (.slice a5 m c5') (.int .i64 0) (.int .i64 0)) ∧ OwnB (put5 u6 kk (.slice a1 KN c1') (.int .i64 1) (.slice a5 m c5') (.int .i64 0) (.int .i64 0)) kk (.slice a1 KN c1') ([] ++ R1) ∧ OwnB (put5 u6 kk (.slice a1 KN c1') (.int .i64 1) (.slice a5 m c5') (.int .i64 0) (.int .i64 0)) kk (.slice a5 m c5') R2) := zaa ⟨by
      rw [C]
      exact (A.out.2.2.2.1.trans B8).trans ((F.below zq (fun j hj e => zq)).trans (I.below zq (fun j hj e => zq))), H.c5 I q60, C0.c5 I q60⟩
     have C2 := zaa q60
     obtain ⟨x0, x1, x2, x3, x4⟩ := q51.cells
     obtain ⟨y0, y1, y2', y3, y4⟩ := q51.free
     obtain ⟨z0, z1, z2, z3, z4⟩ := q61.cells
     obtain ⟨o0, o1, o2, o3, o4⟩ := q60.cells
     obtain ⟨n0, n1, n2, n3, n4⟩ := q60.free
     clear q51 q50 G4 B8 H8 B9 F q61 q60 H C0 T I e0 e1 e2 e3 e4 k0 k1 k2 k3 k4 c0 c1 c2 c3 c4 j0 j1 j2 j3 j4 d0 d1 d2 d3 d4 f0 f1 f2 f3 f4 F5
     go_wp2
     refine bodyPost_ret (zaz rfl _ _ kk 50 #[.slice a1 KN c1', .int .i64 1, .slice a5 m c5', .int .i64 0, .int .i64 0] (0, 0) _ (.int .i64 (t4 : Int)) zr zr (C2.out.put _ _ _ _ _) Tryz.underlying50 rfl zal) rfl ?_
     refine ⟨a1, KN, c1', 1, a5, m, c5', 0, 0, (t4 : Int), rfl, zaa G.out.1, zaa (.inr ⟨t4, _, rfl, R.out, ?_, ?_, rfl, rfl, rfl, ?_, ?_⟩)⟩
     ·rw [U.out]; exact F4.out.symm
     ·exact C6.out.symm
     ·rw [U.out, C]; exact G.out.2.1
     ·rw [C]; exact G.out.2.2
    ·have H4 := zaa (part_no (some ⟨g, off, none⟩) n cap s3 (m : Int) u4 (by have := HL.out; omega) hn zq)
     have K := zaa (no_val N.out A4.out O.out (by rw [HX.out]; exact B) hm (by rw [E.out]; exact W.out) D (by rw [HL.out]; omega))
     clear A8 hm D
     subst B
     go_wp2_with (first | (go_at_call 100; refine zad H3.out ?_) | (go_at_call 57; refine zad H4.out ?_))
     refine bodyPost_ret (zaz rfl _ _ kk 50 #[.slice none 0 0, .int .i64 0, .slice none 0 0, .int .i64 0, .int .i64 0] (0, 0) _ (.int .i64 0) zr zr (A.out.1.put _ _ _ _ _) Tryz.underlying50 rfl zal) rfl ?_
     have hf := zaq u4 kk (.slice none 0 0) (.int .i64 0) (.slice none 0 0) (.int .i64 0) (.int .i64 0)
     refine RdTo.no ?_ K.out
     rw [C]
     exact A.out.2.2.2.1.trans (hf.below A.out.2.2.2.2 (fun j hj e => zq))
   ·have J9 : (x == 1) = false := by simpa using B
    have H5 := zaa (B1.out (s3 : Int) u4 A.out.2.2.2.1)
    by_cases Y : (rUx l (s3 : Int)).2.2 = 0
    ·obtain ⟨q, z, G5, A9, C3, A1, hq⟩ := ru_ok A5.out D Y
     rw [G5] at H5
     simp only at H5
     have zb : (z : Int) ≤ 65536 := by have := HL.out; omega
     have L : Hid (∀ (p : Int) (a b c : Int), (p = (t2 : Int) ∧ a = (m : Int) ∧ b = (s3 : Int) ∧ c = 0) ∨ (p = (s3 : Int) ∧ a = (q : Int) ∧ b = (z : Int) ∧ c = 0) → Calls Tryz.prog 100 #[.slice (some ⟨g, off, none⟩) n cap, .int .i64 p] u4 fun e w' => e = .returned (.tuple #[.int .u64 a, .int .i64 b, .int .i64 c]) ∧ w' = u4) := zaa (by
      rintro p a b c (⟨rfl, rfl, rfl, rfl⟩ | ⟨rfl, rfl, rfl, rfl⟩)
      ·exact H3.out
      ·exact H5.out)
     clear Y G5
     by_cases A2 : 65536 < m ∨ 1073741824 < q
     ·have K := zaa (no_big N.out A4.out O.out (by rw [HX.out]; exact B) hm (by rw [E.out]; exact W.out) hq A9 A2)
      have H9 : (decide ((65536 : Int) < (m : Int)) = true) ∨ (decide ((65536 : Int) < (m : Int)) = false ∧ decide ((1073741824 : Int) < (q : Int)) = true) := by
       by_cases K0 : 65536 < m
       ·exact .inl zso
       ·exact .inr ⟨by simp; omega, by simp; omega⟩
      clear A2 A9 C3 B A1 D
      rcases H9 with G6 | ⟨G6, I0⟩
      all_goals
       go_wp2_with (go_at_call 100; first | with_reducible refine zad (L.out _ _ _ _ (.inl ⟨rfl, rfl, rfl, rfl⟩)) ?_ | with_reducible refine zad (L.out _ _ _ _ (.inr ⟨rfl, rfl, rfl, rfl⟩)) ?_)
       refine bodyPost_ret (zaz rfl _ _ kk 50 #[.slice none 0 0, .int .i64 0, .slice none 0 0, .int .i64 0, .int .i64 0] (0, 0) _ (.int .i64 0) zr zr (A.out.1.put _ _ _ _ _) Tryz.underlying50 rfl zal) rfl ?_
       have hf := zaq u4 kk (.slice none 0 0) (.int .i64 0) (.slice none 0 0) (.int .i64 0) (.int .i64 0)
       refine RdTo.no ?_ K.out
       rw [C]
       exact A.out.2.2.2.1.trans (hf.below A.out.2.2.2.2 (fun j hj e => zq))
     ·have R := zaa (is_ct A5.out (by rw [HL.out]; exact hn) N.out O.out (by have := E9.out; omega) (by rw [HL.out, E.out]; exact V.out) (by rw [HX.out]; exact B) (by rw [E.out]; exact W.out) (by rw [E.out]; exact G0.out) A9 C3 A1 zq zq)
      rw [F0.out, HX.out] at R
      have mb : (m : Int) ≤ 65536 := zq
      have qb : (q : Int) ≤ 1073741824 := zq
      have G7 := Cf.set u4 (kk + 1) 3 (.int .i64 (m : Int))
      have q51 := (A.out.2.1.set (.int .i64 (m : Int))).2.2.2.1
      have F := Cf.set (u4.setCell ⟨kk + 1, 3, none⟩ (.int .i64 (m : Int))) (kk + 1) 4 (.int .i64 (q : Int))
      have q61 := (q51.set (.int .i64 (q : Int))).2.2.2.2
      have M := G7.go F
      have q60 := A.out.1.cf M zq
      have H := A.out.2.2.1.c5 M A.out.2.1
      have T := M.size
      have B9 := A.out.2.2.2.2
      obtain ⟨u5, I1⟩ : ∃ u5, u4.setCell ⟨kk + 1, 3, none⟩ (.int .i64 (m : Int)) = u5 := ⟨_, rfl⟩
      rw [I1] at q51 q61 q60 H M T
      obtain ⟨u6, C1⟩ : ∃ u6, u5.setCell ⟨kk + 1, 4, none⟩ (.int .i64 (q : Int)) = u6 := ⟨_, rfl⟩
      rw [C1] at q61 q60 H M T
      have I := zaq u6 kk (.slice a1 KN c1') (.int .i64 x) (.slice none 0 0) (.int .i64 (m : Int)) (.int .i64 (q : Int))
      have G : Hid (Below w.heap.size w (put5 u6 kk (.slice a1 KN c1') (.int .i64 x) (.slice none 0 0) (.int .i64 (m : Int)) (.int .i64 (q : Int))) ∧ OwnB (put5 u6 kk (.slice a1 KN c1') (.int .i64 x) (.slice none 0 0) (.int .i64 (m : Int)) (.int .i64 (q : Int))) kk (.slice a1 KN c1') ([] ++ R1)) := zaa ⟨by
       rw [C]
       exact A.out.2.2.2.1.trans ((M.below zq (fun j hj e => zq)).trans (I.below zq (fun j hj e => zq))), H.c5 I q60⟩
      have C2 := zaa q60
      obtain ⟨x0, x1, x2, x3, x4⟩ := q51.cells
      obtain ⟨y0, y1, y2', y3, y4⟩ := q51.free
      obtain ⟨z0, z1, z2, z3, z4⟩ := q61.cells
      obtain ⟨o0, o1, o2, o3, o4⟩ := q60.cells
      obtain ⟨n0, n1, n2, n3, n4⟩ := q60.free
      clear q51 G7 F q61 M q60 H T B9 I A2 A9 C3 B A1 D hm hq c0 c1 c2 c3 c4 j0 j1 j2 j3 j4
      have I2 := zaa (And.intro mb qb)
      have G6 : decide ((65536 : Int) < (m : Int)) = false := by simp; omega
      have I0 : decide ((1073741824 : Int) < (q : Int)) = false := by simp; omega
      clear mb qb
      go_wp2_with (go_at_call 100; first | with_reducible refine zad (L.out _ _ _ _ (.inl ⟨rfl, rfl, rfl, rfl⟩)) ?_ | (with_reducible refine zad (L.out _ _ _ _ (.inr ⟨rfl, rfl, rfl, rfl⟩)) ?_; refine Hid.out ?_))
      apply zaa
      go_upto_region 26 with fail
      obtain ⟨mb, qb⟩ := I2.out
      go_wp2
      refine bodyPost_ret (zaz rfl _ _ kk 50 #[.slice a1 KN c1', .int .i64 x, .slice none 0 0, .int .i64 (m : Int), .int .i64 (q : Int)] (0, 0) _ (.int .i64 (z : Int)) zr zr (C2.out.put _ _ _ _ _) Tryz.underlying50 rfl zal) rfl ?_
      refine ⟨a1, KN, c1', x, none, 0, 0, (m : Int), (q : Int), (z : Int), rfl, zaa G.out.1, zaa (.inr ⟨z, _, rfl, R.out, ?_, rfl, rfl, rfl, rfl, ?_, OwnB.nil _ _⟩)⟩
      ·rw [U.out]; exact F4.out.symm
      ·rw [U.out, C]; exact G.out.2
    ·have K := zaa (no_ct N.out A4.out O.out (by rw [HX.out]; exact B) hm (by rw [E.out]; exact W.out) D Y)
     obtain ⟨⟨r1, r2, r3⟩, hr⟩ : ∃ r, rUx l (s3 : Int) = r := ⟨_, rfl⟩
     rw [hr] at H5 Y
     simp only at H5 Y
     have L : Hid (∀ (p : Int) (a b c : Int), (p = (t2 : Int) ∧ a = (m : Int) ∧ b = (s3 : Int) ∧ c = 0) ∨ (p = (s3 : Int) ∧ a = r1 ∧ b = r2 ∧ c = r3) → Calls Tryz.prog 100 #[.slice (some ⟨g, off, none⟩) n cap, .int .i64 p] u4 fun e w' => e = .returned (.tuple #[.int .u64 a, .int .i64 b, .int .i64 c]) ∧ w' = u4) := zaa (by
      rintro p a b c (⟨rfl, rfl, rfl, rfl⟩ | ⟨rfl, rfl, rfl, rfl⟩)
      ·exact H3.out
      ·exact H5.out)
     clear hr B hm D
     go_wp2_with (go_at_call 100; first | with_reducible refine zad (L.out _ _ _ _ (.inl ⟨rfl, rfl, rfl, rfl⟩)) ?_ | with_reducible refine zad (L.out _ _ _ _ (.inr ⟨rfl, rfl, rfl, rfl⟩)) ?_)
     refine bodyPost_ret (zaz rfl _ _ kk 50 #[.slice none 0 0, .int .i64 0, .slice none 0 0, .int .i64 0, .int .i64 0] (0, 0) _ (.int .i64 0) zr zr (A.out.1.put _ _ _ _ _) Tryz.underlying50 rfl zal) rfl ?_
     have hf := zaq u4 kk (.slice none 0 0) (.int .i64 0) (.slice none 0 0) (.int .i64 0) (.int .i64 0)
     refine RdTo.no ?_ K.out
     rw [C]
     exact A.out.2.2.2.1.trans (hf.below A.out.2.2.2.2 (fun j hj e => zq))
  ·have K := zaa (no_tail N.out A4.out O.out (by rw [HL.out, E.out]; exact V.out) (by rw [E.out]; exact J))
   obtain ⟨⟨r1, r2, r3⟩, hr⟩ : ∃ r, rUx l (t2 : Int) = r := ⟨_, rfl⟩
   rw [hr] at H3 J
   simp only at H3 J
   have K1 : (r3 != 0) = true := by simpa using J
   clear hr e0 e1 e2 e3 e4 k0 k1 k2 k3 k4 J
   go_wp2_with (go_at_call 100; with_reducible refine zad H3.out ?_)
   refine bodyPost_ret (zaz rfl _ _ kk 50 #[.slice none 0 0, .int .i64 0, .slice none 0 0, .int .i64 0, .int .i64 0] (0, 0) _ (.int .i64 0) zr zr (A.out.1.put _ _ _ _ _) Tryz.underlying50 rfl zal) rfl ?_
   have hf := zaq u4 kk (.slice none 0 0) (.int .i64 0) (.slice none 0 0) (.int .i64 0) (.int .i64 0)
   refine RdTo.no ?_ K.out
   rw [C]
   exact A.out.2.2.2.1.trans (hf.below A.out.2.2.2.2 (fun j hj e => zq))
theorem mayP.gd {k : Int} {n : Nat} {c : Cl} (h : mayP k n c) (hn : n ≤ 65536) (m : Nat) : Gd7 (c.cut m) := by
 have hk := h.1
 have hd : (c.key.drop m).length ≤ c.key.length := by rw [zK]; omega
 unfold mayP zbx zca at h
 obtain ⟨h1, h2⟩ := h
 unfold Cl.cut
 rcases h2 with ⟨_, h3, h4, h5, h6⟩ | ⟨_, _, ⟨h3, h4, h5⟩ | ⟨h3, h4, h5⟩ | ⟨h3, h4, h5⟩⟩
 ·exact ⟨by simp only; omega, by simp only; omega, fun e => by simp only at e; omega, fun _ => ⟨h4, by simp only; omega, by simp only; omega, by simp only; omega, by simp only; omega⟩, by simp only; omega, by simp only [h4]; simp⟩
 ·exact ⟨by simp only; omega, by simp only; omega, fun _ => ⟨by simp only; omega, by simp only; omega⟩, fun e => by simp only at e; omega, by simp only; omega, by simp only; omega⟩
 ·exact ⟨by simp only; omega, by simp only; omega, fun e => by simp only at e; omega, fun _ => ⟨h4, by simp only; omega, by simp only; omega, by simp only; omega, by simp only; omega⟩, by simp only; omega, by simp only [h4]; simp⟩
 ·exact ⟨by simp only; omega, by simp only; omega, fun e => by simp only at e; omega, fun _ => ⟨h4, by simp only; omega, by simp only; omega, by simp only; omega, by simp only; omega⟩, by simp only; omega, by simp only [h4]; simp⟩
theorem qB_cut (m : Nat) (c : Cl) : qB m c = qB 0 (c.cut m) := by
 unfold qB Cl.cut
 simp
theorem qB_inj {c d : Cl} {R S : List Int} (hc : Gd7 c) (hd : Gd7 d) (h : qB 0 c ++ R = qB 0 d ++ S) : c = d ∧ R = S := by
 rw [zcs, zcs] at h
 injection h with h0 h1
 have c1 := hc.k0
 have c2 := hc.k1
 have d1 := hd.k0
 have d2 := hd.k1
 have hk : c.kd = d.kd := zq
 have l1 := hc.l1
 have l2 := hd.l1
 have l3 := hc.l2
 have l4 := hd.l2
 obtain ⟨e1, e2⟩ := uB_inj zq zq zq zq h1
 have A : c.key.length = d.key.length := zq
 obtain ⟨e3, e4⟩ := List.append_inj e2 A
 obtain ⟨ck, ckd, cv, cp, cc⟩ := c
 obtain ⟨dk, dkd, dv, dp, dc⟩ := d
 simp only at hk e3 A l3 l4
 subst hk
 subst e3
 unfold qtl at e4
 simp only at e4
 by_cases h1 : ckd = 1
 ·rw [if_pos h1, if_pos h1, zM, zM] at e4
  obtain ⟨e5, e6⟩ := uB_inj zq zq zq zq e4
  obtain ⟨e7, e8⟩ := List.append_inj e6 zq
  have g1 := hc.v1 h1
  have g2 := hd.v1 h1
  simp only at g1 g2
  subst e7
  exact ⟨by rw [g1.1, g1.2, g2.1, g2.2], e8⟩
 ·rw [if_neg h1, if_neg h1, zM, zM] at e4
  obtain ⟨e5, e6⟩ := uB_inj zq zq zq zq e4
  obtain ⟨e7, e8⟩ := uB_inj zq zq zq zq e6
  have g1 := hc.v2 h1
  have g2 := hd.v2 h1
  simp only at g1 g2
  obtain ⟨a1, a2, a3, a4, a5⟩ := g1
  obtain ⟨b1, b2, b3, b4, b5⟩ := g2
  subst a1
  subst b1
  have q1 : cp = dp := zq
  have q2 : cc = dc := zq
  subst q1
  subst q2
  exact ⟨rfl, e8⟩
theorem qbd_pre7 (m : Nat) : ∀ (cs : List Cl) (f : Bool) (j : Nat), ∃ X, qbd m f cs = qbd m f (cs.take j) ++ X
 | [], f, j => ⟨[], by simp [qbd]⟩
 | c :: r, f, 0 => ⟨qbd m f (c :: r), by simp [qbd]⟩
 | c :: r, f, j + 1 => by
  obtain ⟨X, hX⟩ := qbd_pre7 m r false j
  exact ⟨X, by simp only [qbd, List.take_succ_cons, zM]; rw [hX]⟩
def offQ (k : Int) (cs : List Cl) (j : Nat) : Nat := 6 + (shP k cs).length + 2 * cs.length + (qbd (shP k cs).length (whl k) (cs.take j)).length
def cutQ (k : Int) (cs : List Cl) (j : Nat) : Nat := if whl k = true ∧ j = 0 then 0 else (shP k cs).length
theorem qtk_six {m : Nat} {c : Cl} (h : c.kd ≠ 1 ∨ m < c.key.length) : 6 ≤ qtk m c := by
 unfold qtk tL
 have h1 := zcj ((c.key.length - m : Nat) : Int)
 have h2 := zcj (c.val.length : Int)
 have h3 := zcj (c.pg % 18446744073709551616)
 have h4 := zcj (c.ct % 18446744073709551616)
 split
 ·rcases h with h | h
  ·omega
  ·omega
 ·omega
theorem qtk_five (m : Nat) (c : Cl) : 5 ≤ qtk m c := by
 unfold qtk tL
 have h1 := zcj ((c.key.length - m : Nat) : Int)
 have h2 := zcj (c.val.length : Int)
 have h3 := zcj (c.pg % 18446744073709551616)
 have h4 := zcj (c.ct % 18446744073709551616)
 split <;> omega
theorem qsm_branch (m : Nat) : ∀ (cs : List Cl) (f : Bool), (∀ c ∈ cs, c.kd ≠ 1) → 6 * cs.length ≤ qsm m f cs
 | [], _, _ => by simp
 | c :: r, f, h => by
  have h1 := qsm_branch m r false (fun d hd => h d (by simp [hd]))
  have h2 := qtk_six (m := if f then 0 else m) (c := c) (.inl (h c zv))
  simp only [qsm, List.length_cons]
  omega
theorem qsm_far (P : List Int) : ∀ (cs : List Cl), (∀ c ∈ cs, P.length < c.key.length) → 6 * cs.length ≤ qsm P.length false cs
 | [], _ => by simp
 | c :: r, h => by
  have h1 := qsm_far P r (fun d hd => h d (by simp [hd]))
  have h2 := qtk_six (m := P.length) (c := c) (.inr (h c zv))
  simp only [qsm, List.length_cons, Bool.false_eq_true, if_false]
  omega
theorem qsm_leaf (P : List Int) : ∀ (cs : List Cl), Rs cs → (∀ c ∈ cs, c.key.take P.length = P) → 6 * cs.length ≤ qsm P.length false cs + 1
 | [], _, _ => by simp
 | c :: r, hr, hb => by
  unfold Rs at hr
  have hp := List.pairwise_cons.1 hr
  have hl : P.length ≤ c.key.length := beg_len (hb c zv)
  by_cases e : P.length < c.key.length
  ·have h1 := qsm_leaf P r hp.2 (fun d hd => hb d (by simp [hd]))
   have h2 := qtk_six (m := P.length) (c := c) (.inr e)
   simp only [qsm, List.length_cons, Bool.false_eq_true, if_false]
   omega
  ·have A : c.key = P := by
    have := hb c zv
    rwa [List.take_of_length_le zq] at this
   have h1 := qsm_far P r (fun d hd => by
    have B : P.length ≤ d.key.length := beg_len (hb d (by simp [hd]))
    by_cases e2 : P.length < d.key.length
    ·exact e2
    ·exfalso
     have hdP : d.key = P := by
      have := hb d (by simp [hd])
      rwa [List.take_of_length_le zq] at this
     have := hp.1 d hd
     rw [A, hdP] at this
     exact kl_irr _ this)
   have h2 := qtk_five P.length c
   simp only [qsm, List.length_cons, Bool.false_eq_true, if_false]
   omega
theorem IsQ.lay {k : Int} {n : Nat} {cs : List Cl} {b : List Int} (h : IsQ k n cs b) : b.length = n ∧ b.getD 0 0 = k ∧ rdN b 2 2 = (cs.length : Int) ∧ rdN b 4 2 = ((shP k cs).length : Int) ∧ (b.drop 6).take (shP k cs).length = shP k cs ∧ 6 + (shP k cs).length ≤ n ∧ cs.length ≤ n / 6 ∧ ∃ Z, b.drop (6 + (shP k cs).length + 2 * cs.length) = qbd (shP k cs).length (whl k) cs ++ Z := by
 have C := h.ok
 have J := h.kd
 obtain ⟨h1, h2, h3, h4, h5⟩ := h
 have hp := zas h2
 have hz := zbj k (shP k cs).length cs
 have D : b.length = n := by rw [← h5, pkB_length k n cs h4]
 have hg : b.getD 0 0 = k := by rw [← h5]; rfl
 obtain ⟨U, hU, A⟩ := pkB_split k n cs
 rw [h5] at A
 have E := zby k cs
 have h6 : cs.length ≤ n / 6 := by
  have hs : 6 * cs.length ≤ qsm (shP k cs).length (whl k) cs + 1 := by
   by_cases B : k = 3
   ·have := qsm_branch (shP k cs).length cs (whl k) (fun c hc => by
     have hm := zcp C c hc
     unfold mayP at hm
     rcases hm.2 with ⟨_, h, _⟩ | ⟨h, _⟩
     ·omega
     ·exact absurd B h)
    omega
   ·have hw : whl k = false := by unfold whl; simpa using B
    rw [hw]
    refine qsm_leaf _ cs (chk_rs C) (fun c hc => E c ?_)
    unfold ktl
    rw [if_neg B]
    exact hc
  unfold szQ at h4
  omega
 generalize shP k cs = P at *
 obtain ⟨Z, hZ⟩ : ∃ Z, zs (n - szQ k P.length cs) = Z := ⟨_, rfl⟩
 obtain ⟨S, hS⟩ : ∃ S, sloB (qst P.length (whl k) (6 + P.length + 2 * cs.length) cs) = S := ⟨_, rfl⟩
 have F : S.length = 2 * cs.length := by rw [← hS, zbl, zbi]
 unfold pkL at A
 rw [hZ, hS] at A
 simp only [zM] at A
 have G : rdN b 2 2 = (cs.length : Int) := by
  rw [A, zco [k, 2] (fB 2 cs.length) _ 2 2 rfl (zah _ _), zci 2 _ zq zq]
 have H : rdN b 4 2 = (P.length : Int) := by
  rw [A, ← zM [k, 2], zco ([k, 2] ++ fB 2 cs.length) (fB 2 P.length) _ 4 2 (by simp [zah]) (zah _ _), zci 2 _ zq zq]
 have I : (b.drop 6).take P.length = P := by
  rw [A, ← zM (fB 2 cs.length), ← zM [k, 2], List.drop_left' (by simp [zah]), List.take_left]
 refine ⟨D, hg, G, H, I, zq, h6, Z ++ U, ?_⟩
 have e : b = ([k, 2] ++ (fB 2 cs.length ++ (fB 2 P.length ++ (P ++ S)))) ++ (qbd P.length (whl k) cs ++ (Z ++ U)) := by
  rw [A]
  simp only [zM]
 rw [e, List.drop_left' (by simp only [zG, List.length_cons, List.length_nil, zah, F]; omega)]
theorem IsQ.cell {k : Int} {n : Nat} {cs : List Cl} {b : List Int} (h : IsQ k n cs b) {j : Nat} {c : Cl} (hc : cs[j]? = some c) : b.drop (offQ k cs j) = qB 0 (c.cut (cutQ k cs j)) ++ b.drop (offQ k cs (j + 1)) ∧ Gd7 (c.cut (cutQ k cs j)) ∧ offQ k cs (j + 1) ≤ n ∧ c.key.take (cutQ k cs j) = (if k = 3 ∧ j = 0 then [] else shP k cs) := by
 obtain ⟨C, _, _, _, _, _, _, Z, hZ⟩ := h.lay
 have hn := (zas h.sz).2
 have hm := zcp h.ok c (List.mem_of_getElem? hc)
 obtain ⟨X, hX⟩ := qbd_pre7 (shP k cs).length cs (whl k) j
 obtain ⟨Y, hY⟩ := qbd_pre7 (shP k cs).length cs (whl k) (j + 1)
 have h1 := qbd_take1 (shP k cs).length cs (whl k) j c hc
 have d0 : b.drop (offQ k cs j) = X ++ Z := by
  unfold offQ
  rw [← List.drop_drop, hZ, hX, zM, List.drop_left]
 have d1 : b.drop (offQ k cs (j + 1)) = Y ++ Z := by
  unfold offQ
  rw [← List.drop_drop, hZ, hY, zM, List.drop_left]
 have B : X = qB (cutQ k cs j) c ++ Y := by
  rw [h1, zM] at hY
  exact List.append_cancel_left (hX.symm.trans hY)
 refine ⟨?_, hm.gd hn _, ?_, ?_⟩
 ·rw [d0, d1, B, qB_cut, zM]
 ·have hz := zbj k (shP k cs).length cs
  have := h.fit
  have := qbd_take_le (shP k cs).length cs (whl k) (j + 1)
  unfold offQ
  omega
 ·unfold cutQ
  by_cases hk : k = 3 ∧ j = 0
  ·rw [if_pos hk, if_pos ⟨by unfold whl; simpa using hk.1, hk.2⟩, List.take_zero]
  ·rw [if_neg hk, if_neg (fun e => hk ⟨by have := e.1; unfold whl at this; simpa using this, e.2⟩)]
   refine zby k cs c ?_
   unfold ktl
   by_cases A : k = 3
   ·rw [if_pos A]
    have hj : j ≠ 0 := fun e => hk ⟨A, e⟩
    obtain ⟨i, rfl⟩ : ∃ i, j = i + 1 := ⟨j - 1, zq⟩
    cases cs with
    | nil => simp at hc
    | cons d r => exact List.mem_of_getElem? (by simpa using hc)
   ·rw [if_neg A]
    exact List.mem_of_getElem? hc
end Go.Proofs.YtbkhjeacmmbabaaGreatDoor
