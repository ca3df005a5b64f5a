import Derived.Test.YtbkhjeacmmbabaaGreatDoorJ40
namespace Go.Proofs.YtbkhjeacmmbabaaGreatDoor
set_option maxRecDepth 100000
open Go.RowKit
set_option maxHeartbeats 8000000 in
theorem rread_pre (g off n cap : Nat) (l : List Int) (at_ : Nat) (k : Int) (i : Nat) (po : Option Addr) (pn pc : Nat) (P : List Int) (w : World) (hs : Sl w (some ⟨g, off, none⟩) n cap l) (hn : n ≤ 65536) (hP : Sl w po pn pc P) (_hpn : pn ≤ 65536) (_hi : i ≤ 65536) (ha : at_ < n) (he : (rUx l ((at_ + 1 : Nat) : Int)).2.2 = 0) (v t : Nat) (D7 : rUx l ((at_ + 1 : Nat) : Int) = ((v : Int), (t : Int), 0)) (D8 : t + v ≤ n) (D9 : ¬ (k = 3 ∧ i = 0)) :
  Calls Tryz.prog 58 #[.slice (some ⟨g, off, none⟩) n cap, .int .i64 (at_ : Int), .int .i64 k, .int .i64 (i : Int), .slice po pn pc] w (RdTo l at_ k i P w) := by
 have HS := zaa hs
 have HP := zaa hP
 have D0 := hs.hlen
 have I2 := hs.hcap
 have J7 : (n : Int) ≤ 65536 := zq
 obtain ⟨kk, C⟩ : ∃ kk, w.heap.size = kk := ⟨_, rfl⟩
 have B3 : g < kk := by
  rcases hs.hat with h0 | ⟨b, o, e, hb, _⟩
  ·omega
  ·cases e; omega
 have J8 := zaa B3
 have E0 : at_ < l.length := zq
 obtain ⟨x, hx⟩ : ∃ x, l.getD at_ 0 = x := ⟨_, rfl⟩
 have E1 := hs.wf.getD at_
 rw [hx] at E1
 obtain ⟨J9, K0⟩ := E1
 have b0 : (w.alloc (.cells #[.slice none 0 0, .int .i64 0, .slice none 0 0, .int .i64 0, .int .i64 0] 50)).cell? ⟨g, off + at_, none⟩ = some (.int .u8 x) := by
  rcases hs.hat with h0 | ⟨b, o, e, hb, hc⟩
  ·omega
  ·cases e
   rw [← hx]
   exact ((zab (Below.refl w.heap.size w) Lr _).cell (p := ⟨g, off + at_, none⟩) hb).trans (hc at_ zq)
 have TB := two_box7 w (.slice none 0 0) (.int .i64 x) (.slice none 0 0) (.int .i64 0) (.int .i64 0)
 rw [C] at TB
 obtain ⟨y2, E2⟩ : ∃ y2, (w.alloc (.cells #[.slice none 0 0, .int .i64 0, .slice none 0 0, .int .i64 0, .int .i64 0] 50)).alloc (.cells #[.slice none 0 0, .int .i64 x, .slice none 0 0, .int .i64 0, .int .i64 0] 50) = y2 := ⟨_, rfl⟩
 rw [E2] at TB
 have E3 : Hid (Md7 w y2 kk (.slice none 0 0) x []) := zaa ⟨TB.1, TB.2.1, OwnB.nil _ _, TB.2.2, by have := zaf TB.1; omega⟩
 have K1 : ¬ (n : Int) ≤ (at_ : Int) := zq
 have K2 : (at_ : Int) < (n : Int) := zq
 have h0 : ¬ (at_ : Int) < 0 := zq
 have I4 : Hid (∀ u, Below kk w u → Sl u (some ⟨g, off, none⟩) n cap l) := zaa fun u hu => HS.out.on (by rw [C]; exact Lr) hu
 have I5 : Hid (∀ u, Below kk w u → Sl u po pn pc P) := zaa fun u hu => HP.out.on (by rw [C]; exact Lr) hu
 have B4 : Hid (∀ (p : Int) u, Below kk w u → Calls Tryz.prog 100 #[.slice (some ⟨g, off, none⟩) n cap, .int .i64 p] u fun e w' => e = .returned (.tuple #[.int .u64 (rUx l p).1, .int .i64 (rUx l p).2.1, .int .i64 (rUx l p).2.2]) ∧ w' = u) := zaa fun p u hu => zdp _ n cap l p u (I4.out u hu)
 have E4 : Hid (Below kk w y2) := zaa TB.2.2
 clear TB
 obtain ⟨v1, t1, A3, E5, E7, I3, E8⟩ := ru_ok hs.wf zq he
 have H1 := zaa ((B4.out ((at_ + 1 : Nat) : Int) y2 E4.out).mono fun e w' h => (And.intro h.1 (zaa h.2) : _ ∧ Hid (w' = y2)))
 rw [A3] at H1
 simp only at H1
 obtain ⟨s1, E9⟩ : ∃ s1, at_ + 1 = s1 := ⟨_, rfl⟩
 have K4 : (at_ : Int) + 1 = (s1 : Int) := zq
 rw [E9] at H1
 have t1b : (t1 : Int) ≤ 65536 := zq
 obtain ⟨rfl, rfl⟩ : v1 = v ∧ t1 = t := by
  rw [D7] at A3
  injection A3 with q1 q2
  injection q2 with q2 _
  omega
 have U : Hid (pre7 k i P = P) := zaa (by unfold pre7; rw [if_neg D9])
 obtain ⟨po1, pc1, F0, F1, F2⟩ := part_yes g off n cap t1 v1 l w hs hn D8
 have F3 := zaa F0
 have F4 : Hid (∀ u, Below kk w u → Sl u po1 v1 pc1 ((l.drop t1).take v1)) := zaa (by rw [← C]; exact F1)
 have I6 : Hid (∀ p, po1 = some p → p.block < kk) := zaa fun p hp => by rw [F2 p hp]; exact B3
 obtain ⟨t2, F5⟩ : ∃ t2, t1 + v1 = t2 := ⟨_, rfl⟩
 have J4 : (t1 : Int) + (v1 : Int) = (t2 : Int) := zq
 have t2b : (t2 : Int) ≤ 65536 := zq
 have v1b : (v1 : Int) ≤ 65536 := zq
 have B5 := zaa hP.hlen
 have HL := zaa D0
 have O := zaa E0
 have HX := zaa hx
 have Q := zaa E5
 have F6 := zaa E7
 have E := zaa F5
 have V : Hid (t2 ≤ n) := zaa zq
 have A4 := zaa E8
 have A5 := zaa hs.wf
 have K5 : (i : Int) ≤ 65536 := zq
 have Z : ((l.drop t1).take v1).length = v1 := by rw [zJ, zK]; omega
 obtain ⟨R1, B6⟩ : ∃ R1, (l.drop t1).take v1 = R1 := ⟨_, rfl⟩
 rw [B6] at F4 Z
 have F7 := zaa B6
 have K6 := zaa Z
 have F8 : Hid (∀ u, Md7 w u kk (.slice none 0 0) x [] → Calls Tryz.prog 101 #[.slice none 0 0, .slice po pn pc] u fun e w' => ∃ v', e = .returned v' ∧ Hid (OwnB w' kk v' P) ∧ Hid (Gr u (.slice none 0 0) w' v')) := zaa fun u hu => by
  have := zbz (.slice none 0 0) kk [] P po pn pc u (OwnB.nil _ _) (I5.out u hu.2.2.2.1) (.inr fun p _ => by simp [Value.ownBlock]) zso hu.2.2.2.2
  rw [List.nil_append] at this
  exact this
 have D3 : (k != 3) = true ∨ (k = 3 ∧ 0 < i) := by
  by_cases h3 : k = 3
  ·exact .inr ⟨h3, zq⟩
  ·exact .inl (by simpa using h3)
 clear hs hP D0 I2 hx A3 D7 B3 E0 E9 E5 E7 he D8 D9 F0 F1 F2 F5 B6 Z I3 E8
 have D5 : (k != 3) = true ∨ (k = 3 ∧ ∃ j, i = j + 1) := by
  rcases D3 with h | ⟨h, h2⟩
  ·exact .inl h
  ·exact .inr ⟨h, i - 1, zq⟩
 clear D3
 subst E2
 rcases D5 with K7 | ⟨rfl, j9, rfl⟩
 all_goals
  go_enter Tryz.func58, Tryz.ntmps58
  go_wp2_with (go_at_call 100; refine H1.out.mono ?_; rintro e w1 ⟨rfl, F9⟩; refine Hid.out ?_)
  apply zaa
  have A6 : Hid (Md7 w w1 kk (.slice none 0 0) x []) := zaa (by rw [F9.out]; exact E3.out)
  have H2 := zaa (F3.out w1)
  have G0 := zaa (F8.out w1 A6.out)
  obtain ⟨d0, d1, d2, d3, d4⟩ := A6.out.2.1.cells
  clear E3 F9 H1 b0 E4 F3 F8
  go_wp2_with (first
   | (go_at_call 57; refine zad H2.out ?_)
   | (go_at_call 101; refine G0.out.mono ?_; rintro e u1 ⟨v0, rfl, A7, A8⟩; refine Hid.out ?_))
  apply zaa
  clear d0 d1 d2 d3 d4
  obtain ⟨a0, c0', rfl⟩ := zdm A7.out
  rw [B5.out] at A7 A8
  have F := zaa (A6.out.key A7.out A8.out)
  have B7 := A6.out.2.1.gr7 A8.out zsv
  obtain ⟨d0, d1, d2, d3, d4⟩ := B7.cells
  obtain ⟨f0, f1, f2, f3, f4⟩ := B7.free
  obtain ⟨u2, G1⟩ : ∃ u2, u1.setCell ⟨kk + 1, 0, none⟩ (.slice a0 pn c0') = u2 := ⟨_, rfl⟩
  rw [G1] at F
  have G2 := zaa (zbz (.slice a0 pn c0') kk P R1 po1 v1 pc1 u2 F.out.2.2.1 (F4.out u2 F.out.2.2.2.1) (F.out.2.2.1.far I6.out) (by rw [B5.out]; omega) F.out.2.2.2.2)
  obtain ⟨g0, g1, g2, g3, g4⟩ := F.out.2.1.cells
  rw [B5.out]
  clear B7 G0 A7 A8 H2
  go_wp2_with (go_at_call 101; refine G2.out.mono ?_; rintro e u3 ⟨v3, rfl, A9, B0⟩; refine Hid.out ?_)
  apply zaa
  clear d0 d1 d2 d3 d4 f0 f1 f2 f3 f4 g0 g1 g2 g3 g4 G1
  obtain ⟨KN, B8⟩ : ∃ KN, (P ++ R1).length = KN := ⟨_, rfl⟩
  obtain ⟨a1, c1', rfl⟩ := zdm A9.out
  rw [B8] at A9 B0 ⊢
  have G3 := zaa B8
  have A := zaa (F.out.key A9.out B0.out)
  have B9 := F.out.2.1.gr7 B0.out (F.out.2.2.1.apart5 F.out.2.1)
  obtain ⟨d0, d1, d2, d3, d4⟩ := B9.cells
  obtain ⟨f0, f1, f2, f3, f4⟩ := B9.free
  obtain ⟨u4, G4⟩ : ∃ u4, u3.setCell ⟨kk + 1, 0, none⟩ (.slice a1 KN c1') = u4 := ⟨_, rfl⟩
  rw [G4] at A
  have H3 := zaa (B4.out (t2 : Int) u4 A.out.2.2.2.1)
  have G5 := A.out.2.2.2.1
  have I7 := zaa G5
  obtain ⟨e0, e1, e2, e3, e4⟩ := A.out.2.1.cells
  obtain ⟨k0, k1, k2, k3, k4⟩ := A.out.2.1.free
  obtain ⟨c0, c1, c2, c3, c4⟩ := A.out.1.cells
  obtain ⟨j0, j1, j2, j3, j4⟩ := A.out.1.free
  clear B9 G5 G2 B8 A9 B0
  by_cases K : (rUx l (t2 : Int)).2.2 = 0
  ·obtain ⟨m, s3, G6, G7, G8, D, hm⟩ := ru_ok A5.out (by rw [HL.out]; exact V.out) K
   rw [G6] at H3
   simp only at H3
   have s3b : (s3 : Int) ≤ 65536 := by have := HL.out; omega
   have W := zaa G7
   have G9 := zaa G8
   have K8 := zaa hm
   have J5 := zaa D
   clear K G6 G7 G8
   by_cases B : x = 1
   ·by_cases B1 : s3 + m ≤ n
    ·obtain ⟨po2, pc2, H0, C0, I8⟩ := part_yes g off n cap s3 m l w HS.out hn B1
     have H4 := zaa (H0 u4)
     have A0 : ((l.drop s3).take m).length = m := by rw [zJ, zK, HL.out]; omega
     obtain ⟨R2, C1⟩ : ∃ R2, (l.drop s3).take m = R2 := ⟨_, rfl⟩
     rw [C1] at C0 A0
     have H6 := zaa (zbz (.slice none 0 0) kk [] R2 po2 m pc2 u4 (OwnB.nil _ _) (C0 u4 (by rw [C]; exact I7.out)) (.inr fun p _ => by simp [Value.ownBlock]) zso A.out.2.2.2.2)
     rw [List.nil_append] at H6
     have R := zaa (is_val A5.out (by rw [HL.out]; exact hn) O.out Q.out (by have := F6.out; omega) (by rw [HL.out, E.out]; exact V.out) (by rw [HX.out]; exact B) (by rw [E.out]; exact W.out) (by rw [E.out]; exact G9.out) (by rw [HL.out]; exact B1))
     rw [F7.out, C1] at R
     have D4 := zaa A0
     obtain ⟨t4, H7⟩ : ∃ t4, s3 + m = t4 := ⟨_, rfl⟩
     have J6 : (s3 : Int) + (m : Int) = (t4 : Int) := zq
     have mb : (m : Int) ≤ 65536 := zq
     have t4b : (t4 : Int) ≤ 65536 := zq
     rw [H7] at R
     clear H0 C0 I8 C1 A0 B1 H7 hm D
     subst B
     go_wp2_with (first
      | (go_at_call 100; refine zad H3.out ?_)
      | (go_at_call 57; refine zad H4.out ?_)
      | (go_at_call 101; refine H6.out.mono ?_; rintro e u5 ⟨v5, rfl, C2, X⟩; refine Hid.out ?_))
     apply zaa
     obtain ⟨a5, c5', rfl⟩ := zdm C2.out
     rw [D4.out] at C2 X ⊢
     have q51 := A.out.2.1.gr7 X.out zsv
     have q50 := A.out.1.gr7 X.out zsv
     have H8 : OwnB u5 kk (.slice a1 KN c1') (P ++ R1) := World.ownsRow.kept A.out.2.2.1 X.out.grow (by
      cases hz : (Value.slice a1 KN c1').ownBlock with
      | none => exact .inl rfl
      | some z => exact .inr zsv)
     have C3 : Below kk u4 u5 := X.out.below (OwnB.nil u4 kk) A.out.2.2.2.2
     have I9 := C3.size
     have C4 := A.out.2.2.2.2
     have G := Cf.set u5 (kk + 1) 2 (.slice a5 m c5')
     have q61 := (q51.set (.slice a5 m c5')).2.2.1
     have q60 := q50.cf G zq
     have I := H8.c5 G q51
     have C6 := C2.out.c5 G q51
     obtain ⟨u6, C7⟩ : ∃ u6, u5.setCell ⟨kk + 1, 2, none⟩ (.slice a5 m c5') = u6 := ⟨_, rfl⟩
     have T := G.size
     rw [C7] at q61 q60 I C6 G T
     have J := zaq u6 kk (.slice a1 KN c1') (.int .i64 1) (.slice a5 m c5') (.int .i64 0) (.int .i64 0)
     have H : Hid (Below w.heap.size w (put5 u6 kk (.slice a1 KN c1') (.int .i64 1) (.slice a5 m c5') (.int .i64 0) (.int .i64 0)) ∧ OwnB (put5 u6 kk (.slice a1 KN c1') (.int .i64 1) (.slice a5 m c5') (.int .i64 0) (.int .i64 0)) kk (.slice a1 KN c1') (P ++ R1) ∧ OwnB (put5 u6 kk (.slice a1 KN c1') (.int .i64 1) (.slice a5 m c5') (.int .i64 0) (.int .i64 0)) kk (.slice a5 m c5') R2) := zaa ⟨by
      rw [C]
      exact (A.out.2.2.2.1.trans C3).trans ((G.below zq (fun j hj e => zq)).trans (J.below zq (fun j hj e => zq))), I.c5 J q60, C6.c5 J q60⟩
     have C8 := zaa q60
     obtain ⟨x0, x1, x2, x3, x4⟩ := q51.cells
     obtain ⟨y0, y1, y2', y3, y4⟩ := q51.free
     obtain ⟨z0, z1, z2, z3, z4⟩ := q61.cells
     obtain ⟨o0, o1, o2, o3, o4⟩ := q60.cells
     obtain ⟨n0, n1, n2, n3, n4⟩ := q60.free
     clear q51 q50 H8 C3 I9 C4 G q61 q60 I C6 T J e0 e1 e2 e3 e4 k0 k1 k2 k3 k4 c0 c1 c2 c3 c4 j0 j1 j2 j3 j4 d0 d1 d2 d3 d4 f0 f1 f2 f3 f4 G4
     go_wp2
     refine bodyPost_ret (zaz rfl _ _ kk 50 #[.slice a1 KN c1', .int .i64 1, .slice a5 m c5', .int .i64 0, .int .i64 0] (0, 0) _ (.int .i64 (t4 : Int)) zr zr (C8.out.put _ _ _ _ _) Tryz.underlying50 rfl zal) rfl ?_
     refine ⟨a1, KN, c1', 1, a5, m, c5', 0, 0, (t4 : Int), rfl, zaa H.out.1, zaa (.inr ⟨t4, _, rfl, R.out, ?_, ?_, rfl, rfl, rfl, ?_, ?_⟩)⟩
     ·rw [U.out]; exact G3.out.symm
     ·exact D4.out.symm
     ·rw [U.out, C]; exact H.out.2.1
     ·rw [C]; exact H.out.2.2
    ·have H4 := zaa (part_no (some ⟨g, off, none⟩) n cap s3 (m : Int) u4 (by have := HL.out; omega) hn zq)
     have L := zaa (no_val O.out A4.out Q.out (by rw [HX.out]; exact B) hm (by rw [E.out]; exact W.out) D (by rw [HL.out]; omega))
     clear B1 hm D
     subst B
     go_wp2_with (first | (go_at_call 100; refine zad H3.out ?_) | (go_at_call 57; refine zad H4.out ?_))
     refine bodyPost_ret (zaz rfl _ _ kk 50 #[.slice none 0 0, .int .i64 0, .slice none 0 0, .int .i64 0, .int .i64 0] (0, 0) _ (.int .i64 0) zr zr (A.out.1.put _ _ _ _ _) Tryz.underlying50 rfl zal) rfl ?_
     have hf := zaq u4 kk (.slice none 0 0) (.int .i64 0) (.slice none 0 0) (.int .i64 0) (.int .i64 0)
     refine RdTo.no ?_ L.out
     rw [C]
     exact A.out.2.2.2.1.trans (hf.below A.out.2.2.2.2 (fun j hj e => zq))
   ·have K9 : (x == 1) = false := by simpa using B
    have H5 := zaa (B4.out (s3 : Int) u4 A.out.2.2.2.1)
    by_cases Y : (rUx l (s3 : Int)).2.2 = 0
    ·obtain ⟨q, z, H9, B2, C9, A1, hq⟩ := ru_ok A5.out D Y
     rw [H9] at H5
     simp only at H5
     have zb : (z : Int) ≤ 65536 := by have := HL.out; omega
     have M : Hid (∀ (p : Int) (a b c : Int), (p = (t2 : Int) ∧ a = (m : Int) ∧ b = (s3 : Int) ∧ c = 0) ∨ (p = (s3 : Int) ∧ a = (q : Int) ∧ b = (z : Int) ∧ c = 0) → Calls Tryz.prog 100 #[.slice (some ⟨g, off, none⟩) n cap, .int .i64 p] u4 fun e w' => e = .returned (.tuple #[.int .u64 a, .int .i64 b, .int .i64 c]) ∧ w' = u4) := zaa (by
      rintro p a b c (⟨rfl, rfl, rfl, rfl⟩ | ⟨rfl, rfl, rfl, rfl⟩)
      ·exact H3.out
      ·exact H5.out)
     clear Y H9
     by_cases A2 : 65536 < m ∨ 1073741824 < q
     ·have L := zaa (no_big O.out A4.out Q.out (by rw [HX.out]; exact B) hm (by rw [E.out]; exact W.out) hq B2 A2)
      have J0 : (decide ((65536 : Int) < (m : Int)) = true) ∨ (decide ((65536 : Int) < (m : Int)) = false ∧ decide ((1073741824 : Int) < (q : Int)) = true) := by
       by_cases L0 : 65536 < m
       ·exact .inl zso
       ·exact .inr ⟨by simp; omega, by simp; omega⟩
      clear A2 B2 C9 B A1 D
      rcases J0 with I0 | ⟨I0, J1⟩
      all_goals
       go_wp2_with (go_at_call 100; first | with_reducible refine zad (M.out _ _ _ _ (.inl ⟨rfl, rfl, rfl, rfl⟩)) ?_ | with_reducible refine zad (M.out _ _ _ _ (.inr ⟨rfl, rfl, rfl, rfl⟩)) ?_)
       refine bodyPost_ret (zaz rfl _ _ kk 50 #[.slice none 0 0, .int .i64 0, .slice none 0 0, .int .i64 0, .int .i64 0] (0, 0) _ (.int .i64 0) zr zr (A.out.1.put _ _ _ _ _) Tryz.underlying50 rfl zal) rfl ?_
       have hf := zaq u4 kk (.slice none 0 0) (.int .i64 0) (.slice none 0 0) (.int .i64 0) (.int .i64 0)
       refine RdTo.no ?_ L.out
       rw [C]
       exact A.out.2.2.2.1.trans (hf.below A.out.2.2.2.2 (fun j hj e => zq))
     ·have R := zaa (is_ct A5.out (by rw [HL.out]; exact hn) O.out Q.out (by have := F6.out; omega) (by rw [HL.out, E.out]; exact V.out) (by rw [HX.out]; exact B) (by rw [E.out]; exact W.out) (by rw [E.out]; exact G9.out) B2 C9 A1 zq zq)
      rw [F7.out, HX.out] at R
      have mb : (m : Int) ≤ 65536 := zq
      have qb : (q : Int) ≤ 1073741824 := zq
      have I1 := Cf.set u4 (kk + 1) 3 (.int .i64 (m : Int))
      have q51 := (A.out.2.1.set (.int .i64 (m : Int))).2.2.2.1
      have G := Cf.set (u4.setCell ⟨kk + 1, 3, none⟩ (.int .i64 (m : Int))) (kk + 1) 4 (.int .i64 (q : Int))
      have q61 := (q51.set (.int .i64 (q : Int))).2.2.2.2
      have N := I1.go G
      have q60 := A.out.1.cf N zq
      have I := A.out.2.2.1.c5 N A.out.2.1
      have T := N.size
      have C4 := A.out.2.2.2.2
      obtain ⟨u5, J2⟩ : ∃ u5, u4.setCell ⟨kk + 1, 3, none⟩ (.int .i64 (m : Int)) = u5 := ⟨_, rfl⟩
      rw [J2] at q51 q61 q60 I N T
      obtain ⟨u6, C7⟩ : ∃ u6, u5.setCell ⟨kk + 1, 4, none⟩ (.int .i64 (q : Int)) = u6 := ⟨_, rfl⟩
      rw [C7] at q61 q60 I N T
      have J := zaq u6 kk (.slice a1 KN c1') (.int .i64 x) (.slice none 0 0) (.int .i64 (m : Int)) (.int .i64 (q : Int))
      have H : Hid (Below w.heap.size w (put5 u6 kk (.slice a1 KN c1') (.int .i64 x) (.slice none 0 0) (.int .i64 (m : Int)) (.int .i64 (q : Int))) ∧ OwnB (put5 u6 kk (.slice a1 KN c1') (.int .i64 x) (.slice none 0 0) (.int .i64 (m : Int)) (.int .i64 (q : Int))) kk (.slice a1 KN c1') (P ++ R1)) := zaa ⟨by
       rw [C]
       exact A.out.2.2.2.1.trans ((N.below zq (fun j hj e => zq)).trans (J.below zq (fun j hj e => zq))), I.c5 J q60⟩
      have C8 := zaa q60
      obtain ⟨x0, x1, x2, x3, x4⟩ := q51.cells
      obtain ⟨y0, y1, y2', y3, y4⟩ := q51.free
      obtain ⟨z0, z1, z2, z3, z4⟩ := q61.cells
      obtain ⟨o0, o1, o2, o3, o4⟩ := q60.cells
      obtain ⟨n0, n1, n2, n3, n4⟩ := q60.free
      clear q51 I1 G q61 N q60 I T C4 J A2 B2 C9 B A1 D hm hq c0 c1 c2 c3 c4 j0 j1 j2 j3 j4
      have J3 := zaa (And.intro mb qb)
      have I0 : decide ((65536 : Int) < (m : Int)) = false := by simp; omega
      have J1 : decide ((1073741824 : Int) < (q : Int)) = false := by simp; omega
      clear mb qb
      go_wp2_with (go_at_call 100; first | with_reducible refine zad (M.out _ _ _ _ (.inl ⟨rfl, rfl, rfl, rfl⟩)) ?_ | (with_reducible refine zad (M.out _ _ _ _ (.inr ⟨rfl, rfl, rfl, rfl⟩)) ?_; refine Hid.out ?_))
      apply zaa
      go_upto_region 26 with fail
      obtain ⟨mb, qb⟩ := J3.out
      go_wp2
      refine bodyPost_ret (zaz rfl _ _ kk 50 #[.slice a1 KN c1', .int .i64 x, .slice none 0 0, .int .i64 (m : Int), .int .i64 (q : Int)] (0, 0) _ (.int .i64 (z : Int)) zr zr (C8.out.put _ _ _ _ _) Tryz.underlying50 rfl zal) rfl ?_
      refine ⟨a1, KN, c1', x, none, 0, 0, (m : Int), (q : Int), (z : Int), rfl, zaa H.out.1, zaa (.inr ⟨z, _, rfl, R.out, ?_, rfl, rfl, rfl, rfl, ?_, OwnB.nil _ _⟩)⟩
      ·rw [U.out]; exact G3.out.symm
      ·rw [U.out, C]; exact H.out.2
    ·have L := zaa (no_ct O.out A4.out Q.out (by rw [HX.out]; exact B) hm (by rw [E.out]; exact W.out) D Y)
     obtain ⟨⟨r1, r2, r3⟩, hr⟩ : ∃ r, rUx l (s3 : Int) = r := ⟨_, rfl⟩
     rw [hr] at H5 Y
     simp only at H5 Y
     have M : Hid (∀ (p : Int) (a b c : Int), (p = (t2 : Int) ∧ a = (m : Int) ∧ b = (s3 : Int) ∧ c = 0) ∨ (p = (s3 : Int) ∧ a = r1 ∧ b = r2 ∧ c = r3) → Calls Tryz.prog 100 #[.slice (some ⟨g, off, none⟩) n cap, .int .i64 p] u4 fun e w' => e = .returned (.tuple #[.int .u64 a, .int .i64 b, .int .i64 c]) ∧ w' = u4) := zaa (by
      rintro p a b c (⟨rfl, rfl, rfl, rfl⟩ | ⟨rfl, rfl, rfl, rfl⟩)
      ·exact H3.out
      ·exact H5.out)
     clear hr B hm D
     go_wp2_with (go_at_call 100; first | with_reducible refine zad (M.out _ _ _ _ (.inl ⟨rfl, rfl, rfl, rfl⟩)) ?_ | with_reducible refine zad (M.out _ _ _ _ (.inr ⟨rfl, rfl, rfl, rfl⟩)) ?_)
     refine bodyPost_ret (zaz rfl _ _ kk 50 #[.slice none 0 0, .int .i64 0, .slice none 0 0, .int .i64 0, .int .i64 0] (0, 0) _ (.int .i64 0) zr zr (A.out.1.put _ _ _ _ _) Tryz.underlying50 rfl zal) rfl ?_
     have hf := zaq u4 kk (.slice none 0 0) (.int .i64 0) (.slice none 0 0) (.int .i64 0) (.int .i64 0)
     refine RdTo.no ?_ L.out
     rw [C]
     exact A.out.2.2.2.1.trans (hf.below A.out.2.2.2.2 (fun j hj e => zq))
  ·have L := zaa (no_tail O.out A4.out Q.out (by rw [HL.out, E.out]; exact V.out) (by rw [E.out]; exact K))
   obtain ⟨⟨r1, r2, r3⟩, hr⟩ : ∃ r, rUx l (t2 : Int) = r := ⟨_, rfl⟩
   rw [hr] at H3 K
   simp only at H3 K
   have L1 : (r3 != 0) = true := by simpa using K
   clear hr e0 e1 e2 e3 e4 k0 k1 k2 k3 k4 K
   go_wp2_with (go_at_call 100; with_reducible refine zad H3.out ?_)
   refine bodyPost_ret (zaz rfl _ _ kk 50 #[.slice none 0 0, .int .i64 0, .slice none 0 0, .int .i64 0, .int .i64 0] (0, 0) _ (.int .i64 0) zr zr (A.out.1.put _ _ _ _ _) Tryz.underlying50 rfl zal) rfl ?_
   have hf := zaq u4 kk (.slice none 0 0) (.int .i64 0) (.slice none 0 0) (.int .i64 0) (.int .i64 0)
   refine RdTo.no ?_ L.out
   rw [C]
   exact A.out.2.2.2.1.trans (hf.below A.out.2.2.2.2 (fun j hj e => zq))
end Go.Proofs.YtbkhjeacmmbabaaGreatDoor
