import Derived.Test.YtbkhjeacmmbabaaGreatDoorJ34
namespace Go.Proofs.YtbkhjeacmmbabaaGreatDoor
set_option maxRecDepth 100000
set_option maxHeartbeats 4000000
open Go.RowKit
def ReadQ7 (l : List Int) (w : World) (e : Ending) (w' : World) : Prop :=
 ∃ po, e = .returned (.pointer po) ∧ Hid (Below w.heap.size w w') ∧ Hid ((po = none ∧ readQ l = none) ∨ ∃ a qo qn qc vb vs P cs, po = some ⟨a, 0, none⟩ ∧ readQ l = some (P, cs) ∧ (∃ gp, qo = some ⟨gp, 0, none⟩ ∧ w.heap.size ≤ gp) ∧ PO w' w.heap.size a (l.getD 0 0) l.length qo qn qc vb vs 0 P (qbd P.length (whl (l.getD 0 0)) cs) (qst P.length (whl (l.getD 0 0)) 0 cs))
theorem ReadQ7.no {l : List Int} {w w' : World} (hb : Below w.heap.size w w') (h : readQ l = none) : ReadQ7 l w (.returned (.pointer none)) w' := ⟨none, rfl, zaa hb, zaa (.inl ⟨rfl, h⟩)⟩
theorem readQ_tail7 (ao : Option Addr) (n cap : Nat) (l : List Int) (w : World) (hs : Sl w ao n cap l) (hn : pw n) (hk : isKd (l.getD 0 0)) :
  Calls Tryz.prog 91 #[.slice ao n cap] w fun e w' => ReadQ7 l w e w' := by
 have R := zas hn
 have D8 := R.1
 have D9 := R.2
 have I := hs.hlen
 have D4 := hs.hcap
 obtain ⟨b, off, rfl, A1, hc⟩ : ∃ b off, ao = some ⟨b, off, none⟩ ∧ b < w.heap.size ∧ ∀ i, i < n → w.cell? ⟨b, off + i, none⟩ = some (.int .u8 (l.getD i 0)) := by
  rcases hs.hat with h | h
  ·omega
  ·exact h
 have c0 := hc 0 zq
 rw [Nat.add_zero] at c0
 have B : Hid (∀ u, Below w.heap.size w u → u.cell? ⟨b, off, none⟩ = some (.int .u8 (l.getD 0 0))) := zaa fun u hu => (hu.cell (p := ⟨b, off, none⟩) A1).trans c0
 have M := hs.wf.getD 0
 have hN := zbk l hs.wf 2 2
 have A2 := zbk l hs.wf 4 2
 obtain ⟨N, O⟩ := Int.eq_ofNat_of_zero_le hN.1
 obtain ⟨G, Q⟩ := Int.eq_ofNat_of_zero_le A2.1
 obtain ⟨E, B5⟩ : ∃ E, n - 4 = E := ⟨_, rfl⟩
 have B6 : (n : Int) - 4 = (E : Int) := zq
 obtain ⟨SL, E0⟩ : ∃ SL, 6 + G = SL := ⟨_, rfl⟩
 have D5 : 6 + (G : Int) = (SL : Int) := zq
 obtain ⟨F, hF⟩ : ∃ F, SL + N * 2 = F := ⟨_, rfl⟩
 have E1 : (SL : Int) + (N : Int) * 2 = (F : Int) := zq
 have HE : Hid (readQ l = (if (E : Int) < (F : Int) then none else (zay (l.getD 0 0) n ((l.drop 6).take G) N (whl (l.getD 0 0)) none ((l.drop F).take (E - F))).map fun x => ((l.drop 6).take G, x.1))) := by
  refine zaa ?_
  have e1 : frsQ l = (F : Int) := by unfold frsQ; rw [O, Q]; omega
  unfold readQ
  rw [I, if_pos ⟨hn, hk⟩, e1, B6, O, Q, Int.toNat_natCast, Int.toNat_natCast, Int.toNat_natCast, B5]
 have E2 : N < 65536 := zq
 have E3 : G < 65536 := zq
 have A3 : Hid (Calls Tryz.prog 131 #[.slice (some ⟨b, off, none⟩) n cap, .int .i64 2] w fun e u' => e = .returned (.int .i64 (N : Int)) ∧ Hid (Below w.heap.size w u')) := by
  have := shortAtq_any w (some ⟨b, off, none⟩) n cap 2 l hs zq
  rw [O] at this
  refine zaa ((show Calls Tryz.prog 131 #[.slice (some ⟨b, off, none⟩) n cap, .int .i64 2] w _ from this).mono ?_)
  rintro e u' ⟨rfl, q, rfl⟩
  exact ⟨rfl, zaa (zac Br _)⟩
 have A4 : Hid (∀ u, Below w.heap.size w u → Calls Tryz.prog 131 #[.slice (some ⟨b, off, none⟩) n cap, .int .i64 4] u fun e u' => e = .returned (.int .i64 (G : Int)) ∧ Hid (Below w.heap.size w u')) := by
  refine zaa fun u hu => ?_
  have := shortAtq_any u (some ⟨b, off, none⟩) n cap 4 l (hs.on Lr hu) zq
  rw [Q] at this
  refine (show Calls Tryz.prog 131 #[.slice (some ⟨b, off, none⟩) n cap, .int .i64 4] u _ from this).mono ?_
  rintro e u' ⟨rfl, q, rfl⟩
  exact ⟨rfl, zaa (zac hu _)⟩
 obtain ⟨k0, J⟩ : ∃ k0, l.getD 0 0 = k0 := ⟨_, rfl⟩
 rw [J] at c0 M hk HE B
 have d1 : decide (pw (n : Int)) = true := decide_eq_true hn
 have d2 : decide (isKd k0) = true := decide_eq_true hk
 have E4 : IntKind.i64.wrap k0 = k0 := by rw [IntKind.wrap_i64]; omega
 have B7 := zaa hn
 have B8 := zaa J
 have L := zaa I
 have HS := zaa hs
 have bN : (N : Int) < 65536 := zq
 have bG : (G : Int) < 65536 := zq
 have bE : (E : Int) ≤ 65536 := zq
 have bS : (SL : Int) ≤ 131072 := zq
 have bF : (F : Int) ≤ 262144 := zq
 have k01 := M.1
 have k02 := M.2
 have E5 : (0 : Int) < (n : Int) := zq
 clear hs hc hk hn O Q hN A2 J I M R A1
 go_enter Tryz.func91, Tryz.ntmps91
 go_wp2_with (first | (go_at_call 31; refine zad (zbp _ _) ?_; rw [d1]) | (go_at_call 78; refine zad (zcc _ _) ?_; rw [d2]) | (go_at_call 131; refine A3.out.mono ?_; rintro e u1 ⟨rfl, A5⟩; refine Hid.out ?_))
 apply zaa
 have Y := zaa (A4.out u1 A5.out)
 clear A3 A4 c0
 go_wp2_with (go_at_call 131; refine Y.out.mono ?_; rintro e u2 ⟨rfl, A⟩; refine Hid.out ?_)
 apply zaa
 clear Y A5
 by_cases h1 : (E : Int) < (F : Int)
 ·have B9 : Hid (readQ l = none) := zaa (by rw [HE.out, if_pos h1])
  go_wp2
  go_ret
  exact ReadQ7.no A.out B9.out
 ·obtain ⟨bn, C0⟩ : ∃ bn, E - F = bn := ⟨_, rfl⟩
  obtain ⟨BD, D⟩ : ∃ BD, (l.drop F).take (E - F) = BD := ⟨_, rfl⟩
  obtain ⟨P, hP⟩ : ∃ P, (l.drop 6).take G = P := ⟨_, rfl⟩
  have A6 : Hid (readQ l = (zay k0 n P N (whl k0) none BD).map fun x => (P, x.1)) := zaa (by rw [HE.out, if_neg h1, D, hP])
  have T : Hid (BD.length = bn) := zaa (by rw [← D, zJ, zK, L.out]; omega)
  have A7 : Hid (P.length = G) := zaa (by rw [← hP, zJ, zK, L.out]; omega)
  have A8 : Hid (Wf BD) := zaa (by rw [← D]; exact (HS.out.wf.drop _).take _)
  have Z : Hid (Wf P) := zaa (by rw [← hP]; exact (HS.out.wf.drop _).take _)
  have e0 : F ≤ E := zq
  have e1 : (F : Int) ≤ (E : Int) := zq
  have e2 : E ≤ cap := zq
  have e3 : (E : Int) ≤ (cap : Int) := zq
  have e4 : ¬ cap = F := zq
  have e5 : 6 ≤ SL := zq
  have e6 : (6 : Int) ≤ (SL : Int) := zq
  have e7 : SL ≤ cap := zq
  have e8 : (SL : Int) ≤ (cap : Int) := zq
  have e9 : ¬ cap = 6 := zq
  have eA : SL - 6 = G := zq
  have eB : ¬ cap - 6 = 0 := zq
  have eC : ¬ cap - F = 0 := zq
  have U : Hid (∀ (X : List Int) (o m c : Nat) u, ((X = P ∧ o = off + 6 ∧ m = G ∧ c = cap - 6) ∨ (X = BD ∧ o = off + F ∧ m = bn ∧ c = cap - F)) → Below w.heap.size w u → Calls Tryz.prog 132 #[.slice (some ⟨b, o, none⟩) m c] u fun e u' => ∃ g c', e = .returned (.slice (some ⟨g, 0, none⟩) m c') ∧ u'.cell? ⟨b, off, none⟩ = some (.int .u8 k0) ∧ Hid (Cl1 w u u' X g m c') ∧ Hid (Below w.heap.size w u')) := by
   refine zaa fun X o m c u hX hu => ?_
   have C1 : Sl u (some ⟨b, o, none⟩) m c X := by
    have A9 := HS.out.on Lr hu
    rcases hX with ⟨x1, x2, x3, x4⟩ | ⟨x1, x2, x3, x4⟩
    ·rw [x1, x2, x3, x4, ← hP]
     exact A9.piece 6 G (cap - 6) zq zq
    ·rw [x1, x2, x3, x4, ← D, C0]
     exact A9.piece F bn (cap - F) zq zq
   refine (clone_any _ m c X u C1).mono ?_
   rintro e u' ⟨g, c', rfl, HO, HB⟩
   have hb := zae hu Lr HB.out
   exact ⟨g, c', rfl, B.out u' hb, zaa ⟨HO.out.1.low hu.size, HO.out.2.1, HO.out.2.2, HB.out⟩, zaa hb⟩
  have D7 : 0 < n := zq
  have c0 := B.out u2 A.out
  have B4 : bn ≤ 65536 := zq
  clear D hP HE
  go_upto_region 8 with fail
  go_cut [7] from 35 to 51 (fun v u => ∃ a gp pc gb bc, v = .pointer (some ⟨a, 0, none⟩) ∧ Hid (Rz w u a k0 n gp G pc gb bn bc P BD))
  case first =>
   go_wp2_with fail
   refine wp_region_held_drew (S := (fun u => u.cell? ⟨b, off, none⟩ = some (.int .u8 k0))) (by kernel_rfl) (B.out _ A.out.drew) (fun C => ?_)
   refine zCi 0 ?_
   iterate 9 (refine zTc ?_ rfl ?_ ?_; rotate_left; (· (intro w H; (try dsimp only at H); go_simp; try (with_reducible rfl))); try simp only [Act.put, zA, zB, zC, zD, zE, zF])
   refine zCo ?_
   refine zCi 10 ?_
   iterate 4 (refine zTc ?_ rfl ?_ ?_; rotate_left; (· (intro w H; (try dsimp only at H); go_simp; try (with_reducible rfl))); try simp only [Act.put, zA, zB, zC, zD, zE, zF])
   refine zCo ?_
   refine zY (i := 9) rfl fun K hK => ?_
   ·go_simp
    go_at_call 132
    refine (U.out P (off + 6) G (cap - 6) _ (.inl ⟨rfl, rfl, rfl, rfl⟩) (by first | exact A.out | exact A.out.drew | exact zac A.out _)).mono ?_
    rintro e u3 ⟨g1, c1, rfl, z1, C2, C3⟩
    dsimp only
    refine hK.out _ _ z1 (fun C => ?_)
    clear hK K
    try simp only [Act.put, zA, zB, zC, zD, zE, zF]
    refine zY (i := 14) rfl fun K hK => ?_
    go_simp
    go_at_call 132
    refine (U.out BD (off + F) bn (cap - F) _ (.inr ⟨rfl, rfl, rfl, rfl⟩) C3.out).mono ?_
    rintro e u4 ⟨g2, c2, rfl, z2, C4, C6⟩
    dsimp only
    refine hK.out _ _ z2 (fun C => ?_)
    clear hK K
    try simp only [Act.put, zA, zB, zC, zD, zE, zF]
    refine zT 15 ?_ rfl ?_ ?_
    rotate_left
    ·(intro w H; (try dsimp only at H); go_simp; try (with_reducible rfl))
    try simp only [Act.put, zA, zB, zC, zD, zE, zF]
    refine zY (i := 16) rfl fun K hK => ?_
    go_simp
    refine hK.out _ _ (B.out _ (zab C6.out Lr _)) (fun C => ?_)
    clear hK K
    try simp only [Act.put, zA, zB, zC, zD, zE, zF]
    refine zT 17 ?_ rfl ?_ ?_
    rotate_left
    ·(intro w H; (try dsimp only at H); go_simp; try (with_reducible rfl))
    try simp only [Act.put, zA, zB, zC, zD, zE, zF]
    refine wpAnyH_done (by kernel_rfl) ?_ _
    try go_wp2_with fail
    go_meet
    exact ⟨_, g1, c1, g2, c2, rfl, zaa (Rz.of (by first | exact A.out | exact A.out.drew | exact zac A.out _) C2.out Br C4.out Br)⟩
  obtain ⟨a, gp, pc, gb, bc, rfl, B0⟩ := hcut
  obtain ⟨u5, C7⟩ : ∃ u5, u5 = wc := ⟨_, rfl⟩
  subst C7
  obtain ⟨q1, q2, q3, q4, q5, q6, q7, q8⟩ := B0.out
  have V : Sl u5 (some ⟨gp, 0, none⟩) G pc P := by
   obtain ⟨x1, x2, x3, x4, _⟩ := q2.sl Z.out (by rw [A7.out]; omega)
   injection x3 with i1 i2 i3
   subst i1 i3
   rwa [A7.out] at x4
  have B1 : Sl u5 (some ⟨gb, 0, none⟩) bn bc BD := by
   obtain ⟨x1, x2, x3, x4, _⟩ := q3.sl A8.out (by rw [T.out]; omega)
   injection x3 with i1 i2 i3
   subst i1 i3
   rwa [T.out] at x4
  have C8 := zaa (partedQ_any N u5 a k0 n (some ⟨gp, 0, none⟩) G pc gb bn bc P BD _ q1 V B1 (.inr fun p hp => by injection hp with hp; subst hp; exact q4) q5 B7.out B4 zq zq)
  have C9 := zaa V
  clear c0 U B q1 q2 q3 q4 q5 q6 q7 q8 V B1 A e0 e1 e2 e3 e4 e5 e6 e7 e8 e9 eA eB eC
  go_wp2_with (go_at_call 133; refine C8.out.mono ?_; rintro e u6 ⟨bb, rfl, W, B2⟩; refine Hid.out ?_)
  apply zaa
  obtain ⟨q1, q2, q3, q4, q5, q6, q7, q8⟩ := B0.out
  have A0 : Hid (Below w.heap.size w u6) := zaa (q8.trans (W.out.below q8.size (by intro i hi e; omega)))
  cases bb with
  | true =>
   go_wp2
   go_ret
   rcases B2.out with ⟨_, cs, vs, h3, h4, h5, h6⟩ | ⟨h3, _⟩
   ·refine ⟨some ⟨a, 0, none⟩, rfl, A0, zaa (.inr ⟨a, some ⟨gp, 0, none⟩, G, pc, .slice (some ⟨gb, 0, none⟩) (qbd P.length (whl k0) cs).length bc, vs, P, cs, rfl, by rw [A6.out, h3]; rfl, ⟨gp, rfl, (q2.blk rfl).1⟩, ?_⟩)⟩
    rw [B8.out, L.out]
    have D0 : BD.take (qbd P.length (whl k0) cs).length = qbd P.length (whl k0) cs := by
     have := (partQ_inv P Z.out _ _ _ _ _ _ A8.out h3).2.1
     conv => lhs; rw [this]
     exact List.take_left
    have D3 : OwnB u6 w.heap.size (.slice (some ⟨gb, 0, none⟩) bn bc) BD := q3.same fun i e => by
     have ei : gb = i := by injection e
     subst ei
     exact W.out.block gb (by have := zaf q1; omega) zq
    have B3 := D3.take (qbd P.length (whl k0) cs).length (by rw [← T.out]; exact h4)
    rw [D0] at B3
    refine ⟨h5, C9.out.cfa W.out (.inr fun p hp => by injection hp with hp; subst hp; exact q4), B3, ?_, .inr fun p hp e => ?_, q7⟩
    ·have h7 := q8.size
     unfold OwnN at h6 ⊢
     rcases h6.2 with h8 | ⟨g, c, cur, e, hg, r⟩
     ·exact ⟨h6.1, .inl h8⟩
     ·exact ⟨h6.1, .inr ⟨g, c, cur, e, zN h7 hg, r⟩⟩
    ·injection hp with hp
     subst hp
     injection e with e
     exact q6 e.symm
   ·cases h3
  | false =>
   go_wp2
   go_ret
   rcases B2.out with ⟨h3, _⟩ | ⟨_, h3⟩
   ·cases h3
   ·exact ReadQ7.no A0.out (by rw [A6.out, h3]; rfl)
theorem readQ_any7 (ao : Option Addr) (n cap : Nat) (l : List Int) (w : World) (hs : Sl w ao n cap l) :
  Calls Tryz.prog 91 #[.slice ao n cap] w fun e w' => ReadQ7 l w e w' := by
 by_cases hn : pw n
 ·by_cases hk : isKd (l.getD 0 0)
  ·exact readQ_tail7 ao n cap l w hs hn hk
  ·have D := zas hn
   have B := hs.hlen
   obtain ⟨b, off, rfl, E, hc⟩ : ∃ b off, ao = some ⟨b, off, none⟩ ∧ b < w.heap.size ∧ ∀ i, i < n → w.cell? ⟨b, off + i, none⟩ = some (.int .u8 (l.getD i 0)) := by
    rcases hs.hat with h | h
    ·omega
    ·exact h
   have c0 := hc 0 zq
   rw [Nat.add_zero] at c0
   have C := hs.wf.getD 0
   have A : Hid (readQ l = none) := zaa (by unfold readQ; rw [if_neg (fun h => hk h.2)])
   have d1 : decide (pw (n : Int)) = true := decide_eq_true hn
   have d2 : decide (isKd (l.getD 0 0)) = false := decide_eq_false hk
   generalize l.getD 0 0 = k0 at *
   have F : IntKind.i64.wrap k0 = k0 := by rw [IntKind.wrap_i64]; omega
   have G : (0 : Int) < (n : Int) := zq
   have k01 := C.1
   have k02 := C.2
   clear hs hc hk hn
   go_enter Tryz.func91, Tryz.ntmps91
   go_wp2_with (first | (go_at_call 31; refine zad (zbp _ _) ?_; rw [d1]) | (go_at_call 78; refine zad (zcc _ _) ?_; rw [d2]))
   go_ret
   exact ReadQ7.no Br A.out
 ·have B := hs.hlen
  have A : Hid (readQ l = none) := zaa (by unfold readQ; rw [B, if_neg (fun h => hn h.1)])
  have d1 : decide (pw (n : Int)) = false := decide_eq_false hn
  clear hs hn
  go_enter Tryz.func91, Tryz.ntmps91
  go_wp2_with (go_at_call 31; refine zad (zbp _ _) ?_; rw [d1])
  go_ret
  exact ReadQ7.no Br A.out
def OpenQ7 (l : List Int) (w : World) (e : Ending) (w' : World) : Prop :=
 ∃ po k, e = .returned (.tuple #[.pointer po, .int .i64 k]) ∧ Hid (Below w.heap.size w w') ∧ Hid ((po = none ∧ k = 60 ∧ ¬ ∃ cs, IsQ (l.getD 0 0) l.length cs l) ∨ ∃ a qo qn qc vb vs cs, po = some ⟨a, 0, none⟩ ∧ k = 0 ∧ IsQ (l.getD 0 0) l.length cs l ∧ (∀ c ∈ cs, c.Wf) ∧ (∃ gp, qo = some ⟨gp, 0, none⟩ ∧ w.heap.size ≤ gp) ∧ PO w' w.heap.size a (l.getD 0 0) l.length qo qn qc vb vs 0 (shP (l.getD 0 0) cs) (qbd (shP (l.getD 0 0) cs).length (whl (l.getD 0 0)) cs) (qst (shP (l.getD 0 0) cs).length (whl (l.getD 0 0)) 0 cs))
theorem openQ_any7 (ao : Option Addr) (n cap : Nat) (l : List Int) (w : World) (hs : Sl w ao n cap l) (ht : Tab w) (h0 : 1 < w.heap.size) :
  Calls Tryz.prog 49 #[.slice ao n cap] w fun e w' => OpenQ7 l w e w' := by
 have HR := zaa (readQ_any7 ao n cap l w hs)
 have HS := zaa hs
 have HT := zaa ht
 clear hs ht
 go_enter Tryz.func49, Tryz.ntmps49
 go_wp2_with (go_at_call 91; refine HR.out.mono ?_; rintro e w1 ⟨po, rfl, A, HQ⟩; refine Hid.out ?_)
 apply zaa
 clear HR
 rcases HQ.out with ⟨rfl, N⟩ | ⟨a, qo, qn, qc, vb, vs, P, cs, rfl, H, O, B⟩
 ·have I : Hid (¬ ∃ cs, IsQ (l.getD 0 0) l.length cs l) := zaa (by
   rintro ⟨cs, h⟩
   have := (readQ_of h).1
   rw [N] at this
   cases this)
  clear HQ N
  go_wp2
  go_ret2
  exact ⟨none, 60, rfl, A, zaa (.inl ⟨rfl, rfl, I.out⟩)⟩
 ·have J := zaa H
  have W := zaa O
  clear O
  have X := zaa B
  obtain ⟨i1, i2, i3, i4, i5, i6, i7⟩ := readQ_inv HS.out.wf H
  have hf := chk_fit i3 i2
  have K : ∀ c ∈ cs, c.Wf ∧ c.fit := fun c hc => ⟨i5 c hc, hf c hc⟩
  have hz := zbj (l.getD 0 0) P.length cs
  have Y := zas i2
  have D : szQ (l.getD 0 0) (shP (l.getD 0 0) cs).length cs ≤ l.length := zN (szQ_less i6) i4
  have Z := zaa i5
  obtain ⟨bo, bc, so, sc, rfl, rfl, Q⟩ := B.pg (qbd_wf _ _ _ K) zq (by rw [zbi]; omega)
  have F := zaa (bytesQ_any w1 a _ _ qo qn qc bo _ bc so _ sc 0 P _ _ cs Q (layQ_of i6 hf) (chk_rs i3) i1 i2 D (HT.out.on A.out h0) (zO h0 A.out.size))
  have G : Hid ((pkB (l.getD 0 0) l.length cs).length = l.length) := zaa (pkB_length _ _ _ D)
  have E : Hid (Wf (pkB (l.getD 0 0) l.length cs)) := zaa (pkB_wf (by unfold isKd at i1; omega) K)
  have R := HS.out.hroom
  have V := zaa HS.out.hlen
  clear H B HQ i1 i2 i3 i4 i5 i6 i7 hf K hz Y D Q
  obtain ⟨PB, L⟩ : ∃ PB, pkB (l.getD 0 0) l.length cs = PB := ⟨_, rfl⟩
  rw [L] at F G E
  have T := zaa L
  clear L
  rw [V.out] at F G
  cases hd : decide (PB = l) with
  | true =>
   have A0 : Hid (PB = l) := zaa (by simpa using hd)
   go_wp2_with (first | (go_at_call 92; refine F.out.mono ?_; rintro e w2 ⟨g, rfl, M, C⟩) | (go_at_call 80; refine zad (equal7 _ _ _ _ _ _ PB l _ (M.out.2.sl G.out E.out R) (HS.out.on Lr (zae A.out Lr C.out))) ?_; rw [hd]))
   go_ret2
   have U : IsQ (l.getD 0 0) l.length cs l := (isQ_iff HS.out.wf cs).2 ⟨⟨P, J.out⟩, by rw [T.out]; exact A0.out⟩
   have A1 : P = shP (l.getD 0 0) cs := by
    have := (readQ_of U).1
    rw [J.out] at this
    injection this with this
    injection this
   have B := X.out.go C.out
   rw [A1] at B
   refine ⟨some ⟨a, 0, none⟩, 0, rfl, zaa (zae A.out Lr C.out), zaa (.inr ⟨a, qo, qn, qc, _, _, cs, rfl, rfl, U, Z.out, W.out, B⟩)⟩
  | false =>
   have I : Hid (¬ ∃ cs, IsQ (l.getD 0 0) l.length cs l) := zaa (by
    rintro ⟨ds, h⟩
    obtain ⟨⟨P', h1⟩, h2⟩ := (isQ_iff HS.out.wf ds).1 h
    rw [J.out] at h1
    injection h1 with h1
    injection h1 with _ h1
    subst h1
    rw [T.out] at h2
    simp [h2] at hd)
   go_wp2_with (first | (go_at_call 92; refine F.out.mono ?_; rintro e w2 ⟨g, rfl, M, C⟩) | (go_at_call 80; refine zad (equal7 _ _ _ _ _ _ PB l _ (M.out.2.sl G.out E.out R) (HS.out.on Lr (zae A.out Lr C.out))) ?_; rw [hd]))
   go_ret2
   exact ⟨none, 60, rfl, zaa (zae A.out Lr C.out), zaa (.inl ⟨rfl, rfl, I.out⟩)⟩
def KXt (w : World) (lo hi b off : Nat) (c : Cl) : Prop :=
 ∃ a1 c1 g2, w.cell? ⟨b, off, none⟩ = some (.slice a1 c.key.length c1) ∧ w.cell? ⟨b, off + 1, none⟩ = some (.int .i64 c.kd) ∧ w.cell? ⟨b, off + 2, none⟩ = some (.slice (some ⟨g2, 0, none⟩) c.val.length c.val.length) ∧ w.cell? ⟨b, off + 3, none⟩ = some (.int .i64 c.pg) ∧ w.cell? ⟨b, off + 4, none⟩ = some (.int .i64 c.ct) ∧ OwnB w lo (.slice a1 c.key.length c1) c.key ∧ Bk w g2 c.val ∧ (∀ z, (Value.slice a1 c.key.length c1).ownBlock = some z → z < hi) ∧ lo ≤ g2 ∧ g2 < hi ∧ (Value.slice a1 c.key.length c1).ownBlock ≠ some g2
theorem KXt.on {w w' : World} {lo hi b off : Nat} {c : Cl} (h : KXt w lo hi b off c) (hb : b < w.heap.size) (hB : Below w.heap.size w w') : KXt w' lo hi b off c := by
 obtain ⟨a1, c1, g2, h0, h1, h2, h3, h4, h5, h6, h7⟩ := h
 exact ⟨a1, c1, g2, (hB.cell (p := ⟨b, off, none⟩) hb).trans h0, (hB.cell (p := ⟨b, off + 1, none⟩) hb).trans h1, (hB.cell (p := ⟨b, off + 2, none⟩) hb).trans h2, (hB.cell (p := ⟨b, off + 3, none⟩) hb).trans h3, (hB.cell (p := ⟨b, off + 4, none⟩) hb).trans h4, h5.on Lr hB, h6.on hB, h7⟩
theorem KXt.put {w : World} {lo hi b N i j : Nat} {c : Cl} {vs : List Value} (h : KXt w lo hi b (i * 5) c) (hr : RowC w b N) (A : i < j) : KXt (w.setCells b (j * 5) vs) lo hi b (i * 5) c := by
 obtain ⟨a1, c1, g2, h0, h1, h2, h3, h4, h5, h6, h7⟩ := h
 have ho : ∀ d, d < 5 → (w.setCells b (j * 5) vs).cell? ⟨b, i * 5 + d, none⟩ = w.cell? ⟨b, i * 5 + d, none⟩ := fun d hd => World.cell?_setCells_out b _ _ w _ (fun _ _ => .inl (by simp only; omega))
 exact ⟨a1, c1, g2, (ho 0 zq).trans h0, (ho 1 zq).trans h1, (ho 2 zq).trans h2, (ho 3 zq).trans h3, (ho 4 zq).trans h4, h5.sets hr, h6.sets (hr.ne h6), h7⟩
theorem KXt.new {w : World} {lo hi b N j : Nat} {c : Cl} {a1 : Option Addr} {c1 g2 : Nat} (hr : RowC w b N) (hj : j * 5 + 5 ≤ 5 * N) (h1 : OwnB w lo (.slice a1 c.key.length c1) c.key) (hz : ∀ z, (Value.slice a1 c.key.length c1).ownBlock = some z → z < hi) (h2 : Bk w g2 c.val) (h3 : lo ≤ g2) (h5 : g2 < hi) (h4 : (Value.slice a1 c.key.length c1).ownBlock ≠ some g2) :
  KXt (w.setCells b (j * 5) [.slice a1 c.key.length c1, .int .i64 c.kd, .slice (some ⟨g2, 0, none⟩) c.val.length c.val.length, .int .i64 c.pg, .int .i64 c.ct]) lo hi b (j * 5) c := by
 have h := World.rangeAt_setCells_same w b (j * 5) [.slice a1 c.key.length c1, .int .i64 c.kd, .slice (some ⟨g2, 0, none⟩) c.val.length c.val.length, .int .i64 c.pg, .int .i64 c.ct] (hr.there hj)
 exact ⟨a1, c1, g2, h 0 _ rfl, h 1 _ rfl, h 2 _ rfl, h 3 _ rfl, h 4 _ rfl, h1.sets hr, h2.sets (hr.ne h2), hz, h3, h5, h4⟩
theorem sets_size7 : ∀ (vs : List Value) (w : World) (b j : Nat), (w.setCells b j vs).heap.size = w.heap.size
 | [], _, _, _ => rfl
 | v :: r, w, b, j => (sets_size7 r (w.setCell ⟨b, j, none⟩ v) b (j + 1)).trans zv
def DecQo (l : List Int) (w : World) (e : Ending) (w' : World) : Prop :=
 ∃ k ao n cap c, e = .returned (.tuple #[.int .i64 k, .slice ao n cap, .int .i64 c]) ∧ Hid (Below w.heap.size w w') ∧
  Hid ((c = 60 ∧ k = 0 ∧ ao = none ∧ n = 0 ∧ cap = 0 ∧ ¬ ∃ cs, IsQ (l.getD 0 0) l.length cs l) ∨
   ∃ (cs : List Cl) (g : Nat) (P : Nat → Nat), c = 0 ∧ k = l.getD 0 0 ∧ ao = some ⟨g, 0, none⟩ ∧ n = cs.length ∧ cap = cs.length ∧ IsQ (l.getD 0 0) l.length cs l ∧ (∀ d ∈ cs, d.Wf) ∧ w.heap.size ≤ g ∧ RowC w' g cs.length ∧ (w.heap.size ≤ P 0 ∧ (∀ i, i < cs.length → P i ≤ P (i + 1)) ∧ P cs.length ≤ w'.heap.size) ∧ ∀ i d, cs[i]? = some d → KXt w' (P i) (P (i + 1)) g (i * 5) d)
theorem decodeQ_own (ao : Option Addr) (n cap : Nat) (l : List Int) (w : World) (hs : Sl w ao n cap l) (ht : Tab w) (h0 : 1 < w.heap.size) :
  Calls Tryz.prog 44 #[.slice ao n cap] w fun e w' => DecQo l w e w' := by
 obtain ⟨ic, A8, A9, B0, B1⟩ := info_parts infoC
 have HO := zaa (openQ_any7 ao n cap l w hs ht h0)
 have C9 := zaa hs.hlen
 clear hs ht
 go_enter Tryz.func44, Tryz.ntmps44
 go_wp2_with (go_at_call 49; refine HO.out.mono ?_; rintro e w1 ⟨po, ec, rfl, D, HQ⟩; refine Hid.out ?_)
 apply zaa
 clear HO
 rcases HQ.out with ⟨rfl, rfl, R⟩ | ⟨a, qo, qn, qc, vb, vs, cs, rfl, rfl, C, J, _, T⟩
 ·have B2 := zaa R
  clear HQ R
  go_wp2
  go_ret3
  exact ⟨0, none, 0, 0, 60, rfl, D, zaa (.inl ⟨rfl, rfl, rfl, rfl, rfl, B2.out⟩)⟩
 ·have B3 := zaa C
  have B4 := zaa J
  have hf := chk_fit C.ok C.sz
  have A5 := zaa hf
  have hz := zbj (l.getD 0 0) (shP (l.getD 0 0) cs).length cs
  have A6 := C.fit
  have B5 := zas C.sz
  obtain ⟨bo, bc, so, sc, rfl, rfl, E⟩ := T.pg (qbd_wf _ _ _ fun c hc => ⟨J c hc, hf c hc⟩) zq (by rw [zbi]; omega)
  have A7 := zaa (layQ_of (zby (l.getD 0 0) cs) hf)
  obtain ⟨sn, K⟩ : ∃ sn, (qst (shP (l.getD 0 0) cs).length (whl (l.getD 0 0)) 0 cs).length = sn := ⟨_, rfl⟩
  rw [K] at E
  have B6 := zaa E
  have A : Hid (sn = cs.length) := zaa (by rw [← K, zbi])
  have D3 : sn ≤ 65536 := by rw [A.out]; omega
  have HL := zaa (zcr w1 a _ _ qo qn qc bo _ bc so sn sc 0 _ _ _ E)
  obtain ⟨c0, c1, c2, c3, c4, c5⟩ := E.cells
  clear E T C J HQ K hz A6 B5 hf
  go_wp2_with (first
   | (go_at_call 88; refine zad HL.out ?_)
   | (at_make; refine wpList_make_full _ rfl _ _ 29 rfl w.heap.size 50 ic _ 5 Tryz.underlying29 A8 A9 B0 .i64 .i64 sn sn sn rfl rfl rfl rfl (by rw [B1]; omega) zml D.out.size ?_; refine Hid.out ?_))
  apply zaa
  intro w2 U V
  have L : Below w1.heap.size w1 w2 := Br.grown V Lr (fun k hk => by cases hk)
  obtain ⟨g, hg⟩ : ∃ g, w1.heap.size = g := ⟨_, rfl⟩
  have W : Hid (RowC w2 g sn) := by
   rcases U.2 with ⟨h, _⟩ | ⟨q, c, cur, h, _, hh, _, _, B7, _⟩
   ·cases h
   ·cases h
    rw [← hg]
    exact zaa ⟨cur, hh, by rw [B7]; omega⟩
  have B8 := zaa L
  have B9 : Hid (w.heap.size ≤ g) := zaa (by rw [← hg]; exact D.out.size)
  have X : Below g w1 w2 := by rw [← hg]; exact L
  have Y := zaa X
  have C0 := zaa hg
  rw [hg]
  clear U V L HL c0 c1 c2 c3 c4 c5 X
  go_wp2_with fail
  go_loopw [22] (fun i wr => ∃ (j : Nat) (P : Nat → Nat), j ≤ sn ∧ i = .int .i64 j ∧ Hid (RowC wr g sn) ∧ Hid (Below g w1 wr) ∧ Hid (∀ i d, i < j → cs[i]? = some d → KXt wr (P i) (P (i + 1)) g (i * 5) d) ∧ Hid (w.heap.size ≤ P 0 ∧ (∀ i, i < j → P i ≤ P (i + 1)) ∧ P j ≤ wr.heap.size)) (fun i _ => sn - (intOf i).toNat)
  case atStart => exact ⟨0, fun _ => w.heap.size, zq, rfl, W, Y, zaa fun i d hi => zq, zaa ⟨Lr, fun i hi => zq, zN D.out.size B8.out.size⟩⟩
  case round =>
   obtain ⟨j, P, hj, rfl, HR, HG, HD, HP⟩ := hrel
   have Z : Hid (Below w1.heap.size w1 wr) := zaa (by rw [C0.out]; exact HG.out)
   have F := zaa (B6.out.on Z.out)
   have bj : (j : Int) ≤ 65536 := zq
   clear W Y
   by_cases C1 : j < sn
   ·have D0 : (j : Int) < (sn : Int) := zq
    have A0 : j < cs.length := by rw [← A.out]; exact C1
    obtain ⟨d, hd⟩ : ∃ d, cs[j]? = some d := ⟨_, zI A0⟩
    have C2 := zaa hd
    have HV := zaa (pentry_any wr a _ _ qo qn qc bo _ bc so sn sc 0 _ _ _ cs F.out A7.out j d hd wr.heap.size F.out.pre.lo F.out.body.lo)
    have M := A5.out d (List.mem_of_getElem? hd)
    have D4 := M.key
    have D5 := M.val
    clear hd A0 M
    go_wp2_with (go_at_call 89; refine HV.out.mono ?_; rintro e u1 ⟨ho, hn, hc, ko, kn, kc, vo, vn, vc, h, key, rfl, HQ, N⟩; refine Hid.out ?_)
    apply zaa
    obtain ⟨q1, q2, q3, q4, _⟩ := HQ.out
    have A1 : hn + kn = d.key.length := by rw [← q4, zG, q1.hlen, q2.hlen]
    have A2 : vn = d.val.length := q3.hlen.symm
    have C3 := zaa A2
    have HC := zaa (ecopied_any ho hn hc ko kn kc d.kd vo vn vc d.pg d.ct h key d.val d.key.length u1 q1 q2 q3 A1 zq)
    rw [q4] at HC
    clear q1 q2 q3 q4 A1 A2 HV HQ
    go_wp2_with (go_at_call 90; refine HC.out.mono ?_; rintro e u2 ⟨a1, k1, g2, rfl, B, A3⟩; refine Hid.out ?_)
    apply zaa
    have G : Hid (Below wr.heap.size wr u2) := zaa (zae N.out Lr A3.out)
    have H : Hid (RowC u2 g sn) := zaa (HR.out.on G.out)
    have A4 : Hid (Below g w1 u2) := zaa (HG.out.trans (G.out.mono (Nat.le_of_lt HR.out.lt)))
    have D7 : wr.heap.size ≤ u1.heap.size := N.out.size
    have Q : Hid (wr.heap.size ≤ u2.heap.size) := zaa G.out.size
    clear HC
    go_wp2_with (refine put_cell zr _ _ zr g (j * 5) sn a1 (some ⟨g2, 0, none⟩) d.key.length k1 vn vn d.kd d.pg d.ct H.out zr zr zq ?_; intro u3 I; refine Hid.out ?_)
    apply zaa
    have C4 : Hid (RowC u3 g sn) := zaa (by rw [I.out]; exact RowC.sets _ _ _ H.out)
    have C6 : Hid (Below g w1 u3) := zaa (by
     rw [I.out]
     simp only [World.setCells]
     refine ((((A4.out.setCell ?_ _).setCell ?_ _).setCell ?_ _).setCell ?_ _).setCell ?_ _ <;> simp)
    obtain ⟨P3, O⟩ : ∃ P3 : Nat → Nat, P3 = fun i => if i ≤ j then P i else u2.heap.size := ⟨_, rfl⟩
    have C7 : Hid (w.heap.size ≤ P3 0 ∧ (∀ i, i < j + 1 → P3 i ≤ P3 (i + 1)) ∧ P3 (j + 1) ≤ u3.heap.size) := zaa (by
     obtain ⟨q1, q2, q3⟩ := HP.out
     have q4 := Q.out
     rw [O]
     refine ⟨by simpa using q1, fun i hi => ?_, ?_⟩
     ·by_cases e : i = j
      ·simp only [e, Nat.le_refl, if_true, show ¬ j + 1 ≤ j by omega, if_false]
       omega
      ·simp only [show i ≤ j by omega, show i + 1 ≤ j by omega, if_true]
       exact q2 i zq
     ·simp only [show ¬ j + 1 ≤ j by omega, if_false]
      rw [I.out, sets_size7]
      exact Lr)
    have C8 : Hid (∀ i d, i < j + 1 → cs[i]? = some d → KXt u3 (P3 i) (P3 (i + 1)) g (i * 5) d) := by
     refine zaa fun i d' hi hd' => ?_
     rw [I.out, O]
     by_cases e : i = j
     ·subst e
      rw [C2.out] at hd'
      injection hd' with hd'
      subst hd'
      simp only [Nat.le_refl, if_true, show ¬ i + 1 ≤ i by omega, if_false]
      have hp := HP.out.2.2
      have := KXt.new (lo := P i) (hi := u2.heap.size) (c := d) (j := i) H.out zq (B.out.1.low zq) (fun z hz => (World.ownsRow.lt B.out.1 z hz).2) B.out.2.1 (by have := B.out.2.2.1; omega) (zaf B.out.2.1) B.out.2.2.2
      rw [← C3.out] at this
      exact this
     ·simp only [show i ≤ j by omega, show i + 1 ≤ j by omega, if_true]
      exact ((HD.out i d' zq hd').on HR.out.lt G.out).put H.out zq
    clear O
    clear I H A4 HR HG HD B N A3 G F HP Q
    go_wp2
    go_roundw
    case rel => exact ⟨j + 1, P3, zq, by go_num, C4, C6, C8, C7⟩
    case measure => simp [intOf]; omega
   ·obtain rfl : j = sn := zq
    have D8 : ¬ (j : Int) < (j : Int) := zq
    obtain ⟨c0, c1, c2, c3, c4, c5⟩ := F.out.cells
    go_wp2
    go_ret3
    refine ⟨l.getD 0 0, some ⟨g, 0, none⟩, j, j, 0, rfl, zaa (zae D.out Lr Z.out), zaa (.inr ⟨cs, g, P, rfl, rfl, rfl, A.out, A.out, B3.out, B4.out, B9.out, ?_, ?_, ?_⟩)⟩
    ·rw [← A.out]; exact HR.out
    ·rw [← A.out]; exact HP.out
    ·intro i d hd
     refine HD.out i d ?_ hd
     have := (zH.1 hd).1
     rw [A.out]
     exact this
end Go.Proofs.YtbkhjeacmmbabaaGreatDoor
