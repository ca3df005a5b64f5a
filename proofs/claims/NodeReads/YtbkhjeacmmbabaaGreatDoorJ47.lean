import Derived.Test.YtbkhjeacmmbabaaGreatDoorJ20
namespace Go.Proofs.YtbkhjeacmmbabaaGreatDoor
set_option maxRecDepth 100000
open Go.RowKit
set_option maxHeartbeats 8000000 in
theorem replace_eq (w : World) (B a : Nat) (k : Int) (n : Nat) (vb vs : Value) (cs : List Cl) (i j : Nat) (co : Option Addr) (cn cc : Nat) (ns : List Cl) (hp : Po w B a k n vb vs cs) (A5 : i ≤ j) (A4 : i = j) (hj : j ≤ cs.length) (hs : SlC w co cn cc ns) (hf : ∀ c ∈ ns, c.fit) (hz : szN cs ≤ 65536) (N6 : szN ns ≤ 65536) (hm : i < j ∨ 0 < cn) (hB : B ≤ w.heap.size) :
  Calls Tryz.prog 73 #[.pointer (some ⟨a, 0, none⟩), .int .i64 (i : Int), .int .i64 (j : Int), .slice co cn cc] w fun e w' => e = .returned (.tuple #[]) ∧ Hid (∃ vb' vs', Po w' B a k n vb' vs' (cs.take i ++ ns ++ cs.drop j) ∧ (vb'.ownBlock = vb.ownBlock ∨ ∃ g, vb'.ownBlock = some g ∧ w.heap.size ≤ g) ∧ (vs'.ownBlock = vs.ownBlock ∨ ∃ g, vs'.ownBlock = some g ∧ w.heap.size ≤ g)) ∧ Hid (Cf (PZ a vb vs) w w') := by
 have D8 := zaw cs
 have L6 := zaw ns
 have G2 := hs.hlen
 have N7 : cn ≤ 65536 := zq
 have N8 : cs.length ≤ 65536 := zq
 have N9 : (i : Int) ≤ 65536 := zq
 have O0 : (j : Int) ≤ 65536 := zq
 have B4 := zaa (start_any w B a k n vb vs cs hp hz i zq)
 have B5 := zaa (start_any w B a k n vb vs cs hp hz j hj)
 obtain ⟨F, hF⟩ : ∃ F, (bdy (cs.take i)).length = F := ⟨_, rfl⟩
 obtain ⟨T, hT⟩ : ∃ T, (bdy (cs.take j)).length = T := ⟨_, rfl⟩
 have K4 : Hid (F = T) := zaa (by rw [← hF, ← hT, A4])
 have H2 := zaa A4
 clear A4
 rw [hF] at B4
 rw [hT] at B5
 have M4 : F ≤ 65536 := by rw [← hF]; have := zce cs i; omega
 have M5 : T ≤ 65536 := by rw [← hT]; have := zce cs j; omega
 have L7 : F ≤ T := by
  rw [← hF, ← hT]
  have := zce (cs.take j) i
  rwa [List.take_take, Nat.min_eq_left A5] at this
 have O1 : (F : Int) ≤ 65536 := zq
 have O2 : (T : Int) ≤ 65536 := zq
 have H5 : Hid (∀ x y : Nat, (x = i ∧ y = F) ∨ (x = j ∧ y = T) → Calls Tryz.prog 112 #[.pointer (some ⟨a, 0, none⟩), .int .i64 (x : Int)] w fun e w' => e = .returned (.int .i64 (y : Int)) ∧ w' = w) := zaa (by
  rintro x y (⟨rfl, rfl⟩ | ⟨rfl, rfl⟩)
  ·exact B4.out
  ·exact B5.out)
 clear B4 B5
 have C2 := zaa hF
 have C3 := zaa hT
 have HP := zaa hp
 have HS := zaa hs
 have K5 := zaa hf
 have D9 : Hid ((bdy ns).length ≤ 65536) := zaa zq
 have B6 := zaa G2
 obtain ⟨B0, H6⟩ : ∃ B0, w.heap.size = B0 := ⟨_, rfl⟩
 have HB := zaa H6
 have H7 := zaa hB
 clear hp hs hf G2 hF hT H6 hB D8 L6
 go_enter Tryz.func73, Tryz.ntmps73
 go_wp2_with (go_at_call 112; refine zad (H5.out _ _ (by first | exact .inl ⟨rfl, rfl⟩ | exact .inr ⟨rfl, rfl⟩)) ?_)
 go_loopw [10, 11, 24] (fun vb vs ix wr => ∃ (q : Nat) (bo : Option Addr) (bn bc : Nat) (so : Option Addr) (sn sc : Nat), q ≤ cn ∧ ix = .int .i64 q ∧ vb = .slice bo bn bc ∧ vs = .slice so sn sc ∧ Hid (OwnB wr B0 (.slice bo bn bc) (bdy (ns.take q))) ∧ Hid (OwnN wr B0 (.slice so sn sc) (sts F (ns.take q))) ∧ Hid (Below B0 w wr)) (fun _ _ ix _ => cn - (intOf ix).toNat)
 case atStart => exact ⟨0, none, 0, 0, none, 0, 0, zq, rfl, rfl, rfl, zaa (by simpa [bdy] using OwnB.nil w B0), zaa (by simpa [sts] using OwnN.nil w B0), zaa Br⟩
 case round =>
  obtain ⟨q, bo, bn, bc, so, sn, sc, hq, rfl, rfl, rfl, L, W, C4⟩ := hrel
  clear H5
  have bj : (q : Int) ≤ 65536 := zq
  by_cases N : q < cn
  ·have G3 : (q : Int) < (cn : Int) := zq
   obtain ⟨b, off, c, ka, kc, va, vc, rfl, hb, E0, c0, c1, c2, c3, c4, hk, hv⟩ := HS.out.item q N
   have A := C4.out
   rw [← HB.out] at A
   have d0 := (A.cell (p := ⟨b, off + q * 5, none⟩) hb).trans c0
   have d1 := (A.cell (p := ⟨b, off + q * 5 + 1, none⟩) hb).trans c1
   have d2 := (A.cell (p := ⟨b, off + q * 5 + 2, none⟩) hb).trans c2
   have d3 := (A.cell (p := ⟨b, off + q * 5 + 3, none⟩) hb).trans c3
   have d4 := (A.cell (p := ⟨b, off + q * 5 + 4, none⟩) hb).trans c4
   have HK := zaa hk
   have HV := zaa hv
   have H8 := K5.out c (List.mem_of_getElem? E0)
   have C6 := zaa H8
   have H9 : Hid (bdy (ns.take (q + 1)) = bdy (ns.take q) ++ cB c ∧ sts F (ns.take (q + 1)) = sts F (ns.take q) ++ [F + bn]) := by
    have e : ns.take (q + 1) = ns.take q ++ [c] := by rw [List.take_add_one, E0]; rfl
    have L8 : bn = (bdy (ns.take q)).length := by
     obtain ⟨x, y, O⟩ := L.out.slice
     injection O
    refine zaa ⟨by rw [e, zbe]; simp [bdy], ?_⟩
    rw [e, zdd, L8]
    rfl
   have G4 := zce ns q
   have M6 : bn ≤ 65536 := by
    obtain ⟨x, y, O⟩ := L.out.slice
    injection O with _ h2
    have := D9.out
    omega
   have bbn : (bn : Int) ≤ 65536 := zq
   have O3 : (F : Int) ≤ 65536 := zq
   have K6 : Hid ((bdy (ns.take q)).length ≤ 65536) := zaa (zN G4 D9.out)
   have G5 : Hid ((sts F (ns.take q)).length + 1 ≤ 1000000) := zaa (by rw [zak, zJ]; omega)
   obtain ⟨x, hx⟩ : ∃ x, (wr.alloc (.cells #[.slice ka c.key.length kc, .int .i64 c.kd, .slice va c.val.length vc, .int .i64 c.pg, .int .i64 c.ct] 50)).alloc (.cells #[.int .i64 ((F : Int) + (bn : Int))] 3) = x := ⟨_, rfl⟩
   have A6 : Below wr.heap.size wr x := by rw [← hx]; exact zab (zab Br Lr _) Lr _
   obtain ⟨s, E1⟩ : ∃ s, wr.heap.size = s := ⟨_, rfl⟩
   have B7 : Hid (C5 x s (.slice ka c.key.length kc) (.int .i64 c.kd) (.slice va c.val.length vc) (.int .i64 c.pg) (.int .i64 c.ct)) := by
    rw [← hx, ← E1]
    exact zaa ((Below.heap_alloc _ _ _ zv).trans (heap_alloc_last wr _))
   have H1 : Hid (∀ i, i < 1 → x.cell? ⟨s + 1, 0 + i, none⟩ = some (.int .i64 (([F + bn].getD i 0 : Nat) : Int))) := by
    rw [← hx, ← E1]
    refine zaa fun i hi => ?_
    obtain rfl : i = 0 := zq
    simp
   have U := zaa (W.out.below A6)
   have B8 : Hid (OwnB x B0 (.slice bo bn bc) (bdy (ns.take q))) := zaa (L.out.on Lr A6)
   have E2 : B0 ≤ x.heap.size := zN (by rw [← HB.out]; exact A.size) A6.size
   have I0 : Hid (Below B0 w x) := zaa (C4.out.trans (A6.mono (by rw [← HB.out]; exact A.size)))
   clear hb E0 c0 c1 c2 c3 c4 hk hv H8 G4 A6 A L W C4
   go_wp2_with (at_builtin; refine app_slN _ rfl _ _ rfl B0 (sts F (ns.take q)) [F + bn] (.slice so sn sc) (s + 1) 0 1 1 rfl rfl U.out rfl H1.out G5.out E2 ?_; refine Hid.out ?_)
   apply zaa
   intro v2 w2 C7 g2
   obtain ⟨so2, sc2, rfl, _⟩ := C7.sln (by rw [zG]; have := G5.out; simp; omega)
   obtain ⟨sn2, G6⟩ : ∃ sn2, (sts F (ns.take q) ++ [F + bn]).length = sn2 := ⟨_, rfl⟩
   rw [G6] at C7 g2 ⊢
   have B9 := zaa C7
   have E3 : Hid (Below B0 w w2) := zaa (I0.out.trans (U.out.be g2 E2))
   have E : Hid (OwnB w2 B0 (.slice bo bn bc) (bdy (ns.take q))) := zaa (World.ownsRow.kept B8.out g2.grow (own_bn B8.out U.out))
   have D7 : Hid (C5 w2 s (.slice ka c.key.length kc) (.int .i64 c.kd) (.slice va c.val.length vc) (.int .i64 c.pg) (.int .i64 c.ct)) := zaa (B7.out.gr g2 (U.out.apart B7.out zd))
   have I1 : B0 ≤ w2.heap.size := by have := E3.out.size; have := HB.out; omega
   have C0 : Below w.heap.size w w2 := by rw [HB.out]; exact E3.out
   have I2 : Hid (Sl w2 ka c.key.length kc c.key) := zaa (HK.out.on Lr C0)
   have C8 : Hid (Sl w2 va c.val.length vc c.val) := zaa (HV.out.on Lr C0)
   have E4 : OwnB w2 w.heap.size (.slice bo bn bc) (bdy (ns.take q)) := by rw [HB.out]; exact E.out
   have HT := zaa (appended_any (.slice bo bn bc) B0 (bdy (ns.take q)) ka c.key.length kc c.kd va c.val.length vc c.pg c.ct c.key c.val w2 E.out I1 I2.out C8.out (HK.out.far E4) (HV.out.far E4) C6.out.pg C6.out.ct (by have := K6.out; have := C6.out.key; have := C6.out.val; omega))
   obtain ⟨c0, c1, c2, c3, c4⟩ := D7.out.cells
   clear C7 g2 G6 C0 E4 hx E1 H1 U B8 B7 d0 d1 d2 d3 d4 E2 I0
   go_wp2_with (go_at_call 113; refine HT.out.mono ?_; rintro e w3 ⟨v3, rfl, C9, D0⟩; refine Hid.out ?_)
   apply zaa
   obtain ⟨bo3, bc3, rfl⟩ := C9.out.slice
   obtain ⟨bn3, G7⟩ : ∃ bn3, (bdy (ns.take q) ++ cB ⟨c.key, c.kd, c.val, c.pg, c.ct⟩).length = bn3 := ⟨_, rfl⟩
   rw [G7] at C9 D0 ⊢
   have G8 : Hid (OwnN w3 B0 (.slice so2 sn2 sc2) (sts F (ns.take q) ++ [F + bn])) := zaa (World.ownsRow.kept B9.out D0.out.grow (by
    rcases own_bn E.out B9.out with h | h
    ·cases hv : (Value.slice so2 sn2 sc2).ownBlock with
     | none => exact .inl rfl
     | some q => right; rw [h]; simp
    ·exact .inr (fun e => h e.symm)))
   have A7 : Hid (Below B0 w w3) := zaa (E3.out.trans (D0.out.below E.out I1))
   have K7 : Hid (OwnB w3 B0 (.slice bo3 bn3 bc3) (bdy (ns.take (q + 1)))) := zaa (by rw [H9.out.1]; exact C9.out)
   have K8 : Hid (OwnN w3 B0 (.slice so2 sn2 sc2) (sts F (ns.take (q + 1)))) := zaa (by rw [H9.out.2]; exact G8.out)
   clear HT C9 D0 G7 c0 c1 c2 c3 c4 D7 I2 C8 E B9 G8
   go_wp2
   go_roundw
   case rel => exact ⟨q + 1, bo3, bn3, bc3, so2, sn2, sc2, zq, by go_num, rfl, rfl, K7, K8, A7⟩
   case measure => simp [intOf]; omega
  ·obtain rfl : q = cn := zq
   have O4 : ¬ (q : Int) < (q : Int) := zq
   have I3 : ns.take q = ns := List.take_of_length_le (by rw [B6.out]; exact Lr)
   rw [I3] at L W
   have A : Below w.heap.size w wr := by rw [HB.out]; exact C4.out
   have X := zaa (HP.out.on A)
   obtain ⟨po, pc, I4⟩ := HP.out.body.slice
   obtain ⟨ta, tc, E5⟩ := HP.out.starts.shape
   rw [zak] at E5
   obtain ⟨bl, P⟩ : ∃ bl, (bdy cs).length = bl := ⟨_, rfl⟩
   obtain ⟨sl, Y⟩ : ∃ sl, cs.length = sl := ⟨_, rfl⟩
   rw [P] at I4
   rw [Y] at E5
   subst I4
   subst E5
   have D8 := zaw cs
   have M7 : bl ≤ 65536 := zq
   have M8 : sl ≤ 65536 := zq
   have K9 : T ≤ bl := by rw [← P, ← C3.out]; exact zce cs j
   have V : (bdy ns).length = bn := by
    obtain ⟨x, y, O⟩ := L.out.slice
    injection O with _ h2 _
    exact h2.symm
   have C : ns.length = sn := by
    obtain ⟨x, y, O⟩ := W.out.shape
    injection O with _ h2 _
    rw [h2, zak]
   have G9 : q = sn := by rw [← C, B6.out]
   have M9 : bn ≤ 65536 := by have := D9.out; omega
   have H3 : F < T ∨ 0 < bn := by
    rcases hm with h | h
    ·left
     have e : bdy (cs.take j) = bdy (cs.take i) ++ bdy ((cs.take j).drop i) := by
      rw [← zbe]
      conv => lhs; rw [← List.take_append_drop i (cs.take j), List.take_take, Nat.min_eq_left A5]
     have L9 : 0 < ((cs.take j).drop i).length := by simp; omega
     have N0 := bdy_pos ((cs.take j).drop i) L9
     have := congrArg List.length e
     rw [zG, C3.out, C2.out] at this
     omega
    ·right
     have := bdy_pos ns (by rw [B6.out]; omega)
     omega
   have I5 : Hid (Calls Tryz.prog 114 #[.slice po bl pc, .int .i64 (F : Int), .int .i64 (T : Int), .slice bo bn bc] wr (RB.To wr B (.slice po bl pc) (F + bn + (bl - T)) ((By (bdy cs)).take F ++ By (bdy ns) ++ (By (bdy cs)).drop T))) := zaa (by
    have h1 := X.out.body
    have h2 := L.out
    unfold OwnB at h1 h2
    rw [P] at h1
    rw [V] at h2
    refine RB.rep_eq wr B B0 bl bn F T _ _ _ _ h1 h2 (zbt _) (zbt _) ?_ L7 K9 zq (zN H7.out A.size) H3 K4.out
    cases e : (Value.slice bo bn bc).ownBlock with
    | none => exact .inl rfl
    | some z =>
     right
     intro e2
     have a1 := (h2.lt z e).1
     have h3 := HP.out.body
     unfold OwnB at h3
     have a2 := (h3.lt z e2.symm).2
     have := HB.out
     omega)
   obtain ⟨c0, c1, c2, c3⟩ := X.out.row.cells
   have I6 : Hid (Below w.heap.size w wr) := zaa A
   clear I3 A D8
   have HQ := zaa G9
   clear G9
   go_wp2_with (go_at_call 114; refine I5.out.mono ?_; rintro e w2 ⟨b2o, b2c, rfl, E7, I⟩; refine Hid.out ?_)
   apply zaa
   obtain ⟨L2, I7⟩ : ∃ L2, F + bn + (bl - T) = L2 := ⟨_, rfl⟩
   rw [I7] at E7 I ⊢
   have E8 : Hid (bdy (cs.take i ++ ns ++ cs.drop j) = (bdy cs).take F ++ bdy ns ++ (bdy cs).drop T) := zaa (by
    rw [zbe, zbe, ← C2.out, ← C3.out, bdy_take, bdy_drop])
   have E : Hid (OwnB w2 B (.slice b2o L2 b2c) (bdy (cs.take i ++ ns ++ cs.drop j))) := zaa (by
    have hl : (bdy (cs.take i ++ ns ++ cs.drop j)).length = L2 := by
     rw [E8.out]
     simp only [zG, zJ, zK, P, V]
     omega
    have := E7.out
    rw [By_take, By_drop, ← zdb, ← zdb, ← E8.out] at this
    unfold OwnB
    rw [hl]
    exact this)
   have H := X.out.row
   unfold PR at H
   have Z : ∀ z, (Value.slice po bl pc).ownBlock = some z → ∃ cs fz, wr.heap[z]? = some (.cells cs 5 fz) := fun z hz => by
    have h1 := X.out.body
    unfold OwnB at h1
    rcases h1.2 with ⟨e, _⟩ | ⟨g, cap, cur, e, _, hh, _⟩
    ·rw [e] at hz; cases hz
    ·rw [e] at hz
     injection hz with hz
     have hz' : g = z := hz
     subst hz'
     exact ⟨_, _, hh⟩
   have A8 : Hid (PR w2 a k n (.slice po bl pc) (.slice ta sl tc)) := zaa ((I.out.grow.block a (zaf H) (fun e => by
    obtain ⟨x, y, h⟩ := Z a e.symm
    rw [H] at h
    simp at h)).trans H)
   have E9 : ∀ {D : Nat} {v : Value} {l : List Nat}, OwnN wr D v l → OwnN w2 D v l := fun {D v l} h => by
    refine World.ownsRow.kept h I.out.grow ?_
    cases e : v.ownBlock with
    | none => exact .inl rfl
    | some z =>
     right
     intro e2
     obtain ⟨x, y, hh⟩ := Z z e2.symm
     exact h.apart hh zd e
   have F0 := zaa (E9 X.out.starts)
   have F1 := zaa (E9 W.out)
   clear c0 c1 c2 c3 I5 H Z E9 X E7 W L
   obtain ⟨c0, c1, c2, c3⟩ := A8.out.cells
   have f2 := A8.out.free 2
   obtain ⟨u3, A9⟩ : ∃ u3, w2.setCell ⟨a, 2, none⟩ (.slice b2o L2 b2c) = u3 := ⟨_, rfl⟩
   have A3 : ∀ x, Cf (· = a) w2 (w2.setCell ⟨a, 2, none⟩ x) := fun x => Cf.set w2 a 2 x
   have K := A8.out
   unfold PR at K
   have F2 : Hid (PR u3 a k n (.slice b2o L2 b2c) (.slice ta sl tc)) := zaa (by rw [← A9]; exact A8.out.set2 _)
   have D3 : Hid (OwnN u3 B (.slice ta sl tc) (sts 0 cs)) := zaa (by rw [← A9]; exact F0.out.cf (A3 _) (F0.out.apart K zd))
   have I8 : Hid (OwnN u3 B0 (.slice so sn sc) (sts F ns)) := zaa (by rw [← A9]; exact F1.out.cf (A3 _) (F1.out.apart K zd))
   have A7 : Hid (OwnB u3 B (.slice b2o L2 b2c) (bdy (cs.take i ++ ns ++ cs.drop j))) := zaa (by
    rw [← A9]
    refine World.ownsRow.kept (row := some a) E.out ⟨rfl, rfl, rfl, by simp [World.setCell], fun z _ hz => Below.heap_setCell _ _ _ _ (fun e => hz (by rw [e]))⟩ (.inr fun e => ?_)
    have h1 := E.out
    unfold OwnB at h1
    rcases h1.2 with ⟨e1, _⟩ | ⟨g, cap, cur, e1, _, hh, _⟩
    ·rw [e1] at e; cases e
    ·rw [e1] at e
     injection e with e
     have e' : g = a := e
     subst e'
     rw [K] at hh
     simp at hh)
   have F3 : Hid (Cf (PZ a (.slice po bl pc) (.slice ta sl tc)) w u3) := zaa (by
    rw [← A9]
    refine (Cf.of_below I6.out).trans (G := PZ a (.slice po bl pc) (.slice ta sl tc)) ?_ (fun _ _ h => h)
    refine (show Cf (PZ a (.slice po bl pc) (.slice ta sl tc)) wr w2 from ⟨I.out.grow.os, I.out.grow.tape, I.out.grow.output, I.out.grow.size, fun z hz hn => I.out.grow.block z hz (fun e => hn (.inr (.inl e.symm)))⟩).trans (A3 _) (fun z _ h => .inl h))
   have F4 : Hid (w.heap.size ≤ u3.heap.size) := zaa F3.out.size
   have I9 : Hid (Calls Tryz.prog 115 #[.slice ta sl tc, .int .i64 (i : Int), .int .i64 (j : Int), .slice so sn sc] u3 (RN.To u3 B (.slice ta sl tc) (i + sn + (sl - j)) ((NI (sts 0 cs)).take i ++ NI (sts F ns) ++ (NI (sts 0 cs)).drop j))) := zaa (by
    have h1 := D3.out
    have h2 := I8.out
    unfold OwnN at h1 h2
    rw [zak] at h1 h2
    rw [Y] at h1
    rw [C] at h2
    refine RN.rep_eq u3 B B0 sl sn i j _ _ _ _ h1 h2 (NI_one _) (NI_one _) ?_ A5 zq (by have := HQ.out; omega) (zN H7.out F4.out) (by rw [← HQ.out]; exact hm) H2.out
    cases e : (Value.slice so sn sc).ownBlock with
    | none => exact .inl rfl
    | some z =>
     right
     intro e2
     have a1 := (h2.lt z e).1
     have h3 := HP.out.starts
     unfold OwnN at h3
     have a2 := (h3.lt z e2.symm).2
     have := HB.out
     omega)
   have C8 : Hid ((Value.slice b2o L2 b2c).ownBlock = (Value.slice po bl pc).ownBlock ∨ ∃ g, (Value.slice b2o L2 b2c).ownBlock = some g ∧ w.heap.size ≤ g) := zaa (I.out.own.imp id fun ⟨g, h1, h2⟩ => ⟨g, h1, zN I6.out.size h2⟩)
   clear A3 K A8 F0 F1 E I
   obtain ⟨d0, d1, d2, d3⟩ := F2.out.cells
   go_wp2_with (go_at_call 115; refine I9.out.mono ?_; rintro e w4 ⟨s4o, s4c, rfl, F5, J⟩; refine Hid.out ?_)
   apply zaa
   obtain ⟨N4, J0⟩ : ∃ N4, i + sn + (sl - j) = N4 := ⟨_, rfl⟩
   rw [J0] at F5 J ⊢
   have N1 : N4 ≤ 131072 := by have := HQ.out; omega
   obtain ⟨S0, A0⟩ : ∃ S0, (sts 0 cs).take i ++ sts F ns ++ (sts 0 cs).drop j = S0 := ⟨_, rfl⟩
   obtain ⟨S1, Q⟩ : ∃ S1, sts 0 (cs.take i ++ ns ++ cs.drop j) = S1 := ⟨_, rfl⟩
   have A1 : Hid (S0.length = N4) := zaa (by rw [← A0]; simp only [zG, zJ, zK, zak, Y, C]; omega)
   have L0 : Hid (i + sn ≤ N4) := zaa zq
   have B1 : Hid (S1.length = N4) := zaa (by rw [← Q, zak]; simp only [zG, zJ, zK, Y, C]; omega)
   have L1 : Hid (S0.take (i + sn) = S1.take (i + sn)) := zaa (by rw [← A0, ← Q, ← C]; exact sts_pre cs ns i j F A5 hj C2.out.symm)
   have C1 : Hid (∀ q, i + sn ≤ q → q < N4 → ((S0.getD q 0 : Nat) : Int) + ((bn : Int) - ((T : Int) - (F : Int))) = ((S1.getD q 0 : Nat) : Int)) := zaa (fun q h1 h2 => by
    rw [← A0, ← Q, ← V, ← C3.out]
    exact sts_mid cs ns i j F A5 hj C2.out.symm q (by rw [C]; exact h1) (by rw [C, Y]; omega))
   have L3 : Hid (∀ q, i + sn ≤ q → q < N4 → S1.getD q 0 ≤ 131072 ∧ S0.getD q 0 ≤ 131072) := zaa (fun q h1 h2 => by
    have O5 := C1.out q h1 h2
    have h3 : S1.getD q 0 ≤ 131072 := by
     rw [← Q, zcb 0 q _ (by rw [← zak 0, Q, B1.out]; exact h2), Nat.zero_add]
     have h4 := zce (cs.take i ++ ns ++ cs.drop j) q
     have h5 : (bdy (cs.take i ++ ns ++ cs.drop j)).length = L2 := by
      rw [E8.out]
      simp only [zG, zJ, zK, P, V]
      omega
     omega
    refine ⟨h3, ?_⟩
    have : S0.getD q 0 ≤ bl := by
     rw [← A0, ← P]
     obtain ⟨t, rfl⟩ : ∃ t, q = i + sn + t := ⟨q - (i + sn), zq⟩
     have J1 : ((sts 0 cs).take i).length = i := by rw [zJ, zak]; omega
     have := zcb 0 (j + t) cs zq
     rw [Nat.zero_add] at this
     simp only [List.getD] at this ⊢
     rw [List.getElem?_append_right (by rw [zG, J1, zak, C]; omega), zG, J1, zak, C, List.getElem?_drop, show j + (i + sn + t - (i + sn)) = j + t by omega, this]
     exact zce cs (j + t)
    omega)
   have F6 : Hid (OwnN w4 B (.slice s4o N4 s4c) S0) := zaa (by
    have := F5.out
    rw [NI_take, NI_drop, ← NI_append, ← NI_append, A0] at this
    unfold OwnN
    rw [A1.out]
    exact this)
   have L4 := zaa Q
   have H := F2.out
   unfold PR at H
   have Z : ∀ z, (Value.slice ta sl tc).ownBlock = some z → ∃ cs fz, u3.heap[z]? = some (.cells cs 3 fz) := fun z hz => by
    have h1 := D3.out
    unfold OwnN at h1
    rcases h1.2 with ⟨e, _⟩ | ⟨g, cap, cur, e, _, hh, _⟩
    ·rw [e] at hz; cases hz
    ·rw [e] at hz
     injection hz with hz
     have hz' : g = z := hz
     subst hz'
     exact ⟨_, _, hh⟩
   have B2 : Hid (PR w4 a k n (.slice b2o L2 b2c) (.slice ta sl tc)) := zaa ((J.out.grow.block a (zaf H) (fun e => by
    obtain ⟨x, y, h⟩ := Z a e.symm
    rw [H] at h
    simp at h)).trans H)
   have F7 : Hid (OwnB w4 B (.slice b2o L2 b2c) (bdy (cs.take i ++ ns ++ cs.drop j))) := zaa (by
    refine World.ownsRow.kept A7.out J.out.grow ?_
    exact own_bn A7.out D3.out)
   have J2 : Hid ((Value.slice s4o N4 s4c).ownBlock = (Value.slice ta sl tc).ownBlock ∨ ∃ g, (Value.slice s4o N4 s4c).ownBlock = some g ∧ w.heap.size ≤ g) := zaa (J.out.own.imp id fun ⟨g, h1, h2⟩ => ⟨g, h1, zN F4.out h2⟩)
   have J3 : Hid (Cf (PZ a (.slice po bl pc) (.slice ta sl tc)) w w4) := zaa (F3.out.trans (G := PZ a (.slice po bl pc) (.slice ta sl tc)) ⟨J.out.grow.os, J.out.grow.tape, J.out.grow.output, J.out.grow.size, fun z hz hn => J.out.grow.block z hz (fun e => hn (.inr (.inr e.symm)))⟩ (fun _ _ h => h))
   have M := B2.out
   unfold PR at M
   obtain ⟨u5, A2⟩ : ∃ u5, w4.setCell ⟨a, 3, none⟩ (.slice s4o N4 s4c) = u5 := ⟨_, rfl⟩
   have J4 : Hid (PR u5 a k n (.slice b2o L2 b2c) (.slice s4o N4 s4c)) := zaa (by rw [← A2]; exact B2.out.set3 _)
   have J5 : Hid (OwnN u5 B (.slice s4o N4 s4c) S0) := zaa (by rw [← A2]; exact F6.out.cf (Cf.set w4 a 3 _) (F6.out.apart M zd))
   have J6 : Hid (OwnB u5 B (.slice b2o L2 b2c) (bdy (cs.take i ++ ns ++ cs.drop j))) := zaa (by
    rw [← A2]
    refine World.ownsRow.kept (row := some a) F7.out ⟨rfl, rfl, rfl, by simp [World.setCell], fun z _ hz => Below.heap_setCell _ _ _ _ (fun e => hz (by rw [e]))⟩ (.inr fun e => ?_)
    have h1 := F7.out
    unfold OwnB at h1
    rcases h1.2 with ⟨e1, _⟩ | ⟨g, cap, cur, e1, _, hh, _⟩
    ·rw [e1] at e; cases e
    ·rw [e1] at e
     injection e with e
     have e' : g = a := e
     subst e'
     rw [M] at hh
     simp at hh)
   have J7 : Hid (Cf (PZ a (.slice po bl pc) (.slice ta sl tc)) w u5) := zaa (by rw [← A2]; exact J3.out.trans (Cf.set w4 a 3 _) (fun z _ h => .inl h))
   obtain ⟨x0, x1, x2, x3⟩ := B2.out.cells
   have f3 := B2.out.free 3
   obtain ⟨Gi, M0⟩ : ∃ Gi : Int, (bn : Int) - ((T : Int) - (F : Int)) = Gi := ⟨_, rfl⟩
   rw [M0] at C1
   have N2 : -131072 ≤ Gi ∧ Gi ≤ 131072 := zq
   have N3 : (bn : Int) ≤ 65536 := zq
   have N5 : (sn : Int) ≤ 65536 := by have := HQ.out; omega
   have L5 : q = sn := HQ.out
   subst L5
   clear A0 Q J0 I7 H Z M d0 d1 d2 d3 c0 c1 c2 c3 f2 I9 F5 J F2 D3 I8 A7 F3 F4 B2 F7 F6 J3 V C P Y
   have M1 : Hid (i + q ≤ N4) := zaa (by have := A1.out; have := L0.out; omega)
   go_wp2_with fail
   clear x0 x1 x2 x3 f3
   obtain ⟨wo, M2⟩ : ∃ wo, wo = wr := ⟨_, rfl⟩
   subst M2
   go_loopw [15] (fun kx wq => ∃ t : Nat, i + q ≤ t ∧ t ≤ N4 ∧ kx = .int .i64 (t : Int) ∧ Hid (OwnN wq B (.slice s4o N4 s4c) (S1.take t ++ S0.drop t)) ∧ Hid (PR wq a k n (.slice b2o L2 b2c) (.slice s4o N4 s4c)) ∧ Hid (OwnB wq B (.slice b2o L2 b2c) (bdy (cs.take i ++ ns ++ cs.drop j))) ∧ Hid (Cf (PZ a (.slice po bl pc) (.slice ta sl tc)) w wq)) (fun kx _ => N4 - (intOf kx).toNat)
   case atStart =>
    refine ⟨i + q, Lr, M1.out, by go_num, ?_, ?_, ?_, ?_⟩
    all_goals (try rw [A2])
    ·exact zaa (by rw [← L1.out, List.take_append_drop]; exact J5.out)
    ·exact J4
    ·exact J6
    ·exact J7
   case round =>
    obtain ⟨t, J8, O6, rfl, D4, B3, D5, F8⟩ := hrel
    clear J5 J4 J6 J7 A2
    have O7 : (t : Int) ≤ 131072 := zq
    obtain ⟨x0, x1, x2, x3⟩ := B3.out.cells
    by_cases N : t < N4
    ·have G3 : (t : Int) < (N4 : Int) := zq
     have R := D4.out
     unfold OwnN at R
     have F9 : (S1.take t ++ S0.drop t).length = N4 := by
      rw [zG, zJ, zK, A1.out, B1.out]
      omega
     rw [F9] at R
     obtain ⟨g, rfl, O8, M3⟩ : ∃ g, s4o = some ⟨g, 0, none⟩ ∧ B ≤ g ∧ g ≠ a := by
      rcases R.2 with ⟨_, h0⟩ | ⟨g, cap, cur, e, h1, hh, _⟩
      ·omega
      ·injection e with e1 _ _
       refine ⟨g, e1, h1, fun e2 => ?_⟩
       have hr := B3.out
       unfold PR at hr
       rw [← e2, hh] at hr
       simp at hr
     have J9 : (S1.take t ++ S0.drop t)[t]? = some (S0.getD t 0) := by
      rw [List.getElem?_append_right (by rw [zJ]; omega), zJ, List.getElem?_drop, B1.out, show t + (t - min t N4) = t by omega]
      simp [List.getD, zI (show t < S0.length by rw [A1.out]; exact N)]
     have H4 : wr.cell? ⟨g, t, none⟩ = some (.int .i64 ((S0.getD t 0 : Nat) : Int)) := by
      rw [R.cellAt t zq]
      unfold NI
      rw [List.getElem?_map, J9]
      rfl
     have O9 : wr.frozen? ⟨g, t, none⟩ = false := R.frozenAt t
     have H0 := C1.out t J8 N
     have G0 := L3.out t J8 N
     obtain ⟨K0, K1⟩ := R.stored t (.int .i64 ((S1.getD t 0 : Nat) : Int))
     have HN' : Hid (OwnN (wr.setCell ⟨g, t, none⟩ (.int .i64 ((S1.getD t 0 : Nat) : Int))) B (.slice (some ⟨g, 0, none⟩) N4 s4c) (S1.take (t + 1) ++ S0.drop (t + 1))) := zaa (by
      have e : (S1.take t ++ S0.drop t).set t (S1.getD t 0) = S1.take (t + 1) ++ S0.drop (t + 1) := by
       have h1 : t < S1.length := by rw [B1.out]; exact N
       have h0 : t < S0.length := by rw [A1.out]; exact N
       rw [List.set_append_right _ _ (by rw [zJ]; omega), zJ, show t - min t S1.length = 0 by omega, List.drop_eq_getElem_cons h0, zE, List.take_add_one, zI h1, zM]
       simp [List.getD, zI h1]
      unfold OwnN
      rw [← e, List.length_set, F9]
      have e2 : NI ((S1.take t ++ S0.drop t).set t (S1.getD t 0)) = (NI (S1.take t ++ S0.drop t)).set t (.int .i64 ((S1.getD t 0 : Nat) : Int)) := by
       unfold NI
       rw [List.map_set]
      rw [e2]
      exact K0)
     have G1 : Cf (· = g) wr (wr.setCell ⟨g, t, none⟩ (.int .i64 ((S1.getD t 0 : Nat) : Int))) := Cf.set wr g t _
     have HR' : Hid (PR (wr.setCell ⟨g, t, none⟩ (.int .i64 ((S1.getD t 0 : Nat) : Int))) a k n (.slice b2o L2 b2c) (.slice (some ⟨g, 0, none⟩) N4 s4c)) := zaa (B3.out.cf G1 (fun e => M3 e.symm))
     have HB' : Hid (OwnB (wr.setCell ⟨g, t, none⟩ (.int .i64 ((S1.getD t 0 : Nat) : Int))) B (.slice b2o L2 b2c) (bdy (cs.take i ++ ns ++ cs.drop j))) := zaa (World.ownsRow.kept D5.out K1 (by
      have := own_bn D5.out D4.out
      exact this))
     have HC' : Hid (Cf (PZ a (.slice po bl pc) (.slice ta sl tc)) w (wr.setCell ⟨g, t, none⟩ (.int .i64 ((S1.getD t 0 : Nat) : Int)))) := zaa (F8.out.trans G1 (fun z hz e => by
      subst e
      rcases J2.out with e | ⟨g', e1, h2⟩
      ·exact .inr (.inr e.symm)
      ·injection e1 with e1
       have : z = g' := e1
       omega))
     obtain ⟨x, hx⟩ : ∃ x : Nat, S0.getD t 0 = x := ⟨_, rfl⟩
     obtain ⟨y, hy⟩ : ∃ y : Nat, S1.getD t 0 = y := ⟨_, rfl⟩
     rw [hx] at H4 H0 G0
     rw [hy] at HN' HR' HB' HC' H0 G0
     have P0 : (x : Int) ≤ 131072 := zq
     have P1 : (y : Int) ≤ 131072 := zq
     clear R F9 J9 K0 K1 G1 D4 B3 D5 F8 hx hy G0
     go_wp2
     go_roundw
     case rel => exact ⟨t + 1, zq, zq, by go_num, HN', HR', HB', HC'⟩
     case measure => simp [intOf]; omega
    ·obtain rfl : t = N4 := zq
     have G3 : ¬ (t : Int) < (t : Int) := zq
     have HE : Hid (S1.take t ++ S0.drop t = S1) := zaa (by rw [List.take_of_length_le (by rw [B1.out]; exact Lr), List.drop_eq_nil_of_le (by rw [A1.out]; exact Lr), List.append_nil])
     go_wp2
     go_returns
     have K2 : Po wr B a k n (.slice b2o L2 b2c) (.slice s4o t s4c) (cs.take i ++ ns ++ cs.drop j) := ⟨B3.out, D5.out, by
      have := D4.out
      rw [HE.out, ← L4.out] at this
      exact this⟩
     rw [zM] at K2
     exact ⟨rfl, zaa ⟨_, _, K2, C8.out, J2.out⟩, F8⟩
end Go.Proofs.YtbkhjeacmmbabaaGreatDoor
