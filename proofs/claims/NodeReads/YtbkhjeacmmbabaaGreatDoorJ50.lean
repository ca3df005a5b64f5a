import Derived.Test.YtbkhjeacmmbabaaGreatDoorJ49
namespace Go.Proofs.YtbkhjeacmmbabaaGreatDoor
set_option maxRecDepth 100000
open Go.RowKit
open Six
set_option maxHeartbeats 16000000 in
theorem walkN_NodeReads (ao : Option Addr) (n cap : Nat) (b : List Int) (w : World) (ht : Tab w) (h0 : 1 < w.heap.size) (hs : Sl w ao n cap b) (h8 : n + 6 ≤ 140737488355328) (H4 : ¬ ∃ cs, Yes b cs) :
  Calls Tryz.prog 3 #[.slice ao n cap] w fun e w' => e = .returned (.bool true) ∧ Below w.heap.size w w' := by
 have H5 := zaa (awake8_any w ht h0)
 have HT := zaa ht
 have M8 := zaa h0
 have HS := zaa hs
 have L3 := zaa hs.wf
 have B9 := zaa hs.hlen
 obtain ⟨cs, I⟩ : ∃ cs, csE b = cs := ⟨_, rfl⟩
 obtain ⟨m, hm⟩ : ∃ m, cs.length = m := ⟨_, rfl⟩
 have Y := csE_len b
 rw [I] at Y
 have O := zaa Y
 have M9 : m ≤ 65536 := zq
 obtain ⟨E, hE⟩ : ∃ E, cE b = E := ⟨_, rfl⟩
 obtain ⟨en, C0⟩ : ∃ x, eE b = x := ⟨_, rfl⟩
 obtain ⟨kk, C1⟩ : ∃ x, kE b = x := ⟨_, rfl⟩
 have N0 := zaa hm
 have H6 := zaa H4
 have H7 : Hid (∀ u g C, Sl u (some ⟨g, 0, none⟩) n C b → Tab u → 1 < u.heap.size → Calls Tryz.prog 5 #[.slice (some ⟨g, 0, none⟩) n C] u fun e w' => ∃ v, e = .returned (.tuple #[v, .int .i64 E]) ∧ Hid (Below u.heap.size u w') ∧ Hid ((v = .nilIface ∧ ¬ ∃ cs, Yes b cs) ∨ ((∀ d ∈ cs, d.Wf) ∧ PgX w' u.heap.size v b cs))) := zaa fun u g C h1 h2 h3 => by
  have := nopenG_any (some ⟨g, 0, none⟩) n C b u h1 h2 h3
  unfold OpG at this
  rw [hE, I] at this
  exact this
 have C2 : Hid (∀ u g C, Sl u (some ⟨g, 0, none⟩) n C b → Tab u → 1 < u.heap.size → Calls Tryz.prog 6 #[.slice (some ⟨g, 0, none⟩) n C] u fun e w' => ∃ co cc, e = .returned (.tuple #[.int .i64 en, .int .i64 kk, .slice co m cc, .int .i64 E]) ∧ Hid (Below u.heap.size u w') ∧ Hid (Got w' u.heap.size w'.heap.size co m cc cs ∧ ∀ d ∈ cs, d.Wf)) := zaa fun u g C h1 h2 h3 => by
  have := ndecode_any (some ⟨g, 0, none⟩) n C b u h1 h2 h3
  unfold DecG at this
  rw [hE, C0, C1, I, hm] at this
  exact this
 have H9 : Hid (∀ u, Sl u ao n cap b → Calls Tryz.prog 7 #[.slice ao n cap] u fun e w' => ∃ p, e = .returned (.tuple #[.pointer p, .int .i64 E]) ∧ Hid (Below u.heap.size u w') ∧ Hid ((p = none ∧ ¬ ∃ cs, Yes b cs) ∨ ∃ x, p = some ⟨x, 0, none⟩ ∧ Yes b cs ∧ RX w' x b cs)) := zaa fun u h1 => by
  have := ropen8_any ao n cap b u h1
  unfold ROpG at this
  rw [hE, I] at this
  exact this
 have I0 : Hid (∀ u, Sl u ao n cap b → Calls Tryz.prog 8 #[.slice ao n cap] u fun e w' => ∃ co cc, e = .returned (.tuple #[.int .i64 en, .int .i64 kk, .slice co m cc, .int .i64 E]) ∧ Hid (Below u.heap.size u w') ∧ Hid (SlC w' co m cc cs)) := zaa fun u h1 => by
  have := rdecode8_any ao n cap b u h1
  unfold RDecG at this
  rw [hE, C0, C1, I, hm] at this
  exact this
 have J : Hid (∀ u, Below w.heap.size w u → Tab u ∧ 1 < u.heap.size) := zaa fun u hu => ⟨ht.on hu h0, zO h0 hu.size⟩
 obtain ⟨S, hS⟩ : ∃ S, strOfNums b = S := ⟨_, rfl⟩
 have C3 := zaa hS
 have I1 : Hid (S.size = n) := zaa (by rw [← hS, strOfNums_size]; exact hs.hlen)
 have L4 : Hid (nB S = b) := zaa (by rw [← hS]; exact nB_str hs.wf)
 have H8 := zaa h8
 clear ht h0 hs Y hE C0 C1 I hm hS H4
 go_enter Tryz.func3, Tryz.ntmps3
 go_wp2_with (go_at_call 4; refine H5.out.mono ?_; rintro e w1 ⟨rfl, I2⟩; have P := zaa I2; clear I2; refine Hid.out ?_)
 apply zaa
 clear H5
 have k1 := zar (HS.out.on Lr P.out)
 rw [C3.out] at k1
 obtain ⟨G, hG⟩ : ∃ G, w1.heap.size = G := ⟨_, rfl⟩
 obtain ⟨c, W, k2, B1, I3⟩ := al_conv w1 S
 rw [I1.out] at k2
 rw [L4.out] at B1
 rw [hG] at k2 B1
 obtain ⟨g, C, W2, k3, H, L5, I4⟩ := al_tail W G c n b B1 B9.out ⟨#[98, 101, 104, 105, 110, 100]⟩ 6 rfl h8 22
 rw [beh8] at H
 obtain ⟨N6, B2⟩ : ∃ N6, n + 6 = N6 := ⟨_, rfl⟩
 rw [B2] at k3
 have Z := zaa H
 have Q : Hid ((b ++ [98, 101, 104, 105, 110, 100] : List Int).length = N6) := zaa (by rw [zG, B9.out, ← B2]; rfl)
 have I5 : Hid (Wf (b ++ [98, 101, 104, 105, 110, 100])) := zaa (L3.out.append (by intro x hx; simp only [List.mem_cons, List.not_mem_nil, or_false] at hx; omega))
 have L6 : Hid ((b ++ [98, 101, 104, 105, 110, 100] : List Int).take n = b) := zaa (by rw [← B9.out]; exact List.take_left' rfl)
 have L7 : Hid (w.heap.size ≤ g) := zaa (by have := P.out.size; omega)
 have R : Hid (Below w.heap.size w W2) := zaa ((zae P.out Lr I3).trans (I4.mono (by have := P.out.size; omega)))
 have I6 : Hid (g < W2.heap.size) := zaa H.1
 have L8 : N6 ≤ 140737488355328 := zq
 have M5 : (N6 : Int) ≤ 140737488355328 := zq
 have N1 : n ≤ C := by have := H.2.1; have := Q.out; omega
 have M6 : (n : Int) ≤ (C : Int) := zq
 have L9 := zaa B2
 clear B1 I3 H L5 I4 hG P B2
 go_wp2_with (at_builtin; refine zdf rfl _ _ _ _ rfl _ _ rfl rfl k3 ?_; refine Hid.out ?_)
 apply zaa
 have C4 : Hid (∀ u, Al u g C (b ++ [98, 101, 104, 105, 110, 100]) → Sl u (some ⟨g, 0, none⟩) n C b) := zaa (fun u h => by
  have := h.sl I5.out n (by rw [Q.out]; have := L9.out; omega) zq
  rw [L6.out] at this
  exact this)
 have A0 := zaa (H7.out W2 g C (C4.out _ Z.out) (J.out _ R.out).1 (J.out _ R.out).2)
 obtain ⟨B0, C6⟩ : ∃ z, W2.heap.size = z := ⟨_, rfl⟩
 have T := zaa C6
 rw [C6] at A0
 clear k1 k2 k3 H7 C6
 go_wp2_with (go_at_call 5; refine A0.out.mono ?_; rintro e w3 ⟨v, rfl, A, I7⟩; refine Hid.out ?_)
 apply zaa
 obtain rfl : v = .nilIface := by
  rcases I7.out with ⟨h, _⟩ | ⟨_, h⟩
  ·exact h
  ·exact absurd ⟨_, h.yes⟩ H6.out
 have U : Hid (Below w.heap.size w w3) := zaa (R.out.trans (A.out.mono (by have h1 := R.out.size; have h2 := T.out; omega)))
 have A1 : Hid (Al w3 g C (b ++ [98, 101, 104, 105, 110, 100])) := zaa (Z.out.on (by rw [T.out]; exact A.out))
 obtain ⟨B, hB⟩ : ∃ z, w3.heap.size = z := ⟨_, rfl⟩
 have K : Hid (B0 ≤ B ∧ w.heap.size ≤ B ∧ g < B0) := zaa ⟨by have h1 := A.out.size; have h2 := T.out; omega, by rw [← hB]; exact U.out.size, by have := I6.out; have := T.out; omega⟩
 have C7 := zaa (C2.out w3 g C (C4.out _ A1.out) (J.out _ U.out).1 (J.out _ U.out).2)
 have C8 := zaa hB
 rw [hB] at C7
 clear A0 I7 A R Z I6 T hB
 go_wp2_with (go_at_call 6; refine C7.out.mono ?_; rintro e w4 ⟨c1o, c1c, rfl, A, C9⟩; refine Hid.out ?_)
 apply zaa
 have E9 : Hid (Below B w3 w4) := A
 have B3 : Hid (Below w.heap.size w w4) := zaa (U.out.trans (A.out.mono K.out.2.1))
 have A2 : Hid (Al w4 g C (b ++ [98, 101, 104, 105, 110, 100])) := zaa (A1.out.on (by rw [C8.out]; exact A.out))
 have D0 := zaa C9.out.1
 have D3 := zaa C9.out.2
 obtain ⟨H1, B4⟩ : ∃ z, w4.heap.size = z := ⟨_, rfl⟩
 have V : Hid (B ≤ H1) := zaa (by rw [← B4]; have := A.out.size; have := C8.out; omega)
 have D4 := zaa (C2.out w4 g C (C4.out _ A2.out) (J.out _ B3.out).1 (J.out _ B3.out).2)
 have B5 := zaa B4
 rw [B4] at D4 D0
 clear C7 C9 A U A1 B4 C2
 go_wp2_with (go_at_call 6; refine D4.out.mono ?_; rintro e w5 ⟨c2o, c2c, rfl, A, I8⟩; refine Hid.out ?_)
 apply zaa
 have K8 : Hid (Below B w3 w5) := zaa (E9.out.trans (A.out.mono V.out))
 have B6 : Hid (Below w.heap.size w w5) := zaa (B3.out.trans (A.out.mono (zN K.out.2.1 V.out)))
 have A3 : Hid (Al w5 g C (b ++ [98, 101, 104, 105, 110, 100])) := zaa (A2.out.on (by rw [B5.out]; exact A.out))
 have F0 := zaa (D0.out.on (by rw [B5.out]; exact A.out))
 have A4 := zaa I8.out.1
 obtain ⟨H2, B7⟩ : ∃ z, w5.heap.size = z := ⟨_, rfl⟩
 have I9 : Hid (H1 ≤ H2) := zaa (by rw [← B7]; have := A.out.size; have := B5.out; omega)
 rw [B7] at A4
 have M0 := zaa B7
 have q1 := zar (ao := some ⟨g, 0, none⟩) (n := N6) (cap := C) (w := w5) (l := b ++ [98, 101, 104, 105, 110, 100]) (by
  have := A3.out.sl I5.out N6 (by rw [Q.out]; exact Lr) L8
  rw [List.take_of_length_le (by rw [Q.out]; exact Lr)] at this
  exact this)
 have q2 := zar (HS.out.on Lr B6.out)
 rw [C3.out] at q2
 obtain ⟨S6, D5⟩ : ∃ S6, strOfNums (b ++ [98, 101, 104, 105, 110, 100]) = S6 := ⟨_, rfl⟩
 have q3 : (Op.stringOp .add S ⟨#[98, 101, 104, 105, 110, 100]⟩).run Tryz.prog w5 = .ok (.string S6) w5 := by
  rw [run_string_add_sum w5 _ _ (by rw [I1.out]; have : (⟨#[98, 101, 104, 105, 110, 100]⟩ : ByteArray).size = 6 := rfl; omega), ← D5, ← C3.out]
  congr 2
  apply ByteArray.ext
  simp [strOfNums]
 rw [D5] at q1
 have q4 : (S6.toList != S6.toList) = false := by simp
 clear D4 I8 A B3 A2 D0 D5 B7 B5 E9
 go_wp2_with fail
 go_loopw [17] (fun i wr => ∃ (j : Nat) (l' : List Int), j ≤ N6 ∧ i = .int .i64 (j : Int) ∧ l'.length = N6 ∧ Hid (Al wr g C l') ∧ Hid (Cf (· = g) w5 wr)) (fun i _ => N6 - (intOf i).toNat)
 case atStart => exact ⟨0, _, zq, rfl, Q.out, A3, zaa (Cf.refl _ _)⟩
 case round =>
  obtain ⟨j, l', hj, rfl, hl', L, D⟩ := hrel
  have jI : (j : Int) ≤ 140737488355328 := zq
  by_cases N2 : j < N6
  ·have K9 : (j : Int) < (N6 : Int) := zq
   have N3 : wr.cell? ⟨g, j, none⟩ = some (.int .u8 (l'.getD j 0)) := L.out.2.2.2 j zq
   have N4 : wr.frozen? ⟨g, j, none⟩ = false := (L.out.2.2.1 j (by have := L.out.2.1; omega)).2
   have M1 : Hid (Al (wr.setCell ⟨g, j, none⟩ (.int .u8 77)) g C (l'.set j 77)) := zaa (L.out.set zq 77)
   have M : Hid (Cf (· = g) w5 (wr.setCell ⟨g, j, none⟩ (.int .u8 77))) := zaa (D.out.trans (Cf.set wr g j _) (fun _ _ e => e))
   clear L D
   go_wp2
   go_roundw
   case rel => exact ⟨j + 1, l'.set j 77, zq, by go_num, by simp [hl'], M1, M⟩
   case measure => simp [intOf]; omega
  ·have K9 : ¬ (j : Int) < (N6 : Int) := zq
   have D7 : Hid (Below w.heap.size w wr) := zaa (B6.out.trans (D.out.below B6.out.size (fun k hk e => by have := L7.out; omega)))
   have F1 : Hid (Cf (fun z => z = g ∨ B ≤ z) w3 wr) := zaa (((Cf.of_below (F := fun z => z = g ∨ B ≤ z) (by rw [C8.out]; exact K8.out))).go (D.out.wide (fun k hk => .inl hk)))
   have D8 : ∀ z, z = g → z < B := fun z e => by have := K.out; omega
   have F2 := zaa (F0.out.cf D.out D8)
   have F3 := zaa (A4.out.cf D.out (fun z e => zO (D8 z e) V.out))
   have F4 := zaa (H9.out wr (HS.out.on Lr D7.out))
   have J0 : Hid (H2 ≤ wr.heap.size) := zaa (by have := D.out.size; have := M0.out; omega)
   clear D8 q1 q2 q3 q4 L D F0 A4 A3 B6 H9
   go_wp2_with (go_at_call 7; refine F4.out.mono ?_; rintro e w6 ⟨p, rfl, A, J1⟩; refine Hid.out ?_)
   apply zaa
   obtain rfl : p = none := by
    rcases J1.out with ⟨h, _⟩ | ⟨x, _, h, _⟩
    ·exact h
    ·exact absurd ⟨_, h⟩ H6.out
   have D9 : Hid (Below w.heap.size w w6) := zaa (zae D7.out Lr A.out)
   have F5 : Hid (Cf (fun z => z = g ∨ B ≤ z) w3 w6) := zaa (F1.out.go (Cf.of_below A.out))
   have F6 := zaa (F2.out.on A.out)
   have F7 := zaa (F3.out.on A.out)
   have J2 : Hid (H2 ≤ w6.heap.size) := zaa (zN J0.out A.out.size)
   have F8 := zaa (I0.out w6 (HS.out.on Lr D9.out))
   clear F4 J1 D7 F1 F2 F3 J0 A I0
   go_wp2_with (go_at_call 8; refine F8.out.mono ?_; rintro e w7 ⟨ro, rc, rfl, A, E0⟩; refine Hid.out ?_)
   apply zaa
   have J3 : Hid (Below w.heap.size w w7) := zaa (zae D9.out Lr A.out)
   have F9 : Hid (Cf (fun z => z = g ∨ B ≤ z) w3 w7) := zaa (F5.out.go (Cf.of_below A.out))
   have A5 := zaa (F6.out.on A.out)
   have G0 := zaa (F7.out.on A.out)
   have J4 : Hid (H2 ≤ w7.heap.size) := zaa (zN J2.out A.out.size)
   have J5 : Hid (∀ u lo hi co cc, Got u lo hi co m cc cs → SlC u co m cc cs) := zaa fun u lo hi co cc h => h.slc D3.out O.out.2 O.out.1
   have J6 := zaa (zde c1o ro m c1c rc cs w7 (J5.out _ _ _ _ _ A5.out) E0.out)
   clear F8 D9 F5 F6 F7 J2 A
   go_wp2_with (go_at_call 9; refine J6.out.mono ?_; rintro e w8 ⟨rfl, A⟩; refine Hid.out ?_)
   apply zaa
   have J7 : Hid (Below w.heap.size w w8) := zaa (zae J3.out Lr A.out)
   have G1 : Hid (Cf (fun z => z = g ∨ B ≤ z) w3 w8) := zaa (F9.out.go (Cf.of_below A.out))
   have G2 := zaa (A5.out.on A.out)
   have A6 := zaa (G0.out.on A.out)
   have J8 := zaa (E0.out.on A.out)
   have J9 : Hid (H2 ≤ w8.heap.size) := zaa (zN J4.out A.out.size)
   have G3 := zaa (zde c2o ro m c2c rc cs w8 (J5.out _ _ _ _ _ A6.out) J8.out)
   have e1 : (E != E) = false := by simp
   have e2 : (en != en) = false := by simp
   have e3 : (kk != kk) = false := by simp
   clear J6 J3 F9 A5 G0 E0 J4 A
   go_wp2_with (go_at_call 9; refine G3.out.mono ?_; rintro e w9 ⟨rfl, A⟩; refine Hid.out ?_)
   apply zaa
   have K0 : Hid (Below w.heap.size w w9) := zaa (zae J7.out Lr A.out)
   have G4 : Hid (Cf (fun z => z = g ∨ B ≤ z) w3 w9) := zaa (G1.out.go (Cf.of_below A.out))
   have G5 := zaa (G2.out.on A.out)
   have G6 := zaa (A6.out.on A.out)
   have E1 : Hid (H2 ≤ w9.heap.size) := zaa (zN J9.out A.out.size)
   obtain ⟨bk, E2⟩ : ∃ bk, w9.heap.size = bk := ⟨_, rfl⟩
   obtain ⟨y, hy⟩ : ∃ y, w9.alloc (.cells #[.slice none 0 0, .slice none 0 0] 42) = y := ⟨_, rfl⟩
   have N : Below w9.heap.size w9 y := by rw [← hy]; exact zab Br Lr _
   have K1 : Hid (Bx y B bk [] 0 B) := zaa (Bx.new (by rw [← hy, ← E2]; exact heap_alloc_last w9 _))
   have K2 : Hid (B ≤ bk) := zaa (by have := E1.out; have := V.out; have := I9.out; omega)
   have E3 : Hid (Below w.heap.size w y) := zaa (zae K0.out Lr N)
   have G7 : Hid (Cf (fun z => z = g ∨ B ≤ z) w3 y) := zaa (G4.out.go (Cf.of_below N))
   have A7 := zaa (G5.out.on N)
   have G8 := zaa (G6.out.on N)
   have E4 : Hid (H2 ≤ y.heap.size) := zaa (zN E1.out N.size)
   clear G3 J7 G1 G2 A6 J8 J9 A K0 G4 G5 G6 E1 N
   go_wp2_with (go_at_call 10; refine Hid.out ?_)
   apply zaa
   try rw [hy, E2]
   clear hy E2
   have X : Hid (B ≤ H1 ∧ H1 ≤ H2) := zaa ⟨V.out, I9.out⟩
   have K4 := zaa (takeAllB y B bk [] 0 B B H1 c1o m c1c cs K1.out zq zq zv (by have := E4.out; have := X.out; omega) K2.out A7.out Lr D3.out O.out.2 Lr)
   refine K4.out.mono ?_
   rintro e y1 ⟨rfl, K5, B8, E5⟩
   have A8 : Hid (Below w.heap.size w y1) := zaa (E3.out.trans (B8.out.below E3.out.size (fun k hk e => by have := K.out; omega)))
   have G9 : Hid (Cf (fun z => z = g ∨ B ≤ z) w3 y1) := zaa (G7.out.go (B8.out.wide (fun k hk => .inr hk)))
   have H0 := zaa (A7.out.k3 E5.out)
   have A9 := zaa (G8.out.k3 E5.out)
   have E7 : Hid (H2 ≤ y1.heap.size) := zaa (zN E4.out B8.out.size)
   have K6 := zaa (takeAllB y1 B bk [.slice c1o m c1c] (2 * m) H1 H1 H2 c2o m c2c cs (by have := K5.out; rw [Nat.zero_add] at this; exact this) zq zq zv (by have := E7.out; have := X.out; omega) K2.out A9.out X.out.1 D3.out O.out.2 Lr)
   clear K4 K1 K5 B8 E5 A7 G8 E4 E3 G7
   go_wp2_with (go_at_call 10; refine K6.out.mono ?_; rintro e y2 ⟨rfl, K7, M, E8⟩; refine Hid.out ?_)
   apply zaa
   have H3 : Hid (Below w.heap.size w y2) := zaa (A8.out.trans (M.out.below A8.out.size (fun k hk e => by have := K.out; omega)))
   have M7 : Hid (Cf (fun z => z = g ∨ B ≤ z) w3 y2) := zaa (G9.out.go (M.out.wide (fun k hk => .inr hk)))
   have L0 := zaa (H0.out.k3 E8.out)
   have L1 := zaa (A9.out.k3 E8.out)
   have M2 : Hid (H2 ≤ y2.heap.size) := zaa (zN E7.out M.out.size)
   have L2 : Hid (Bx y2 B bk [.slice c1o m c1c, .slice c2o m c2c] (2 * m + 2 * m) H2) := K7
   clear K6 K7 M E8 H0 A9 E7 A8 G9
   have M3 := zaa (owned2B y2 B bk _ _ m c1o c1c B H1 c2o c2c H1 H2 cs L2.out zq (by have := M2.out; have := X.out; omega) O.out.1 L0.out L1.out Lr Lr X.out.1)
   go_wp2_with (go_at_call 12; refine M3.out.mono ?_; rintro e y5 ⟨rfl, M4⟩)
   go_ret
   exact ⟨rfl, H3.out.trans (M4.out.below H3.out.size (fun k hk e => by have := K.out; omega))⟩
end Go.Proofs.YtbkhjeacmmbabaaGreatDoor
