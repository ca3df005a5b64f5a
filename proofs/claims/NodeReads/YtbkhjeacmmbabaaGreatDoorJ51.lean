import Derived.Test.YtbkhjeacmmbabaaGreatDoorJ50
import Derived.Test.YtbkhjeacmmbabaaGreatDoorCards
import Derived.Test.YtbkhjeacmmbabaaGreatDoorTie
import Derived.WalkKit
import Derived.ProofKit
import Derived.OpenShut
import Derived.Deep.DeepHandedRow
import Derived.Lib.LaidTab
namespace Go.Proofs.YtbkhjeacmmbabaaGreatDoor
set_option maxRecDepth 100000
open Go.RowKit
open Six
set_option maxHeartbeats 16000000 in
theorem walkY_NodeReads (ao : Option Addr) (n cap : Nat) (b : List Int) (w : World) (ht : Tab w) (h0 : 1 < w.heap.size) (hs : Sl w ao n cap b) (h8 : n + 6 ≤ 140737488355328) (A6 : Yes b (csE b)) :
  Calls Tryz.prog 3 #[.slice ao n cap] w fun e w' => e = .returned (.bool true) ∧ Below w.heap.size w w' := by
 have J9 := zaa (awake8_any w ht h0)
 have HT := zaa ht
 have Q7 := zaa h0
 have HS := zaa hs
 have D9 := zaa hs.wf
 have L := zaa hs.hlen
 obtain ⟨cs, M⟩ : ∃ cs, csE b = cs := ⟨_, rfl⟩
 obtain ⟨m, hm⟩ : ∃ m, cs.length = m := ⟨_, rfl⟩
 have A7 := csE_len b
 rw [M] at A7
 have V := zaa A7
 have Q8 : m ≤ 65536 := zq
 obtain ⟨E, hE⟩ : ∃ E, cE b = E := ⟨_, rfl⟩
 obtain ⟨en, E0⟩ : ∃ x, eE b = x := ⟨_, rfl⟩
 obtain ⟨kk, E1⟩ : ∃ x, kE b = x := ⟨_, rfl⟩
 have O8 := zaa hm
 rw [M] at A6
 have A8 := zaa A6
 have K0 : Hid (∀ u g C, Sl u (some ⟨g, 0, none⟩) n C b → Tab u → 1 < u.heap.size → Calls Tryz.prog 5 #[.slice (some ⟨g, 0, none⟩) n C] u fun e w' => ∃ v, e = .returned (.tuple #[v, .int .i64 E]) ∧ Hid (Below u.heap.size u w') ∧ Hid ((v = .nilIface ∧ ¬ ∃ cs, Yes b cs) ∨ ((∀ d ∈ cs, d.Wf) ∧ PgX w' u.heap.size v b cs))) := zaa fun u g C h1 h2 h3 => by
  have := nopenG_any (some ⟨g, 0, none⟩) n C b u h1 h2 h3
  unfold OpG at this
  rw [hE, M] at this
  exact this
 have E2 : Hid (∀ u g C, Sl u (some ⟨g, 0, none⟩) n C b → Tab u → 1 < u.heap.size → Calls Tryz.prog 6 #[.slice (some ⟨g, 0, none⟩) n C] u fun e w' => ∃ co cc, e = .returned (.tuple #[.int .i64 en, .int .i64 kk, .slice co m cc, .int .i64 E]) ∧ Hid (Below u.heap.size u w') ∧ Hid (Got w' u.heap.size w'.heap.size co m cc cs ∧ ∀ d ∈ cs, d.Wf)) := zaa fun u g C h1 h2 h3 => by
  have := ndecode_any (some ⟨g, 0, none⟩) n C b u h1 h2 h3
  unfold DecG at this
  rw [hE, E0, E1, M, hm] at this
  exact this
 have K1 : Hid (∀ u, Sl u ao n cap b → Calls Tryz.prog 7 #[.slice ao n cap] u fun e w' => ∃ p, e = .returned (.tuple #[.pointer p, .int .i64 E]) ∧ Hid (Below u.heap.size u w') ∧ Hid ((p = none ∧ ¬ ∃ cs, Yes b cs) ∨ ∃ x, p = some ⟨x, 0, none⟩ ∧ Yes b cs ∧ RX w' x b cs)) := zaa fun u h1 => by
  have := ropen8_any ao n cap b u h1
  unfold ROpG at this
  rw [hE, M] at this
  exact this
 have K2 : Hid (∀ u, Sl u ao n cap b → Calls Tryz.prog 8 #[.slice ao n cap] u fun e w' => ∃ co cc, e = .returned (.tuple #[.int .i64 en, .int .i64 kk, .slice co m cc, .int .i64 E]) ∧ Hid (Below u.heap.size u w') ∧ Hid (SlC w' co m cc cs)) := zaa fun u h1 => by
  have := rdecode8_any ao n cap b u h1
  unfold RDecG at this
  rw [hE, E0, E1, M, hm] at this
  exact this
 have D : Hid (∀ u, Below w.heap.size w u → Tab u ∧ 1 < u.heap.size) := zaa fun u hu => ⟨ht.on hu h0, zO h0 hu.size⟩
 obtain ⟨S, hS⟩ : ∃ S, strOfNums b = S := ⟨_, rfl⟩
 have J := zaa hS
 have K4 : Hid (S.size = n) := zaa (by rw [← hS, strOfNums_size]; exact hs.hlen)
 have O9 : Hid (nB S = b) := zaa (by rw [← hS]; exact nB_str hs.wf)
 have H8 := zaa h8
 clear ht h0 hs A7 hE E0 E1 M hm hS A6
 go_enter Tryz.func3, Tryz.ntmps3
 go_wp2_with (go_at_call 4; refine J9.out.mono ?_; rintro e w1 ⟨rfl, K5⟩; have X := zaa K5; clear K5; refine Hid.out ?_)
 apply zaa
 clear J9
 have k1 := zar (HS.out.on Lr X.out)
 rw [J.out] at k1
 obtain ⟨G, hG⟩ : ∃ G, w1.heap.size = G := ⟨_, rfl⟩
 obtain ⟨c, W, k2, C3, K6⟩ := al_conv w1 S
 rw [K4.out] at k2
 rw [O9.out] at C3
 rw [hG] at k2 C3
 obtain ⟨g, C, W2, k3, P, P0, K7⟩ := al_tail W G c n b C3 L.out ⟨#[98, 101, 104, 105, 110, 100]⟩ 6 rfl h8 22
 rw [beh8] at P
 obtain ⟨N6, C4⟩ : ∃ N6, n + 6 = N6 := ⟨_, rfl⟩
 rw [C4] at k3
 have A9 := zaa P
 have Y : Hid ((b ++ [98, 101, 104, 105, 110, 100] : List Int).length = N6) := zaa (by rw [zG, L.out, ← C4]; rfl)
 have K8 : Hid (Wf (b ++ [98, 101, 104, 105, 110, 100])) := zaa (D9.out.append (by intro x hx; simp only [List.mem_cons, List.not_mem_nil, or_false] at hx; omega))
 have P1 : Hid ((b ++ [98, 101, 104, 105, 110, 100] : List Int).take n = b) := zaa (by rw [← L.out]; exact List.take_left' rfl)
 have P2 : Hid (w.heap.size ≤ g) := zaa (by have := X.out.size; omega)
 have Z : Hid (Below w.heap.size w W2) := zaa ((zae X.out Lr K6).trans (K7.mono (by have := X.out.size; omega)))
 have K9 : Hid (g < W2.heap.size) := zaa P.1
 have P3 : N6 ≤ 140737488355328 := zq
 have Q4 : (N6 : Int) ≤ 140737488355328 := zq
 have R0 : n ≤ C := by have := P.2.1; have := Y.out; omega
 have Q6 : (n : Int) ≤ (C : Int) := zq
 have P4 := zaa C4
 clear C3 K6 P P0 K7 hG X C4
 go_wp2_with (at_builtin; refine zdf rfl _ _ _ _ rfl _ _ rfl rfl k3 ?_; refine Hid.out ?_)
 apply zaa
 have E3 : Hid (∀ u, Al u g C (b ++ [98, 101, 104, 105, 110, 100]) → Sl u (some ⟨g, 0, none⟩) n C b) := zaa (fun u h => by
  have := h.sl K8.out n (by rw [Y.out]; have := P4.out; omega) zq
  rw [P1.out] at this
  exact this)
 have B1 := zaa (K0.out W2 g C (E3.out _ A9.out) (D.out _ Z.out).1 (D.out _ Z.out).2)
 obtain ⟨B0, E4⟩ : ∃ z, W2.heap.size = z := ⟨_, rfl⟩
 have A0 := zaa E4
 rw [E4] at B1
 clear k1 k2 k3 K0 E4
 go_wp2_with (go_at_call 5; refine B1.out.mono ?_; rintro e w3 ⟨v, rfl, A, L0⟩; refine Hid.out ?_)
 apply zaa
 obtain ⟨a, hv, L1, L2⟩ : ∃ a, (v = iP a ∧ egO b = 1 ∨ v = iQ a ∧ egO b = 2) ∧ (∀ d ∈ cs, d.Wf) ∧ PgX w3 B0 v b cs := by
  rcases L0.out with ⟨_, h⟩ | ⟨h1, h⟩
  ·exact absurd ⟨_, A8.out⟩ h
  ·rcases id h with ⟨a, _, _, _, _, _, _, e1, e2, _⟩ | ⟨a, _, _, _, _, _, e1, e2, _⟩
   ·exact ⟨a, .inl ⟨e1, e2⟩, h1, h⟩
   ·exact ⟨a, .inr ⟨e1, e2⟩, h1, h⟩
 have HV := zaa hv
 clear hv
 have L3 := zaa L2
 have E5 := zaa L1
 clear L2 L1
 have A1 : Hid (Below w.heap.size w w3) := zaa (Z.out.trans (A.out.mono (by have h1 := Z.out.size; have h2 := A0.out; omega)))
 have B2 : Hid (Al w3 g C (b ++ [98, 101, 104, 105, 110, 100])) := zaa (A9.out.on (by rw [A0.out]; exact A.out))
 obtain ⟨B, hB⟩ : ∃ z, w3.heap.size = z := ⟨_, rfl⟩
 have I : Hid (B0 ≤ B ∧ w.heap.size ≤ B ∧ g < B0) := zaa ⟨by have h1 := A.out.size; have h2 := A0.out; omega, by rw [← hB]; exact A1.out.size, by have := K9.out; have := A0.out; omega⟩
 have E7 := zaa (E2.out w3 g C (E3.out _ B2.out) (D.out _ A1.out).1 (D.out _ A1.out).2)
 have A2 := zaa hB
 rw [hB] at E7
 clear B1 L0 A Z A9 K9 A0 hB
 go_wp2_with (go_at_call 6; refine E7.out.mono ?_; rintro e w4 ⟨c1o, c1c, rfl, A, E8⟩; refine Hid.out ?_)
 apply zaa
 have H : Hid (Below B w3 w4) := A
 have C6 : Hid (Below w.heap.size w w4) := zaa (A1.out.trans (A.out.mono I.out.2.1))
 have B3 : Hid (Al w4 g C (b ++ [98, 101, 104, 105, 110, 100])) := zaa (B2.out.on (by rw [A2.out]; exact A.out))
 have E9 := zaa E8.out.1
 have F0 := zaa E8.out.2
 obtain ⟨H1, C7⟩ : ∃ z, w4.heap.size = z := ⟨_, rfl⟩
 have A3 : Hid (B ≤ H1) := zaa (by rw [← C7]; have := A.out.size; have := A2.out; omega)
 have F1 := zaa (E2.out w4 g C (E3.out _ B3.out) (D.out _ C6.out).1 (D.out _ C6.out).2)
 have C8 := zaa C7
 rw [C7] at F1 E9
 clear E7 E8 A A1 B2 C7 E2
 go_wp2_with (go_at_call 6; refine F1.out.mono ?_; rintro e w5 ⟨c2o, c2c, rfl, A, L4⟩; refine Hid.out ?_)
 apply zaa
 have O1 : Hid (Below B w3 w5) := zaa (H.out.trans (A.out.mono A3.out))
 have C9 : Hid (Below w.heap.size w w5) := zaa (C6.out.trans (A.out.mono (zN I.out.2.1 A3.out)))
 have B4 : Hid (Al w5 g C (b ++ [98, 101, 104, 105, 110, 100])) := zaa (B3.out.on (by rw [C8.out]; exact A.out))
 have G7 := zaa (E9.out.on (by rw [C8.out]; exact A.out))
 have B5 := zaa L4.out.1
 obtain ⟨H2, D0⟩ : ∃ z, w5.heap.size = z := ⟨_, rfl⟩
 have L5 : Hid (H1 ≤ H2) := zaa (by rw [← D0]; have := A.out.size; have := C8.out; omega)
 rw [D0] at B5
 have P6 := zaa D0
 have q1 := zar (ao := some ⟨g, 0, none⟩) (n := N6) (cap := C) (w := w5) (l := b ++ [98, 101, 104, 105, 110, 100]) (by
  have := B4.out.sl K8.out N6 (by rw [Y.out]; exact Lr) P3
  rw [List.take_of_length_le (by rw [Y.out]; exact Lr)] at this
  exact this)
 have q2 := zar (HS.out.on Lr C9.out)
 rw [J.out] at q2
 obtain ⟨S6, F2⟩ : ∃ S6, strOfNums (b ++ [98, 101, 104, 105, 110, 100]) = S6 := ⟨_, rfl⟩
 have q3 : (Op.stringOp .add S ⟨#[98, 101, 104, 105, 110, 100]⟩).run Tryz.prog w5 = .ok (.string S6) w5 := by
  rw [run_string_add_sum w5 _ _ (by rw [K4.out]; have : (⟨#[98, 101, 104, 105, 110, 100]⟩ : ByteArray).size = 6 := rfl; omega), ← F2, ← J.out]
  congr 2
  apply ByteArray.ext
  simp [strOfNums]
 rw [F2] at q1
 have q4 : (S6.toList != S6.toList) = false := by simp
 clear F1 L4 A C6 B3 E9 F2 D0 C8 H
 go_wp2_with fail
 go_loopw [17] (fun i wr => ∃ (j : Nat) (l' : List Int), j ≤ N6 ∧ i = .int .i64 (j : Int) ∧ l'.length = N6 ∧ Hid (Al wr g C l') ∧ Hid (Cf (· = g) w5 wr)) (fun i _ => N6 - (intOf i).toNat)
 case atStart => exact ⟨0, _, zq, rfl, Y.out, B4, zaa (Cf.refl _ _)⟩
 case round =>
  obtain ⟨j, l', hj, rfl, hl', Q, K⟩ := hrel
  have jI : (j : Int) ≤ 140737488355328 := zq
  by_cases R1 : j < N6
  ·have O2 : (j : Int) < (N6 : Int) := zq
   have R2 : wr.cell? ⟨g, j, none⟩ = some (.int .u8 (l'.getD j 0)) := Q.out.2.2.2 j zq
   have R3 : wr.frozen? ⟨g, j, none⟩ = false := (Q.out.2.2.1 j (by have := Q.out.2.1; omega)).2
   have P7 : Hid (Al (wr.setCell ⟨g, j, none⟩ (.int .u8 77)) g C (l'.set j 77)) := zaa (Q.out.set zq 77)
   have R : Hid (Cf (· = g) w5 (wr.setCell ⟨g, j, none⟩ (.int .u8 77))) := zaa (K.out.trans (Cf.set wr g j _) (fun _ _ e => e))
   clear Q K
   go_wp2
   go_roundw
   case rel => exact ⟨j + 1, l'.set j 77, zq, by go_num, by simp [hl'], P7, R⟩
   case measure => simp [intOf]; omega
  ·have O2 : ¬ (j : Int) < (N6 : Int) := zq
   have F3 : Hid (Below w.heap.size w wr) := zaa (C9.out.trans (K.out.below C9.out.size (fun k hk e => by have := P2.out; omega)))
   have G8 : Hid (Cf (fun z => z = g ∨ B ≤ z) w3 wr) := zaa (((Cf.of_below (F := fun z => z = g ∨ B ≤ z) (by rw [A2.out]; exact O1.out))).go (K.out.wide (fun k hk => .inl hk)))
   have F4 : ∀ z, z = g → z < B := fun z e => by have := I.out; omega
   have G9 := zaa (G7.out.cf K.out F4)
   have H0 := zaa (B5.out.cf K.out (fun z e => zO (F4 z e) A3.out))
   have H3 := zaa (K1.out wr (HS.out.on Lr F3.out))
   have L6 : Hid (H2 ≤ wr.heap.size) := zaa (by have := K.out.size; have := P6.out; omega)
   clear F4 q1 q2 q3 q4 Q K G7 B5 B4 C9 K1
   go_wp2_with (go_at_call 7; refine H3.out.mono ?_; rintro e w6 ⟨p, rfl, A, L7⟩; refine Hid.out ?_)
   apply zaa
   obtain ⟨x, rfl, L8⟩ : ∃ x, p = some ⟨x, 0, none⟩ ∧ RX w6 x b cs := by
    rcases L7.out with ⟨_, h⟩ | ⟨x, h1, _, h2⟩
    ·exact absurd ⟨_, A8.out⟩ h
    ·exact ⟨x, h1, h2⟩
   have L9 := zaa L8
   clear L8
   have F5 : Hid (Below w.heap.size w w6) := zaa (zae F3.out Lr A.out)
   have H4 : Hid (Cf (fun z => z = g ∨ B ≤ z) w3 w6) := zaa (G8.out.go (Cf.of_below A.out))
   have H5 := zaa (G9.out.on A.out)
   have H6 := zaa (H0.out.on A.out)
   have M0 : Hid (H2 ≤ w6.heap.size) := zaa (zN L6.out A.out.size)
   have H7 := zaa (K2.out w6 (HS.out.on Lr F5.out))
   clear H3 L7 F3 G8 G9 H0 L6 A K2
   go_wp2_with (go_at_call 8; refine H7.out.mono ?_; rintro e w7 ⟨ro, rc, rfl, A, F6⟩; refine Hid.out ?_)
   apply zaa
   have M1 : Hid (Below w.heap.size w w7) := zaa (zae F5.out Lr A.out)
   have H9 : Hid (Cf (fun z => z = g ∨ B ≤ z) w3 w7) := zaa (H4.out.go (Cf.of_below A.out))
   have B6 := zaa (H5.out.on A.out)
   have I0 := zaa (H6.out.on A.out)
   have M2 : Hid (H2 ≤ w7.heap.size) := zaa (zN M0.out A.out.size)
   have M3 := zaa (L9.out.on A.out)
   clear L9
   have M4 : Hid (∀ u lo hi co cc, Got u lo hi co m cc cs → SlC u co m cc cs) := zaa fun u lo hi co cc h => h.slc F0.out V.out.2 V.out.1
   have M5 := zaa (zde c1o ro m c1c rc cs w7 (M4.out _ _ _ _ _ B6.out) F6.out)
   clear H7 F5 H4 H5 H6 M0 A
   go_wp2_with (go_at_call 9; refine M5.out.mono ?_; rintro e w8 ⟨rfl, A⟩; refine Hid.out ?_)
   apply zaa
   have M6 : Hid (Below w.heap.size w w8) := zaa (zae M1.out Lr A.out)
   have I1 : Hid (Cf (fun z => z = g ∨ B ≤ z) w3 w8) := zaa (H9.out.go (Cf.of_below A.out))
   have I2 := zaa (B6.out.on A.out)
   have B7 := zaa (I0.out.on A.out)
   have M7 := zaa (F6.out.on A.out)
   have M8 : Hid (H2 ≤ w8.heap.size) := zaa (zN M2.out A.out.size)
   have M9 := zaa (M3.out.on A.out)
   clear M3
   have I3 := zaa (zde c2o ro m c2c rc cs w8 (M4.out _ _ _ _ _ B7.out) M7.out)
   have e1 : (E != E) = false := by simp
   have e2 : (en != en) = false := by simp
   have e3 : (kk != kk) = false := by simp
   clear M5 M1 H9 B6 I0 F6 M2 A
   go_wp2_with (go_at_call 9; refine I3.out.mono ?_; rintro e w9 ⟨rfl, A⟩; refine Hid.out ?_)
   apply zaa
   have N0 : Hid (Below w.heap.size w w9) := zaa (zae M6.out Lr A.out)
   have I4 : Hid (Cf (fun z => z = g ∨ B ≤ z) w3 w9) := zaa (I1.out.go (Cf.of_below A.out))
   have I5 := zaa (I2.out.on A.out)
   have I6 := zaa (B7.out.on A.out)
   have F7 : Hid (H2 ≤ w9.heap.size) := zaa (zN M8.out A.out.size)
   have N1 := zaa (M9.out.on A.out)
   clear M9
   obtain ⟨bk, F8⟩ : ∃ bk, w9.heap.size = bk := ⟨_, rfl⟩
   obtain ⟨y, hy⟩ : ∃ y, w9.alloc (.cells #[.slice none 0 0, .slice none 0 0] 42) = y := ⟨_, rfl⟩
   have O : Below w9.heap.size w9 y := by rw [← hy]; exact zab Br Lr _
   have N2 : Hid (Bx y B bk [] 0 B) := zaa (Bx.new (by rw [← hy, ← F8]; exact heap_alloc_last w9 _))
   have F9 : Hid (B ≤ bk) := zaa (by have := F7.out; have := A3.out; have := L5.out; omega)
   have G0 : Hid (Below w.heap.size w y) := zaa (zae N0.out Lr O)
   have I7 : Hid (Cf (fun z => z = g ∨ B ≤ z) w3 y) := zaa (I4.out.go (Cf.of_below O))
   have B8 := zaa (I5.out.on O)
   have I8 := zaa (I6.out.on O)
   have G1 : Hid (H2 ≤ y.heap.size) := zaa (zN F7.out O.size)
   have N3 := zaa (N1.out.on O)
   clear N1
   clear I3 M6 I1 I2 B7 M7 M8 A N0 I4 I5 I6 F7 O
   have D7 : Hid (∀ u, Cf (fun z => z = g ∨ B ≤ z) w3 u → egO b = 1 → AsksP u a b cs) := zaa fun u hc h1 => by
    rcases PgX.cf L3.out (cf_only (by rw [A2.out]; exact hc)) (fun z e => by have := I.out; omega) with ⟨a2, bo, bn, bc, so, sn, sc, e1, e2, h2, h3, h4⟩ | ⟨a2, gp, qn, qc, vb, vs, e1, e2, h2, h3, h4⟩ <;> rcases HV.out with ⟨hv, he⟩ | ⟨hv, he⟩ <;> first
     | (exfalso; omega)
     | (have e3 := hv.symm.trans e1; injection e3 with e4 e3; injection e3 with e3; injection e3 with e3; injection e3 with e3; rw [e3]; exact askP_of e2 h2 E5.out D9.out h4)
   have D8 : Hid (∀ u, Cf (fun z => z = g ∨ B ≤ z) w3 u → egO b = 2 → AsksQ u a b cs) := zaa fun u hc h1 => by
    rcases PgX.cf L3.out (cf_only (by rw [A2.out]; exact hc)) (fun z e => by have := I.out; omega) with ⟨a2, bo, bn, bc, so, sn, sc, e1, e2, h2, h3, h4⟩ | ⟨a2, gp, qn, qc, vb, vs, e1, e2, h2, h3, h4⟩ <;> rcases HV.out with ⟨hv, he⟩ | ⟨hv, he⟩ <;> first
     | (exfalso; omega)
     | (have e3 := hv.symm.trans e1; injection e3 with e4 e3; injection e3 with e3; injection e3 with e3; injection e3 with e3; rw [e3]; exact askQ_of e2 h2 E5.out D9.out h4)
   have O3 := zaa (fun (y2 : World) (bk : Nat) (LV : List Value) (N U : Nat) (hc : Cf (fun z => z = g ∨ B ≤ z) w3 y2) (h1 : RX y2 x b cs) (h2 : Bx y2 B bk LV N U) (h3 : N ≤ 1000000) (h4 : LV.length ≤ 900) (h5 : B ≤ y2.heap.size) (h6 : B ≤ bk) (h7 : U ≤ y2.heap.size) => alikeV_any y2 B bk a x v LV N U b cs (HV.out.imp (fun h => (⟨h.1, fun u (hu : Below B y2 u) => D7.out u (hc.go ⟨hu.os, hu.tape, hu.output, hu.size, fun k hk hf => hu.block k (by rcases Nat.lt_or_ge k B with h | h; exact h; exact absurd (.inr h) hf)⟩) h.2⟩ : v = iP a ∧ ∀ u, Below B y2 u → AsksP u a b cs)) (fun h => (⟨h.1, fun u (hu : Below B y2 u) => D8.out u (hc.go ⟨hu.os, hu.tape, hu.output, hu.size, fun k hk hf => hu.block k (by rcases Nat.lt_or_ge k B with h | h; exact h; exact absurd (.inr h) hf)⟩) h.2⟩ : v = iQ a ∧ ∀ u, Below B y2 u → AsksQ u a b cs))) h1 A8.out E5.out h2 h3 h4 h5 h6 h7)
   rcases HV.out with ⟨rfl, he⟩ | ⟨rfl, he⟩
   all_goals
    have HE := zaa he
    clear he HV
    go_wp2_with (go_at_call 10; refine Hid.out ?_)
    apply zaa
    try rw [hy, F8]
    clear hy F8
    have A4 : Hid (B ≤ H1 ∧ H1 ≤ H2) := zaa ⟨A3.out, L5.out⟩
    have N4 := zaa (takeAllB y B bk [] 0 B B H1 c1o m c1c cs N2.out zq zq zv (by have := G1.out; have := A4.out; omega) F9.out B8.out Lr F0.out V.out.2 Lr)
    refine N4.out.mono ?_
    rintro e y1 ⟨rfl, N5, D3, D4⟩
    have B9 : Hid (Below w.heap.size w y1) := zaa (G0.out.trans (D3.out.below G0.out.size (fun k hk e => by have := I.out; omega)))
    have I9 : Hid (Cf (fun z => z = g ∨ B ≤ z) w3 y1) := zaa (I7.out.go (D3.out.wide (fun k hk => .inr hk)))
    have J0 := zaa (B8.out.k3 D4.out)
    have C0 := zaa (I8.out.k3 D4.out)
    have G2 : Hid (H2 ≤ y1.heap.size) := zaa (zN G1.out D3.out.size)
    have J1 := zaa (N3.out.k3 D4.out)
    clear N3
    have N7 := zaa (takeAllB y1 B bk [.slice c1o m c1c] (2 * m) H1 H1 H2 c2o m c2c cs (by have := N5.out; rw [Nat.zero_add] at this; exact this) zq zq zv (by have := G2.out; have := A4.out; omega) F9.out C0.out A4.out.1 F0.out V.out.2 Lr)
    clear N4 N2 N5 D3 D4 B8 I8 G1 G0 I7
    go_wp2_with (go_at_call 10; refine N7.out.mono ?_; rintro e y2 ⟨rfl, N8, R, D5⟩; refine Hid.out ?_)
    apply zaa
    have C1 : Hid (Below w.heap.size w y2) := zaa (B9.out.trans (R.out.below B9.out.size (fun k hk e => by have := I.out; omega)))
    have C2 : Hid (Cf (fun z => z = g ∨ B ≤ z) w3 y2) := zaa (I9.out.go (R.out.wide (fun k hk => .inr hk)))
    have J2 := zaa (J0.out.k3 D5.out)
    have J3 := zaa (C0.out.k3 D5.out)
    have A5 : Hid (H2 ≤ y2.heap.size) := zaa (zN G2.out R.out.size)
    have J4 : Hid (Bx y2 B bk [.slice c1o m c1c, .slice c2o m c2c] (2 * m + 2 * m) H2) := N8
    have P8 := zaa (J1.out.k3 D5.out)
    clear J1
    clear N7 N8 R D5 J0 C0 G2 B9 I9
    have G3 := zaa (O3.out y2 bk [.slice c1o m c1c, .slice c2o m c2c] (2 * m + 2 * m) H2 C2.out P8.out J4.out zq zv (by have := A5.out; have := A4.out; omega) F9.out A5.out)
    rw [O8.out] at G3
    go_wp2_with (go_at_call 11; refine G3.out.mono ?_; rintro e y3 ⟨rfl, c3o, c3c, lo3, N9, J5, Q0, G4, O0⟩; refine Hid.out ?_)
    apply zaa
    have T : Hid (Below w.heap.size w y3) := zaa (C1.out.trans (G4.out.below C1.out.size (fun k hk e => by have := I.out; omega)))
    have J6 : Hid (Cf (fun z => z = g ∨ B ≤ z) w3 y3) := zaa (C2.out.go (G4.out.wide (fun k hk => .inr hk)))
    have O4 := zaa (J2.out.k3 O0.out)
    have O5 := zaa (J3.out.k3 O0.out)
    have Q1 : Hid (H2 ≤ y3.heap.size) := zaa (zN A5.out G4.out.size)
    have G5 : Hid (H2 ≤ lo3) := zaa (zN A5.out J5.out.2)
    have O6 : Hid (Bx y3 B bk [.slice c1o m c1c, .slice c2o m c2c, .slice c3o m c3c] (2 * m + 2 * m + 2 * m) N9) := Q0
    have G6 : Hid (∀ u, Below y3.heap.size y3 u → Sl u ao n cap b) := zaa fun u hu => HS.out.on Lr (zae T.out Lr hu)
    have J7 : Hid (egO b = 1 → ∀ u, Below y3.heap.size y3 u → Calls Tryz.prog 74 #[.pointer (some ⟨a, 0, none⟩)] u fun e w' => ∃ gb, e = .returned (.slice (some ⟨gb, 0, none⟩) n n) ∧ ((convert 22 9 (.slice (some ⟨gb, 0, none⟩) n n)).run Tryz.prog w' = .ok (.string S) w') ∧ ((convert 22 9 (.slice ao n cap)).run Tryz.prog w' = .ok (.string S) w') ∧ Hid (Below y3.heap.size y3 w')) := zaa fun h1 u hu => by
     have hb := zae T.out Lr hu
     refine ((D7.out u (J6.out.go (Cf.of_below hu)) h1).bytes (D.out u hb).1 (D.out u hb).2).mono ?_
     rintro e w' ⟨gb, rfl, h3, h2⟩
     rw [L.out] at h3
     refine ⟨gb, by rw [L.out], ?_, ?_, zaa (zae hu Lr h2.out)⟩
     ·have := zar h3.out
      rw [J.out] at this
      exact this
     ·have := zar (G6.out w' (zae hu Lr h2.out))
      rw [J.out] at this
      exact this
    have J8 : Hid (egO b = 2 → ∀ u, Below y3.heap.size y3 u → Calls Tryz.prog 92 #[.pointer (some ⟨a, 0, none⟩)] u fun e w' => ∃ gb, e = .returned (.slice (some ⟨gb, 0, none⟩) n n) ∧ ((convert 22 9 (.slice (some ⟨gb, 0, none⟩) n n)).run Tryz.prog w' = .ok (.string S) w') ∧ ((convert 22 9 (.slice ao n cap)).run Tryz.prog w' = .ok (.string S) w') ∧ Hid (Below y3.heap.size y3 w')) := zaa fun h1 u hu => by
     have hb := zae T.out Lr hu
     refine ((D8.out u (J6.out.go (Cf.of_below hu)) h1).bytes (D.out u hb).1 (D.out u hb).2).mono ?_
     rintro e w' ⟨gb, rfl, h3, h2⟩
     rw [L.out] at h3
     refine ⟨gb, by rw [L.out], ?_, ?_, zaa (zae hu Lr h2.out)⟩
     ·have := zar h3.out
      rw [J.out] at this
      exact this
     ·have := zar (G6.out w' (zae hu Lr h2.out))
      rw [J.out] at this
      exact this
    have r1 : (convert 22 9 (.slice ao n cap)).run Tryz.prog y3.drew = .ok (.string S) y3.drew := by
     have := zar (G6.out y3.drew Br.drew)
     rw [J.out] at this
     exact this
    have r2 : (S.toList != S.toList) = false := by simp
    have O7 : Hid (∀ u, Below y3.heap.size y3 u → Calls Tryz.prog 12 #[.pointer (some ⟨bk, 0, none⟩)] u fun e w' => e = .returned (.bool true) ∧ Hid (Below w.heap.size w w')) := zaa fun u hu => by
     have hs := hu.size
     have R4 := Q1.out
     have Q2 := A4.out
     refine (owned3B u B bk _ _ m c1o c1c B H1 c2o c2c H1 H2 c3o c3c lo3 N9 cs (O6.out.on hu) zq zq V.out.1 (O4.out.on hu) (O5.out.on hu) (J5.out.1.on hu) Lr Q2.1 (by have := G5.out; omega) Lr (by have := G5.out; omega) G5.out).mono ?_
     rintro e w' ⟨rfl, hc⟩
     have hb := zae T.out Lr hu
     exact ⟨rfl, zaa (hb.trans (hc.out.below hb.size (fun k hk e => by have := I.out; omega)))⟩
    clear G3 J2 J3 A5 J4 C2 C1
    go_wp2_with fail
    go_region_with (first | (go_at_call 74; refine (J7.out HE.out _ zW1).mono ?_; rintro e y4 ⟨gb, rfl, r3, r4, H⟩) | (go_at_call 92; refine (J8.out HE.out _ zW1).mono ?_; rintro e y4 ⟨gb, rfl, r3, r4, H⟩))
    all_goals
     go_wp2_with (go_at_call 12; refine (O7.out _ (by first | exact H.out | exact H.out.drew | exact zac H.out _)).mono ?_; rintro e y5 ⟨rfl, Q3⟩)
     go_ret
     exact ⟨rfl, Q3.out⟩
theorem walk_NodeReads (ao : Option Addr) (n cap : Nat) (b : List Int) (w : World) (ht : Tab w) (h0 : 1 < w.heap.size) (hs : Sl w ao n cap b) (h8 : n + 6 ≤ 140737488355328) :
  Calls Tryz.prog 3 #[.slice ao n cap] w fun e w' => e = .returned (.bool true) ∧ Below w.heap.size w w' := by
 by_cases A : ∃ cs, Yes b cs
 ·obtain ⟨cs, hy⟩ := A
  have hc := (yes_E hy).1
  have hy' : Yes b (csE b) := by rw [hc]; exact hy
  exact walkY_NodeReads ao n cap b w ht h0 hs h8 hy'
 ·exact walkN_NodeReads ao n cap b w ht h0 hs h8 A
end Go.Proofs.YtbkhjeacmmbabaaGreatDoor
namespace Go.Proofs.YtbkhjeacmmbabaaGreatDoor
set_option maxRecDepth 100000
open Go.ChangeShapes Go.WideShapes Go.ChangeAt Go.RowKit
theorem own : ownKnob Tryz.prog.godebug = none := by kernel_rfl
theorem gTab : Tryz.prog.globalNamed "espalier/ink.steps" = some 1 := by kernel_rfl
theorem gTabType : (Tryz.prog.globals[1]?).map (·.type) = some 184 := by kernel_rfl
theorem cellsR : Tryz.prog.cellsOf 183 = 16 := by kernel_rfl
theorem cellsU : Tryz.prog.cellsOf 133 = 1 := by kernel_rfl
def rowZ (i : Nat) : List Int := ((tabN.drop (16 * i)).take 16).map fun (x : Nat) => (x : Int)
theorem laid_eq {H : Type} : (Rows.laid_espalier_ink_steps : DataW H) = .agg ((List.range 8).map fun i => Lib.tabData .u32 (rowZ i)) := by kernel_rfl
theorem rowZ_at (i r : Nat) (hi : i < 8) (hr : r < 16) : (rowZ i)[r]? = some ((tN (16 * i + r) : Nat) : Int) := by
 have h : ∀ (a : Fin 8) (b : Fin 16), (rowZ a.val)[b.val]? = some ((tN (16 * a.val + b.val) : Nat) : Int) := by decide +kernel
 exact h ⟨i, hi⟩ ⟨r, hr⟩
theorem tab_of_laid {W : World} (h : laidMetH Tryz.prog [("espalier/ink.steps", Rows.laid_espalier_ink_steps)] W) : Tab W := by
 have h' : laidMet Tryz.prog [("espalier/ink.steps", Rows.laid_espalier_ink_steps)] W := h
 obtain ⟨ps, ⟨g', t', cs, fuel, p, q, hg', ht', C, hd, _, _⟩, _⟩ := h'
 obtain rfl := Option.some.inj (gTab.symm.trans hg')
 obtain rfl := Option.some.inj (gTabType.symm.trans ht')
 obtain ⟨xs, m, _, hx, _, E, B⟩ := DataW.trod_array Tryz.underlying184 hd
 rw [laid_eq] at hx
 have F : (List.range 8).map (fun i => Lib.tabData .u32 (rowZ i)) = xs.map (·.1) := by
  have := congrArg Prod.fst hx
  simpa using this
 rw [cellsR] at B
 intro j hj
 have e : j = 16 * (j / 16) + j % 16 := zq
 have hi : j / 16 < 8 := zq
 have hr : j % 16 < 16 := zq
 generalize j / 16 = i at *
 generalize j % 16 = r at *
 subst e
 have G : xs[i]? = some xs[i] := zI zq
 have D : xs[i].1 = Lib.tabData .u32 (rowZ i) := by
  have := congrArg (·[i]?) F
  simpa [hi, E] using this.symm
 have A := B i hi
 rw [G] at A
 have hc := Lib.cells_of_tab (zs := rowZ i) (p := xs[i].2) (k := .u32) Tryz.underlying183 Tryz.underlying133 cellsU cellsR (A.trans (by rw [← D]))
 have H : cs[16 * i + r]? = some (.int .u32 (tN (16 * i + r))) := by
  have h1 := congrArg (·[r]?) hc
  simp only [List.getElem?_map, rowZ_at i r hi hr, Option.map_some] at h1
  rw [List.getElem?_take_of_lt hr, List.getElem?_drop] at h1
  rw [Nat.mul_comm i 16] at h1
  simpa using h1
 have := World.var?_cell gTab C (16 * i + r)
 rw [this]
 simpa using H
theorem laidOut : laidOutB Tryz.prog = true := by kernel_rfl
end Go.Proofs.YtbkhjeacmmbabaaGreatDoor
