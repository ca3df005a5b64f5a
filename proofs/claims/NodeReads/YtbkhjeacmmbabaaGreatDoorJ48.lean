import Derived.Test.YtbkhjeacmmbabaaGreatDoorJ47
namespace Go.Proofs.YtbkhjeacmmbabaaGreatDoor
set_option maxRecDepth 100000
set_option maxHeartbeats 16000000
open Go.RowKit
open Six
theorem walkN_NodeReads (ao : Option Addr) (n cap : Nat) (b : List Int) (w : World) (ht : Tab w) (h0 : 1 < w.heap.size) (hs : Sl w ao n cap b) (h8 : n + 6 ≤ 140737488355328) (hno : ¬ ∃ cs, Yes b cs) :
  Calls Tryz.prog 3 #[.slice ao n cap] w fun e w' => e = .returned (.bool true) ∧ Below w.heap.size w w' := by
 have HAW := zaa (awake8_any w ht h0)
 have HT := zaa ht
 have HH0 := zaa h0
 have HS := zaa hs
 have HWF := zaa hs.wf
 have HLE := zaa hs.hlen
 obtain ⟨cs, hcs⟩ : ∃ cs, csE b = cs := ⟨_, rfl⟩
 obtain ⟨m, hm⟩ : ∃ m, cs.length = m := ⟨_, rfl⟩
 have hlen := csE_len b
 rw [hcs] at hlen
 have HLN := zaa hlen
 have hm6 : m ≤ 65536 := by omega
 obtain ⟨E, hE⟩ : ∃ E, cE b = E := ⟨_, rfl⟩
 obtain ⟨en, hen⟩ : ∃ x, eE b = x := ⟨_, rfl⟩
 obtain ⟨kk, hkk⟩ : ∃ x, kE b = x := ⟨_, rfl⟩
 have HML := zaa hm
 have HNO := zaa hno
 have HOP : Hid (∀ u g C, Sl u (some ⟨g, 0, none⟩) n C b → Tab u → 1 < u.heap.size → Calls Tryz.prog 5 #[.slice (some ⟨g, 0, none⟩) n C] u fun e w' => ∃ v, e = .returned (.tuple #[v, .int .i64 E]) ∧ Hid (Below u.heap.size u w') ∧ Hid ((v = .nilIface ∧ ¬ ∃ cs, Yes b cs) ∨ ((∀ d ∈ cs, d.Wf) ∧ PgX w' u.heap.size v b cs))) := zaa fun u g C h1 h2 h3 => by
  have := nopenG_any (some ⟨g, 0, none⟩) n C b u h1 h2 h3
  unfold OpG at this
  rw [hE, hcs] at this
  exact this
 have HDE : Hid (∀ u g C, Sl u (some ⟨g, 0, none⟩) n C b → Tab u → 1 < u.heap.size → Calls Tryz.prog 6 #[.slice (some ⟨g, 0, none⟩) n C] u fun e w' => ∃ co cc, e = .returned (.tuple #[.int .i64 en, .int .i64 kk, .slice co m cc, .int .i64 E]) ∧ Hid (Below u.heap.size u w') ∧ Hid (Got w' u.heap.size w'.heap.size co m cc cs ∧ ∀ d ∈ cs, d.Wf)) := zaa fun u g C h1 h2 h3 => by
  have := ndecode_any (some ⟨g, 0, none⟩) n C b u h1 h2 h3
  unfold DecG at this
  rw [hE, hen, hkk, hcs, hm] at this
  exact this
 have HRO : Hid (∀ u, Sl u ao n cap b → Calls Tryz.prog 7 #[.slice ao n cap] u fun e w' => ∃ p, e = .returned (.tuple #[.pointer p, .int .i64 E]) ∧ Hid (Below u.heap.size u w') ∧ Hid ((p = none ∧ ¬ ∃ cs, Yes b cs) ∨ ∃ x, p = some ⟨x, 0, none⟩ ∧ Yes b cs ∧ RX w' x b cs)) := zaa fun u h1 => by
  have := ropen8_any ao n cap b u h1
  unfold ROpG at this
  rw [hE, hcs] at this
  exact this
 have HRD : Hid (∀ u, Sl u ao n cap b → Calls Tryz.prog 8 #[.slice ao n cap] u fun e w' => ∃ co cc, e = .returned (.tuple #[.int .i64 en, .int .i64 kk, .slice co m cc, .int .i64 E]) ∧ Hid (Below u.heap.size u w') ∧ Hid (SlC w' co m cc cs)) := zaa fun u h1 => by
  have := zei ao n cap b u h1
  unfold RDecG at this
  rw [hE, hen, hkk, hcs, hm] at this
  exact this
 have HTT : Hid (∀ u, Below w.heap.size w u → Tab u ∧ 1 < u.heap.size) := zaa fun u hu => ⟨ht.on hu h0, zO h0 hu.size⟩
 obtain ⟨S, hS⟩ : ∃ S, strOfNums b = S := ⟨_, rfl⟩
 have HSE := zaa hS
 have HSZ : Hid (S.size = n) := zaa (by rw [← hS, strOfNums_size]; exact hs.hlen)
 have HNB : Hid (nB S = b) := zaa (by rw [← hS]; exact nB_str hs.wf)
 have H8 := zaa h8
 clear ht h0 hs hlen hE hen hkk hcs hm hS hno
 go_enter Tryz.func3, Tryz.ntmps3
 go_wp2_with (go_at_call 4; refine HAW.out.mono ?_; rintro e w1 ⟨rfl, hb1⟩; have HB1 := zaa hb1; clear hb1; refine Hid.out ?_)
 apply zaa
 clear HAW
 have k1 := zaq (HS.out.on Lr HB1.out)
 rw [HSE.out] at k1
 obtain ⟨G, hG⟩ : ∃ G, w1.heap.size = G := ⟨_, rfl⟩
 obtain ⟨c, W, k2, hal, hbW⟩ := al_conv w1 S
 rw [HSZ.out] at k2
 rw [HNB.out] at hal
 rw [hG] at k2 hal
 obtain ⟨g, C, W2, k3, hal2, hgg, hb2⟩ := al_tail W G c n b hal HLE.out ⟨#[98, 101, 104, 105, 110, 100]⟩ 6 rfl h8 22
 rw [beh8] at hal2
 obtain ⟨N6, hN6⟩ : ∃ N6, n + 6 = N6 := ⟨_, rfl⟩
 rw [hN6] at k3
 have HAL2 := zaa hal2
 have HL6 : Hid ((b ++ [98, 101, 104, 105, 110, 100] : List Int).length = N6) := zaa (by rw [zG, HLE.out, ← hN6]; rfl)
 have HW6 : Hid (Wf (b ++ [98, 101, 104, 105, 110, 100])) := zaa (HWF.out.append (by intro x hx; simp only [List.mem_cons, List.not_mem_nil, or_false] at hx; omega))
 have HTK : Hid ((b ++ [98, 101, 104, 105, 110, 100] : List Int).take n = b) := zaa (by rw [← HLE.out]; exact List.take_left' rfl)
 have HGW : Hid (w.heap.size ≤ g) := zaa (by have := HB1.out.size; omega)
 have HB2 : Hid (Below w.heap.size w W2) := zaa ((zae HB1.out Lr hbW).trans (hb2.mono (by have := HB1.out.size; omega)))
 have HGL : Hid (g < W2.heap.size) := zaa hal2.1
 have hN8 : N6 ≤ 140737488355328 := by omega
 have hN8I : (N6 : Int) ≤ 140737488355328 := by omega
 have hnC : n ≤ C := by have := hal2.2.1; have := HL6.out; omega
 have hnCI : (n : Int) ≤ (C : Int) := by omega
 have HN6 := zaa hN6
 clear hal hbW hal2 hgg hb2 hG HB1 hN6
 go_wp2_with (at_builtin; refine zcd rfl _ _ _ _ rfl _ _ rfl rfl k3 ?_; refine Hid.out ?_)
 apply zaa
 have HSX : Hid (∀ u, Al u g C (b ++ [98, 101, 104, 105, 110, 100]) → Sl u (some ⟨g, 0, none⟩) n C b) := zaa (fun u h => by
  have := h.sl HW6.out n (by rw [HL6.out]; have := HN6.out; omega) (by omega)
  rw [HTK.out] at this
  exact this)
 have HOP1 := zaa (HOP.out W2 g C (HSX.out _ HAL2.out) (HTT.out _ HB2.out).1 (HTT.out _ HB2.out).2)
 obtain ⟨B0, hB0⟩ : ∃ z, W2.heap.size = z := ⟨_, rfl⟩
 have HB0 := zaa hB0
 rw [hB0] at HOP1
 clear k1 k2 k3 HOP hB0
 go_wp2_with (go_at_call 5; refine HOP1.out.mono ?_; rintro e w3 ⟨v, rfl, HBx, HQ3⟩; refine Hid.out ?_)
 apply zaa
 obtain rfl : v = .nilIface := by
  rcases HQ3.out with ⟨h, _⟩ | ⟨_, h⟩
  ·exact h
  ·exact absurd ⟨_, h.yes⟩ HNO.out
 have HB3 : Hid (Below w.heap.size w w3) := zaa (HB2.out.trans (HBx.out.mono (by have h1 := HB2.out.size; have h2 := HB0.out; omega)))
 have HAL3 : Hid (Al w3 g C (b ++ [98, 101, 104, 105, 110, 100])) := zaa (HAL2.out.on (by rw [HB0.out]; exact HBx.out))
 obtain ⟨B, hB⟩ : ∃ z, w3.heap.size = z := ⟨_, rfl⟩
 have HBB : Hid (B0 ≤ B ∧ w.heap.size ≤ B ∧ g < B0) := zaa ⟨by have h1 := HBx.out.size; have h2 := HB0.out; omega, by rw [← hB]; exact HB3.out.size, by have := HGL.out; have := HB0.out; omega⟩
 have HD1 := zaa (HDE.out w3 g C (HSX.out _ HAL3.out) (HTT.out _ HB3.out).1 (HTT.out _ HB3.out).2)
 have HBE := zaa hB
 rw [hB] at HD1
 clear HOP1 HQ3 HBx HB2 HAL2 HGL HB0 hB
 go_wp2_with (go_at_call 6; refine HD1.out.mono ?_; rintro e w4 ⟨c1o, c1c, rfl, HBx, HQ4⟩; refine Hid.out ?_)
 apply zaa
 have HB34 : Hid (Below B w3 w4) := HBx
 have HB4 : Hid (Below w.heap.size w w4) := zaa (HB3.out.trans (HBx.out.mono HBB.out.2.1))
 have HAL4 : Hid (Al w4 g C (b ++ [98, 101, 104, 105, 110, 100])) := zaa (HAL3.out.on (by rw [HBE.out]; exact HBx.out))
 have HG1 := zaa HQ4.out.1
 have HWD := zaa HQ4.out.2
 obtain ⟨H1, hH1⟩ : ∃ z, w4.heap.size = z := ⟨_, rfl⟩
 have HH1 : Hid (B ≤ H1) := zaa (by rw [← hH1]; have := HBx.out.size; have := HBE.out; omega)
 have HD2 := zaa (HDE.out w4 g C (HSX.out _ HAL4.out) (HTT.out _ HB4.out).1 (HTT.out _ HB4.out).2)
 have HE1 := zaa hH1
 rw [hH1] at HD2 HG1
 clear HD1 HQ4 HBx HB3 HAL3 hH1 HDE
 go_wp2_with (go_at_call 6; refine HD2.out.mono ?_; rintro e w5 ⟨c2o, c2c, rfl, HBx, HQ5⟩; refine Hid.out ?_)
 apply zaa
 have HB35 : Hid (Below B w3 w5) := zaa (HB34.out.trans (HBx.out.mono HH1.out))
 have HB5 : Hid (Below w.heap.size w w5) := zaa (HB4.out.trans (HBx.out.mono (zN HBB.out.2.1 HH1.out)))
 have HAL5 : Hid (Al w5 g C (b ++ [98, 101, 104, 105, 110, 100])) := zaa (HAL4.out.on (by rw [HE1.out]; exact HBx.out))
 have HG15 := zaa (HG1.out.on (by rw [HE1.out]; exact HBx.out))
 have HG25 := zaa HQ5.out.1
 obtain ⟨H2, hH2⟩ : ∃ z, w5.heap.size = z := ⟨_, rfl⟩
 have HH2 : Hid (H1 ≤ H2) := zaa (by rw [← hH2]; have := HBx.out.size; have := HE1.out; omega)
 rw [hH2] at HG25
 have HE2 := zaa hH2
 have q1 := zaq (ao := some ⟨g, 0, none⟩) (n := N6) (cap := C) (w := w5) (l := b ++ [98, 101, 104, 105, 110, 100]) (by
  have := HAL5.out.sl HW6.out N6 (by rw [HL6.out]; exact Lr) hN8
  rw [List.take_of_length_le (by rw [HL6.out]; exact Lr)] at this
  exact this)
 have q2 := zaq (HS.out.on Lr HB5.out)
 rw [HSE.out] at q2
 obtain ⟨S6, hS6⟩ : ∃ S6, strOfNums (b ++ [98, 101, 104, 105, 110, 100]) = S6 := ⟨_, rfl⟩
 have q3 : (Op.stringOp .add S ⟨#[98, 101, 104, 105, 110, 100]⟩).run Tryz.prog w5 = .ok (.string S6) w5 := by
  rw [run_string_add_sum w5 _ _ (by rw [HSZ.out]; have : (⟨#[98, 101, 104, 105, 110, 100]⟩ : ByteArray).size = 6 := rfl; omega), ← hS6, ← HSE.out]
  congr 2
  apply ByteArray.ext
  simp [strOfNums]
 rw [hS6] at q1
 have q4 : (S6.toList != S6.toList) = false := by simp
 clear HD2 HQ5 HBx HB4 HAL4 HG1 hS6 hH2 HE1 HB34
 go_wp2_with fail
 go_loopw [17] (fun i wr => ∃ (j : Nat) (l' : List Int), j ≤ N6 ∧ i = .int .i64 (j : Int) ∧ l'.length = N6 ∧ Hid (Al wr g C l') ∧ Hid (Cf (· = g) w5 wr)) (fun i _ => N6 - (intOf i).toNat)
 case atStart => exact ⟨0, _, by omega, rfl, HL6.out, HAL5, zaa (Cf.refl _ _)⟩
 case round =>
  obtain ⟨j, l', hj, rfl, hl', HAr, HCr⟩ := hrel
  have jI : (j : Int) ≤ 140737488355328 := by omega
  by_cases hlt : j < N6
  ·have hltI : (j : Int) < (N6 : Int) := by omega
   have hce : wr.cell? ⟨g, j, none⟩ = some (.int .u8 (l'.getD j 0)) := HAr.out.2.2.2 j (by omega)
   have hfr : wr.frozen? ⟨g, j, none⟩ = false := (HAr.out.2.2.1 j (by have := HAr.out.2.1; omega)).2
   have HA2 : Hid (Al (wr.setCell ⟨g, j, none⟩ (.int .u8 77)) g C (l'.set j 77)) := zaa (HAr.out.set (by omega) 77)
   have HC2 : Hid (Cf (· = g) w5 (wr.setCell ⟨g, j, none⟩ (.int .u8 77))) := zaa (HCr.out.trans (Cf.set wr g j _) (fun _ _ e => e))
   clear HAr HCr
   go_wp2
   go_roundw
   case rel => exact ⟨j + 1, l'.set j 77, by omega, by go_num, by simp [hl'], HA2, HC2⟩
   case measure => simp [intOf]; omega
  ·have hltI : ¬ (j : Int) < (N6 : Int) := by omega
   have HBr : Hid (Below w.heap.size w wr) := zaa (HB5.out.trans (HCr.out.below HB5.out.size (fun k hk e => by have := HGW.out; omega)))
   have HC3r : Hid (Cf (fun z => z = g ∨ B ≤ z) w3 wr) := zaa (((Cf.of_below (F := fun z => z = g ∨ B ≤ z) (by rw [HBE.out]; exact HB35.out))).go (HCr.out.wide (fun k hk => .inl hk)))
   have hgB : ∀ z, z = g → z < B := fun z e => by have := HBB.out; omega
   have HG1r := zaa (HG15.out.cf HCr.out hgB)
   have HG2r := zaa (HG25.out.cf HCr.out (fun z e => zO (hgB z e) HH1.out))
   have HRO1 := zaa (HRO.out wr (HS.out.on Lr HBr.out))
   have HSr : Hid (H2 ≤ wr.heap.size) := zaa (by have := HCr.out.size; have := HE2.out; omega)
   clear hgB q1 q2 q3 q4 HAr HCr HG15 HG25 HAL5 HB5 HRO
   go_wp2_with (go_at_call 7; refine HRO1.out.mono ?_; rintro e w6 ⟨p, rfl, HBx, HQ6⟩; refine Hid.out ?_)
   apply zaa
   obtain rfl : p = none := by
    rcases HQ6.out with ⟨h, _⟩ | ⟨x, _, h, _⟩
    ·exact h
    ·exact absurd ⟨_, h⟩ HNO.out
   have HB6 : Hid (Below w.heap.size w w6) := zaa (zae HBr.out Lr HBx.out)
   have HC36 : Hid (Cf (fun z => z = g ∨ B ≤ z) w3 w6) := zaa (HC3r.out.go (Cf.of_below HBx.out))
   have HG16 := zaa (HG1r.out.on HBx.out)
   have HG26 := zaa (HG2r.out.on HBx.out)
   have HS6 : Hid (H2 ≤ w6.heap.size) := zaa (zN HSr.out HBx.out.size)
   have HRD1 := zaa (HRD.out w6 (HS.out.on Lr HB6.out))
   clear HRO1 HQ6 HBr HC3r HG1r HG2r HSr HBx HRD
   go_wp2_with (go_at_call 8; refine HRD1.out.mono ?_; rintro e w7 ⟨ro, rc, rfl, HBx, HW7⟩; refine Hid.out ?_)
   apply zaa
   have HB7 : Hid (Below w.heap.size w w7) := zaa (zae HB6.out Lr HBx.out)
   have HC37 : Hid (Cf (fun z => z = g ∨ B ≤ z) w3 w7) := zaa (HC36.out.go (Cf.of_below HBx.out))
   have HG17 := zaa (HG16.out.on HBx.out)
   have HG27 := zaa (HG26.out.on HBx.out)
   have HS7 : Hid (H2 ≤ w7.heap.size) := zaa (zN HS6.out HBx.out.size)
   have HSL : Hid (∀ u lo hi co cc, Got u lo hi co m cc cs → SlC u co m cc cs) := zaa fun u lo hi co cc h => h.slc HWD.out HLN.out.2 HLN.out.1
   have HSM := zaa (zck c1o ro m c1c rc cs w7 (HSL.out _ _ _ _ _ HG17.out) HW7.out)
   clear HRD1 HB6 HC36 HG16 HG26 HS6 HBx
   go_wp2_with (go_at_call 9; refine HSM.out.mono ?_; rintro e w8 ⟨rfl, HBx⟩; refine Hid.out ?_)
   apply zaa
   have HB8 : Hid (Below w.heap.size w w8) := zaa (zae HB7.out Lr HBx.out)
   have HC38 : Hid (Cf (fun z => z = g ∨ B ≤ z) w3 w8) := zaa (HC37.out.go (Cf.of_below HBx.out))
   have HG18 := zaa (HG17.out.on HBx.out)
   have HG28 := zaa (HG27.out.on HBx.out)
   have HW8 := zaa (HW7.out.on HBx.out)
   have HS8 : Hid (H2 ≤ w8.heap.size) := zaa (zN HS7.out HBx.out.size)
   have HSM2 := zaa (zck c2o ro m c2c rc cs w8 (HSL.out _ _ _ _ _ HG28.out) HW8.out)
   have e1 : (E != E) = false := by simp
   have e2 : (en != en) = false := by simp
   have e3 : (kk != kk) = false := by simp
   clear HSM HB7 HC37 HG17 HG27 HW7 HS7 HBx
   go_wp2_with (go_at_call 9; refine HSM2.out.mono ?_; rintro e w9 ⟨rfl, HBx⟩; refine Hid.out ?_)
   apply zaa
   have HB9 : Hid (Below w.heap.size w w9) := zaa (zae HB8.out Lr HBx.out)
   have HC39 : Hid (Cf (fun z => z = g ∨ B ≤ z) w3 w9) := zaa (HC38.out.go (Cf.of_below HBx.out))
   have HG19 := zaa (HG18.out.on HBx.out)
   have HG29 := zaa (HG28.out.on HBx.out)
   have HS9 : Hid (H2 ≤ w9.heap.size) := zaa (zN HS8.out HBx.out.size)
   obtain ⟨bk, hbk⟩ : ∃ bk, w9.heap.size = bk := ⟨_, rfl⟩
   obtain ⟨y, hy⟩ : ∃ y, w9.alloc (.cells #[.slice none 0 0, .slice none 0 0] 42) = y := ⟨_, rfl⟩
   have hby : Below w9.heap.size w9 y := by rw [← hy]; exact zad Br Lr _
   have HX0 : Hid (Bx y B bk [] 0 B) := zaa (Bx.new (by rw [← hy, ← hbk]; exact heap_alloc_last w9 _))
   have HBK : Hid (B ≤ bk) := zaa (by have := HS9.out; have := HH1.out; have := HH2.out; omega)
   have HBy : Hid (Below w.heap.size w y) := zaa (zae HB9.out Lr hby)
   have HC3y : Hid (Cf (fun z => z = g ∨ B ≤ z) w3 y) := zaa (HC39.out.go (Cf.of_below hby))
   have HG1y := zaa (HG19.out.on hby)
   have HG2y := zaa (HG29.out.on hby)
   have HSy : Hid (H2 ≤ y.heap.size) := zaa (zN HS9.out hby.size)
   clear HSM2 HB8 HC38 HG18 HG28 HW8 HS8 HBx HB9 HC39 HG19 HG29 HS9 hby
   go_wp2_with (go_at_call 10; refine Hid.out ?_)
   apply zaa
   try rw [hy, hbk]
   clear hy hbk
   have HHB : Hid (B ≤ H1 ∧ H1 ≤ H2) := zaa ⟨HH1.out, HH2.out⟩
   have HT1 := zaa (zdd y B bk [] 0 B B H1 c1o m c1c cs HX0.out (by omega) (by omega) (by simp) (by have := HSy.out; have := HHB.out; omega) HBK.out HG1y.out Lr HWD.out HLN.out.2 Lr)
   refine HT1.out.mono ?_
   rintro e y1 ⟨rfl, HX1, HC1, HK1⟩
   have HBy1 : Hid (Below w.heap.size w y1) := zaa (HBy.out.trans (HC1.out.below HBy.out.size (fun k hk e => by have := HBB.out; omega)))
   have HC31 : Hid (Cf (fun z => z = g ∨ B ≤ z) w3 y1) := zaa (HC3y.out.go (HC1.out.wide (fun k hk => .inr hk)))
   have HG11 := zaa (HG1y.out.k3 HK1.out)
   have HG21 := zaa (HG2y.out.k3 HK1.out)
   have HS1 : Hid (H2 ≤ y1.heap.size) := zaa (zN HSy.out HC1.out.size)
   have HT2 := zaa (zdd y1 B bk [.slice c1o m c1c] (2 * m) H1 H1 H2 c2o m c2c cs (by have := HX1.out; rw [Nat.zero_add] at this; exact this) (by omega) (by omega) (by simp) (by have := HS1.out; have := HHB.out; omega) HBK.out HG21.out HHB.out.1 HWD.out HLN.out.2 Lr)
   clear HT1 HX0 HX1 HC1 HK1 HG1y HG2y HSy HBy HC3y
   go_wp2_with (go_at_call 10; refine HT2.out.mono ?_; rintro e y2 ⟨rfl, HX2, HC2, HK2⟩; refine Hid.out ?_)
   apply zaa
   have HBy2 : Hid (Below w.heap.size w y2) := zaa (HBy1.out.trans (HC2.out.below HBy1.out.size (fun k hk e => by have := HBB.out; omega)))
   have HC32 : Hid (Cf (fun z => z = g ∨ B ≤ z) w3 y2) := zaa (HC31.out.go (HC2.out.wide (fun k hk => .inr hk)))
   have HG12 := zaa (HG11.out.k3 HK2.out)
   have HG22 := zaa (HG21.out.k3 HK2.out)
   have HS2 : Hid (H2 ≤ y2.heap.size) := zaa (zN HS1.out HC2.out.size)
   have HX2' : Hid (Bx y2 B bk [.slice c1o m c1c, .slice c2o m c2c] (2 * m + 2 * m) H2) := HX2
   clear HT2 HX2 HC2 HK2 HG11 HG21 HS1 HBy1 HC31
   have HOW := zaa (owned2B y2 B bk _ _ m c1o c1c B H1 c2o c2c H1 H2 cs HX2'.out (by omega) (by have := HS2.out; have := HHB.out; omega) HLN.out.1 HG12.out HG22.out Lr Lr HHB.out.1)
   go_wp2_with (go_at_call 12; refine HOW.out.mono ?_; rintro e y5 ⟨rfl, HYq⟩)
   go_ret
   exact ⟨rfl, HBy2.out.trans (HYq.out.below HBy2.out.size (fun k hk e => by have := HBB.out; omega))⟩
open Six
theorem walkP_NodeReads (ao : Option Addr) (n cap : Nat) (b : List Int) (w : World) (ht : Tab w) (h0 : 1 < w.heap.size) (hs : Sl w ao n cap b) (h8 : n + 6 ≤ 140737488355328) (hyes : Yes b (csE b)) (heg : egO b = 1) :
  Calls Tryz.prog 3 #[.slice ao n cap] w fun e w' => e = .returned (.bool true) ∧ Below w.heap.size w w' := by
 have HAW := zaa (awake8_any w ht h0)
 have HT := zaa ht
 have HH0 := zaa h0
 have HS := zaa hs
 have HWF := zaa hs.wf
 have HLE := zaa hs.hlen
 obtain ⟨cs, hcs⟩ : ∃ cs, csE b = cs := ⟨_, rfl⟩
 obtain ⟨m, hm⟩ : ∃ m, cs.length = m := ⟨_, rfl⟩
 have hlen := csE_len b
 rw [hcs] at hlen
 have HLN := zaa hlen
 have hm6 : m ≤ 65536 := by omega
 obtain ⟨E, hE⟩ : ∃ E, cE b = E := ⟨_, rfl⟩
 obtain ⟨en, hen⟩ : ∃ x, eE b = x := ⟨_, rfl⟩
 obtain ⟨kk, hkk⟩ : ∃ x, kE b = x := ⟨_, rfl⟩
 have HML := zaa hm
 rw [hcs] at hyes
 have HYES := zaa hyes
 have HEG := zaa heg
 have HOP : Hid (∀ u g C, Sl u (some ⟨g, 0, none⟩) n C b → Tab u → 1 < u.heap.size → Calls Tryz.prog 5 #[.slice (some ⟨g, 0, none⟩) n C] u fun e w' => ∃ v, e = .returned (.tuple #[v, .int .i64 E]) ∧ Hid (Below u.heap.size u w') ∧ Hid ((v = .nilIface ∧ ¬ ∃ cs, Yes b cs) ∨ ((∀ d ∈ cs, d.Wf) ∧ PgX w' u.heap.size v b cs))) := zaa fun u g C h1 h2 h3 => by
  have := nopenG_any (some ⟨g, 0, none⟩) n C b u h1 h2 h3
  unfold OpG at this
  rw [hE, hcs] at this
  exact this
 have HDE : Hid (∀ u g C, Sl u (some ⟨g, 0, none⟩) n C b → Tab u → 1 < u.heap.size → Calls Tryz.prog 6 #[.slice (some ⟨g, 0, none⟩) n C] u fun e w' => ∃ co cc, e = .returned (.tuple #[.int .i64 en, .int .i64 kk, .slice co m cc, .int .i64 E]) ∧ Hid (Below u.heap.size u w') ∧ Hid (Got w' u.heap.size w'.heap.size co m cc cs ∧ ∀ d ∈ cs, d.Wf)) := zaa fun u g C h1 h2 h3 => by
  have := ndecode_any (some ⟨g, 0, none⟩) n C b u h1 h2 h3
  unfold DecG at this
  rw [hE, hen, hkk, hcs, hm] at this
  exact this
 have HRO : Hid (∀ u, Sl u ao n cap b → Calls Tryz.prog 7 #[.slice ao n cap] u fun e w' => ∃ p, e = .returned (.tuple #[.pointer p, .int .i64 E]) ∧ Hid (Below u.heap.size u w') ∧ Hid ((p = none ∧ ¬ ∃ cs, Yes b cs) ∨ ∃ x, p = some ⟨x, 0, none⟩ ∧ Yes b cs ∧ RX w' x b cs)) := zaa fun u h1 => by
  have := ropen8_any ao n cap b u h1
  unfold ROpG at this
  rw [hE, hcs] at this
  exact this
 have HRD : Hid (∀ u, Sl u ao n cap b → Calls Tryz.prog 8 #[.slice ao n cap] u fun e w' => ∃ co cc, e = .returned (.tuple #[.int .i64 en, .int .i64 kk, .slice co m cc, .int .i64 E]) ∧ Hid (Below u.heap.size u w') ∧ Hid (SlC w' co m cc cs)) := zaa fun u h1 => by
  have := zei ao n cap b u h1
  unfold RDecG at this
  rw [hE, hen, hkk, hcs, hm] at this
  exact this
 have HTT : Hid (∀ u, Below w.heap.size w u → Tab u ∧ 1 < u.heap.size) := zaa fun u hu => ⟨ht.on hu h0, zO h0 hu.size⟩
 obtain ⟨S, hS⟩ : ∃ S, strOfNums b = S := ⟨_, rfl⟩
 have HSE := zaa hS
 have HSZ : Hid (S.size = n) := zaa (by rw [← hS, strOfNums_size]; exact hs.hlen)
 have HNB : Hid (nB S = b) := zaa (by rw [← hS]; exact nB_str hs.wf)
 have H8 := zaa h8
 clear ht h0 hs hlen hE hen hkk hcs hm hS hyes heg
 go_enter Tryz.func3, Tryz.ntmps3
 go_wp2_with (go_at_call 4; refine HAW.out.mono ?_; rintro e w1 ⟨rfl, hb1⟩; have HB1 := zaa hb1; clear hb1; refine Hid.out ?_)
 apply zaa
 clear HAW
 have k1 := zaq (HS.out.on Lr HB1.out)
 rw [HSE.out] at k1
 obtain ⟨G, hG⟩ : ∃ G, w1.heap.size = G := ⟨_, rfl⟩
 obtain ⟨c, W, k2, hal, hbW⟩ := al_conv w1 S
 rw [HSZ.out] at k2
 rw [HNB.out] at hal
 rw [hG] at k2 hal
 obtain ⟨g, C, W2, k3, hal2, hgg, hb2⟩ := al_tail W G c n b hal HLE.out ⟨#[98, 101, 104, 105, 110, 100]⟩ 6 rfl h8 22
 rw [beh8] at hal2
 obtain ⟨N6, hN6⟩ : ∃ N6, n + 6 = N6 := ⟨_, rfl⟩
 rw [hN6] at k3
 have HAL2 := zaa hal2
 have HL6 : Hid ((b ++ [98, 101, 104, 105, 110, 100] : List Int).length = N6) := zaa (by rw [zG, HLE.out, ← hN6]; rfl)
 have HW6 : Hid (Wf (b ++ [98, 101, 104, 105, 110, 100])) := zaa (HWF.out.append (by intro x hx; simp only [List.mem_cons, List.not_mem_nil, or_false] at hx; omega))
 have HTK : Hid ((b ++ [98, 101, 104, 105, 110, 100] : List Int).take n = b) := zaa (by rw [← HLE.out]; exact List.take_left' rfl)
 have HGW : Hid (w.heap.size ≤ g) := zaa (by have := HB1.out.size; omega)
 have HB2 : Hid (Below w.heap.size w W2) := zaa ((zae HB1.out Lr hbW).trans (hb2.mono (by have := HB1.out.size; omega)))
 have HGL : Hid (g < W2.heap.size) := zaa hal2.1
 have hN8 : N6 ≤ 140737488355328 := by omega
 have hN8I : (N6 : Int) ≤ 140737488355328 := by omega
 have hnC : n ≤ C := by have := hal2.2.1; have := HL6.out; omega
 have hnCI : (n : Int) ≤ (C : Int) := by omega
 have HN6 := zaa hN6
 clear hal hbW hal2 hgg hb2 hG HB1 hN6
 go_wp2_with (at_builtin; refine zcd rfl _ _ _ _ rfl _ _ rfl rfl k3 ?_; refine Hid.out ?_)
 apply zaa
 have HSX : Hid (∀ u, Al u g C (b ++ [98, 101, 104, 105, 110, 100]) → Sl u (some ⟨g, 0, none⟩) n C b) := zaa (fun u h => by
  have := h.sl HW6.out n (by rw [HL6.out]; have := HN6.out; omega) (by omega)
  rw [HTK.out] at this
  exact this)
 have HOP1 := zaa (HOP.out W2 g C (HSX.out _ HAL2.out) (HTT.out _ HB2.out).1 (HTT.out _ HB2.out).2)
 obtain ⟨B0, hB0⟩ : ∃ z, W2.heap.size = z := ⟨_, rfl⟩
 have HB0 := zaa hB0
 rw [hB0] at HOP1
 clear k1 k2 k3 HOP hB0
 go_wp2_with (go_at_call 5; refine HOP1.out.mono ?_; rintro e w3 ⟨v, rfl, HBx, HQ3⟩; refine Hid.out ?_)
 apply zaa
 obtain ⟨a, rfl, hwf, hpg⟩ : ∃ a, v = iP a ∧ (∀ d ∈ cs, d.Wf) ∧ PgX w3 B0 v b cs := by
  rcases HQ3.out with ⟨_, h⟩ | ⟨h1, h⟩
  ·exact absurd ⟨_, HYES.out⟩ h
  ·rcases id h with ⟨a, _, _, _, _, _, _, e1, _⟩ | ⟨_, _, _, _, _, _, _, e2, _⟩
   ·exact ⟨a, e1, h1, h⟩
   ·have := HEG.out; omega
 have HPG := zaa hpg
 have HWC := zaa hwf
 clear hpg hwf
 have HB3 : Hid (Below w.heap.size w w3) := zaa (HB2.out.trans (HBx.out.mono (by have h1 := HB2.out.size; have h2 := HB0.out; omega)))
 have HAL3 : Hid (Al w3 g C (b ++ [98, 101, 104, 105, 110, 100])) := zaa (HAL2.out.on (by rw [HB0.out]; exact HBx.out))
 obtain ⟨B, hB⟩ : ∃ z, w3.heap.size = z := ⟨_, rfl⟩
 have HBB : Hid (B0 ≤ B ∧ w.heap.size ≤ B ∧ g < B0) := zaa ⟨by have h1 := HBx.out.size; have h2 := HB0.out; omega, by rw [← hB]; exact HB3.out.size, by have := HGL.out; have := HB0.out; omega⟩
 have HD1 := zaa (HDE.out w3 g C (HSX.out _ HAL3.out) (HTT.out _ HB3.out).1 (HTT.out _ HB3.out).2)
 have HBE := zaa hB
 rw [hB] at HD1
 clear HOP1 HQ3 HBx HB2 HAL2 HGL HB0 hB
 go_wp2_with (go_at_call 6; refine HD1.out.mono ?_; rintro e w4 ⟨c1o, c1c, rfl, HBx, HQ4⟩; refine Hid.out ?_)
 apply zaa
 have HB34 : Hid (Below B w3 w4) := HBx
 have HB4 : Hid (Below w.heap.size w w4) := zaa (HB3.out.trans (HBx.out.mono HBB.out.2.1))
 have HAL4 : Hid (Al w4 g C (b ++ [98, 101, 104, 105, 110, 100])) := zaa (HAL3.out.on (by rw [HBE.out]; exact HBx.out))
 have HG1 := zaa HQ4.out.1
 have HWD := zaa HQ4.out.2
 obtain ⟨H1, hH1⟩ : ∃ z, w4.heap.size = z := ⟨_, rfl⟩
 have HH1 : Hid (B ≤ H1) := zaa (by rw [← hH1]; have := HBx.out.size; have := HBE.out; omega)
 have HD2 := zaa (HDE.out w4 g C (HSX.out _ HAL4.out) (HTT.out _ HB4.out).1 (HTT.out _ HB4.out).2)
 have HE1 := zaa hH1
 rw [hH1] at HD2 HG1
 clear HD1 HQ4 HBx HB3 HAL3 hH1 HDE
 go_wp2_with (go_at_call 6; refine HD2.out.mono ?_; rintro e w5 ⟨c2o, c2c, rfl, HBx, HQ5⟩; refine Hid.out ?_)
 apply zaa
 have HB35 : Hid (Below B w3 w5) := zaa (HB34.out.trans (HBx.out.mono HH1.out))
 have HB5 : Hid (Below w.heap.size w w5) := zaa (HB4.out.trans (HBx.out.mono (zN HBB.out.2.1 HH1.out)))
 have HAL5 : Hid (Al w5 g C (b ++ [98, 101, 104, 105, 110, 100])) := zaa (HAL4.out.on (by rw [HE1.out]; exact HBx.out))
 have HG15 := zaa (HG1.out.on (by rw [HE1.out]; exact HBx.out))
 have HG25 := zaa HQ5.out.1
 obtain ⟨H2, hH2⟩ : ∃ z, w5.heap.size = z := ⟨_, rfl⟩
 have HH2 : Hid (H1 ≤ H2) := zaa (by rw [← hH2]; have := HBx.out.size; have := HE1.out; omega)
 rw [hH2] at HG25
 have HE2 := zaa hH2
 have q1 := zaq (ao := some ⟨g, 0, none⟩) (n := N6) (cap := C) (w := w5) (l := b ++ [98, 101, 104, 105, 110, 100]) (by
  have := HAL5.out.sl HW6.out N6 (by rw [HL6.out]; exact Lr) hN8
  rw [List.take_of_length_le (by rw [HL6.out]; exact Lr)] at this
  exact this)
 have q2 := zaq (HS.out.on Lr HB5.out)
 rw [HSE.out] at q2
 obtain ⟨S6, hS6⟩ : ∃ S6, strOfNums (b ++ [98, 101, 104, 105, 110, 100]) = S6 := ⟨_, rfl⟩
 have q3 : (Op.stringOp .add S ⟨#[98, 101, 104, 105, 110, 100]⟩).run Tryz.prog w5 = .ok (.string S6) w5 := by
  rw [run_string_add_sum w5 _ _ (by rw [HSZ.out]; have : (⟨#[98, 101, 104, 105, 110, 100]⟩ : ByteArray).size = 6 := rfl; omega), ← hS6, ← HSE.out]
  congr 2
  apply ByteArray.ext
  simp [strOfNums]
 rw [hS6] at q1
 have q4 : (S6.toList != S6.toList) = false := by simp
 clear HD2 HQ5 HBx HB4 HAL4 HG1 hS6 hH2 HE1 HB34
 go_wp2_with fail
 go_loopw [17] (fun i wr => ∃ (j : Nat) (l' : List Int), j ≤ N6 ∧ i = .int .i64 (j : Int) ∧ l'.length = N6 ∧ Hid (Al wr g C l') ∧ Hid (Cf (· = g) w5 wr)) (fun i _ => N6 - (intOf i).toNat)
 case atStart => exact ⟨0, _, by omega, rfl, HL6.out, HAL5, zaa (Cf.refl _ _)⟩
 case round =>
  obtain ⟨j, l', hj, rfl, hl', HAr, HCr⟩ := hrel
  have jI : (j : Int) ≤ 140737488355328 := by omega
  by_cases hlt : j < N6
  ·have hltI : (j : Int) < (N6 : Int) := by omega
   have hce : wr.cell? ⟨g, j, none⟩ = some (.int .u8 (l'.getD j 0)) := HAr.out.2.2.2 j (by omega)
   have hfr : wr.frozen? ⟨g, j, none⟩ = false := (HAr.out.2.2.1 j (by have := HAr.out.2.1; omega)).2
   have HA2 : Hid (Al (wr.setCell ⟨g, j, none⟩ (.int .u8 77)) g C (l'.set j 77)) := zaa (HAr.out.set (by omega) 77)
   have HC2 : Hid (Cf (· = g) w5 (wr.setCell ⟨g, j, none⟩ (.int .u8 77))) := zaa (HCr.out.trans (Cf.set wr g j _) (fun _ _ e => e))
   clear HAr HCr
   go_wp2
   go_roundw
   case rel => exact ⟨j + 1, l'.set j 77, by omega, by go_num, by simp [hl'], HA2, HC2⟩
   case measure => simp [intOf]; omega
  ·have hltI : ¬ (j : Int) < (N6 : Int) := by omega
   have HBr : Hid (Below w.heap.size w wr) := zaa (HB5.out.trans (HCr.out.below HB5.out.size (fun k hk e => by have := HGW.out; omega)))
   have HC3r : Hid (Cf (fun z => z = g ∨ B ≤ z) w3 wr) := zaa (((Cf.of_below (F := fun z => z = g ∨ B ≤ z) (by rw [HBE.out]; exact HB35.out))).go (HCr.out.wide (fun k hk => .inl hk)))
   have hgB : ∀ z, z = g → z < B := fun z e => by have := HBB.out; omega
   have HG1r := zaa (HG15.out.cf HCr.out hgB)
   have HG2r := zaa (HG25.out.cf HCr.out (fun z e => zO (hgB z e) HH1.out))
   have HRO1 := zaa (HRO.out wr (HS.out.on Lr HBr.out))
   have HSr : Hid (H2 ≤ wr.heap.size) := zaa (by have := HCr.out.size; have := HE2.out; omega)
   clear hgB q1 q2 q3 q4 HAr HCr HG15 HG25 HAL5 HB5 HRO
   go_wp2_with (go_at_call 7; refine HRO1.out.mono ?_; rintro e w6 ⟨p, rfl, HBx, HQ6⟩; refine Hid.out ?_)
   apply zaa
   obtain ⟨x, rfl, hrx⟩ : ∃ x, p = some ⟨x, 0, none⟩ ∧ RX w6 x b cs := by
    rcases HQ6.out with ⟨_, h⟩ | ⟨x, h1, _, h2⟩
    ·exact absurd ⟨_, HYES.out⟩ h
    ·exact ⟨x, h1, h2⟩
   have HX6 := zaa hrx
   clear hrx
   have HB6 : Hid (Below w.heap.size w w6) := zaa (zae HBr.out Lr HBx.out)
   have HC36 : Hid (Cf (fun z => z = g ∨ B ≤ z) w3 w6) := zaa (HC3r.out.go (Cf.of_below HBx.out))
   have HG16 := zaa (HG1r.out.on HBx.out)
   have HG26 := zaa (HG2r.out.on HBx.out)
   have HS6 : Hid (H2 ≤ w6.heap.size) := zaa (zN HSr.out HBx.out.size)
   have HRD1 := zaa (HRD.out w6 (HS.out.on Lr HB6.out))
   clear HRO1 HQ6 HBr HC3r HG1r HG2r HSr HBx HRD
   go_wp2_with (go_at_call 8; refine HRD1.out.mono ?_; rintro e w7 ⟨ro, rc, rfl, HBx, HW7⟩; refine Hid.out ?_)
   apply zaa
   have HB7 : Hid (Below w.heap.size w w7) := zaa (zae HB6.out Lr HBx.out)
   have HC37 : Hid (Cf (fun z => z = g ∨ B ≤ z) w3 w7) := zaa (HC36.out.go (Cf.of_below HBx.out))
   have HG17 := zaa (HG16.out.on HBx.out)
   have HG27 := zaa (HG26.out.on HBx.out)
   have HS7 : Hid (H2 ≤ w7.heap.size) := zaa (zN HS6.out HBx.out.size)
   have HX7 := zaa (HX6.out.on HBx.out)
   clear HX6
   have HSL : Hid (∀ u lo hi co cc, Got u lo hi co m cc cs → SlC u co m cc cs) := zaa fun u lo hi co cc h => h.slc HWD.out HLN.out.2 HLN.out.1
   have HSM := zaa (zck c1o ro m c1c rc cs w7 (HSL.out _ _ _ _ _ HG17.out) HW7.out)
   clear HRD1 HB6 HC36 HG16 HG26 HS6 HBx
   go_wp2_with (go_at_call 9; refine HSM.out.mono ?_; rintro e w8 ⟨rfl, HBx⟩; refine Hid.out ?_)
   apply zaa
   have HB8 : Hid (Below w.heap.size w w8) := zaa (zae HB7.out Lr HBx.out)
   have HC38 : Hid (Cf (fun z => z = g ∨ B ≤ z) w3 w8) := zaa (HC37.out.go (Cf.of_below HBx.out))
   have HG18 := zaa (HG17.out.on HBx.out)
   have HG28 := zaa (HG27.out.on HBx.out)
   have HW8 := zaa (HW7.out.on HBx.out)
   have HS8 : Hid (H2 ≤ w8.heap.size) := zaa (zN HS7.out HBx.out.size)
   have HX8 := zaa (HX7.out.on HBx.out)
   clear HX7
   have HSM2 := zaa (zck c2o ro m c2c rc cs w8 (HSL.out _ _ _ _ _ HG28.out) HW8.out)
   have e1 : (E != E) = false := by simp
   have e2 : (en != en) = false := by simp
   have e3 : (kk != kk) = false := by simp
   clear HSM HB7 HC37 HG17 HG27 HW7 HS7 HBx
   go_wp2_with (go_at_call 9; refine HSM2.out.mono ?_; rintro e w9 ⟨rfl, HBx⟩; refine Hid.out ?_)
   apply zaa
   have HB9 : Hid (Below w.heap.size w w9) := zaa (zae HB8.out Lr HBx.out)
   have HC39 : Hid (Cf (fun z => z = g ∨ B ≤ z) w3 w9) := zaa (HC38.out.go (Cf.of_below HBx.out))
   have HG19 := zaa (HG18.out.on HBx.out)
   have HG29 := zaa (HG28.out.on HBx.out)
   have HS9 : Hid (H2 ≤ w9.heap.size) := zaa (zN HS8.out HBx.out.size)
   have HX9 := zaa (HX8.out.on HBx.out)
   clear HX8
   obtain ⟨bk, hbk⟩ : ∃ bk, w9.heap.size = bk := ⟨_, rfl⟩
   obtain ⟨y, hy⟩ : ∃ y, w9.alloc (.cells #[.slice none 0 0, .slice none 0 0] 42) = y := ⟨_, rfl⟩
   have hby : Below w9.heap.size w9 y := by rw [← hy]; exact zad Br Lr _
   have HX0 : Hid (Bx y B bk [] 0 B) := zaa (Bx.new (by rw [← hy, ← hbk]; exact heap_alloc_last w9 _))
   have HBK : Hid (B ≤ bk) := zaa (by have := HS9.out; have := HH1.out; have := HH2.out; omega)
   have HBy : Hid (Below w.heap.size w y) := zaa (zae HB9.out Lr hby)
   have HC3y : Hid (Cf (fun z => z = g ∨ B ≤ z) w3 y) := zaa (HC39.out.go (Cf.of_below hby))
   have HG1y := zaa (HG19.out.on hby)
   have HG2y := zaa (HG29.out.on hby)
   have HSy : Hid (H2 ≤ y.heap.size) := zaa (zN HS9.out hby.size)
   have HXY := zaa (HX9.out.on hby)
   clear HX9
   clear HSM2 HB8 HC38 HG18 HG28 HW8 HS8 HBx HB9 HC39 HG19 HG29 HS9 hby
   go_wp2_with (go_at_call 10; refine Hid.out ?_)
   apply zaa
   try rw [hy, hbk]
   clear hy hbk
   have HHB : Hid (B ≤ H1 ∧ H1 ≤ H2) := zaa ⟨HH1.out, HH2.out⟩
   have HT1 := zaa (zdd y B bk [] 0 B B H1 c1o m c1c cs HX0.out (by omega) (by omega) (by simp) (by have := HSy.out; have := HHB.out; omega) HBK.out HG1y.out Lr HWD.out HLN.out.2 Lr)
   refine HT1.out.mono ?_
   rintro e y1 ⟨rfl, HX1, HC1, HK1⟩
   have HBy1 : Hid (Below w.heap.size w y1) := zaa (HBy.out.trans (HC1.out.below HBy.out.size (fun k hk e => by have := HBB.out; omega)))
   have HC31 : Hid (Cf (fun z => z = g ∨ B ≤ z) w3 y1) := zaa (HC3y.out.go (HC1.out.wide (fun k hk => .inr hk)))
   have HG11 := zaa (HG1y.out.k3 HK1.out)
   have HG21 := zaa (HG2y.out.k3 HK1.out)
   have HS1 : Hid (H2 ≤ y1.heap.size) := zaa (zN HSy.out HC1.out.size)
   have HXX1 := zaa (HXY.out.k3 HK1.out)
   clear HXY
   have HT2 := zaa (zdd y1 B bk [.slice c1o m c1c] (2 * m) H1 H1 H2 c2o m c2c cs (by have := HX1.out; rw [Nat.zero_add] at this; exact this) (by omega) (by omega) (by simp) (by have := HS1.out; have := HHB.out; omega) HBK.out HG21.out HHB.out.1 HWD.out HLN.out.2 Lr)
   clear HT1 HX0 HX1 HC1 HK1 HG1y HG2y HSy HBy HC3y
   go_wp2_with (go_at_call 10; refine HT2.out.mono ?_; rintro e y2 ⟨rfl, HX2, HC2, HK2⟩; refine Hid.out ?_)
   apply zaa
   have HBy2 : Hid (Below w.heap.size w y2) := zaa (HBy1.out.trans (HC2.out.below HBy1.out.size (fun k hk e => by have := HBB.out; omega)))
   have HC32 : Hid (Cf (fun z => z = g ∨ B ≤ z) w3 y2) := zaa (HC31.out.go (HC2.out.wide (fun k hk => .inr hk)))
   have HG12 := zaa (HG11.out.k3 HK2.out)
   have HG22 := zaa (HG21.out.k3 HK2.out)
   have HS2 : Hid (H2 ≤ y2.heap.size) := zaa (zN HS1.out HC2.out.size)
   have HX2' : Hid (Bx y2 B bk [.slice c1o m c1c, .slice c2o m c2c] (2 * m + 2 * m) H2) := HX2
   have HXX := zaa (HXX1.out.k3 HK2.out)
   clear HXX1
   clear HT2 HX2 HC2 HK2 HG11 HG21 HS1 HBy1 HC31
   have HASK : Hid (∀ u, Cf (fun z => z = g ∨ B ≤ z) w3 u → AsksP u a b cs) := zaa fun u hc => by
    rcases PgX.cf HPG.out (cf_only (by rw [HBE.out]; exact hc)) (fun z e => by have := HBB.out; omega) with ⟨a2, bo, bn, bc, so, sn, sc, e1, e2, h1, h2, h3⟩ | ⟨a2, gp, qn, qc, vb, vs, e1, e2, h1, h2, h3⟩
    ·injection e1 with e1 e3
     injection e3 with e3
     injection e3 with e3
     injection e3 with e3
     rw [e3]
     exact askP_of e2 h1 HWC.out HWF.out h3
    ·have := HEG.out; omega
   have HAL := zaa (alikeP_any y2 B bk a x [.slice c1o m c1c, .slice c2o m c2c] (2 * m + 2 * m) H2 b cs (fun u hu => HASK.out u (HC32.out.go ⟨hu.os, hu.tape, hu.output, hu.size, fun k hk hf => hu.block k (by rcases Nat.lt_or_ge k B with h | h; exact h; exact absurd (.inr h) hf)⟩)) HXX.out HYES.out HWC.out HX2'.out (by omega) (by simp) (by have := HS2.out; have := HHB.out; omega) HBK.out HS2.out)
   rw [HML.out] at HAL
   go_wp2_with (go_at_call 11; refine HAL.out.mono ?_; rintro e y3 ⟨rfl, c3o, c3c, lo3, hi3, HG33, HX3, HC3, HK3⟩; refine Hid.out ?_)
   apply zaa
   have HBy3 : Hid (Below w.heap.size w y3) := zaa (HBy2.out.trans (HC3.out.below HBy2.out.size (fun k hk e => by have := HBB.out; omega)))
   have HC33 : Hid (Cf (fun z => z = g ∨ B ≤ z) w3 y3) := zaa (HC32.out.go (HC3.out.wide (fun k hk => .inr hk)))
   have HG13 := zaa (HG12.out.k3 HK3.out)
   have HG23 := zaa (HG22.out.k3 HK3.out)
   have HS3 : Hid (H2 ≤ y3.heap.size) := zaa (zN HS2.out HC3.out.size)
   have HLO : Hid (H2 ≤ lo3) := zaa (zN HS2.out HG33.out.2)
   have HX3' : Hid (Bx y3 B bk [.slice c1o m c1c, .slice c2o m c2c, .slice c3o m c3c] (2 * m + 2 * m + 2 * m) hi3) := HX3
   have HSB : Hid (∀ u, Below y3.heap.size y3 u → Sl u ao n cap b) := zaa fun u hu => HS.out.on Lr (zae HBy3.out Lr hu)
   have HBYT : Hid (∀ u, Below y3.heap.size y3 u → Calls Tryz.prog 74 #[.pointer (some ⟨a, 0, none⟩)] u fun e w' => ∃ gb, e = .returned (.slice (some ⟨gb, 0, none⟩) n n) ∧ ((convert 22 9 (.slice (some ⟨gb, 0, none⟩) n n)).run Tryz.prog w' = .ok (.string S) w') ∧ ((convert 22 9 (.slice ao n cap)).run Tryz.prog w' = .ok (.string S) w') ∧ Hid (Below y3.heap.size y3 w')) := zaa fun u hu => by
    have hb := zae HBy3.out Lr hu
    refine ((HASK.out u (HC33.out.go (Cf.of_below hu))).bytes (HTT.out u hb).1 (HTT.out u hb).2).mono ?_
    rintro e w' ⟨gb, rfl, h1, h2⟩
    rw [HLE.out] at h1
    refine ⟨gb, by rw [HLE.out], ?_, ?_, zaa (zae hu Lr h2.out)⟩
    ·have := zaq h1.out
     rw [HSE.out] at this
     exact this
    ·have := zaq (HSB.out w' (zae hu Lr h2.out))
     rw [HSE.out] at this
     exact this
   have r1 : (convert 22 9 (.slice ao n cap)).run Tryz.prog y3.drew = .ok (.string S) y3.drew := by
    have := zaq (HSB.out y3.drew Br.drew)
    rw [HSE.out] at this
    exact this
   have r2 : (S.toList != S.toList) = false := by simp
   have HOWN : Hid (∀ u, Below y3.heap.size y3 u → Calls Tryz.prog 12 #[.pointer (some ⟨bk, 0, none⟩)] u fun e w' => e = .returned (.bool true) ∧ Hid (Below w.heap.size w w')) := zaa fun u hu => by
    have hs := hu.size
    have hs3 := HS3.out
    have hhb := HHB.out
    refine (owned3B u B bk _ _ m c1o c1c B H1 c2o c2c H1 H2 c3o c3c lo3 hi3 cs (HX3'.out.on hu) (by omega) (by omega) HLN.out.1 (HG13.out.on hu) (HG23.out.on hu) (HG33.out.1.on hu) Lr hhb.1 (by have := HLO.out; omega) Lr (by have := HLO.out; omega) HLO.out).mono ?_
    rintro e w' ⟨rfl, hc⟩
    have hb := zae HBy3.out Lr hu
    exact ⟨rfl, zaa (hb.trans (hc.out.below hb.size (fun k hk e => by have := HBB.out; omega)))⟩
   clear HAL HG12 HG22 HS2 HX2' HC32 HBy2
   go_wp2_with fail
   go_region_with (first | (go_at_call 74; refine (HBYT.out _ (by first | exact Br | exact Br.drew | exact zab Br _)).mono ?_; rintro e y4 ⟨gb, rfl, r3, r4, HB34⟩))
   all_goals
    go_wp2_with (go_at_call 12; refine (HOWN.out _ (by first | exact HB34.out | exact HB34.out.drew | exact zab HB34.out _)).mono ?_; rintro e y5 ⟨rfl, HYq⟩)
    go_ret
    exact ⟨rfl, HYq.out⟩
end Go.Proofs.YtbkhjeacmmbabaaGreatDoor
