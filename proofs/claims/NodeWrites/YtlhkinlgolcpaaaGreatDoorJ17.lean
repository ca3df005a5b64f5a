import Derived.Test.YtlhkinlgolcpaaaGreatDoorJ16
import Derived.Test.YtlhkinlgolcpaaaGreatDoorJ09
import Derived.Test.YtlhkinlgolcpaaaGreatDoorJ02
import Derived.Shelf.Strconv.Itoa0
import Derived.Shelf.Slices.Reverse
import Derived.Shelf.Slices.Cells
import Derived.Shelf.Bytes.SlSearch0
import Derived.Shelf.Bytes.Small
import Derived.Test.YtlhkinlgolcpaaaGreatDoorProg
namespace Go.Proofs.YtlhkinlgolcpaaaGreatDoor
set_option maxRecDepth 100000
open Go.RowKit
theorem RestTo.far {w : World} {ao ho : Option Addr} {n hn : Nat} {v : Value} (hf : Far ho hn v) (hb : ∀ q, ao = some q → ∃ o, ho = some o ∧ q.block = o.block) (hn1 : n ≤ hn) (_ : w = w) : Far ao n v := by
 rcases hf with h0 | hf
 ·exact .inl (by omega)
 ·refine .inr fun q hq e => ?_
  obtain ⟨o, ho, hqo⟩ := hb q hq
  rw [hqo] at e
  exact hf o ho e
theorem OwnB.slu {w : World} {B : Nat} {v : Value} {n : Int} (h : OwnB w B v (uB n)) (h0 : 0 ≤ n) (hn : n < 18446744073709551616) : ∃ ao m c, v = .slice ao m c ∧ Sl w ao m c (uB n) ∧ m ≤ 10 := by
 have hl := uB_length n
 obtain ⟨a1, c1, rfl, s1, _⟩ := h.sl (uB_wf h0 hn) (by omega)
 exact ⟨a1, _, c1, rfl, s1, hl.1⟩
set_option maxHeartbeats 4000000 in
theorem eappended_any (v : Value) (B : Nat) (l : List Int) (ho : Option Addr) (hn hc : Nat) (ko : Option Addr) (kn kc : Nat) (kd : Int) (vo : Option Addr) (vn vc : Nat) (pg ct : Int) (h key val : List Int) (n : Nat) (w : World) (hown : OwnB w B v l) (hB : B ≤ w.heap.size)
  (hh : Sl w ho hn hc h) (hk : Sl w ko kn kc key) (hv : Sl w vo vn vc val) (fh : Far ho hn v) (fk : Far ko kn v) (fv : Far vo vn v) (hnl : n ≤ hn + kn) (hl : l.length + hn + kn + vn ≤ 35184372088832) :
  Calls Tryz.prog 128 #[.agg (eV ho hn hc ko kn kc kd vo vn vc pg ct), v, .int .i64 (n : Int)] w fun e w' => ∃ v', e = .returned v' ∧ Hid (OwnB w' B v' (l ++ qB n ⟨h ++ key, kd, val, pg, ct⟩)) ∧ Hid (Gr w v w' v') := by
 obtain ⟨x, hx⟩ : ∃ x, w.alloc (.cells #[.slice ho hn hc, .slice ko kn kc, .int .i64 kd, .slice vo vn vc, .int .i64 pg, .int .i64 ct] 100) = x := ⟨_, rfl⟩
 have hbx : Below w.heap.size w x := by rw [← hx]; exact bl_al (Below.refl _ _) (Nat.le_refl _) _
 have hb6 : E6 x w.heap.size (.slice ho hn hc) (.slice ko kn kc) (.int .i64 kd) (.slice vo vn vc) (.int .i64 pg) (.int .i64 ct) := by rw [← hx]; exact E6.box w _ _ _ _ _ _
 obtain ⟨s, hs⟩ : ∃ s, w.heap.size = s := ⟨_, rfl⟩
 rw [hs] at hb6
 have HB6 := hidden hb6
 obtain ⟨b0, b1, b2, b3, b4, b5⟩ := hb6.cells
 have HO : Hid (OwnB x B v l) := hidden (hown.on (Nat.le_refl _) hbx)
 have HK : Hid (Sl x ko kn kc key) := hidden (hk.on (Nat.le_refl _) hbx)
 have HH : Hid (Sl x ho hn hc h) := hidden (hh.on (Nat.le_refl _) hbx)
 have HV : Hid (Sl x vo vn vc val) := hidden (hv.on (Nat.le_refl _) hbx)
 have HG : Hid (Gr w v x v) := hidden (Gr.ofBelow v hbx)
 have hBx : B ≤ x.heap.size := Nat.le_trans hB hbx.size
 have HFH := hidden fh
 have HFK := hidden fk
 have HFV := hidden fv
 have HR := hidden (erest_any ho hn hc ko kn kc kd vo vn vc pg ct h key n x HH.out HK.out hnl)
 have HLK : Hid (h.length = hn ∧ key.length = kn ∧ val.length = vn) := hidden ⟨hh.hlen, hk.hlen, hv.hlen⟩
 clear hown hh hk hv fh fk fv hbx hb6
 unfold eV at HR ⊢
 go_enter Tryz.func128, Tryz.ntmps128
 go_wp2_with (first | (go_at_call 155; refine HR.out.mono ?_; rintro e w1 ⟨a1, n1, c1, a2, n2, c2, l1, l2, rfl, HB1, HQ⟩; refine Hid.out ?_))
 apply hidden
 obtain ⟨q1, q2, q3, q4, q5, q6, q7⟩ := HQ.out
 have G1 : Gr x v w1 v := Gr.ofBelow v HB1.out
 have HG1 : Hid (Gr w v w1 v) := hidden (HG.out.trans G1)
 have H61 : Hid (E6 w1 s (.slice ho hn hc) (.slice ko kn kc) (.int .i64 kd) (.slice vo vn vc) (.int .i64 pg) (.int .i64 ct)) := hidden (box_on HB6.out HB1.out)
 have HO1 : Hid (OwnB w1 B v l) := hidden (HO.out.on (Nat.le_refl _) HB1.out)
 have HV1 : Hid (Sl w1 vo vn vc val) := hidden (HV.out.on (Nat.le_refl _) HB1.out)
 have hB1 : B ≤ w1.heap.size := Nat.le_trans hBx HB1.out.size
 have F1 : Far a1 n1 v := RestTo.far (w := w) HFH.out q4 q6 rfl
 have F2 : Far a2 n2 v := RestTo.far (w := w) HFK.out q5 q7 rfl
 have HS1 := hidden q1
 have HS2 := hidden q2
 have HLL := hidden q3
 have HF1 := hidden F1
 have HF2 := hidden F2
 have hn1 : n1 + n2 ≤ hn + kn := by omega
 have j1 : (n1 : Int) ≤ 35184372088832 := by omega
 have j2 : (n2 : Int) ≤ 35184372088832 := by omega
 have HL12 : Hid (l1.length = n1 ∧ l2.length = n2) := hidden ⟨q1.hlen, q2.hlen⟩
 clear HR HQ q1 q2 q3 q4 q5 q6 q7 G1 F1 F2 HB1 HB6 HH HK HV HO HG b0 b1 b2 b3 b4 b5 hx
 obtain ⟨b0, b1, b2, b3, b4, b5⟩ := H61.out.cells
 obtain ⟨y, hy⟩ : ∃ y, w1.alloc (.cells #[.int .u8 (kd % 256)] 5) = y := ⟨_, rfl⟩
 have hby : Below w1.heap.size w1 y := by rw [← hy]; exact bl_al (Below.refl _ _) (Nat.le_refl _) _
 have HY1 : Hid (Sl y (some ⟨w1.heap.size, 0, none⟩) 1 1 [kd % 256]) := hidden (by rw [← hy]; exact sl_one w1 _ (by omega))
 have HYO : Hid (OwnB y B v l) := hidden (HO1.out.on (Nat.le_refl _) hby)
 have hBy : B ≤ y.heap.size := Nat.le_trans hB1 hby.size
 have HGY := hidden (Gr.ofBelow v hby)
 have HBY := hidden hby
 clear hby
 go_wp2_with (at_builtin; refine app_sl _ rfl _ _ rfl B l [kd % 256] v (some ⟨w1.heap.size, 0, none⟩) 1 1 rfl rfl HYO.out HY1.out (by omega) hBy ?_; refine Hid.out ?_)
 apply hidden
 intro v2 w2 ho2 g2
 have G2 : Gr w1 v w2 v2 := HGY.out.trans g2
 have HG2 := hidden (HG1.out.trans G2)
 have H62 := hidden (H61.out.gr G2 (HO1.out.apart6 H61.out))
 have HO2 := hidden ho2
 have HV2 := hidden (HV1.out.gr G2 HFV.out)
 have HS12 := hidden (HS1.out.gr G2 HF1.out)
 have HS22 := hidden (HS2.out.gr G2 HF2.out)
 have HF12 := hidden (HF1.out.gr HS1.out G2)
 have HF22 := hidden (HF2.out.gr HS2.out G2)
 have HFV2 := hidden (HFV.out.gr HV1.out G2)
 have hB2 : B ≤ w2.heap.size := Nat.le_trans hB1 G2.grow.size
 clear ho2 g2 G2 HGY HY1 HYO HBY hBy b0 b1 b2 b3 b4 b5 H61 HO1 HV1 HS1 HS2 HF1 HF2 HFV HG1 hy
 obtain ⟨b0, b1, b2, b3, b4, b5⟩ := H62.out.cells
 obtain ⟨M, hM⟩ : ∃ M, n1 + n2 = M := ⟨_, rfl⟩
 have hMI : (n1 : Int) + (n2 : Int) = (M : Int) := by omega
 have hMb : (M : Int) ≤ 35184372088832 := by omega
 have hMw : IntKind.u64.wrap (M : Int) = (M : Int) := by rw [IntKind.wrap_u64]; omega
 have HU := hidden (uint_any (M : Int) w2 (by omega) (by omega))
 have HML : Hid (((h ++ key).drop n).length = M) := hidden (by rw [← HLL.out, List.length_append, HL12.out.1, HL12.out.2]; exact hM)
 clear hM
 go_wp2_with (first | (go_at_call 156; refine HU.out.mono ?_; rintro e w3 ⟨u3, rfl, ho3, hb3⟩; refine Hid.out ?_))
 apply hidden
 obtain ⟨ua, um, uc, rfl, us3, hum⟩ := ho3.slu (by omega) (by omega)
 have G3 : Gr w2 v2 w3 v2 := Gr.ofBelow v2 hb3
 have HO3 : Hid (OwnB w3 B v2 (l ++ [kd % 256])) := hidden (HO2.out.on (Nat.le_refl _) hb3)
 have HU3 := hidden us3
 have hB3 : B ≤ w3.heap.size := Nat.le_trans hB2 hb3.size
 have HG3 := hidden G3
 clear ho3 us3 hb3 G3 HU
 go_wp2_with (at_builtin; refine app_sl _ rfl _ _ rfl B (l ++ [kd % 256]) (uB (M : Int)) v2 ua um uc rfl rfl HO3.out HU3.out (by simp; omega) hB3 ?_; refine Hid.out ?_)
 apply hidden
 intro v4 w4 ho4 g4
 have G4 : Gr w2 v2 w4 v4 := HG3.out.trans g4
 have HG4 := hidden (HG2.out.trans G4)
 have H64 := hidden (H62.out.gr G4 (HO2.out.apart6 H62.out))
 have HO4 := hidden ho4
 have HV4 := hidden (HV2.out.gr G4 HFV2.out)
 have HS14 := hidden (HS12.out.gr G4 HF12.out)
 have HS24 := hidden (HS22.out.gr G4 HF22.out)
 have HF14 := hidden (HF12.out.gr HS12.out G4)
 have HF24 := hidden (HF22.out.gr HS22.out G4)
 have HFV4 := hidden (HFV2.out.gr HV2.out G4)
 have hB4 : B ≤ w4.heap.size := Nat.le_trans hB2 G4.grow.size
 clear ho4 g4 G4 HG3 HO3 HU3 hB3 b0 b1 b2 b3 b4 b5 H62 HO2 HV2 HS12 HS22 HF12 HF22 HFV2 HG2
 obtain ⟨b0, b1, b2, b3, b4, b5⟩ := H64.out.cells
 obtain ⟨L4, hL4⟩ : ∃ L, l ++ [kd % 256] ++ uB (M : Int) = L := ⟨_, rfl⟩
 have hll4 : L4.length ≤ l.length + 11 := by
  have := (uB_length (M : Int)).1
  rw [← hL4]
  simp only [List.length_append, List.length_cons, List.length_nil]
  omega
 replace HO4 : Hid (OwnB w4 B v4 L4) := hidden (by rw [← hL4]; simpa using HO4.out)
 have HL4 := hidden hL4
 clear hL4
 go_wp2_with (at_builtin; refine app_sl _ rfl _ _ rfl B L4 l1 v4 a1 n1 c1 rfl rfl HO4.out HS14.out (by omega) hB4 ?_; refine Hid.out ?_)
 apply hidden
 intro v5 w5 ho5 g5
 have HG5 := hidden (HG4.out.trans g5)
 have H65 := hidden (H64.out.gr g5 (HO4.out.apart6 H64.out))
 have HO5 := hidden ho5
 have HV5 := hidden (HV4.out.gr g5 HFV4.out)
 have HS25 := hidden (HS24.out.gr g5 HF24.out)
 have HF25 := hidden (HF24.out.gr HS24.out g5)
 have HFV5 := hidden (HFV4.out.gr HV4.out g5)
 have hB5 : B ≤ w5.heap.size := Nat.le_trans hB4 g5.grow.size
 clear ho5 g5 b0 b1 b2 b3 b4 b5 H64 HO4 HV4 HS14 HS24 HF14 HF24 HFV4 HG4
 have hll5 : (L4 ++ l1).length + n2 ≤ 140737488355328 := by rw [List.length_append, HL12.out.1]; omega
 go_wp2_with (at_builtin; refine app_sl _ rfl _ _ rfl B (L4 ++ l1) l2 v5 a2 n2 c2 rfl rfl HO5.out HS25.out hll5 hB5 ?_; refine Hid.out ?_)
 apply hidden
 intro v6 w6 ho6 g6
 have HG6 := hidden (HG5.out.trans g6)
 have H66 := hidden (H65.out.gr g6 (HO5.out.apart6 H65.out))
 have HO6 := hidden ho6
 have HV6 := hidden (HV5.out.gr g6 HFV5.out)
 have HFV6 := hidden (HFV5.out.gr HV5.out g6)
 have hB6 : B ≤ w6.heap.size := Nat.le_trans hB5 g6.grow.size
 clear ho6 g6 H65 HO5 HV5 HS25 HF25 HFV5 HG5
 obtain ⟨b0, b1, b2, b3, b4, b5⟩ := H66.out.cells
 obtain ⟨L6, hL6⟩ : ∃ L, L4 ++ l1 ++ l2 = L := ⟨_, rfl⟩
 have hll6 : L6.length ≤ l.length + 11 + (hn + kn) := by
  rw [← hL6]
  simp only [List.length_append, HL12.out.1, HL12.out.2]
  omega
 replace HO6 : Hid (OwnB w6 B v6 L6) := hidden (by rw [← hL6]; simpa using HO6.out)
 have HQB : Hid (∀ T, (if kd = 1 then uB (val.length : Int) ++ val else uB (pg % 18446744073709551616) ++ uB (ct % 18446744073709551616)) = T → l ++ qB n ⟨h ++ key, kd, val, pg, ct⟩ = L6 ++ T) := hidden (by
  intro T hT
  unfold qB
  simp only [hT]
  rw [← hL6, ← HL4.out, ← HLL.out]
  have e : (h ++ key).length - n = M := by have := HML.out; rwa [List.length_drop] at this
  rw [e]
  simp only [List.append_assoc])
 clear hL6 HL4 HLL HL12 HML
 have hln : (vn : Int) ≤ 35184372088832 := by omega
 by_cases hk1 : kd = 1
 ·subst hk1
  have hVw : IntKind.u64.wrap (vn : Int) = (vn : Int) := by rw [IntKind.wrap_u64]; omega
  have HU := hidden (uint_any (vn : Int) w6 (by omega) (by omega))
  go_wp2_with (first | (go_at_call 156; refine HU.out.mono ?_; rintro e w7 ⟨u7, rfl, ho7, hb7⟩; refine Hid.out ?_))
  apply hidden
  obtain ⟨ua, um, uc, rfl, us7, hum⟩ := ho7.slu (by omega) (by omega)
  have HG7 := hidden (Gr.ofBelow v6 hb7)
  have HO7 : Hid (OwnB w7 B v6 L6) := hidden (HO6.out.on (Nat.le_refl _) hb7)
  have HU7 := hidden us7
  have hB7 : B ≤ w7.heap.size := Nat.le_trans hB6 hb7.size
  clear ho7 us7 hb7 HU
  go_wp2_with (at_builtin; refine app_sl _ rfl _ _ rfl B L6 (uB (vn : Int)) v6 ua um uc rfl rfl HO7.out HU7.out (by omega) hB7 ?_; refine Hid.out ?_)
  apply hidden
  intro v8 w8 ho8 g8
  have G8 : Gr w6 v6 w8 v8 := HG7.out.trans g8
  have HG8 := hidden (HG6.out.trans G8)
  have H68 := hidden (H66.out.gr G8 (HO6.out.apart6 H66.out))
  have HO8 := hidden ho8
  have HV8 := hidden (HV6.out.gr G8 HFV6.out)
  have hB8 : B ≤ w8.heap.size := Nat.le_trans hB6 G8.grow.size
  clear ho8 g8 G8 HG7 HO7 HU7 b0 b1 b2 b3 b4 b5 H66 HO6 HV6 HFV6 HG6
  obtain ⟨b0, b1, b2, b3, b4, b5⟩ := H68.out.cells
  have hll8 : (L6 ++ uB (vn : Int)).length + vn ≤ 140737488355328 := by
   have := (uB_length (vn : Int)).1
   rw [List.length_append]
   omega
  go_wp2_with (at_builtin; refine app_sl _ rfl _ _ rfl B (L6 ++ uB (vn : Int)) val v8 vo vn vc rfl rfl HO8.out HV8.out hll8 hB8 ?_; refine Hid.out ?_)
  apply hidden
  intro v9 w9 ho9 g9
  have HG9 := hidden (HG8.out.trans g9)
  have HO9 : Hid (OwnB w9 B v9 (l ++ qB n ⟨h ++ key, 1, val, pg, ct⟩)) := hidden (by
   rw [HQB.out (uB (vn : Int) ++ val) (by simp [HLK.out.2.2])]
   simpa using ho9)
  clear ho9 g9
  go_wp2
  go_ret
  exact ⟨v9, rfl, HO9, HG9⟩
 ·obtain ⟨P, hP⟩ : ∃ P, pg % 18446744073709551616 = P := ⟨_, rfl⟩
  obtain ⟨C, hC⟩ : ∃ C, ct % 18446744073709551616 = C := ⟨_, rfl⟩
  have hPw : IntKind.u64.wrap pg = P := by rw [IntKind.wrap_u64, hP]
  have hCw : IntKind.u64.wrap ct = C := by rw [IntKind.wrap_u64, hC]
  have HT := hidden (HQB.out (uB P ++ uB C) (by rw [if_neg hk1, hP, hC]))
  have HU := hidden (uint_any P w6 (by omega) (by omega))
  have hP1 : 0 ≤ P ∧ P < 18446744073709551616 := by omega
  have hC1 : 0 ≤ C ∧ C < 18446744073709551616 := by omega
  clear hP hC HQB
  have hk1b : (kd == 1) = false := by simpa using hk1
  go_wp2_with (first | (go_at_call 156; refine HU.out.mono ?_; rintro e w7 ⟨u7, rfl, ho7, hb7⟩; refine Hid.out ?_))
  apply hidden
  obtain ⟨ua, um, uc, rfl, us7, hum⟩ := ho7.slu hP1.1 hP1.2
  have HG7 := hidden (Gr.ofBelow v6 hb7)
  have HO7 : Hid (OwnB w7 B v6 L6) := hidden (HO6.out.on (Nat.le_refl _) hb7)
  have HU7 := hidden us7
  have hB7 : B ≤ w7.heap.size := Nat.le_trans hB6 hb7.size
  clear ho7 us7 hb7 HU
  go_wp2_with (at_builtin; refine app_sl _ rfl _ _ rfl B L6 (uB P) v6 ua um uc rfl rfl HO7.out HU7.out (by omega) hB7 ?_; refine Hid.out ?_)
  apply hidden
  intro v8 w8 ho8 g8
  have G8 : Gr w6 v6 w8 v8 := HG7.out.trans g8
  have HG8 := hidden (HG6.out.trans G8)
  have H68 := hidden (H66.out.gr G8 (HO6.out.apart6 H66.out))
  have HO8 := hidden ho8
  have hB8 : B ≤ w8.heap.size := Nat.le_trans hB6 G8.grow.size
  clear ho8 g8 G8 HG7 HO7 HU7 b0 b1 b2 b3 b4 b5 H66 HO6 HV6 HFV6 HG6
  obtain ⟨b0, b1, b2, b3, b4, b5⟩ := H68.out.cells
  have HU := hidden (uint_any C w8 hC1.1 hC1.2)
  go_wp2_with (first | (go_at_call 156; refine HU.out.mono ?_; rintro e w9 ⟨u9, rfl, ho9, hb9⟩; refine Hid.out ?_))
  apply hidden
  obtain ⟨ua, um9, uc, rfl, us9, hum9⟩ := ho9.slu hC1.1 hC1.2
  have HG9 := hidden (HG8.out.trans (Gr.ofBelow v8 hb9))
  have HO9 : Hid (OwnB w9 B v8 (L6 ++ uB P)) := hidden (HO8.out.on (Nat.le_refl _) hb9)
  have HU9 := hidden us9
  have hB9 : B ≤ w9.heap.size := Nat.le_trans hB8 hb9.size
  clear ho9 us9 hb9 HU
  have hll9 : (L6 ++ uB P).length + um9 ≤ 140737488355328 := by
   have := (uB_length P).1
   rw [List.length_append]
   omega
  go_wp2_with (at_builtin; refine app_sl _ rfl _ _ rfl B (L6 ++ uB P) (uB C) v8 ua um9 uc rfl rfl HO9.out HU9.out hll9 hB9 ?_; refine Hid.out ?_)
  apply hidden
  intro vA wA hoA gA
  have HGA := hidden (HG9.out.trans gA)
  have HOA : Hid (OwnB wA B vA (l ++ qB n ⟨h ++ key, kd, val, pg, ct⟩)) := hidden (by
   rw [HT.out]
   simpa using hoA)
  clear hoA gA
  go_wp2
  go_ret
  exact ⟨vA, rfl, HOA, HGA⟩
end Go.Proofs.YtlhkinlgolcpaaaGreatDoor

namespace Go.Proofs.YtlhkinlgolcpaaaGreatDoor
set_option maxRecDepth 100000
theorem lcp_take : ∀ (a b : List Int) (n : Nat), n ≤ a.length → lcp (a.take n) b = min n (lcp a b)
 | a, b, 0, _ => by simp [lcp]
 | [], b, n + 1, h => by simp at h
 | x :: a, [], n + 1, _ => by simp [lcp]
 | x :: a, y :: b, n + 1, h => by
  have ih := lcp_take a b n (by simpa using h)
  simp only [List.take_succ_cons, lcp]
  split
  ·rw [ih]; omega
  ·omega
theorem lcp_self : ∀ (a : List Int), lcp a a = a.length
 | [] => rfl
 | x :: a => by simp [lcp, lcp_self a]
theorem lcp_take_eq : ∀ (a b : List Int), a.take (lcp a b) = b.take (lcp a b)
 | [], _ => by simp [lcp]
 | _ :: _, [] => by simp [lcp]
 | x :: a, y :: b => by
  simp only [lcp]
  split
  ·next h => subst h; simp [lcp_take_eq a b]
  ·simp
theorem lcp_between : ∀ (a b c : List Int), kl a b → kl b c → lcp a c ≤ lcp a b
 | [], _, _, _, _ => by simp [lcp]
 | _ :: _, [], _, h, _ => by simp [kl, ordL] at h
 | _ :: _, _ :: _, [], _, h => by simp [kl, ordL] at h
 | x :: a, y :: b, z :: c, h, g => by
  have ih := lcp_between a b c
  unfold kl at *
  simp only [ordL, lcp] at *
  by_cases e : x = z
  ·subst e
   by_cases h1 : x < y
   ·have : ¬ y < x := by omega
    rw [if_neg this, if_pos h1] at g
    cases g
   ·rw [if_neg h1] at h
    by_cases h2 : y < x
    ·rw [if_pos h2] at h
     cases h
    ·obtain rfl : x = y := by omega
     simp only [if_true]
     rw [if_neg h1, if_neg h2] at g
     rw [if_neg h2] at h
     have := ih h g
     omega
  ·rw [if_neg e]
   omega
def shn (a : List Int) : List Cl → Nat
 | [] => a.length
 | d :: r => min (lcp a d.key) (shn a r)
theorem shn_le (a : List Int) : ∀ (r : List Cl), shn a r ≤ a.length
 | [] => Nat.le_refl _
 | d :: r => by have := shn_le a r; unfold shn; omega
theorem shn_key (a : List Int) : ∀ (r : List Cl) (d : Cl), d ∈ r → shn a r ≤ d.key.length ∧ d.key.take (shn a r) = a.take (shn a r)
 | [], d, h => by cases h
 | e :: r, d, h => by
  have h1 := lcp_le a e.key
  have h2 := lcp_take_eq a e.key
  unfold shn
  rcases List.mem_cons.1 h with rfl | h
  ·refine ⟨by omega, ?_⟩
   have e1 := congrArg (List.take (min (lcp a d.key) (shn a r))) h2
   rw [List.take_take, List.take_take, Nat.min_eq_left (by omega)] at e1
   exact e1.symm
  ·have ih := shn_key a r d h
   refine ⟨by omega, ?_⟩
   have e1 := congrArg (List.take (min (lcp a e.key) (shn a r))) ih.2
   rw [List.take_take, List.take_take, Nat.min_eq_left (by omega)] at e1
   exact e1
theorem shn_most (a P : List Int) (ha : a.take P.length = P) : ∀ (r : List Cl), (∀ d ∈ r, d.key.take P.length = P) → P.length ≤ shn a r
 | [], _ => by
  unfold shn
  have := congrArg List.length ha
  rw [List.length_take] at this
  omega
 | d :: r, h => by
  have ih := shn_most a P ha r fun e he => h e (by simp [he])
  have hd := h d (by simp)
  unfold shn
  have l1 := congrArg List.length ha
  have l2 := congrArg List.length hd
  rw [List.length_take] at l1 l2
  have key : P.length ≤ lcp a d.key := by
   rcases Nat.lt_or_ge (lcp a d.key) P.length with hlt | hge
   ·exfalso
    have hn := lcp_next a d.key (by omega) (by omega)
    apply hn
    have e : a.take P.length = d.key.take P.length := by rw [ha, hd]
    have e2 := congrArg (fun l => List.getD l (lcp a d.key) 0) e
    simp only [List.getD_eq_getElem?_getD] at e2 ⊢
    rwa [List.getElem?_take_of_lt hlt, List.getElem?_take_of_lt hlt] at e2
   ·exact hge
  omega
theorem shn_last (a : List Int) : ∀ (r : List Cl) (z : Cl), r.getLast? = some z → (∀ d ∈ r, kl a d.key) → Rs r → shn a r = lcp a z.key
 | [], z, h, _, _ => by simp at h
 | [d], z, h, _, _ => by
  simp at h
  subst h
  have := (lcp_le a d.key).1
  unfold shn shn
  omega
 | d :: e :: r, z, h, ha, hr => by
  unfold Rs at hr
  rw [List.pairwise_cons] at hr
  have hz : (e :: r).getLast? = some z := by simpa using h
  have ih := shn_last a (e :: r) z hz (fun x hx => ha x (by simp [List.mem_cons.1 hx])) hr.2
  have hzm : z ∈ e :: r := List.mem_of_getLast? hz
  have := lcp_between a d.key z.key (ha d (by simp)) (hr.1 z hzm)
  rw [shn, ih]
  omega
def ktl (k : Int) (cs : List Cl) : List Cl := if k = 3 then cs.tail else cs
def shr : List Cl → List Int
 | [] => []
 | c :: r => c.key.take (shn c.key r)
def shP (k : Int) (cs : List Cl) : List Int := shr (ktl k cs)
def Beg (k : Int) (P : List Int) (cs : List Cl) : Prop := ∀ c ∈ ktl k cs, c.key.take P.length = P
theorem shr_beg : ∀ (l : List Cl), ∀ c ∈ l, c.key.take (shr l).length = shr l
 | [], c, h => by cases h
 | d :: r, c, h => by
  have hl : (shr (d :: r)).length = shn d.key r := by
   have := shn_le d.key r
   unfold shr
   rw [List.length_take]
   omega
  rw [hl]
  rcases List.mem_cons.1 h with rfl | h
  ·rfl
  ·exact (shn_key d.key r c h).2
theorem shP_beg (k : Int) (cs : List Cl) : Beg k (shP k cs) cs := fun c hc => shr_beg _ c hc
theorem shP_most {k : Int} {P : List Int} {cs : List Cl} (h : Beg k P cs) (hn : ktl k cs ≠ []) : P.length ≤ (shP k cs).length := by
 unfold Beg at h
 unfold shP
 cases hk : ktl k cs with
 | nil => exact absurd hk hn
 | cons c r =>
  rw [hk] at h
  have := shn_most c.key P (h c (by simp)) r fun d hd => h d (by simp [hd])
  have h2 := shn_le c.key r
  unfold shr
  rw [List.length_take]
  omega
theorem shP_nil {k : Int} {cs : List Cl} (h : ktl k cs = []) : shP k cs = [] := by unfold shP; rw [h]; rfl
theorem uBf_mono (f : Nat) : ∀ a b : Int, 0 ≤ a → a ≤ b → (uBf f a).length ≤ (uBf f b).length := by
 induction f with
 | zero => intro a b _ _; simp [uBf]
 | succ f ih =>
  intro a b h0 h
  rw [uBf, uBf]
  by_cases h1 : a < 128
  ·rw [if_pos h1]
   split
   ·simp
   ·have := (uBf_length f (b / 128)).2
    simp only [List.length_cons, List.length_nil]
    omega
  ·rw [if_neg h1, if_neg (by omega)]
   have := ih (a / 128) (b / 128) (by omega) (by omega)
   simp only [List.length_cons]
   omega
theorem tL_less (x d : Nat) (h : d ≤ x) : tL (x - d) + d ≤ tL x := by
 unfold tL
 have := uBf_mono 9 ((x - d : Nat) : Int) (x : Int) (by omega) (by omega)
 unfold uB
 omega
theorem qtk_less (m m' : Nat) (c : Cl) (h : m ≤ m') (hm : m' ≤ c.key.length) : qtk m' c + (m' - m) ≤ qtk m c := by
 have := tL_less (c.key.length - m) (m' - m) (by omega)
 rw [show c.key.length - m - (m' - m) = c.key.length - m' by omega] at this
 unfold qtk
 omega
def qbd (m : Nat) : Bool → List Cl → List Int
 | _, [] => []
 | f, c :: r => qB (if f then 0 else m) c ++ qbd m false r
def qst (m : Nat) : Bool → Nat → List Cl → List Nat
 | _, _, [] => []
 | f, b, c :: r => b :: qst m false (b + (qB (if f then 0 else m) c).length) r
def qsm (m : Nat) : Bool → List Cl → Nat
 | _, [] => 0
 | f, c :: r => qtk (if f then 0 else m) c + qsm m false r
def whl (k : Int) : Bool := decide (k = 3)
def szQ (k : Int) (m : Nat) (cs : List Cl) : Nat := 10 + m + qsm m (whl k) cs
theorem qsm_eq (m : Nat) : ∀ (f : Bool) (cs : List Cl), qsm m f cs = 2 * cs.length + (qbd m f cs).length
 | _, [] => rfl
 | f, c :: r => by
  have h1 := qB_length (if f then 0 else m) c
  have h2 := qsm_eq m false r
  simp only [qsm, qbd, List.length_cons, List.length_append]
  omega
theorem qst_length (m : Nat) : ∀ (f : Bool) (b : Nat) (cs : List Cl), (qst m f b cs).length = cs.length
 | _, _, [] => rfl
 | f, b, c :: r => by simp [qst, qst_length m false _ r]
theorem qst_shift (m : Nat) : ∀ (f : Bool) (a b : Nat) (cs : List Cl), qst m f (a + b) cs = (qst m f b cs).map (a + ·)
 | _, _, _, [] => rfl
 | f, a, b, c :: r => by
  simp only [qst, List.map_cons, List.cons.injEq, true_and]
  rw [Nat.add_assoc]
  exact qst_shift m false a _ r
theorem qsm_less (m m' : Nat) (h : m ≤ m') : ∀ (cs : List Cl), (∀ c ∈ cs, m' ≤ c.key.length) → qsm m' false cs + (m' - m) * cs.length ≤ qsm m false cs
 | [], _ => by simp [qsm]
 | c :: r, hc => by
  have h1 := qsm_less m m' h r fun d hd => hc d (by simp [hd])
  have h2 := qtk_less m m' c h (hc c (by simp))
  simp only [qsm, List.length_cons, Nat.mul_add, Nat.mul_one]
  simp only [Bool.false_eq_true, if_false]
  omega
theorem beg_len {P : List Int} {c : Cl} (h : c.key.take P.length = P) : P.length ≤ c.key.length := by
 have := congrArg List.length h
 rw [List.length_take] at this
 omega
theorem szQ_less {k : Int} {P : List Int} {cs : List Cl} (h : Beg k P cs) : szQ k (shP k cs).length cs ≤ szQ k P.length cs := by
 have hs := shP_beg k cs
 by_cases hn : ktl k cs = []
 ·rw [shP_nil hn]
  unfold szQ ktl at *
  by_cases hk : k = 3
  ·rw [if_pos hk] at hn
   match cs, hn with
   | [], _ => simp [qsm]
   | [c], _ => simp [qsm, whl, hk]
  ·rw [if_neg hk] at hn
   subst hn
   simp [qsm]
 ·have hm := shP_most h hn
  have hc : ∀ c ∈ ktl k cs, (shP k cs).length ≤ c.key.length := fun c hc => beg_len (hs c hc)
  generalize (shP k cs).length = m' at *
  have hq := qsm_less P.length m' hm (ktl k cs) hc
  have h1 : 1 ≤ (ktl k cs).length := List.length_pos_iff.2 hn
  have h2 : m' - P.length ≤ (m' - P.length) * (ktl k cs).length := Nat.le_mul_of_pos_right _ h1
  unfold szQ ktl at *
  by_cases hk : k = 3
  ·rw [if_pos hk] at *
   match cs, hn with
   | c :: r, _ =>
    simp only [List.tail_cons] at hq h2
    simp only [qsm, whl, hk, decide_true, if_true]
    omega
  ·rw [if_neg hk] at *
   simp only [whl, hk, decide_false]
   omega
end Go.Proofs.YtlhkinlgolcpaaaGreatDoor

namespace Go.Proofs.YtlhkinlgolcpaaaGreatDoor
set_option maxRecDepth 100000
def pkL (k : Int) (n : Nat) (P : List Int) (cs : List Cl) : List Int := [k, 2] ++ (fB 2 cs.length ++ (fB 2 P.length ++ (P ++ (sloB (qst P.length (whl k) (6 + P.length + 2 * cs.length) cs) ++ (qbd P.length (whl k) cs ++ zs (n - szQ k P.length cs))))))
def pkH (k : Int) (n : Nat) (cs : List Cl) : List Int := pkL k n (shP k cs) cs
def pkB (k : Int) (n : Nat) (cs : List Cl) : List Int := sealB (pkH k n cs)
theorem szQ_eq (k : Int) (m : Nat) (cs : List Cl) : szQ k m cs = 10 + m + 2 * cs.length + (qbd m (whl k) cs).length := by
 unfold szQ
 rw [qsm_eq]
 omega
theorem pkL_length (k : Int) (n : Nat) (P : List Int) (cs : List Cl) (h : szQ k P.length cs ≤ n) : (pkL k n P cs).length = n - 4 := by
 have := szQ_eq k P.length cs
 simp only [pkL, List.length_append, List.length_cons, List.length_nil, fB_length, sloB_length, qst_length, zs_length]
 omega
theorem qbd_wf (m : Nat) : ∀ (f : Bool) (cs : List Cl), (∀ c ∈ cs, c.Wf ∧ c.fit) → Wf (qbd m f cs)
 | _, [], _ => Wf.nil
 | f, c :: r, h => by
  have hc := h c (by simp)
  have h1 := hc.2.key
  have h2 := hc.2.val
  exact (qB_wf hc.1 (by omega) (by omega)).append (qbd_wf m false r fun d hd => h d (by simp [hd]))
theorem shr_wf : ∀ (l : List Cl), (∀ c ∈ l, c.Wf) → Wf (shr l)
 | [], _ => Wf.nil
 | c :: r, h => (h c (by simp)).1.take _
theorem ktl_mem {k : Int} {cs : List Cl} {c : Cl} (h : c ∈ ktl k cs) : c ∈ cs := by
 unfold ktl at h
 split at h
 ·exact List.mem_of_mem_tail h
 ·exact h
theorem shP_wf {k : Int} {cs : List Cl} (h : ∀ c ∈ cs, c.Wf) : Wf (shP k cs) := shr_wf _ fun c hc => h c (ktl_mem hc)
end Go.Proofs.YtlhkinlgolcpaaaGreatDoor

namespace Go.Proofs
open Go.Shelf
def Tryz.lays129_ren : Go.Shelf.Ren := ⟨fun | 129 => 154 | n => n, fun | 53 => 82 | 3 => 3 | 4 => 4 | 46 => 107 | 5 => 5 | 9 => 9 | n => n, fun | n => n⟩
theorem Tryz.lays129 : Go.Proofs.Lays.n129 Tryz.prog Tryz.lays129_ren := {
 mixed := by kernel_rfl
 f129 := Tryz.func154.trans (congrArg some (by kernel_rfl))
 t3 := Tryz.underlying3
 a3 := Tryz.isAgg3
 z3 := Tryz.sizeOf3
 v3 := Tryz.zeroValue3
 t4 := Tryz.underlying4
 a4 := Tryz.isAgg4
 z4 := Tryz.sizeOf4
 v4 := Tryz.zeroValue4
 t5 := Tryz.underlying5
 a5 := Tryz.isAgg5
 z5 := Tryz.sizeOf5
 v5 := Tryz.zeroValue5
 t9 := Tryz.underlying9
 a9 := Tryz.isAgg9
 z9 := Tryz.sizeOf9
 v9 := Tryz.zeroValue9
 t46 := Tryz.underlying107
 a46 := Tryz.isAgg107
 z46 := Tryz.sizeOf107
 v46 := Tryz.zeroValue107
 t53 := Tryz.underlying82
 a53 := Tryz.isAgg82
 z53 := Tryz.sizeOf82
 v53 := Tryz.zeroValue82 }
theorem Tryz.bits_Len64 (x : Int) (w : World) (h0 : 0 ≤ x) (h1 : x ≤ 18446744073709551615) :
  Calls Tryz.prog 154 #[.int .u64 x] w fun e w' => e = .returned (.int .i64 (Lib.bitLen x.toNat)) ∧ w' = w := Any.bits_Len64 Tryz.lays129 x w h0 h1
end Go.Proofs
