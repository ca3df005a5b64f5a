import Derived.Test.YtbkhjeacmmbabaaGreatDoorJ24
import Derived.Shelf.Strconv.Itoa0
import Derived.Shelf.Bytes.SlSearch0
import Derived.Shelf.Bytes.Small
import Derived.Test.YtbkhjeacmmbabaaGreatDoorProg
import Derived.Deep.MidRow
import Derived.Deep.Upon
import Derived.Laws.IdiomCopy
import Derived.Lib.SlBytesConst
namespace Go.Proofs.YtbkhjeacmmbabaaGreatDoor
set_option maxRecDepth 100000
set_option maxHeartbeats 4000000
open Go.RowKit
theorem RestTo.far {w : World} {ao ho : Option Addr} {n hn : Nat} {v : Value} (hf : Far ho hn v) (hb : ∀ q, ao = some q → ∃ o, ho = some o ∧ q.block = o.block) (hn1 : n ≤ hn) (_ : w = w) : Far ao n v := by
 rcases hf with h0 | hf
 ·exact .inl (by omega)
 ·refine .inr fun q hq e => ?_
  obtain ⟨o, ho, hqo⟩ := hb q hq
  rw [hqo] at e
  exact hf o ho e
theorem OwnB.slu {w : World} {B : Nat} {v : Value} {n : Int} (h : OwnB w B v (uB n)) (h0 : 0 ≤ n) (hn : n < 18446744073709551616) : ∃ ao m c, v = .slice ao m c ∧ Sl w ao m c (uB n) ∧ m ≤ 10 := by
 have hl := zbe n
 obtain ⟨a1, c1, rfl, s1, _⟩ := h.sl (uB_wf h0 hn) (by omega)
 exact ⟨a1, _, c1, rfl, s1, hl.1⟩
theorem eappended_any (v : Value) (B : Nat) (l : List Int) (ho : Option Addr) (hn hc : Nat) (ko : Option Addr) (kn kc : Nat) (kd : Int) (vo : Option Addr) (vn vc : Nat) (pg ct : Int) (h key val : List Int) (n : Nat) (w : World) (hown : OwnB w B v l) (hB : B ≤ w.heap.size)
  (hh : Sl w ho hn hc h) (hk : Sl w ko kn kc key) (hv : Sl w vo vn vc val) (fh : Far ho hn v) (fk : Far ko kn v) (fv : Far vo vn v) (hnl : n ≤ hn + kn) (hl : l.length + hn + kn + vn ≤ 35184372088832) :
  Calls Tryz.prog 126 #[.agg (eV ho hn hc ko kn kc kd vo vn vc pg ct), v, .int .i64 (n : Int)] w fun e w' => ∃ v', e = .returned v' ∧ Hid (OwnB w' B v' (l ++ qB n ⟨h ++ key, kd, val, pg, ct⟩)) ∧ Hid (Gr w v w' v') := by
 obtain ⟨x, hx⟩ : ∃ x, w.alloc (.cells #[.slice ho hn hc, .slice ko kn kc, .int .i64 kd, .slice vo vn vc, .int .i64 pg, .int .i64 ct] 123) = x := ⟨_, rfl⟩
 have hbx : Below w.heap.size w x := by rw [← hx]; exact zad Br Lr _
 have hb6 : E6 x w.heap.size (.slice ho hn hc) (.slice ko kn kc) (.int .i64 kd) (.slice vo vn vc) (.int .i64 pg) (.int .i64 ct) := by rw [← hx]; exact E6.box w _ _ _ _ _ _
 obtain ⟨s, hs⟩ : ∃ s, w.heap.size = s := ⟨_, rfl⟩
 rw [hs] at hb6
 have HB6 := zaa hb6
 obtain ⟨b0, b1, b2, b3, b4, b5⟩ := hb6.cells
 have HO : Hid (OwnB x B v l) := zaa (hown.on Lr hbx)
 have HK : Hid (Sl x ko kn kc key) := zaa (hk.on Lr hbx)
 have HH : Hid (Sl x ho hn hc h) := zaa (hh.on Lr hbx)
 have HV : Hid (Sl x vo vn vc val) := zaa (hv.on Lr hbx)
 have HG : Hid (Gr w v x v) := zaa (Gr.ofBelow v hbx)
 have hBx : B ≤ x.heap.size := zN hB hbx.size
 have HFH := zaa fh
 have HFK := zaa fk
 have HFV := zaa fv
 have HR := zaa (erest_any ho hn hc ko kn kc kd vo vn vc pg ct h key n x HH.out HK.out hnl)
 have HLK : Hid (h.length = hn ∧ key.length = kn ∧ val.length = vn) := zaa ⟨hh.hlen, hk.hlen, hv.hlen⟩
 clear hown hh hk hv fh fk fv hbx hb6
 unfold eV at HR ⊢
 go_enter Tryz.func126, Tryz.ntmps126
 go_wp2_with (go_at_call 162; refine HR.out.mono ?_; rintro e w1 ⟨a1, n1, c1, a2, n2, c2, l1, l2, rfl, HB1, HQ⟩; refine Hid.out ?_)
 apply zaa
 obtain ⟨q1, q2, q3, q4, q5, q6, q7⟩ := HQ.out
 have G1 : Gr x v w1 v := Gr.ofBelow v HB1.out
 have HG1 : Hid (Gr w v w1 v) := zaa (HG.out.trans G1)
 have H61 : Hid (E6 w1 s (.slice ho hn hc) (.slice ko kn kc) (.int .i64 kd) (.slice vo vn vc) (.int .i64 pg) (.int .i64 ct)) := zaa (zag HB6.out HB1.out)
 have HO1 : Hid (OwnB w1 B v l) := zaa (HO.out.on Lr HB1.out)
 have HV1 : Hid (Sl w1 vo vn vc val) := zaa (HV.out.on Lr HB1.out)
 have hB1 : B ≤ w1.heap.size := zN hBx HB1.out.size
 have F1 : Far a1 n1 v := RestTo.far (w := w) HFH.out q4 q6 rfl
 have F2 : Far a2 n2 v := RestTo.far (w := w) HFK.out q5 q7 rfl
 have HS1 := zaa q1
 have HS2 := zaa q2
 have HLL := zaa q3
 have HF1 := zaa F1
 have HF2 := zaa F2
 have hn1 : n1 + n2 ≤ hn + kn := by omega
 have j1 : (n1 : Int) ≤ 35184372088832 := by omega
 have j2 : (n2 : Int) ≤ 35184372088832 := by omega
 have HL12 : Hid (l1.length = n1 ∧ l2.length = n2) := zaa ⟨q1.hlen, q2.hlen⟩
 clear HR HQ q1 q2 q3 q4 q5 q6 q7 G1 F1 F2 HB1 HB6 HH HK HV HO HG b0 b1 b2 b3 b4 b5 hx
 obtain ⟨b0, b1, b2, b3, b4, b5⟩ := H61.out.cells
 obtain ⟨y, hy⟩ : ∃ y, w1.alloc (.cells #[.int .u8 (kd % 256)] 5) = y := ⟨_, rfl⟩
 have hby : Below w1.heap.size w1 y := by rw [← hy]; exact zad Br Lr _
 have HY1 : Hid (Sl y (some ⟨w1.heap.size, 0, none⟩) 1 1 [kd % 256]) := zaa (by rw [← hy]; exact sl_one w1 _ (by omega))
 have HYO : Hid (OwnB y B v l) := zaa (HO1.out.on Lr hby)
 have hBy : B ≤ y.heap.size := zN hB1 hby.size
 have HGY := zaa (Gr.ofBelow v hby)
 have HBY := zaa hby
 clear hby
 go_wp2_with (at_builtin; refine zau _ rfl _ _ rfl B l [kd % 256] v (some ⟨w1.heap.size, 0, none⟩) 1 1 rfl rfl HYO.out HY1.out (by omega) hBy ?_; refine Hid.out ?_)
 apply zaa
 intro v2 w2 ho2 g2
 have G2 : Gr w1 v w2 v2 := HGY.out.trans g2
 have HG2 := zaa (HG1.out.trans G2)
 have H62 := zaa (H61.out.gr G2 (HO1.out.apart6 H61.out))
 have HO2 := zaa ho2
 have HV2 := zaa (HV1.out.gr G2 HFV.out)
 have HS12 := zaa (HS1.out.gr G2 HF1.out)
 have HS22 := zaa (HS2.out.gr G2 HF2.out)
 have HF12 := zaa (HF1.out.gr HS1.out G2)
 have HF22 := zaa (HF2.out.gr HS2.out G2)
 have HFV2 := zaa (HFV.out.gr HV1.out G2)
 have hB2 : B ≤ w2.heap.size := zN hB1 G2.grow.size
 clear ho2 g2 G2 HGY HY1 HYO HBY hBy b0 b1 b2 b3 b4 b5 H61 HO1 HV1 HS1 HS2 HF1 HF2 HFV HG1 hy
 obtain ⟨b0, b1, b2, b3, b4, b5⟩ := H62.out.cells
 obtain ⟨M, hM⟩ : ∃ M, n1 + n2 = M := ⟨_, rfl⟩
 have hMI : (n1 : Int) + (n2 : Int) = (M : Int) := by omega
 have hMb : (M : Int) ≤ 35184372088832 := by omega
 have hMw : IntKind.u64.wrap (M : Int) = (M : Int) := by rw [IntKind.wrap_u64]; omega
 have HU := zaa (uint_any (M : Int) w2 (by omega) (by omega))
 have HML : Hid (((h ++ key).drop n).length = M) := zaa (by rw [← HLL.out, zG, HL12.out.1, HL12.out.2]; exact hM)
 clear hM
 go_wp2_with (go_at_call 163; refine HU.out.mono ?_; rintro e w3 ⟨u3, rfl, ho3, hb3⟩; refine Hid.out ?_)
 apply zaa
 obtain ⟨ua, um, uc, rfl, us3, hum⟩ := ho3.slu (by omega) (by omega)
 have G3 : Gr w2 v2 w3 v2 := Gr.ofBelow v2 hb3
 have HO3 : Hid (OwnB w3 B v2 (l ++ [kd % 256])) := zaa (HO2.out.on Lr hb3)
 have HU3 := zaa us3
 have hB3 : B ≤ w3.heap.size := zN hB2 hb3.size
 have HG3 := zaa G3
 clear ho3 us3 hb3 G3 HU
 go_wp2_with (at_builtin; refine zau _ rfl _ _ rfl B (l ++ [kd % 256]) (uB (M : Int)) v2 ua um uc rfl rfl HO3.out HU3.out (by simp; omega) hB3 ?_; refine Hid.out ?_)
 apply zaa
 intro v4 w4 ho4 g4
 have G4 : Gr w2 v2 w4 v4 := HG3.out.trans g4
 have HG4 := zaa (HG2.out.trans G4)
 have H64 := zaa (H62.out.gr G4 (HO2.out.apart6 H62.out))
 have HO4 := zaa ho4
 have HV4 := zaa (HV2.out.gr G4 HFV2.out)
 have HS14 := zaa (HS12.out.gr G4 HF12.out)
 have HS24 := zaa (HS22.out.gr G4 HF22.out)
 have HF14 := zaa (HF12.out.gr HS12.out G4)
 have HF24 := zaa (HF22.out.gr HS22.out G4)
 have HFV4 := zaa (HFV2.out.gr HV2.out G4)
 have hB4 : B ≤ w4.heap.size := zN hB2 G4.grow.size
 clear ho4 g4 G4 HG3 HO3 HU3 hB3 b0 b1 b2 b3 b4 b5 H62 HO2 HV2 HS12 HS22 HF12 HF22 HFV2 HG2
 obtain ⟨b0, b1, b2, b3, b4, b5⟩ := H64.out.cells
 obtain ⟨L4, hL4⟩ : ∃ L, l ++ [kd % 256] ++ uB (M : Int) = L := ⟨_, rfl⟩
 have hll4 : L4.length ≤ l.length + 11 := by
  have := (zbe (M : Int)).1
  rw [← hL4]
  simp only [zG, List.length_cons, List.length_nil]
  omega
 replace HO4 : Hid (OwnB w4 B v4 L4) := zaa (by rw [← hL4]; simpa using HO4.out)
 have HL4 := zaa hL4
 clear hL4
 go_wp2_with (at_builtin; refine zau _ rfl _ _ rfl B L4 l1 v4 a1 n1 c1 rfl rfl HO4.out HS14.out (by omega) hB4 ?_; refine Hid.out ?_)
 apply zaa
 intro v5 w5 ho5 g5
 have HG5 := zaa (HG4.out.trans g5)
 have H65 := zaa (H64.out.gr g5 (HO4.out.apart6 H64.out))
 have HO5 := zaa ho5
 have HV5 := zaa (HV4.out.gr g5 HFV4.out)
 have HS25 := zaa (HS24.out.gr g5 HF24.out)
 have HF25 := zaa (HF24.out.gr HS24.out g5)
 have HFV5 := zaa (HFV4.out.gr HV4.out g5)
 have hB5 : B ≤ w5.heap.size := zN hB4 g5.grow.size
 clear ho5 g5 b0 b1 b2 b3 b4 b5 H64 HO4 HV4 HS14 HS24 HF14 HF24 HFV4 HG4
 have hll5 : (L4 ++ l1).length + n2 ≤ 140737488355328 := by rw [zG, HL12.out.1]; omega
 go_wp2_with (at_builtin; refine zau _ rfl _ _ rfl B (L4 ++ l1) l2 v5 a2 n2 c2 rfl rfl HO5.out HS25.out hll5 hB5 ?_; refine Hid.out ?_)
 apply zaa
 intro v6 w6 ho6 g6
 have HG6 := zaa (HG5.out.trans g6)
 have H66 := zaa (H65.out.gr g6 (HO5.out.apart6 H65.out))
 have HO6 := zaa ho6
 have HV6 := zaa (HV5.out.gr g6 HFV5.out)
 have HFV6 := zaa (HFV5.out.gr HV5.out g6)
 have hB6 : B ≤ w6.heap.size := zN hB5 g6.grow.size
 clear ho6 g6 H65 HO5 HV5 HS25 HF25 HFV5 HG5
 obtain ⟨b0, b1, b2, b3, b4, b5⟩ := H66.out.cells
 obtain ⟨L6, hL6⟩ : ∃ L, L4 ++ l1 ++ l2 = L := ⟨_, rfl⟩
 have hll6 : L6.length ≤ l.length + 11 + (hn + kn) := by
  rw [← hL6]
  simp only [zG, HL12.out.1, HL12.out.2]
  omega
 replace HO6 : Hid (OwnB w6 B v6 L6) := zaa (by rw [← hL6]; simpa using HO6.out)
 have HQB : Hid (∀ T, (if kd = 1 then uB (val.length : Int) ++ val else uB (pg % 18446744073709551616) ++ uB (ct % 18446744073709551616)) = T → l ++ qB n ⟨h ++ key, kd, val, pg, ct⟩ = L6 ++ T) := zaa (by
  intro T hT
  unfold qB
  simp only [hT]
  rw [← hL6, ← HL4.out, ← HLL.out]
  have e : (h ++ key).length - n = M := by have := HML.out; rwa [zK] at this
  rw [e]
  simp only [zM])
 clear hL6 HL4 HLL HL12 HML
 have hln : (vn : Int) ≤ 35184372088832 := by omega
 by_cases hk1 : kd = 1
 ·subst hk1
  have hVw : IntKind.u64.wrap (vn : Int) = (vn : Int) := by rw [IntKind.wrap_u64]; omega
  have HU := zaa (uint_any (vn : Int) w6 (by omega) (by omega))
  go_wp2_with (go_at_call 163; refine HU.out.mono ?_; rintro e w7 ⟨u7, rfl, ho7, hb7⟩; refine Hid.out ?_)
  apply zaa
  obtain ⟨ua, um, uc, rfl, us7, hum⟩ := ho7.slu (by omega) (by omega)
  have HG7 := zaa (Gr.ofBelow v6 hb7)
  have HO7 : Hid (OwnB w7 B v6 L6) := zaa (HO6.out.on Lr hb7)
  have HU7 := zaa us7
  have hB7 : B ≤ w7.heap.size := zN hB6 hb7.size
  clear ho7 us7 hb7 HU
  go_wp2_with (at_builtin; refine zau _ rfl _ _ rfl B L6 (uB (vn : Int)) v6 ua um uc rfl rfl HO7.out HU7.out (by omega) hB7 ?_; refine Hid.out ?_)
  apply zaa
  intro v8 w8 ho8 g8
  have G8 : Gr w6 v6 w8 v8 := HG7.out.trans g8
  have HG8 := zaa (HG6.out.trans G8)
  have H68 := zaa (H66.out.gr G8 (HO6.out.apart6 H66.out))
  have HO8 := zaa ho8
  have HV8 := zaa (HV6.out.gr G8 HFV6.out)
  have hB8 : B ≤ w8.heap.size := zN hB6 G8.grow.size
  clear ho8 g8 G8 HG7 HO7 HU7 b0 b1 b2 b3 b4 b5 H66 HO6 HV6 HFV6 HG6
  obtain ⟨b0, b1, b2, b3, b4, b5⟩ := H68.out.cells
  have hll8 : (L6 ++ uB (vn : Int)).length + vn ≤ 140737488355328 := by
   have := (zbe (vn : Int)).1
   rw [zG]
   omega
  go_wp2_with (at_builtin; refine zau _ rfl _ _ rfl B (L6 ++ uB (vn : Int)) val v8 vo vn vc rfl rfl HO8.out HV8.out hll8 hB8 ?_; refine Hid.out ?_)
  apply zaa
  intro v9 w9 ho9 g9
  have HG9 := zaa (HG8.out.trans g9)
  have HO9 : Hid (OwnB w9 B v9 (l ++ qB n ⟨h ++ key, 1, val, pg, ct⟩)) := zaa (by
   rw [HQB.out (uB (vn : Int) ++ val) (by simp [HLK.out.2.2])]
   simpa using ho9)
  clear ho9 g9
  go_wp2
  go_ret
  exact ⟨v9, rfl, HO9, HG9⟩
 ·obtain ⟨P, hP⟩ : ∃ P, pg % 18446744073709551616 = P := ⟨_, rfl⟩
  obtain ⟨C, hC⟩ : ∃ C, ct % 18446744073709551616 = C := ⟨_, rfl⟩
  have hPw : IntKind.u64.wrap pg = P := by rw [IntKind.wrap_u64, hP]
  have hCw : IntKind.u64.wrap ct = C := by rw [IntKind.wrap_u64, hC]
  have HT := zaa (HQB.out (uB P ++ uB C) (by rw [if_neg hk1, hP, hC]))
  have HU := zaa (uint_any P w6 (by omega) (by omega))
  have hP1 : 0 ≤ P ∧ P < 18446744073709551616 := by omega
  have hC1 : 0 ≤ C ∧ C < 18446744073709551616 := by omega
  clear hP hC HQB
  have hk1b : (kd == 1) = false := by simpa using hk1
  go_wp2_with (go_at_call 163; refine HU.out.mono ?_; rintro e w7 ⟨u7, rfl, ho7, hb7⟩; refine Hid.out ?_)
  apply zaa
  obtain ⟨ua, um, uc, rfl, us7, hum⟩ := ho7.slu hP1.1 hP1.2
  have HG7 := zaa (Gr.ofBelow v6 hb7)
  have HO7 : Hid (OwnB w7 B v6 L6) := zaa (HO6.out.on Lr hb7)
  have HU7 := zaa us7
  have hB7 : B ≤ w7.heap.size := zN hB6 hb7.size
  clear ho7 us7 hb7 HU
  go_wp2_with (at_builtin; refine zau _ rfl _ _ rfl B L6 (uB P) v6 ua um uc rfl rfl HO7.out HU7.out (by omega) hB7 ?_; refine Hid.out ?_)
  apply zaa
  intro v8 w8 ho8 g8
  have G8 : Gr w6 v6 w8 v8 := HG7.out.trans g8
  have HG8 := zaa (HG6.out.trans G8)
  have H68 := zaa (H66.out.gr G8 (HO6.out.apart6 H66.out))
  have HO8 := zaa ho8
  have hB8 : B ≤ w8.heap.size := zN hB6 G8.grow.size
  clear ho8 g8 G8 HG7 HO7 HU7 b0 b1 b2 b3 b4 b5 H66 HO6 HV6 HFV6 HG6
  obtain ⟨b0, b1, b2, b3, b4, b5⟩ := H68.out.cells
  have HU := zaa (uint_any C w8 hC1.1 hC1.2)
  go_wp2_with (go_at_call 163; refine HU.out.mono ?_; rintro e w9 ⟨u9, rfl, ho9, hb9⟩; refine Hid.out ?_)
  apply zaa
  obtain ⟨ua, um9, uc, rfl, us9, hum9⟩ := ho9.slu hC1.1 hC1.2
  have HG9 := zaa (HG8.out.trans (Gr.ofBelow v8 hb9))
  have HO9 : Hid (OwnB w9 B v8 (L6 ++ uB P)) := zaa (HO8.out.on Lr hb9)
  have HU9 := zaa us9
  have hB9 : B ≤ w9.heap.size := zN hB8 hb9.size
  clear ho9 us9 hb9 HU
  have hll9 : (L6 ++ uB P).length + um9 ≤ 140737488355328 := by
   have := (zbe P).1
   rw [zG]
   omega
  go_wp2_with (at_builtin; refine zau _ rfl _ _ rfl B (L6 ++ uB P) (uB C) v8 ua um9 uc rfl rfl HO9.out HU9.out hll9 hB9 ?_; refine Hid.out ?_)
  apply zaa
  intro vA wA hoA gA
  have HGA := zaa (HG9.out.trans gA)
  have HOA : Hid (OwnB wA B vA (l ++ qB n ⟨h ++ key, kd, val, pg, ct⟩)) := zaa (by
   rw [HT.out]
   simpa using hoA)
  clear hoA gA
  go_wp2
  go_ret
  exact ⟨vA, rfl, HOA, HGA⟩
end Go.Proofs.YtbkhjeacmmbabaaGreatDoor
namespace Go.Proofs.YtbkhjeacmmbabaaGreatDoor
set_option maxRecDepth 100000
set_option maxHeartbeats 4000000
theorem lcp_self : ∀ (a : List Int), lcp a a = a.length
 | [] => rfl
 | x :: a => by simp [lcp, lcp_self a]
theorem lcp_take_eq : ∀ (a b : List Int), a.take (lcp a b) = b.take (lcp a b)
 | [], _ => by simp [lcp]
 | _ :: _, [] => by simp [lcp]
 | x :: a, y :: b => by
  simp only [lcp]
  split
  ·next h => subst h; simp [lcp_take_eq a b]
  ·simp
theorem lcp_between : ∀ (a b c : List Int), kl a b → kl b c → lcp a c ≤ lcp a b
 | [], _, _, _, _ => by simp [lcp]
 | _ :: _, [], _, h, _ => by simp [kl, ordL] at h
 | _ :: _, _ :: _, [], _, h => by simp [kl, ordL] at h
 | x :: a, y :: b, z :: c, h, g => by
  have ih := lcp_between a b c
  unfold kl at *
  simp only [ordL, lcp] at *
  by_cases e : x = z
  ·subst e
   by_cases h1 : x < y
   ·have : ¬ y < x := by omega
    rw [if_neg this, if_pos h1] at g
    cases g
   ·rw [if_neg h1] at h
    by_cases h2 : y < x
    ·rw [if_pos h2] at h
     cases h
    ·obtain rfl : x = y := by omega
     simp only [if_true]
     rw [if_neg h1, if_neg h2] at g
     rw [if_neg h2] at h
     have := ih h g
     omega
  ·rw [if_neg e]
   omega
def shn (a : List Int) : List Cl → Nat
 | [] => a.length
 | d :: r => min (lcp a d.key) (shn a r)
theorem shn_le (a : List Int) : ∀ (r : List Cl), shn a r ≤ a.length
 | [] => Lr
 | d :: r => by have := shn_le a r; unfold shn; omega
theorem shn_key (a : List Int) : ∀ (r : List Cl) (d : Cl), d ∈ r → shn a r ≤ d.key.length ∧ d.key.take (shn a r) = a.take (shn a r)
 | [], d, h => by cases h
 | e :: r, d, h => by
  have h1 := lcp_le a e.key
  have h2 := lcp_take_eq a e.key
  unfold shn
  rcases List.mem_cons.1 h with rfl | h
  ·refine ⟨by omega, ?_⟩
   have e1 := congrArg (List.take (min (lcp a d.key) (shn a r))) h2
   rw [List.take_take, List.take_take, Nat.min_eq_left (by omega)] at e1
   exact e1.symm
  ·have ih := shn_key a r d h
   refine ⟨by omega, ?_⟩
   have e1 := congrArg (List.take (min (lcp a e.key) (shn a r))) ih.2
   rw [List.take_take, List.take_take, Nat.min_eq_left (by omega)] at e1
   exact e1
theorem shn_most (a P : List Int) (ha : a.take P.length = P) : ∀ (r : List Cl), (∀ d ∈ r, d.key.take P.length = P) → P.length ≤ shn a r
 | [], _ => by
  unfold shn
  have := congrArg List.length ha
  rw [zJ] at this
  omega
 | d :: r, h => by
  have ih := shn_most a P ha r fun e he => h e (by simp [he])
  have hd := h d (by simp)
  unfold shn
  have l1 := congrArg List.length ha
  have l2 := congrArg List.length hd
  rw [zJ] at l1 l2
  have key : P.length ≤ lcp a d.key := by
   rcases Nat.lt_or_ge (lcp a d.key) P.length with hlt | hge
   ·exfalso
    have hn := lcp_next a d.key (by omega) (by omega)
    apply hn
    have e : a.take P.length = d.key.take P.length := by rw [ha, hd]
    have e2 := congrArg (fun l => List.getD l (lcp a d.key) 0) e
    simp only [List.getD_eq_getElem?_getD] at e2 ⊢
    rwa [List.getElem?_take_of_lt hlt, List.getElem?_take_of_lt hlt] at e2
   ·exact hge
  omega
theorem shn_last (a : List Int) : ∀ (r : List Cl) (z : Cl), r.getLast? = some z → (∀ d ∈ r, kl a d.key) → Rs r → shn a r = lcp a z.key
 | [], z, h, _, _ => by simp at h
 | [d], z, h, _, _ => by
  simp at h
  subst h
  have := (lcp_le a d.key).1
  unfold shn shn
  omega
 | d :: e :: r, z, h, ha, hr => by
  unfold Rs at hr
  rw [List.pairwise_cons] at hr
  have hz : (e :: r).getLast? = some z := by simpa using h
  have ih := shn_last a (e :: r) z hz (fun x hx => ha x (by simp [List.mem_cons.1 hx])) hr.2
  have hzm : z ∈ e :: r := List.mem_of_getLast? hz
  have := lcp_between a d.key z.key (ha d (by simp)) (hr.1 z hzm)
  rw [shn, ih]
  omega
def ktl (k : Int) (cs : List Cl) : List Cl := if k = 3 then cs.tail else cs
def shr : List Cl → List Int
 | [] => []
 | c :: r => c.key.take (shn c.key r)
def shP (k : Int) (cs : List Cl) : List Int := shr (ktl k cs)
def Beg (k : Int) (P : List Int) (cs : List Cl) : Prop := ∀ c ∈ ktl k cs, c.key.take P.length = P
theorem shr_beg : ∀ (l : List Cl), ∀ c ∈ l, c.key.take (shr l).length = shr l
 | [], c, h => by cases h
 | d :: r, c, h => by
  have hl : (shr (d :: r)).length = shn d.key r := by
   have := shn_le d.key r
   unfold shr
   rw [zJ]
   omega
  rw [hl]
  rcases List.mem_cons.1 h with rfl | h
  ·rfl
  ·exact (shn_key d.key r c h).2
theorem zce (k : Int) (cs : List Cl) : Beg k (shP k cs) cs := fun c hc => shr_beg _ c hc
theorem shP_most {k : Int} {P : List Int} {cs : List Cl} (h : Beg k P cs) (hn : ktl k cs ≠ []) : P.length ≤ (shP k cs).length := by
 unfold Beg at h
 unfold shP
 cases hk : ktl k cs with
 | nil => exact absurd hk hn
 | cons c r =>
  rw [hk] at h
  have := shn_most c.key P (h c (by simp)) r fun d hd => h d (by simp [hd])
  have h2 := shn_le c.key r
  unfold shr
  rw [zJ]
  omega
theorem shP_nil {k : Int} {cs : List Cl} (h : ktl k cs = []) : shP k cs = [] := by unfold shP; rw [h]; rfl
theorem uBf_mono (f : Nat) : ∀ a b : Int, 0 ≤ a → a ≤ b → (uBf f a).length ≤ (uBf f b).length := by
 induction f with
 | zero => intro a b _ _; simp [uBf]
 | succ f ih =>
  intro a b h0 h
  rw [uBf, uBf]
  by_cases h1 : a < 128
  ·rw [if_pos h1]
   split
   ·simp
   ·have := (uBf_length f (b / 128)).2
    simp only [List.length_cons, List.length_nil]
    omega
  ·rw [if_neg h1, if_neg (by omega)]
   have := ih (a / 128) (b / 128) (by omega) (by omega)
   simp only [List.length_cons]
   omega
theorem tL_less (x d : Nat) (h : d ≤ x) : tL (x - d) + d ≤ tL x := by
 unfold tL
 have := uBf_mono 9 ((x - d : Nat) : Int) (x : Int) (by omega) (by omega)
 unfold uB
 omega
theorem qtk_less (m m' : Nat) (c : Cl) (h : m ≤ m') (hm : m' ≤ c.key.length) : qtk m' c + (m' - m) ≤ qtk m c := by
 have := tL_less (c.key.length - m) (m' - m) (by omega)
 rw [show c.key.length - m - (m' - m) = c.key.length - m' by omega] at this
 unfold qtk
 omega
def qbd (m : Nat) : Bool → List Cl → List Int
 | _, [] => []
 | f, c :: r => qB (if f then 0 else m) c ++ qbd m false r
def qst (m : Nat) : Bool → Nat → List Cl → List Nat
 | _, _, [] => []
 | f, b, c :: r => b :: qst m false (b + (qB (if f then 0 else m) c).length) r
def qsm (m : Nat) : Bool → List Cl → Nat
 | _, [] => 0
 | f, c :: r => qtk (if f then 0 else m) c + qsm m false r
def whl (k : Int) : Bool := decide (k = 3)
def szQ (k : Int) (m : Nat) (cs : List Cl) : Nat := 10 + m + qsm m (whl k) cs
theorem qsm_eq (m : Nat) : ∀ (f : Bool) (cs : List Cl), qsm m f cs = 2 * cs.length + (qbd m f cs).length
 | _, [] => rfl
 | f, c :: r => by
  have h1 := qB_length (if f then 0 else m) c
  have h2 := qsm_eq m false r
  simp only [qsm, qbd, List.length_cons, zG]
  omega
theorem zbm (m : Nat) : ∀ (f : Bool) (b : Nat) (cs : List Cl), (qst m f b cs).length = cs.length
 | _, _, [] => rfl
 | f, b, c :: r => by simp [qst, zbm m false _ r]
theorem qst_shift (m : Nat) : ∀ (f : Bool) (a b : Nat) (cs : List Cl), qst m f (a + b) cs = (qst m f b cs).map (a + ·)
 | _, _, _, [] => rfl
 | f, a, b, c :: r => by
  simp only [qst, List.map_cons, List.cons.injEq, true_and]
  rw [Nat.add_assoc]
  exact qst_shift m false a _ r
theorem qsm_less (m m' : Nat) (h : m ≤ m') : ∀ (cs : List Cl), (∀ c ∈ cs, m' ≤ c.key.length) → qsm m' false cs + (m' - m) * cs.length ≤ qsm m false cs
 | [], _ => by simp [qsm]
 | c :: r, hc => by
  have h1 := qsm_less m m' h r fun d hd => hc d (by simp [hd])
  have h2 := qtk_less m m' c h (hc c (by simp))
  simp only [qsm, List.length_cons, Nat.mul_add, Nat.mul_one]
  simp only [Bool.false_eq_true, if_false]
  omega
theorem beg_len {P : List Int} {c : Cl} (h : c.key.take P.length = P) : P.length ≤ c.key.length := by
 have := congrArg List.length h
 rw [zJ] at this
 omega
theorem szQ_less {k : Int} {P : List Int} {cs : List Cl} (h : Beg k P cs) : szQ k (shP k cs).length cs ≤ szQ k P.length cs := by
 have hs := zce k cs
 by_cases hn : ktl k cs = []
 ·rw [shP_nil hn]
  unfold szQ ktl at *
  by_cases hk : k = 3
  ·rw [if_pos hk] at hn
   match cs, hn with
   | [], _ => simp [qsm]
   | [c], _ => simp [qsm, whl, hk]
  ·rw [if_neg hk] at hn
   subst hn
   simp [qsm]
 ·have hm := shP_most h hn
  have hc : ∀ c ∈ ktl k cs, (shP k cs).length ≤ c.key.length := fun c hc => beg_len (hs c hc)
  generalize (shP k cs).length = m' at *
  have hq := qsm_less P.length m' hm (ktl k cs) hc
  have h1 : 1 ≤ (ktl k cs).length := List.length_pos_iff.2 hn
  have h2 : m' - P.length ≤ (m' - P.length) * (ktl k cs).length := Nat.le_mul_of_pos_right _ h1
  unfold szQ ktl at *
  by_cases hk : k = 3
  ·rw [if_pos hk] at *
   match cs, hn with
   | c :: r, _ =>
    simp only [List.tail_cons] at hq h2
    simp only [qsm, whl, hk, decide_true, if_true]
    omega
  ·rw [if_neg hk] at *
   simp only [whl, hk, decide_false]
   omega
end Go.Proofs.YtbkhjeacmmbabaaGreatDoor
namespace Go.Proofs.YtbkhjeacmmbabaaGreatDoor
set_option maxRecDepth 100000
set_option maxHeartbeats 4000000
def pkL (k : Int) (n : Nat) (P : List Int) (cs : List Cl) : List Int := [k, 2] ++ (fB 2 cs.length ++ (fB 2 P.length ++ (P ++ (sloB (qst P.length (whl k) (6 + P.length + 2 * cs.length) cs) ++ (qbd P.length (whl k) cs ++ zs (n - szQ k P.length cs))))))
def pkH (k : Int) (n : Nat) (cs : List Cl) : List Int := pkL k n (shP k cs) cs
def pkB (k : Int) (n : Nat) (cs : List Cl) : List Int := sealB (pkH k n cs)
theorem zbn (k : Int) (m : Nat) (cs : List Cl) : szQ k m cs = 10 + m + 2 * cs.length + (qbd m (whl k) cs).length := by
 unfold szQ
 rw [qsm_eq]
 omega
theorem pkL_length (k : Int) (n : Nat) (P : List Int) (cs : List Cl) (h : szQ k P.length cs ≤ n) : (pkL k n P cs).length = n - 4 := by
 have := zbn k P.length cs
 simp only [pkL, zG, List.length_cons, List.length_nil, zah, zbq, zbm, zbg]
 omega
theorem zdw (k : Int) (n : Nat) (cs : List Cl) (h : szQ k (shP k cs).length cs ≤ n) : (pkB k n cs).length = n := by
 have := zbn k (shP k cs).length cs
 rw [pkB, sealB_length, pkH, pkL_length k n _ cs h]
 omega
theorem qbd_wf (m : Nat) : ∀ (f : Bool) (cs : List Cl), (∀ c ∈ cs, c.Wf ∧ c.fit) → Wf (qbd m f cs)
 | _, [], _ => Wf.nil
 | f, c :: r, h => by
  have hc := h c (by simp)
  have h1 := hc.2.key
  have h2 := hc.2.val
  exact (qB_wf hc.1 (by omega) (by omega)).append (qbd_wf m false r fun d hd => h d (by simp [hd]))
theorem shr_wf : ∀ (l : List Cl), (∀ c ∈ l, c.Wf) → Wf (shr l)
 | [], _ => Wf.nil
 | c :: r, h => (h c (by simp)).1.take _
theorem ktl_mem {k : Int} {cs : List Cl} {c : Cl} (h : c ∈ ktl k cs) : c ∈ cs := by
 unfold ktl at h
 split at h
 ·exact List.mem_of_mem_tail h
 ·exact h
theorem shP_wf {k : Int} {cs : List Cl} (h : ∀ c ∈ cs, c.Wf) : Wf (shP k cs) := shr_wf _ fun c hc => h c (ktl_mem hc)
theorem pkL_wf {k : Int} {n : Nat} {P : List Int} {cs : List Cl} (hk : 0 ≤ k ∧ k ≤ 255) (hP : Wf P) (h : ∀ c ∈ cs, c.Wf ∧ c.fit) : Wf (pkL k n P cs) :=
 Wf.append (Wf.cons hk (Wf.cons (by omega) Wf.nil)) (Wf.append (zbf _ _) (Wf.append (zbf _ _) (Wf.append hP (Wf.append (sloB_wf _) (Wf.append (qbd_wf _ _ _ h) (zs_wf _))))))
theorem pkB_wf {k : Int} {n : Nat} {cs : List Cl} (hk : 0 ≤ k ∧ k ≤ 255) (h : ∀ c ∈ cs, c.Wf ∧ c.fit) : Wf (pkB k n cs) := sealB_wf (pkL_wf hk (shP_wf fun c hc => (h c hc).1) h)
def zba (k p : Int) (P : List Int) : Nat → Bool → Option (List Int) → List Int → Option (List Cl × List Int)
 | 0, _, _, l => some ([], l)
 | n + 1, f, pr, l =>
  match pC l with
  | none => none
  | some (d, r) =>
   if mayP k p (d.pre (if f then [] else P)) ∧ zar pr (d.pre (if f then [] else P)).key then
    (zba k p P n false (some (d.pre (if f then [] else P)).key) r).map fun x => (d.pre (if f then [] else P) :: x.1, x.2)
   else none
def BegF (P : List Int) : Bool → List Cl → Prop
 | _, [] => True
 | f, c :: r => (f = false → c.key.take P.length = P) ∧ BegF P false r
theorem begF_false (P : List Int) : ∀ (cs : List Cl), BegF P false cs ↔ ∀ c ∈ cs, c.key.take P.length = P
 | [] => by simp [BegF]
 | c :: r => by simp [BegF, begF_false P r]
theorem begF_iff (k : Int) (P : List Int) (cs : List Cl) : BegF P (whl k) cs ↔ Beg k P cs := by
 unfold Beg ktl whl
 by_cases hk : k = 3
 ·simp only [hk, decide_true, if_true]
  cases cs with
  | nil => simp [BegF]
  | cons c r => simp [BegF, begF_false P r]
 ·simp only [hk, decide_false, if_false]
  exact begF_false P cs
theorem Cl.cut_zero (c : Cl) : (c.cut 0).pre [] = c := by
 obtain ⟨key, kd, val, pg, ct⟩ := c
 simp [Cl.cut, Cl.pre]
theorem partQ_of {k p : Int} (hp : p ≤ 65536) (P z : List Int) : ∀ (cs : List Cl) (f : Bool) (pr : Option (List Int)), chk k p pr cs = 0 → BegF P f cs → zba k p P cs.length f pr (qbd P.length f cs ++ z) = some (cs, z)
 | [], _, _, _, _ => rfl
 | c :: r, f, pr, h, hb => by
  unfold chk at h
  split at h
  ·next h1 =>
   split at h
   ·next h2 =>
    simp only [List.length_cons, zba, qbd, zM]
    rw [pC_mid _ c _ (h1.fit hp)]
    have e : (c.cut (if f then 0 else P.length)).pre (if f then [] else P) = c := by
     cases f with
     | true => exact c.cut_zero
     | false => exact c.cut_pre _ _ (hb.1 rfl)
    simp only [e, h1, h2, and_self, if_true]
    rw [partQ_of hp P z r false _ h hb.2]
    rfl
   ·simp at h
  ·simp at h
theorem qB_pre (P : List Int) (d : Cl) : qB P.length (d.pre P) = qB 0 d := by
 obtain ⟨key, kd, val, pg, ct⟩ := d
 unfold qB Cl.pre
 simp
theorem partQ_inv {k p : Int} (P : List Int) (hP : Wf P) : ∀ (n : Nat) (f : Bool) (pr : Option (List Int)) (l r : List Int) (cs : List Cl), Wf l → zba k p P n f pr l = some (cs, r) → cs.length = n ∧ l = qbd P.length f cs ++ r ∧ chk k p pr cs = 0 ∧ (∀ c ∈ cs, c.Wf) ∧ BegF P f cs
 | 0, f, pr, l, r, cs, hw, h => by
  simp only [zba, Option.some.injEq, Prod.mk.injEq] at h
  obtain ⟨rfl, rfl⟩ := h
  exact ⟨rfl, rfl, rfl, (fun c hc => by cases hc), trivial⟩
 | n + 1, f, pr, l, r, cs, hw, h => by
  unfold zba at h
  split at h
  ·cases h
  ·next d r1 e =>
   obtain ⟨c, hc⟩ : ∃ c, d.pre (if f then [] else P) = c := ⟨_, rfl⟩
   rw [hc] at h
   split at h
   ·next hm =>
    obtain ⟨e1, e3, e4, _⟩ := pC_inv hw e
    cases hq : zba k p P n false (some c.key) r1 with
    | none => rw [hq] at h; cases h
    | some x =>
     obtain ⟨ds, r2⟩ := x
     rw [hq] at h
     simp only [Option.map_some, Option.some.injEq, Prod.mk.injEq] at h
     obtain ⟨rfl, rfl⟩ := h
     obtain ⟨f1, f2, f3, f4, f5⟩ := partQ_inv P hP n _ _ r1 _ ds e4 hq
     have hcb : qB (if f then 0 else P.length) c = qB 0 d := by
      rw [← hc]
      cases f with
      | true =>
       obtain ⟨key, kd, val, pg, ct⟩ := d
       simp [Cl.pre]
      | false => exact qB_pre P d
     have hcw : c.Wf := by
      rw [← hc]
      cases f with
      | true => exact e3
      | false => exact ⟨hP.append e3.1, e3.2⟩
     refine ⟨by simp [f1], ?_, ?_, ?_, ?_, f5⟩
     ·rw [qbd, hcb, zM, ← f2]
      exact e1
     ·rw [chk, if_pos hm.1, if_pos hm.2]; exact f3
     ·intro x hx
      rcases List.mem_cons.1 hx with e | e
      ·rw [e]; exact hcw
      ·exact f4 x e
     ·intro hf
      subst hf
      rw [← hc]
      simp [Cl.pre]
   ·cases h
structure IsQ (k : Int) (n : Nat) (cs : List Cl) (b : List Int) : Prop where
 kd : isKd k
 sz : pw n
 ok : chk k n none cs = 0
 fit : szQ k (shP k cs).length cs ≤ n
 eq : pkB k n cs = b
def frsQ (b : List Int) : Int := 6 + rdN b 4 2 + rdN b 2 2 * 2
def zay (b : List Int) : Option (List Int × List Cl) :=
 if pw b.length ∧ isKd (b.getD 0 0) then
  (if (b.length : Int) - 4 < frsQ b then none else (zba (b.getD 0 0) b.length ((b.drop 6).take (rdN b 4 2).toNat) (rdN b 2 2).toNat (whl (b.getD 0 0)) none ((b.drop (frsQ b).toNat).take (b.length - 4 - (frsQ b).toNat))).map fun x => ((b.drop 6).take (rdN b 4 2).toNat, x.1))
 else none
theorem readQ_inv {b P : List Int} {cs : List Cl} (hw : Wf b) (h : zay b = some (P, cs)) : isKd (b.getD 0 0) ∧ pw b.length ∧ chk (b.getD 0 0) b.length none cs = 0 ∧ szQ (b.getD 0 0) P.length cs ≤ b.length ∧ (∀ c ∈ cs, c.Wf) ∧ Beg (b.getD 0 0) P cs ∧ Wf P := by
 unfold zay at h
 split at h
 ·next h1 =>
  split at h
  ·cases h
  ·next h2 =>
   have hn := (zbh b hw 2 2).1
   have hm := (zbh b hw 4 2).1
   have hp := zao h1.1
   cases hq : zba (b.getD 0 0) b.length ((b.drop 6).take (rdN b 4 2).toNat) (rdN b 2 2).toNat (whl (b.getD 0 0)) none ((b.drop (frsQ b).toNat).take (b.length - 4 - (frsQ b).toNat)) with
   | none => rw [hq] at h; cases h
   | some x =>
    obtain ⟨ds, r⟩ := x
    rw [hq] at h
    simp only [Option.map_some, Option.some.injEq, Prod.mk.injEq] at h
    obtain ⟨rfl, rfl⟩ := h
    have hPw : Wf ((b.drop 6).take (rdN b 4 2).toNat) := (hw.drop _).take _
    obtain ⟨e1, e2, e3, e4, e5⟩ := partQ_inv _ hPw _ _ _ _ _ _ ((hw.drop _).take _) hq
    have hl := congrArg List.length e2
    rw [zJ, zK, zG] at hl
    have hPl : ((b.drop 6).take (rdN b 4 2).toNat).length = (rdN b 4 2).toNat := by
     rw [zJ, zK]
     unfold frsQ at h2
     omega
    refine ⟨h1.2, h1.1, e3, ?_, e4, (begF_iff _ _ _).1 e5, hPw⟩
    rw [zbn]
    rw [hPl] at hl ⊢
    unfold frsQ at hl h2
    omega
 ·cases h
theorem pkB_split (k : Int) (n : Nat) (cs : List Cl) : ∃ U : List Int, U.length = 4 ∧ pkB k n cs = pkL k n (shP k cs) cs ++ U := ⟨_, zah 4 _, rfl⟩
theorem zdl {k : Int} {n : Nat} {cs : List Cl} {b : List Int} (h : IsQ k n cs b) : zay b = some (shP k cs, cs) ∧ b.length = n ∧ b.getD 0 0 = k := by
 obtain ⟨h1, h2, h3, h4, h5⟩ := h
 have hp := zao h2
 have hz := zbn k (shP k cs).length cs
 have hlen : b.length = n := by rw [← h5, zdw k n cs h4]
 have hg : b.getD 0 0 = k := by rw [← h5]; rfl
 obtain ⟨U, hU, hsp⟩ := pkB_split k n cs
 rw [h5] at hsp
 have hbeg := zce k cs
 generalize shP k cs = P at *
 obtain ⟨Z, hZ⟩ : ∃ Z, zs (n - szQ k P.length cs) = Z := ⟨_, rfl⟩
 obtain ⟨S, hS⟩ : ∃ S, sloB (qst P.length (whl k) (6 + P.length + 2 * cs.length) cs) = S := ⟨_, rfl⟩
 have hSl : S.length = 2 * cs.length := by rw [← hS, zbq, zbm]
 unfold pkL at hsp
 rw [hZ, hS] at hsp
 simp only [zM] at hsp
 have hZl : Z.length = n - szQ k P.length cs := by rw [← hZ, zbg]
 have hr2 : rdN b 2 2 = (cs.length : Int) := by
  rw [hsp, zcu [k, 2] (fB 2 cs.length) _ 2 2 rfl (zah _ _), zco 2 _ (by omega) (by omega)]
 have hr4 : rdN b 4 2 = (P.length : Int) := by
  rw [hsp, ← zM [k, 2], zcu ([k, 2] ++ fB 2 cs.length) (fB 2 P.length) _ 4 2 (by simp [zah]) (zah _ _), zco 2 _ (by omega) (by omega)]
 have hf : frsQ b = ((6 + P.length + 2 * cs.length : Nat) : Int) := by
  unfold frsQ
  rw [hr2, hr4]
  omega
 have hP6 : (b.drop 6).take P.length = P := by
  rw [hsp, ← zM (fB 2 cs.length), ← zM [k, 2], List.drop_left' (by simp [zah]), List.take_left]
 have hbody : (b.drop (6 + P.length + 2 * cs.length)).take (n - 4 - (6 + P.length + 2 * cs.length)) = qbd P.length (whl k) cs ++ Z := by
  have e : b = ([k, 2] ++ (fB 2 cs.length ++ (fB 2 P.length ++ (P ++ S)))) ++ ((qbd P.length (whl k) cs ++ Z) ++ U) := by
   rw [hsp]
   simp only [zM]
  rw [e, List.drop_left' (by simp only [zG, List.length_cons, List.length_nil, zah, hSl]; omega), List.take_left' (by rw [zG, hZl]; omega)]
 refine ⟨?_, hlen, hg⟩
 unfold zay
 rw [hg, hlen, hf, hr2, hr4, if_pos ⟨h2, h1⟩, if_neg (by omega)]
 simp only [Int.toNat_natCast]
 rw [hP6, hbody, partQ_of (by omega) P Z cs (whl k) none h3 ((begF_iff k P cs).2 hbeg)]
 rfl
theorem isQ_iff {b : List Int} (hw : Wf b) (cs : List Cl) : IsQ (b.getD 0 0) b.length cs b ↔ (∃ P, zay b = some (P, cs)) ∧ pkB (b.getD 0 0) b.length cs = b := by
 constructor
 ·intro h
  exact ⟨⟨_, (zdl h).1⟩, h.eq⟩
 ·rintro ⟨⟨P, h1⟩, h2⟩
  obtain ⟨a1, a2, a3, a4, _, a6, _⟩ := readQ_inv hw h1
  exact ⟨a1, a2, a3, zN (szQ_less a6) a4, h2⟩
theorem IsQ.one {k j : Int} {n m : Nat} {cs ds : List Cl} {b : List Int} (h : IsQ k n cs b) (g : IsQ j m ds b) : k = j ∧ n = m ∧ cs = ds := by
 obtain ⟨h1, h2, h3⟩ := zdl h
 obtain ⟨g1, g2, g3⟩ := zdl g
 have := Option.some.inj (h1.symm.trans g1)
 exact ⟨h3.symm.trans g3, h2.symm.trans g2, congrArg Prod.snd this⟩
end Go.Proofs.YtbkhjeacmmbabaaGreatDoor
namespace Go.Proofs.YtbkhjeacmmbabaaGreatDoor
set_option maxRecDepth 100000
set_option maxHeartbeats 4000000
open Go.RowKit
theorem zdm (k i : Int) (w : World) : Calls Tryz.prog 82 #[.int .i64 k, .int .i64 i] w fun e w' => e = .returned (.bool (decide (k = 3 ∧ i = 0))) ∧ w' = w := by
 by_cases h1 : k = 3
 ·by_cases h2 : i = 0
  ·subst h1 h2
   go_enter Tryz.func82, Tryz.ntmps82
   go_wp2
   go_ret
   exact ⟨rfl, rfl⟩
  ·have d2 : (i == 0) = false := by simpa using h2
   subst h1
   go_enter Tryz.func82, Tryz.ntmps82
   go_wp2
   go_ret
   simp [h2]
 ·have d1 : (k == 3) = false := by simpa using h1
  go_enter Tryz.func82, Tryz.ntmps82
  go_wp2
  go_ret
  simp [h1]
def cmN : List (List Int) → Nat
 | [] => 0
 | t :: r => r.foldl (fun n x => lcp (t.take n) x) t.length
theorem common_any (ao : Option Addr) (n cap : Nat) (t : List Int) (ls : List (List Int)) (w : World) (hs : SlS w ao n cap (t :: ls)) :
  Calls Tryz.prog 123 #[.slice ao n cap] w fun e w' => e = .returned (.int .i64 (cmN (t :: ls))) ∧ ∃ q, w' = w.drewN q := by
 obtain ⟨hlen, hcap, hroom, hnil, hat⟩ := hs
 obtain ⟨N, rfl⟩ : ∃ N, n = N + 1 := ⟨n - 1, by simp at hlen; omega⟩
 have hlen' : ls.length = N := by simpa using hlen
 clear hlen
 rcases hat with h | ⟨b, off, rfl, hbb, hc⟩
 ·omega
 obtain ⟨a0, m0, c0, hck0, hsl0⟩ := hc 0 (by omega)
 simp only [Nat.add_zero, List.getD_cons_zero] at hck0 hsl0
 have hm0 := hsl0.hlen
 have hr0 := hsl0.hroom
 have hcc0 := hsl0.hcap
 have HS0 := zaa hsl0
 have HC := zaa hc
 clear hsl0 hc
 show Calls Tryz.prog 123 #[.slice (some ⟨b, off, none⟩) (N + 1) cap] w fun e w' => e = .returned (.int .i64 ((ls.foldl (fun n x => lcp (t.take n) x) t.length : Nat) : Int)) ∧ ∃ q, w' = w.drewN q
 rw [hm0]
 generalize hF : ls.foldl (fun n x => lcp (t.take n) x) m0 = F
 have HF := zaa hF
 clear hF
 have hc1 : ((N : Int) + 1 == 0) = false := by simp; omega
 by_cases hcap1 : cap = 1
 ·obtain rfl : N = 0 := by omega
  obtain rfl : ls = [] := List.eq_nil_of_length_eq_zero hlen'
  have e : m0 = F := HF.out
  subst e
  clear HF HC
  go_enter Tryz.func123, Tryz.ntmps123
  go_wp2_with fail
  refine wp_loop_rounds 1 ?_
  rw [rounds_succ]
  go_wp2
  go_ret
  exact ⟨rfl, 0, rfl⟩
 ·go_enter Tryz.func123, Tryz.ntmps123
  go_wp2_with fail
  go_loopw [3, 16] (fun v i wr => ∃ (k q y : Nat), k ≤ N ∧ y ≤ m0 ∧ i = .int .i64 k ∧ v = .int .i64 y ∧ Hid ((ls.drop k).foldl (fun n x => lcp (t.take n) x) y = F) ∧ wr = w.drewN q) (fun _ i _ => N - (intOf i).toNat)
  case atStart => exact ⟨0, 0, m0, by omega, by omega, rfl, rfl, HF, rfl⟩
  case round =>
   obtain ⟨k, q, y, hk, hy, rfl, rfl, HK, rfl⟩ := hrel
   clear HF
   by_cases hlt : k < N
   ·obtain ⟨a, m, c, hck, hsl⟩ := HC.out (k + 1) (by omega)
    have hck' : w.cell? ⟨b, off + 1 + k, none⟩ = some (.slice a m c) := by rw [show off + 1 + k = off + (k + 1) by omega]; exact hck
    rw [show (t :: ls).getD (k + 1) [] = ls.getD k [] by simp [List.getD]] at hsl
    have e := HK.out
    rw [dropS ls k (by omega), List.foldl_cons] at e
    have hle := (lcp_le (t.take y) (ls.getD k [])).1
    have hty : (t.take y).length ≤ y := by simp; omega
    have hal2 := alike_any a0 a y m c0 c (t.take y) (ls.getD k []) (w.drewN q) ((HS0.out.take y hy).drewN q) (hsl.drewN q)
    generalize lcp (t.take y) (ls.getD k []) = y2 at *
    have HE := zaa e
    have HA := zaa hal2
    clear hal2 e HK hck
    go_wp2_with fail
    refine zcs HA.out ?_
    intro q2
    go_wp2
    go_roundw
    case rel => exact ⟨k + 1, _, y2, by omega, by omega, by go_num, rfl, HE, rfl⟩
    case measure => simp [intOf]; omega
   ·have e : y = F := by rw [← HK.out, List.drop_eq_nil_of_le (by omega)]; rfl
    have HE := zaa e
    clear e HK
    go_wp2
    go_ret
    exact ⟨zbo (by rw [HE.out]), _, rfl⟩
theorem cmN_two (t x : List Int) : cmN [t, x] = lcp t x := by
 unfold cmN
 simp
theorem sls_two {w : World} {g : Nat} {a1 a2 : Option Addr} {n1 c1 n2 c2 : Nat} {l1 l2 : List Int} (hg : w.heap[g]? = some (.cells #[.slice a1 n1 c1, .slice a2 n2 c2] 22 (0, 0))) (h1 : Sl w a1 n1 c1 l1) (h2 : Sl w a2 n2 c2 l2) : SlS w (some ⟨g, 0, none⟩) 2 2 [l1, l2] := by
 refine ⟨rfl, Lr, by omega, (by intro h; cases h), .inr ⟨g, 0, rfl, zaf hg, fun i hi => ?_⟩⟩
 have hi' : i = 0 ∨ i = 1 := by omega
 rcases hi' with rfl | rfl
 ·exact ⟨a1, n1, c1, by rw [cell_of_row _ _ _ _ _ _ hg]; rfl, h1⟩
 ·exact ⟨a2, n2, c2, by rw [cell_of_row _ _ _ _ _ _ hg]; rfl, h2⟩
theorem qsm_take (m : Nat) : ∀ (cs : List Cl) (f : Bool) (j : Nat) (c : Cl), cs[j]? = some c → qsm m f (cs.take (j + 1)) = qsm m f (cs.take j) + qtk (if f = true ∧ j = 0 then 0 else m) c
 | [], f, j, c, h => by simp at h
 | d :: r, f, 0, c, h => by
  simp at h
  subst h
  simp [qsm]
 | d :: r, f, j + 1, c, h => by
  have ih := qsm_take m r false j c (by simpa using h)
  simp only [List.take_succ_cons, qsm]
  rw [ih]
  simp
  omega
theorem qsm_take_le (m : Nat) : ∀ (cs : List Cl) (f : Bool) (j : Nat), qsm m f (cs.take j) ≤ qsm m f cs
 | [], f, j => by simp
 | d :: r, f, 0 => by simp [qsm]
 | d :: r, f, j + 1 => by
  have ih := qsm_take_le m r false j
  simp only [List.take_succ_cons, qsm]
  omega
theorem mem_ktl {k : Int} {cs : List Cl} {j : Nat} {c : Cl} (h : cs[j]? = some c) (hw : ¬ (k = 3 ∧ j = 0)) : c ∈ ktl k cs := by
 unfold ktl
 by_cases hk : k = 3
 ·rw [if_pos hk]
  obtain ⟨i, rfl⟩ : ∃ i, j = i + 1 := ⟨j - 1, by omega⟩
  match cs, h with
  | d :: r, h => exact List.mem_of_getElem? (by simpa using h)
 ·rw [if_neg hk]
  exact List.mem_of_getElem? h
end Go.Proofs.YtbkhjeacmmbabaaGreatDoor
