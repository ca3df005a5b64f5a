import Derived.Test.YtbkhjeacmmbabaaGreatDoorJ33
namespace Go.Proofs.YtbkhjeacmmbabaaGreatDoor
set_option maxRecDepth 100000
set_option maxHeartbeats 4000000
open Go.RowKit
theorem own_one8 (w : World) (x : Int) : OwnB (w.alloc (.cells #[.int .u8 x] 5)) w.heap.size (.slice (some ⟨w.heap.size, 0, none⟩) 1 1) [x] :=
 zct (l := [x]) (heap_alloc_last w _) Lr (by unfold maxLen; simp)
theorem rbytes_any (k i : Int) (c : Cl) (ka va : Option Addr) (kc vc m : Nat) (w : World) (h1 : Sl w ka c.key.length kc c.key) (h2 : Sl w va c.val.length vc c.val) (hm : ¬ (k = 3 ∧ i = 0) → m ≤ c.key.length) (hl : c.key.length + c.val.length ≤ 35184372088832) :
  Calls Tryz.prog 105 #[.int .i64 k, .int .i64 i, .agg #[.slice ka c.key.length kc, .int .i64 c.kd, .slice va c.val.length vc, .int .i64 c.pg, .int .i64 c.ct], .int .i64 (m : Int)] w fun e w' => ∃ v, e = .returned v ∧ Hid (OwnB w' w.heap.size v (qB (if k = 3 ∧ i = 0 then 0 else m) c)) ∧ Hid (Below w.heap.size w w') := by
 obtain ⟨key, kd, val, pg, ct⟩ := c
 simp only at h1 h2 hm hl ⊢
 obtain ⟨kn, hkn⟩ : ∃ kn, key.length = kn := ⟨_, rfl⟩
 obtain ⟨vn, hvn⟩ : ∃ vn, val.length = vn := ⟨_, rfl⟩
 rw [hkn] at h1 hm hl ⊢
 rw [hvn] at h2 hl ⊢
 obtain ⟨x, hx⟩ : ∃ x, w.alloc (.cells #[.slice ka kn kc, .int .i64 kd, .slice va vn vc, .int .i64 pg, .int .i64 ct] 50) = x := ⟨_, rfl⟩
 have hbx : Below w.heap.size w x := by rw [← hx]; exact zad Br Lr _
 have hb5 : C5 x w.heap.size (.slice ka kn kc) (.int .i64 kd) (.slice va vn vc) (.int .i64 pg) (.int .i64 ct) := by rw [← hx]; exact C5.box w _ _ _ _ _
 obtain ⟨M, hM⟩ : ∃ M, (if k = 3 ∧ i = 0 then 0 else m) = M := ⟨_, rfl⟩
 rw [hM]
 have hMk : M ≤ kn := by rw [← hM]; split <;> rename_i h <;> first | omega | exact hm h
 have HR : Hid (Calls Tryz.prog 141 #[.int .i64 k, .int .i64 i, .slice ka kn kc, .int .i64 (m : Int)] x fun e w' => (∃ a' c', e = .returned (.slice a' (kn - M) c') ∧ Hid (Sl x a' (kn - M) c' (key.drop M))) ∧ w' = x) := zaa (by
  have h1x := h1.on Lr hbx
  by_cases h : k = 3 ∧ i = 0
  ·rw [if_pos h] at hM
   subst hM
   refine (rrest_whole k i ka kn kc m x h).mono ?_
   rintro e w' ⟨rfl, rfl⟩
   exact ⟨⟨_, _, rfl, zaa (by simpa using h1x)⟩, rfl⟩
  ·rw [if_neg h] at hM
   subst hM
   exact rrest_cut k i ka kn kc m key x h h1x (hm h))
 obtain ⟨s, hs⟩ : ∃ s, w.heap.size = s := ⟨_, rfl⟩
 rw [hs] at hb5
 have hsx : s < x.heap.size := zaf hb5
 have HBX := zaa hbx
 have HB5 := zaa hb5
 have HV := zaa (h2.on Lr hbx)
 obtain ⟨N, hN⟩ : ∃ N, kn - M = N := ⟨_, rfl⟩
 have hNk : N ≤ kn := by omega
 have hQ : ∀ T, (if kd = 1 then uB (vn : Int) ++ val else uB (pg % 18446744073709551616) ++ uB (ct % 18446744073709551616)) = T → qB M ⟨key, kd, val, pg, ct⟩ = [kd % 256] ++ uB (N : Int) ++ key.drop M ++ T := by
  intro T hT
  unfold qB
  simp only
  rw [hvn, hT, hkn, hN]
  simp only [zM]
 have HQ := zaa hQ
 rw [hN] at HR
 obtain ⟨R, hR⟩ : ∃ R, key.drop M = R := ⟨_, rfl⟩
 rw [hR] at HR HQ
 have HRL : Hid (R.length = N) := zaa (by rw [← hR, zK, hkn, hN])
 obtain ⟨QQ, hQQ⟩ : ∃ Q, qB M ⟨key, kd, val, pg, ct⟩ = Q := ⟨_, rfl⟩
 rw [hQQ] at HQ ⊢
 obtain ⟨b0, b1, b2, b3, b4⟩ := hb5.cells
 have i1 : (N : Int) ≤ 35184372088832 := by omega
 have i2 : (vn : Int) ≤ 35184372088832 := by omega
 clear h1 h2 hm hM hbx hb5 hR hQ hN hMk hQQ
 go_enter Tryz.func105, Tryz.ntmps105
 go_wp2_with (go_at_call 141; refine HR.out.mono ?_; rintro e w1 ⟨⟨a1, c1, rfl, HS1⟩, rfl⟩; refine Hid.out ?_)
 apply zaa
 clear HR hx
 obtain ⟨y, hy⟩ : ∃ y, w1.alloc (.cells #[.int .u8 (kd % 256)] 5) = y := ⟨_, rfl⟩
 have hby : Below w1.heap.size w1 y := by rw [← hy]; exact zad Br Lr _
 have HOY : Hid (OwnB y w1.heap.size (.slice (some ⟨w1.heap.size, 0, none⟩) 1 1) [kd % 256]) := zaa (by rw [← hy]; exact own_one8 w1 _)
 have HBY := zaa hby
 have hBy : w1.heap.size ≤ y.heap.size := hby.size
 have hNw : IntKind.u64.wrap (N : Int) = (N : Int) := by rw [IntKind.wrap_u64]; omega
 have HU := zaa (zec (N : Int) y (by omega) (by omega))
 clear hby
 go_wp2_with (go_at_call 142; refine HU.out.mono ?_; rintro e w2 ⟨u2, rfl, ho2, hb2⟩; refine Hid.out ?_)
 apply zaa
 obtain ⟨ua, um, uc, rfl, us2, hum⟩ := ho2.slu (by omega) (by omega)
 have HO2 := zaa (HOY.out.on Lr hb2)
 have HF2 := zaa (zcr HOY.out ho2 Lr)
 have HB2 := zaa (zae HBY.out Lr hb2)
 have hB2 : w1.heap.size ≤ w2.heap.size := zN hBy hb2.size
 have HA2 := zaa (zcm (.slice (some ⟨w1.heap.size, 0, none⟩) 1 1) w1.heap.size [kd % 256] (uB (N : Int)) ua um uc w2 HO2.out us2 HF2.out (by simp; omega) hB2)
 clear HU ho2 us2 hb2 HO2 HF2 HOY HBY hBy hy b0 b1 b2 b3 b4
 go_wp2_with (go_at_call 101; refine HA2.out.mono ?_; rintro e w3 ⟨v3, rfl, HO3, hb3⟩; refine Hid.out ?_)
 apply zaa
 have HB3 := zaa (HB2.out.trans hb3.out)
 have hB3 : w1.heap.size ≤ w3.heap.size := zN hB2 hb3.out.size
 have HS3 := zaa (HS1.out.on Lr HB3.out)
 have HL1 := (zbe (N : Int)).1
 obtain ⟨L3, hL3⟩ : ∃ L, [kd % 256] ++ uB (N : Int) = L := ⟨_, rfl⟩
 have hll3 : L3.length ≤ 11 := by rw [← hL3]; simp only [zG, List.length_cons, List.length_nil]; omega
 rw [hL3] at HO3 HQ
 have HA3 := zaa (zcm v3 w1.heap.size L3 R a1 N c1 w3 HO3.out HS3.out (sl_far HS1.out HO3.out Lr) (by omega) hB3)
 clear HA2 hb3 HB2 hB2 HL1 hL3 HS3 HO3
 go_wp2_with (go_at_call 101; refine HA3.out.mono ?_; rintro e w4 ⟨v4, rfl, HO4, hb4⟩; refine Hid.out ?_)
 apply zaa
 have HB4 := zaa (HB3.out.trans hb4.out)
 have hB4 : w1.heap.size ≤ w4.heap.size := zN hB3 hb4.out.size
 obtain ⟨L4, hL4⟩ : ∃ L, L3 ++ R = L := ⟨_, rfl⟩
 have hll4 : L4.length ≤ 11 + kn := by rw [← hL4, zG, HRL.out]; omega
 rw [hL4] at HO4 HQ
 clear HA3 hb4 HB3 hB3 hL4 HS1 HRL
 have H54 := zaa (zag HB5.out HB4.out)
 obtain ⟨b0, b1, b2, b3, b4⟩ := C5.cells H54.out
 have HV4 := zaa (HV.out.on Lr HB4.out)
 by_cases hk1 : kd = 1
 ·subst hk1
  have hVw : IntKind.u64.wrap (vn : Int) = (vn : Int) := by rw [IntKind.wrap_u64]; omega
  have HQ1 := zaa (HQ.out _ (if_pos rfl))
  have HU := zaa (zec (vn : Int) w4 (by omega) (by omega))
  clear HQ
  go_wp2_with (go_at_call 142; refine HU.out.mono ?_; rintro e w5 ⟨u5, rfl, ho5, hb5⟩; refine Hid.out ?_)
  apply zaa
  obtain ⟨ub, un, ud, rfl, us5, hun⟩ := ho5.slu (by omega) (by omega)
  have HO5 := zaa (HO4.out.on Lr hb5)
  have HF5 := zaa (zcr HO4.out ho5 Lr)
  have HB5' := zaa (zae HB4.out Lr hb5)
  have hB5 : w1.heap.size ≤ w5.heap.size := zN hB4 hb5.size
  have HA5 := zaa (zcm v4 w1.heap.size L4 (uB (vn : Int)) ub un ud w5 HO5.out us5 HF5.out (by omega) hB5)
  clear HU ho5 us5 hb5 HO5 HF5 HO4
  go_wp2_with (go_at_call 101; refine HA5.out.mono ?_; rintro e w6 ⟨v6, rfl, HO6, hb6⟩; refine Hid.out ?_)
  apply zaa
  have HB6 := zaa (HB5'.out.trans hb6.out)
  have hB6 : w1.heap.size ≤ w6.heap.size := zN hB5 hb6.out.size
  clear HA5 hb6 HB5' hB5 b0 b1 b2 b3 b4 H54
  have H56 := zaa (zag HB5.out HB6.out)
  obtain ⟨b0, b1, b2, b3, b4⟩ := C5.cells H56.out
  have HV6 := zaa (HV.out.on Lr HB6.out)
  have hll6 : (L4 ++ uB (vn : Int)).length + vn ≤ 140737488355328 := by
   have := (zbe (vn : Int)).1
   rw [zG]
   omega
  have HA6 := zaa (zcm v6 w1.heap.size (L4 ++ uB (vn : Int)) val va vn vc w6 HO6.out HV6.out (sl_far HV.out HO6.out Lr) hll6 hB6)
  clear HO6 HV6 HV4 H56
  go_wp2_with (go_at_call 101; refine HA6.out.mono ?_; rintro e w7 ⟨v7, rfl, HO7, hb7⟩; refine Hid.out ?_)
  apply zaa
  have HO : Hid (OwnB w7 s v7 QQ) := zaa (by rw [HQ1.out, ← zM]; exact HO7.out.low (Nat.le_of_lt hsx))
  have HB : Hid (Below s w w7) := zaa ((by have := HBX.out; rwa [hs] at this : Below s w w1).trans ((HB6.out.trans hb7.out).mono (Nat.le_of_lt hsx)))
  clear HA6 hb7
  go_wp2
  go_ret
  rw [hs]
  exact ⟨v7, rfl, HO, HB⟩
 ·obtain ⟨P, hP⟩ : ∃ P, pg % 18446744073709551616 = P := ⟨_, rfl⟩
  obtain ⟨C, hC⟩ : ∃ C, ct % 18446744073709551616 = C := ⟨_, rfl⟩
  have hPw : IntKind.u64.wrap pg = P := by rw [IntKind.wrap_u64, hP]
  have hCw : IntKind.u64.wrap ct = C := by rw [IntKind.wrap_u64, hC]
  have HQ1 := zaa (HQ.out (uB P ++ uB C) (by rw [if_neg hk1, hP, hC]))
  have hP1 : 0 ≤ P ∧ P < 18446744073709551616 := by omega
  have hC1 : 0 ≤ C ∧ C < 18446744073709551616 := by omega
  have HU := zaa (zec P w4 (by omega) (by omega))
  have hk1b : (kd == 1) = false := by simpa using hk1
  clear HQ hP hC HV4
  go_wp2_with (go_at_call 142; refine HU.out.mono ?_; rintro e w5 ⟨u5, rfl, ho5, hb5⟩; refine Hid.out ?_)
  apply zaa
  obtain ⟨ub, un, ud, rfl, us5, hun⟩ := ho5.slu hP1.1 hP1.2
  have HO5 := zaa (HO4.out.on Lr hb5)
  have HF5 := zaa (zcr HO4.out ho5 Lr)
  have HB5' := zaa (zae HB4.out Lr hb5)
  have hB5 : w1.heap.size ≤ w5.heap.size := zN hB4 hb5.size
  have HA5 := zaa (zcm v4 w1.heap.size L4 (uB P) ub un ud w5 HO5.out us5 HF5.out (by omega) hB5)
  clear HU ho5 us5 hb5 HO5 HF5 HO4
  go_wp2_with (go_at_call 101; refine HA5.out.mono ?_; rintro e w6 ⟨v6, rfl, HO6, hb6⟩; refine Hid.out ?_)
  apply zaa
  have HB6 := zaa (HB5'.out.trans hb6.out)
  have hB6 : w1.heap.size ≤ w6.heap.size := zN hB5 hb6.out.size
  clear HA5 hb6 HB5' hB5 b0 b1 b2 b3 b4 H54
  have H56 := zaa (zag HB5.out HB6.out)
  obtain ⟨b0, b1, b2, b3, b4⟩ := C5.cells H56.out
  have HU := zaa (zec C w6 hC1.1 hC1.2)
  go_wp2_with (go_at_call 142; refine HU.out.mono ?_; rintro e w7 ⟨u7, rfl, ho7, hb7⟩; refine Hid.out ?_)
  apply zaa
  obtain ⟨ue, uq, uf, rfl, us7, huq⟩ := ho7.slu hC1.1 hC1.2
  have HO7 := zaa (HO6.out.on Lr hb7)
  have HF7 := zaa (zcr HO6.out ho7 Lr)
  have HB7 := zaa (zae HB6.out Lr hb7)
  have hB7 : w1.heap.size ≤ w7.heap.size := zN hB6 hb7.size
  have hll6 : (L4 ++ uB P).length + uq ≤ 140737488355328 := by
   have := (zbe P).1
   rw [zG]
   omega
  have HA7 := zaa (zcm v6 w1.heap.size (L4 ++ uB P) (uB C) ue uq uf w7 HO7.out us7 HF7.out hll6 hB7)
  clear HU ho7 us7 hb7 HO7 HF7 HO6 H56
  go_wp2_with (go_at_call 101; refine HA7.out.mono ?_; rintro e w8 ⟨v8, rfl, HO8, hb8⟩; refine Hid.out ?_)
  apply zaa
  have HO : Hid (OwnB w8 s v8 QQ) := zaa (by rw [HQ1.out, ← zM]; exact HO8.out.low (Nat.le_of_lt hsx))
  have HB : Hid (Below s w w8) := zaa ((by have := HBX.out; rwa [hs] at this : Below s w w1).trans ((HB7.out.trans hb8.out).mono (Nat.le_of_lt hsx)))
  clear HA7 hb8
  go_wp2
  go_ret
  rw [hs]
  exact ⟨v8, rfl, HO, HB⟩
theorem zcn {w : World} {B : Nat} {v : Value} {l : List Int} (h : OwnB w B v l) : ∃ ao c, v = .slice ao l.length c := by
 rcases h.2 with ⟨rfl, h0⟩ | ⟨g, cap, cur, rfl, _⟩
 ·exact ⟨none, 0, by rw [h0]⟩
 ·exact ⟨_, _, rfl⟩
theorem rtaken_any (k : Int) (ao : Option Addr) (n cap m : Nat) (cs : List Cl) (w : World) (hs : SlC w ao n cap cs) (hbeg : ∀ (j : Nat) (c : Cl), cs[j]? = some c → ¬ (k = 3 ∧ (j : Int) = 0) → m ≤ c.key.length) (hkv : ∀ c ∈ cs, c.key.length + c.val.length ≤ 35184372088832) (hz : szQ k m cs ≤ 1099511627776) :
  Calls Tryz.prog 108 #[.int .i64 k, .slice ao n cap, .int .i64 (m : Int)] w fun e w' => e = .returned (.int .i64 (szQ k m cs : Int)) ∧ Hid (Below w.heap.size w w') := by
 have HS := zaa hs
 have hn := hs.hroom
 have HLEN := zaa hs.hlen
 have HBG := zaa hbeg
 have HKV := zaa hkv
 have hzq := hz
 unfold szQ at hzq ⊢
 have HZ := zaa hzq
 have hmb : (m : Int) ≤ 1099511627776 := by omega
 obtain ⟨f, hf⟩ : ∃ f, whl k = f := ⟨_, rfl⟩
 rw [hf] at HZ ⊢
 have HF : Hid (∀ j : Nat, (if k = 3 ∧ (j : Int) = 0 then 0 else m) = (if f = true ∧ j = 0 then 0 else m)) := zaa (by
  intro j
  have e : (k = 3 ∧ (j : Int) = 0) = (f = true ∧ j = 0) := by
   rw [← hf]
   unfold whl
   simp
  simp only [e])
 obtain ⟨T, hT⟩ : ∃ T : Nat, 10 + m + qsm m f cs = T := ⟨_, rfl⟩
 rw [hT]
 have HT := zaa hT
 clear hs hz hzq hf hbeg hT hkv
 go_enter Tryz.func108, Tryz.ntmps108
 go_wp2_with fail
 go_loopw [7, 8] (fun v i wr => ∃ j q : Nat, j ≤ n ∧ q ≤ 1099511627776 ∧ i = .int .i64 j ∧ v = .int .i64 (q : Int) ∧ Hid (q = 10 + m + qsm m f (cs.take j)) ∧ Hid (Below w.heap.size w wr)) (fun _ i _ => n - (intOf i).toNat)
 case atStart => exact ⟨0, 10 + m, by omega, by have := HZ.out; omega, rfl, by go_num, zaa (by simp [qsm]), zaa Br⟩
 case round =>
  obtain ⟨j, q, hj, hq, rfl, rfl, HQ, HB⟩ := hrel
  have bj : (j : Int) ≤ 140737488355328 := by omega
  have bq : (q : Int) ≤ 1099511627776 := by omega
  by_cases hlt : j < n
  ·have hltI : (j : Int) < (n : Int) := by omega
   obtain ⟨b, off, c, ka, kc, va, vc, rfl, hb, hci, c0, c1, c2, c3, c4, hk, hv⟩ := (HS.out.on HB.out).item j hlt
   have HST := zaa (qsm_take m cs f j c hci)
   have hle := qsm_take_le m cs f (j + 1)
   rw [HST.out] at hle
   have hz := HZ.out
   have hql := qB_length (if f = true ∧ j = 0 then 0 else m) c
   have hqe := HQ.out
   have hkv : c.key.length + c.val.length ≤ 35184372088832 := HKV.out c (List.mem_of_getElem? hci)
   have HC := zaa (rbytes_any k (j : Int) c ka va kc vc m wr hk hv (HBG.out j c hci) hkv)
   rw [HF.out j] at HC
   obtain ⟨L, hL⟩ : ∃ L, qB (if f = true ∧ j = 0 then 0 else m) c = L := ⟨_, rfl⟩
   rw [hL] at HC hql
   have bL : (L.length : Int) ≤ 1099511627776 := by omega
   have bsum : q + 2 + L.length ≤ 1099511627776 := by omega
   have HNX : Hid (q + 2 + L.length = 10 + m + qsm m f (cs.take (j + 1))) := zaa (by rw [HST.out]; omega)
   clear hk hv hci hle hz hql hqe hkv hL HST
   go_wp2_with (go_at_call 105; refine HC.out.mono ?_; rintro e w1 ⟨v1, rfl, HO1, HB1⟩; refine Hid.out ?_)
   apply zaa
   obtain ⟨a1, c1', rfl⟩ := zcn HO1.out
   have HB' := zaa (zae HB.out Lr HB1.out)
   obtain ⟨LN, hLN⟩ : ∃ LN, L.length = LN := ⟨_, rfl⟩
   rw [hLN] at bL bsum HNX ⊢
   clear HC HO1 HB1 HB c0 c1 c2 c3 c4 hLN
   go_wp2
   go_roundw
   case rel => exact ⟨j + 1, q + 2 + LN, by omega, by omega, by go_num, by go_num, HNX, HB'⟩
   case measure => simp [intOf]; omega
  ·have e : q = T := by
    rw [← HT.out, HQ.out, List.take_of_length_le (by rw [HLEN.out]; omega)]
   subst e
   go_wp2
   go_ret
   exact ⟨rfl, HB⟩
theorem lcp_ge (a b : List Int) (n : Nat) (ha : n ≤ a.length) (hb : n ≤ b.length) (h : ∀ i, i < n → a.getD i 0 = b.getD i 0) : n ≤ lcp a b := by
 rcases Nat.lt_or_ge (lcp a b) n with hlt | hge
 ·exact absurd (h _ hlt) (lcp_next a b (by omega) (by omega))
 ·exact hge
theorem lcp_comm : ∀ (a b : List Int), lcp a b = lcp b a
 | [], [] => rfl
 | [], _ :: _ => rfl
 | _ :: _, [] => rfl
 | x :: a, y :: b => by
  simp only [lcp]
  by_cases h : x = y
  ·rw [if_pos h, if_pos h.symm, lcp_comm a b]
  ·rw [if_neg h, if_neg (fun e => h e.symm)]
theorem lcp_takeL : ∀ (a b : List Int) (n : Nat), lcp (a.take n) b = min n (lcp a b)
 | [], b, n => by cases b <;> simp [lcp]
 | x :: a, [], n => by cases n <;> simp [lcp]
 | x :: a, y :: b, 0 => by simp [lcp]
 | x :: a, y :: b, n + 1 => by
  simp only [List.take_succ_cons, lcp]
  by_cases h : x = y
  ·rw [if_pos h, if_pos h, lcp_takeL a b n]
   omega
  ·rw [if_neg h, if_neg h]
   omega
theorem cmN_min (t : List Int) (r : List (List Int)) : cmN (t :: r) = r.foldl (fun n x => min n (lcp x t)) t.length := by
 show r.foldl _ _ = _
 congr 1
 funext n x
 rw [lcp_takeL, lcp_comm t x]
theorem begins_any (ao bo : Option Addr) (n m c d k : Nat) (la lb : List Int) (w : World) (ha : Sl w ao n c la) (hb : Sl w bo m d lb) (hk : k ≤ 140737488355328) :
  Calls Tryz.prog 168 #[.slice ao n c, .slice bo m d, .int .i64 k] w fun e w' => e = .returned (.bool (decide (k ≤ lcp la lb))) ∧ ∃ q, w' = w.drewN q := by
 obtain ⟨hlen, hcap, hroom, hwf, hnil, hat⟩ := ha
 obtain ⟨hlen', hcap', hroom', hwf', hnil', hat'⟩ := hb
 have hle := lcp_le la lb
 by_cases hkn : n < k
 ·have e : decide (k ≤ lcp la lb) = false := by simp; omega
  rw [e]
  clear e hle
  go_enter Tryz.func168, Tryz.ntmps168
  go_wp2
  go_ret
  exact ⟨rfl, 0, rfl⟩
 ·by_cases hkm : m < k
  ·have e : decide (k ≤ lcp la lb) = false := by simp; omega
   rw [e]
   clear e hle
   go_enter Tryz.func168, Tryz.ntmps168
   go_wp2
   go_ret
   exact ⟨rfl, 0, rfl⟩
  ·have HG := zaa (lcp_ge la lb k (by omega) (by omega))
   have HA := zaa (lcp_alike la lb)
   generalize lcp la lb = L at *
   obtain ⟨R, hR⟩ : ∃ R, decide (k ≤ L) = R := ⟨_, rfl⟩
   rw [hR]
   have HR := zaa hR
   clear hR
   go_enter Tryz.func168, Tryz.ntmps168
   go_wp2_with fail
   go_loopw [7] (fun i wr => ∃ j q : Nat, j ≤ k ∧ i = .int .i64 j ∧ wr = w.drewN q ∧ Hid (∀ i, i < j → la.getD i 0 = lb.getD i 0)) (fun i _ => k - (intOf i).toNat)
   case atStart => exact ⟨0, 0, by omega, rfl, rfl, fun i hi => by omega⟩
   case round =>
    obtain ⟨j, q, hj, rfl, rfl, HJ⟩ := hrel
    by_cases hjk : j < k
    ·rcases hat with h | ⟨b, off, rfl, hbb, hc⟩
     ·omega
     rcases hat' with h | ⟨b', off', rfl, hbb', hc'⟩
     ·omega
     have hck := hc j (by omega)
     have hck' := hc' j (by omega)
     obtain ⟨x, hx⟩ : ∃ x, la.getD j 0 = x := ⟨_, rfl⟩
     obtain ⟨y, hy⟩ : ∃ y, lb.getD j 0 = y := ⟨_, rfl⟩
     rw [hx] at hck
     rw [hy] at hck'
     have HX := zaa hx
     have HY := zaa hy
     clear hx hy hc hc'
     by_cases hxy : x = y
     ·have hb0 : (x != y) = false := by simp [hxy]
      have HXY := zaa hxy
      clear hxy
      go_wp2
      go_quiet (fail)
      go_wp2
      go_roundw
      case rel =>
       refine ⟨j + 1, _, by omega, by go_num, rfl, fun i hi => ?_⟩
       by_cases hij : i < j
       ·exact HJ.out i hij
       ·obtain rfl : i = j := by omega
        rw [HX.out, HY.out, HXY.out]
      case measure => simp [intOf]; omega
     ·have hb0 : (x != y) = true := by simp [hxy]
      have e : R = false := by
       have : ¬ j < L := fun h => hxy (by rw [← HX.out, ← HY.out]; exact HA.out j h)
       rw [← HR.out]
       simp; omega
      subst e
      clear hxy
      go_wp2_with fail
      go_quiet (fail)
      go_wp2
      go_ret
      exact ⟨rfl, _, World.drewN_drewN _ _ _⟩
    ·have e : R = true := by
      have := HG.out (fun i hi => HJ.out i (by omega))
      rw [← HR.out]
      simpa using this
     subst e
     go_wp2
     go_ret
     exact ⟨rfl, _, rfl⟩
theorem refCommon_nil (ao : Option Addr) (cap : Nat) (w : World) : Calls Tryz.prog 135 #[.slice ao 0 cap] w fun e w' => e = .returned (.int .i64 0) ∧ ∃ q, w' = w.drewN q := by
 go_enter Tryz.func135, Tryz.ntmps135
 go_wp2
 go_ret
 exact ⟨rfl, 0, rfl⟩
theorem refCommon_any (ao : Option Addr) (n cap : Nat) (t : List Int) (ls : List (List Int)) (w : World) (hs : SlS w ao n cap (t :: ls)) :
  Calls Tryz.prog 135 #[.slice ao n cap] w fun e w' => e = .returned (.int .i64 (cmN (t :: ls))) ∧ ∃ q, w' = w.drewN q := by
 obtain ⟨hlen, hcap, hroom, hnil, hat⟩ := hs
 obtain ⟨N, rfl⟩ : ∃ N, n = N + 1 := ⟨n - 1, by simp at hlen; omega⟩
 have hlen' : ls.length = N := by simpa using hlen
 clear hlen
 rcases hat with h | ⟨b, off, rfl, hbb, hc⟩
 ·omega
 obtain ⟨a0, m0, c0, hck0, hsl0⟩ := hc 0 (by omega)
 simp only [Nat.add_zero, List.getD_cons_zero] at hck0 hsl0
 have hm0 := hsl0.hlen
 have hr0 := hsl0.hroom
 have HS0 := zaa hsl0
 have HC := zaa hc
 clear hsl0 hc
 rw [cmN_min, hm0]
 generalize hF : ls.foldl (fun n x => min n (lcp x t)) m0 = F
 have HF := zaa hF
 clear hF
 have hc1 : ((N : Int) + 1 == 0) = false := by simp; omega
 go_enter Tryz.func135, Tryz.ntmps135
 go_wp2_with fail
 go_loopw [3, 4] (fun v i wr => ∃ (k q y : Nat), k ≤ N ∧ y ≤ m0 ∧ i = .int .i64 ((k : Int) + 1) ∧ v = .int .i64 y ∧ Hid ((ls.drop k).foldl (fun n x => min n (lcp x t)) y = F) ∧ wr = w.drewN q) (fun _ i _ => N + 1 - (intOf i).toNat)
 case atStart => exact ⟨0, 0, m0, by omega, by omega, rfl, rfl, HF, rfl⟩
 case round =>
  obtain ⟨k, q, y, hk, hy, rfl, rfl, HK, rfl⟩ := hrel
  clear HF
  by_cases hlt : k < N
  ·obtain ⟨a, m, c, hck, hsl⟩ := HC.out (k + 1) (by omega)
   rw [show (t :: ls).getD (k + 1) [] = ls.getD k [] by simp [List.getD]] at hsl
   have e := HK.out
   rw [dropS ls k (by omega), List.foldl_cons] at e
   have HBG := zaa (fun z q hz => begins_any a a0 m m0 c c0 z (ls.getD k []) t (w.drewN q) (hsl.drewN q) (HS0.out.drewN q) hz)
   generalize lcp (ls.getD k []) t = L at *
   have HE := zaa e
   clear e HK hsl
   go_wp2_with fail
   go_loopw [3] (fun v wr => ∃ z q : Nat, z ≤ y ∧ min y L ≤ z ∧ v = .int .i64 z ∧ wr = w.drewN q) (fun v _ => (intOf v).toNat)
   case atStart => exact ⟨y, q, by omega, by omega, rfl, rfl⟩
   case round =>
    obtain ⟨z, q, hz1, hz2, rfl, rfl⟩ := hrel
    by_cases hz0 : 0 < z
    ·have hb2 := HBG.out z
     by_cases hzL : z ≤ L
     ·have e : decide (z ≤ L) = true := by simpa using hzL
      simp only [e] at hb2
      have HB2 := zaa hb2
      have e2 : min y L = z := by omega
      clear hb2 e
      go_wp2_with fail
      go_region_with (first | (go_at_call 168; refine zcs (HB2.out _ (by omega)) ?_; intro q2))
      all_goals
       go_wp2
       go_roundw
       case rel => exact ⟨k + 1, _, z, by omega, by omega, by go_num, rfl, by rw [← e2]; exact HE, rfl⟩
       case measure => simp [intOf]; omega
     ·have e : decide (z ≤ L) = false := by simpa using hzL
      simp only [e] at hb2
      have HB2 := zaa hb2
      clear hb2 e
      go_wp2_with fail
      go_region_with (first | (go_at_call 168; refine zcs (HB2.out _ (by omega)) ?_; intro q2))
      all_goals
       go_wp2
       go_roundw
       case rel => exact ⟨z - 1, _, by omega, by omega, by go_num, rfl⟩
       case measure => simp [intOf]; omega
    ·obtain rfl : z = 0 := by omega
     have e2 : min y L = 0 := by omega
     go_wp2
     go_roundw
     case rel => exact ⟨k + 1, _, 0, by omega, by omega, by go_num, rfl, by rw [← e2]; exact HE, rfl⟩
     case measure => simp [intOf]; omega
  ·have e : y = F := by rw [← HK.out, List.drop_eq_nil_of_le (by omega)]; rfl
   have HE := zaa e
   clear e HK
   go_wp2
   go_ret
   exact ⟨zbo (by rw [HE.out]), _, rfl⟩
theorem infoSl : (Tryz.prog.info? 22).map (fun i => (i.zero, i.size, i.bytes)) = some (some (.slice none 0 0), 1, 24) := by kernel_rfl
def OwnV (w : World) (B : Nat) (v : Value) (xs : List Value) : Prop := w.ownsRow B 22 1 v xs.length xs
theorem OwnV.nil (w : World) (B : Nat) : OwnV w B (.slice none 0 0) [] := World.ownsRow_nil w B 22 1
theorem OwnV.on {w w' : World} {B C : Nat} {v : Value} {xs : List Value} (h : OwnV w B v xs) (hC : w.heap.size ≤ C) (hb : Below C w w') : OwnV w' B v xs := by
 refine World.ownsRow.kept (row := none) h ⟨hb.os, hb.tape, hb.output, hb.size, fun k hk _ => hb.block k (by omega)⟩ ?_
 cases hv : v.ownBlock with
 | none => exact .inl rfl
 | some k => exact .inr (by simp)
theorem app_val {ops : Array Oper} {rest : List Oper} {o : Oper} {a : Act} {Q : Exit → Act → World → Prop} (w : World) (hgd : o.guard = none) (s x : Operand)
  (ho : o.op = .call { callee := .builtin .append, args := #[s, x], argTypes := #[37, 37] }) (B : Nat) (xs : List Value) (v : Value) (hs : a.eval s = v)
  (hown : OwnV w B v xs) (g n c : Nat) (hx : a.eval x = .slice (some ⟨g, 0, none⟩) 1 1) (ao : Option Addr) (hcell : w.cell? ⟨g, 0, none⟩ = some (.slice ao n c)) (hb : xs.length ≤ 1000000) (hbase : B ≤ w.heap.size)
  (h : ∀ v' w', OwnV w' B v' (xs ++ [.slice ao n c]) → w.grownBy w' v.ownBlock → wpList Tryz.prog ops Q rest (a.put o.dst v') w') : wpList Tryz.prog ops Q (o :: rest) a w := by
 obtain ⟨i0, hi, hz0, hz1, hz2⟩ := info_parts infoSl
 refine wpList_append_own w hgd s x 37 ho B 22 i0 (.slice none 0 0) 1 24 Tryz.underlying37 hi hz0 hz1 hz2 rfl (by decide) v xs.length xs hs hown ⟨g, 0, none⟩ 1 1 [.slice ao n c] hx rfl
  (fun j u hu => by
   have hj : j = 0 := by
    have := (zH.1 hu).1
    simpa using this
   subst hj
   simp at hu
   subst hu
   simpa [Addr.add] using hcell) (fun u hu => by simp at hu; subst hu; rfl) (by unfold maxLen; omega) (by omega) hbase ?_
 intro v' w' h1 h2 _
 refine h v' w' ?_ h2
 unfold OwnV
 simpa using h1
theorem cmN_shn_acc (a : List Int) : ∀ (r : List Cl) (acc : Nat), acc ≤ a.length → (r.map (·.key)).foldl (fun n x => min n (lcp x a)) acc = min acc (shn a r)
 | [], acc, h => by simp only [List.map_nil, List.foldl_nil, shn]; omega
 | d :: r, acc, h => by
  simp only [List.map_cons, List.foldl_cons, shn]
  rw [cmN_shn_acc a r _ (by omega), lcp_comm d.key a]
  omega
theorem cmN_shn (c : Cl) (r : List Cl) : cmN (c.key :: r.map (·.key)) = shn c.key r := by
 rw [cmN_min, cmN_shn_acc c.key r _ Lr]
 have := shn_le c.key r
 omega
structure KeyV (w : World) (xs : List Value) (ds : List Cl) : Prop where
 len : xs.length = ds.length
 at_ : ∀ (t : Nat) (d : Cl), ds[t]? = some d → ∃ (ka : Option Addr) (kc : Nat), xs[t]? = some (Value.slice ka d.key.length kc) ∧ Sl w ka d.key.length kc d.key
theorem KeyV.snoc {w : World} {xs : List Value} {ds : List Cl} {d : Cl} {ka : Option Addr} {kc : Nat} (h : KeyV w xs ds) (hs : Sl w ka d.key.length kc d.key) : KeyV w (xs ++ [.slice ka d.key.length kc]) (ds ++ [d]) := by
 refine ⟨by simp [h.len], fun t e ht => ?_⟩
 by_cases hlt : t < ds.length
 ·rw [zL hlt] at ht
  obtain ⟨ka', kc', h1, h2⟩ := h.at_ t e ht
  exact ⟨ka', kc', by rw [zL (by rw [h.len]; exact hlt)]; exact h1, h2⟩
 ·have hl := (zH.1 ht).1
  simp only [zG, List.length_cons, List.length_nil] at hl
  obtain rfl : t = ds.length := by omega
  rw [List.getElem?_append_right Lr, Nat.sub_self] at ht
  simp at ht
  subst ht
  exact ⟨ka, kc, by rw [List.getElem?_append_right (by rw [h.len]; exact Lr), h.len, Nat.sub_self]; rfl, hs⟩
theorem ktl_take {k : Int} {cs : List Cl} {j : Nat} {c : Cl} (h : cs[j]? = some c) (hc : ¬ (k = 3 ∧ (j : Int) = 0)) : ktl k (cs.take (j + 1)) = ktl k (cs.take j) ++ [c] := by
 have e : cs.take (j + 1) = cs.take j ++ [c] := by rw [List.take_add_one, h]; rfl
 unfold ktl
 split
 ·next h3 =>
  have hj : 0 < j := by omega
  have hl := (zH.1 h).1
  rw [e, List.tail_append_of_ne_nil]
  intro e2
  have := congrArg List.length e2
  rw [zJ, List.length_nil] at this
  omega
 ·exact e
theorem ktl_zero {k : Int} {cs : List Cl} {j : Nat} (hc : k = 3 ∧ (j : Int) = 0) : ktl k (cs.take (j + 1)) = ktl k (cs.take j) := by
 obtain ⟨rfl, hj⟩ := hc
 obtain rfl : j = 0 := by omega
 unfold ktl
 rw [if_pos rfl, if_pos rfl]
 cases cs <;> simp
theorem keys_sls {w w' : World} {B : Nat} {v : Value} {xs : List Value} {ds : List Cl} (h : OwnV w' B v xs) (k : KeyV w xs ds) (hb : Below w.heap.size w w') (hn : ds.length ≤ 1000000) :
  ∃ a c, v = .slice a ds.length c ∧ SlS w' a ds.length c (ds.map (·.key)) := by
 have hl := k.len
 rcases h.2 with ⟨rfl, h0⟩ | ⟨g, cap, cur, rfl, hg, hh, hnc, hm, hs, ht'⟩
 ·have : ds.length = 0 := by omega
  rw [this]
  exact ⟨none, 0, rfl, ⟨by simpa using this, Lr, by omega, fun _ => rfl, .inl rfl⟩⟩
 ·have h2 : w'.ownsRow B 22 1 (.slice (some ⟨g, 0, none⟩) ds.length cap) ds.length xs := by
   have h3 := h
   unfold OwnV at h3
   rw [hl] at h3
   exact h3
  rw [hl] at hnc ⊢
  clear h
  have h := h2
  refine ⟨some ⟨g, 0, none⟩, cap, rfl, ⟨by simp, hnc, by omega, (by intro h; cases h), .inr ⟨g, 0, rfl, (World.ownsRow.lt h g rfl).2, fun i hi => ?_⟩⟩⟩
  have hc := World.ownsRow.cellAt h i (by omega)
  obtain ⟨ka, kc, e1, e2⟩ := k.at_ i ds[i] (zI hi)
  rw [e1] at hc
  refine ⟨_, _, _, by rw [Nat.zero_add]; exact hc, ?_⟩
  have e3 : (ds.map (·.key)).getD i [] = ds[i].key := by simp [List.getD, hi]
  rw [e3]
  exact e2.on Lr hb
theorem rshared_any (k : Int) (ao : Option Addr) (n cap : Nat) (cs : List Cl) (w : World) (hs : SlC w ao n cap cs) (hn : n ≤ 900000) :
  Calls Tryz.prog 93 #[.int .i64 k, .slice ao n cap] w fun e w' => ∃ v, e = .returned v ∧ Hid (OwnB w' w.heap.size v (shP k cs)) ∧ Hid (Below w.heap.size w w') := by
 have HS := zaa hs
 have HLEN := zaa hs.hlen
 obtain ⟨P, hP⟩ : ∃ P, shP k cs = P := ⟨_, rfl⟩
 rw [hP]
 have HP : Hid (shr (ktl k cs) = P) := zaa hP
 clear hs hP
 go_enter Tryz.func93, Tryz.ntmps93
 go_wp2_with fail
 go_loopw [5, 6] (fun v i wr => ∃ (j : Nat) (xs : List Value), j ≤ n ∧ i = .int .i64 j ∧ Hid (OwnV wr w.heap.size v xs) ∧ Hid (KeyV w xs (ktl k (cs.take j))) ∧ Hid (Below w.heap.size w wr)) (fun _ i _ => n - (intOf i).toNat)
 case atStart => exact ⟨0, [], by omega, rfl, zaa (OwnV.nil _ _), zaa ⟨by unfold ktl; split <;> rfl, fun t d h => by unfold ktl at h; split at h <;> simp at h⟩, zaa Br⟩
 case round =>
  obtain ⟨j, xs, hj, rfl, HO, HK, HB⟩ := hrel
  have bj : (j : Int) ≤ 900000 := by omega
  by_cases hlt : j < n
  ·have hltI : (j : Int) < (n : Int) := by omega
   obtain ⟨b, off, c, ka, kc, va, vc, rfl, hb, hci, c0, c1, c2, c3, c4, hk, hv⟩ := HS.out.item j hlt
   by_cases hc : k = 3 ∧ (j : Int) = 0
   ·have HK2 : Hid (KeyV w xs (ktl k (cs.take (j + 1)))) := zaa (by rw [ktl_zero hc]; exact HK.out)
    obtain ⟨rfl, hj0⟩ := hc
    obtain rfl : j = 0 := by omega
    clear hk hv c0 c1 c2 c3 c4 HK hci
    go_wp2
    go_roundw
    case rel => exact ⟨1, xs, by omega, by go_num, HO, HK2, HB⟩
    case measure => simp [intOf]; omega
   ·have hxl : xs.length ≤ 1000000 := by
     rw [HK.out.len]
     unfold ktl
     split <;> simp <;> omega
    have HXL := zaa hxl
    have HK2 : Hid (KeyV w (xs ++ [.slice ka c.key.length kc]) (ktl k (cs.take (j + 1)))) := zaa (by rw [ktl_take hci hc]; exact HK.out.snoc hk)
    have d0 := (HB.out.cell (p := ⟨b, off + j * 5, none⟩) hb).trans c0
    obtain ⟨K, hK⟩ : ∃ K, c.key.length = K := ⟨_, rfl⟩
    rw [hK] at d0 HK2
    have hsz := HB.out.size
    clear hk hv c0 c1 c2 c3 c4 HK hci hK hxl
    have HC1 : Hid ((wr.alloc (.cells #[.slice ka K kc] 22)).cell? ⟨wr.heap.size, 0, none⟩ = some (.slice ka K kc)) := zaa (by simp)
    by_cases h3 : k = 3
    ·subst h3
     have hj0 : ¬ (j : Int) = 0 := fun e => hc ⟨rfl, e⟩
     have hj1 : (0 : Int) < (j : Int) := by omega
     clear hc
     go_wp2_with (at_builtin; refine app_val _ rfl _ _ rfl w.heap.size xs _ rfl (HO.out.on Lr (zad Br Lr _)) wr.heap.size K kc rfl ka HC1.out HXL.out (by simp; omega) ?_; refine Hid.out ?_)
     apply zaa
     intro v2 w2 ho2 g2
     have HO2 := zaa ho2
     have HB2 : Hid (Below w.heap.size w w2) := zaa ((zad HB.out Lr _).trans (zde (HO.out.on Lr (zad Br Lr _)) (by simp; omega) g2))
     clear ho2 g2 HO HB d0 HC1
     go_wp2
     go_roundw
     case rel => exact ⟨j + 1, _, by omega, by go_num, HO2, HK2, HB2⟩
     case measure => simp [intOf]; omega
    ·have hkb : (k != 3) = true := by simpa using h3
     clear hc h3
     go_wp2_with (at_builtin; refine app_val _ rfl _ _ rfl w.heap.size xs _ rfl (HO.out.on Lr (zad Br Lr _)) wr.heap.size K kc rfl ka HC1.out HXL.out (by simp; omega) ?_; refine Hid.out ?_)
     apply zaa
     intro v2 w2 ho2 g2
     have HO2 := zaa ho2
     have HB2 : Hid (Below w.heap.size w w2) := zaa ((zad HB.out Lr _).trans (zde (HO.out.on Lr (zad Br Lr _)) (by simp; omega) g2))
     clear ho2 g2 HO HB d0 HC1
     go_wp2
     go_roundw
     case rel => exact ⟨j + 1, _, by omega, by go_num, HO2, HK2, HB2⟩
     case measure => simp [intOf]; omega
  ·have e : cs.take j = cs := List.take_of_length_le (by rw [HLEN.out]; omega)
   rw [e] at HK
   have hdl : (ktl k cs).length ≤ 900000 := by
    have := HLEN.out
    unfold ktl
    split <;> simp <;> omega
   obtain ⟨a, c, rfl, hsls⟩ := keys_sls HO.out HK.out HB.out (by omega)
   have HSL := zaa hsls
   cases hk : ktl k cs with
   | nil =>
    rw [hk] at HSL HP
    obtain rfl : [] = P := HP.out
    have HC := zaa (refCommon_nil a c wr)
    simp only [List.length_nil]
    clear hsls HO HK hk hdl e HSL
    go_wp2_with (go_at_call 135; refine zcs HC.out ?_; intro q; refine Hid.out ?_)
    apply zaa
    have HB2 := zaa (zab HB.out q)
    clear HC HB
    go_wp2
    go_ret
    exact ⟨_, rfl, zaa (OwnB.nil _ _), HB2⟩
   | cons d r =>
    rw [hk] at HSL HK
    have hsl2 := HSL.out
    simp only [List.map_cons, List.length_cons] at hsl2
    have HC := zaa (refCommon_any a (r.length + 1) c d.key (r.map (·.key)) wr hsl2)
    rw [cmN_shn] at HC
    have hshl := shn_le d.key r
    have HR : Hid (P = d.key.take (shn d.key r)) := zaa (by rw [← HP.out, hk]; rfl)
    obtain ⟨m, hm⟩ : ∃ m, shn d.key r = m := ⟨_, rfl⟩
    rw [hm] at HC hshl HR
    rcases hsl2.hat with h | ⟨b, off, rfl, hbb, hcs⟩
    ·omega
    obtain ⟨a0, m0, c0, hc0, hs0⟩ := hcs 0 (by omega)
    simp only [Nat.add_zero, List.getD_cons_zero] at hc0 hs0
    have hm0 := hs0.hlen
    have hcp := hs0.hcap
    have hrm := hs0.hroom
    have HS0 := zaa hs0
    obtain ⟨N, hN⟩ : ∃ N, r.length + 1 = N := ⟨_, rfl⟩
    have hN0 : 0 < N := by omega
    have hN0I : (0 : Int) < (N : Int) := by omega
    simp only [List.length_cons]
    rw [hN] at HC ⊢
    have hNb : (N : Int) ≤ 900000 := by rw [hk] at hdl; simp at hdl; omega
    clear hsls HO HK hk hdl e HSL hsl2 hcs hs0 hN hm HP
    go_wp2_with (go_at_call 135; refine zcs HC.out ?_; intro q; refine Hid.out ?_)
    apply zaa
    have HB2 := zaa (zab HB.out q)
    have hc1 : (wr.drewN q).cell? ⟨b, off, none⟩ = some (.slice a0 m0 c0) := hc0
    have HS1 := zaa (HS0.out.drewN q)
    obtain ⟨wq, hwq⟩ : ∃ wq, wr.drewN q = wq := ⟨_, rfl⟩
    rw [hwq] at HB2 hc1 HS1 ⊢
    clear HC hc0 HS0 hwq HB
    by_cases hm0' : m = 0
    ·subst hm0'
     go_wp2
     go_ret
     rw [HR.out, List.take_zero]
     exact ⟨_, rfl, zaa (OwnB.nil _ _), HB2⟩
    ·have hmb : ((m : Int) == 0) = false := by simpa using hm0'
     rcases HS1.out.hat with h | ⟨b1, o1, rfl, hbb1, _⟩
     ·omega
     have HS2 : Hid (Sl wq (some ⟨b1, o1, none⟩) m c0 (d.key.take m)) := zaa (by
      have := HS1.out.piece 0 m c0 (by omega) (by omega)
      simpa using this)
     have hmc : m ≤ c0 := by omega
     have hmcI : (m : Int) ≤ (c0 : Int) := by omega
     have hmI : (m : Int) ≤ 140737488355328 := by omega
     have HA := zaa (zcm (.slice none 0 0) w.heap.size [] (d.key.take m) (some ⟨b1, o1, none⟩) m c0 wq (OwnB.nil _ _) HS2.out (.inr (fun p hp e => by cases e)) (by simp; omega) HB2.out.size)
     clear HS1 HS2
     go_wp2_with (go_at_call 101; refine HA.out.mono ?_; rintro e w3 ⟨v3, rfl, HO3, hb3⟩; refine Hid.out ?_)
     apply zaa
     have HB3 := zaa (HB2.out.trans hb3.out)
     rw [List.nil_append, ← HR.out] at HO3
     clear HA hb3 HB2 hc1
     go_wp2
     go_ret
     exact ⟨v3, rfl, HO3, HB3⟩
theorem rsize_any (k : Int) (ao : Option Addr) (n cap : Nat) (cs : List Cl) (w : World) (hs : SlC w ao n cap cs) (hn : n ≤ 900000) (hkv : ∀ c ∈ cs, c.key.length + c.val.length ≤ 35184372088832) (hz : szQ k (shP k cs).length cs ≤ 1099511627776) :
  Calls Tryz.prog 104 #[.int .i64 k, .slice ao n cap] w fun e w' => e = .returned (.int .i64 (szQ k (shP k cs).length cs : Int)) ∧ Hid (Below w.heap.size w w') := by
 have HA := zaa (rshared_any k ao n cap cs w hs hn)
 have HT := zaa (fun u (hu : Below w.heap.size w u) => rtaken_any k ao n cap (shP k cs).length cs u (hs.on hu) (fun j c hc hne => beg_len (zce k cs c (mem_ktl hc (by omega)))) hkv hz)
 obtain ⟨P, hP⟩ : ∃ P, shP k cs = P := ⟨_, rfl⟩
 rw [hP] at HA HT hz ⊢
 have hzb : (P.length : Int) ≤ 1099511627776 := by unfold szQ at hz; omega
 clear hs hP hkv hz
 go_enter Tryz.func104, Tryz.ntmps104
 go_wp2_with (go_at_call 93; refine HA.out.mono ?_; rintro e w1 ⟨v1, rfl, HO1, HB1⟩; refine Hid.out ?_)
 apply zaa
 obtain ⟨a1, c1, rfl⟩ := zcn HO1.out
 clear HA HO1
 have HT1 := zaa (HT.out w1 HB1.out)
 clear HT
 go_wp2_with (go_at_call 108; refine HT1.out.mono ?_; rintro e w2 ⟨rfl, HB2⟩; refine Hid.out ?_)
 apply zaa
 have HB := zaa (zae HB1.out Lr HB2.out)
 clear HT1
 go_wp2
 go_ret
 exact ⟨rfl, HB⟩
end Go.Proofs.YtbkhjeacmmbabaaGreatDoor
