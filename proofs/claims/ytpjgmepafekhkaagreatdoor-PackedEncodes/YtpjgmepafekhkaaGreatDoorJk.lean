/- The document's bytes of a cell (layer 7). -/
import Derived.Test.YtpjgmepafekhkaaGreatDoorJh
import Derived.Test.YtpjgmepafekhkaaGreatDoorJi
import Derived.Test.YtpjgmepafekhkaaGreatDoorFb
import Derived.Test.YtpjgmepafekhkaaGreatDoorJg
namespace Go.Proofs.YtpjgmepafekhkaaGreatDoor
open Go.RowKit

set_option maxRecDepth 100000 in
theorem own_one8 (w : World) (x : Int) : OwnB (w.alloc (.cells #[.int .u8 x] 5)) w.heap.size (.slice (some ⟨w.heap.size, 0, none⟩) 1 1) [x] :=
  own_of_heap (l := [x]) (heap_alloc_last w _) (Nat.le_refl _) (by unfold maxLen; simp)

set_option maxRecDepth 100000 in
set_option maxHeartbeats 4000000 in
theorem rbytes_any (k i : Int) (c : Cl) (ka va : Option Addr) (kc vc m : Nat) (w : World) (h1 : Sl w ka c.key.length kc c.key) (h2 : Sl w va c.val.length vc c.val) (hm : ¬ (k = 3 ∧ i = 0) → m ≤ c.key.length) (hl : c.key.length + c.val.length ≤ 35184372088832) :
    Calls Tryz.prog 41 #[.int .i64 k, .int .i64 i, .agg #[.slice ka c.key.length kc, .int .i64 c.kd, .slice va c.val.length vc, .int .i64 c.pg, .int .i64 c.ct], .int .i64 (m : Int)] w fun e w' => ∃ v, e = .returned v ∧ Hid (OwnB w' w.heap.size v (qB (if k = 3 ∧ i = 0 then 0 else m) c)) ∧ Hid (Below w.heap.size w w') := by
  obtain ⟨key, kd, val, pg, ct⟩ := c
  simp only at h1 h2 hm hl ⊢
  obtain ⟨kn, hkn⟩ : ∃ kn, key.length = kn := ⟨_, rfl⟩
  obtain ⟨vn, hvn⟩ : ∃ vn, val.length = vn := ⟨_, rfl⟩
  rw [hkn] at h1 hm hl ⊢
  rw [hvn] at h2 hl ⊢
  obtain ⟨x, hx⟩ : ∃ x, w.alloc (.cells #[.slice ka kn kc, .int .i64 kd, .slice va vn vc, .int .i64 pg, .int .i64 ct] 47) = x := ⟨_, rfl⟩
  have hbx : Below w.heap.size w x := by rw [← hx]; exact bl_al (Below.refl _ _) (Nat.le_refl _) _
  have hb5 : C5 x w.heap.size (.slice ka kn kc) (.int .i64 kd) (.slice va vn vc) (.int .i64 pg) (.int .i64 ct) := by rw [← hx]; exact C5.box w _ _ _ _ _
  obtain ⟨M, hM⟩ : ∃ M, (if k = 3 ∧ i = 0 then 0 else m) = M := ⟨_, rfl⟩
  rw [hM]
  have hMk : M ≤ kn := by rw [← hM]; split <;> rename_i h <;> first | omega | exact hm h
  have HR : Hid (Calls Tryz.prog 75 #[.int .i64 k, .int .i64 i, .slice ka kn kc, .int .i64 (m : Int)] x fun e w' => (∃ a' c', e = .returned (.slice a' (kn - M) c') ∧ Hid (Sl x a' (kn - M) c' (key.drop M))) ∧ w' = x) := hidden (by
    have h1x := h1.on (Nat.le_refl _) hbx
    by_cases h : k = 3 ∧ i = 0
    · rw [if_pos h] at hM
      subst hM
      refine (rrest_whole k i ka kn kc m x h).mono ?_
      rintro e w' ⟨rfl, rfl⟩
      exact ⟨⟨_, _, rfl, hidden (by simpa using h1x)⟩, rfl⟩
    · rw [if_neg h] at hM
      subst hM
      exact rrest_cut k i ka kn kc m key x h h1x (hm h))
  obtain ⟨s, hs⟩ : ∃ s, w.heap.size = s := ⟨_, rfl⟩
  rw [hs] at hb5
  have hsx : s < x.heap.size := lt_some hb5
  have HBX := hidden hbx
  have HB5 := hidden hb5
  have HV := hidden (h2.on (Nat.le_refl _) hbx)
  obtain ⟨N, hN⟩ : ∃ N, kn - M = N := ⟨_, rfl⟩
  have hNk : N ≤ kn := by omega
  have hQ : ∀ T, (if kd = 1 then uB (vn : Int) ++ val else uB (pg % 18446744073709551616) ++ uB (ct % 18446744073709551616)) = T → qB M ⟨key, kd, val, pg, ct⟩ = [kd % 256] ++ uB (N : Int) ++ key.drop M ++ T := by
    intro T hT
    unfold qB
    simp only
    rw [hvn, hT, hkn, hN]
    simp only [List.append_assoc]
  have HQ := hidden hQ
  rw [hN] at HR
  obtain ⟨R, hR⟩ : ∃ R, key.drop M = R := ⟨_, rfl⟩
  rw [hR] at HR HQ
  have HRL : Hid (R.length = N) := hidden (by rw [← hR, List.length_drop, hkn, hN])
  obtain ⟨QQ, hQQ⟩ : ∃ Q, qB M ⟨key, kd, val, pg, ct⟩ = Q := ⟨_, rfl⟩
  rw [hQQ] at HQ ⊢
  obtain ⟨b0, b1, b2, b3, b4⟩ := hb5.cells
  have i1 : (N : Int) ≤ 35184372088832 := by omega
  have i2 : (vn : Int) ≤ 35184372088832 := by omega
  clear h1 h2 hm hM hbx hb5 hR hQ hN hMk hQQ
  go_enter Tryz.func41, Tryz.ntmps41
  go_wp2_with (first | (go_at_call 75; refine HR.out.mono ?_; rintro e w1 ⟨⟨a1, c1, rfl, HS1⟩, rfl⟩; refine Hid.out ?_))
  apply hidden
  clear HR hx
  obtain ⟨y, hy⟩ : ∃ y, w1.alloc (.cells #[.int .u8 (kd % 256)] 5) = y := ⟨_, rfl⟩
  have hby : Below w1.heap.size w1 y := by rw [← hy]; exact bl_al (Below.refl _ _) (Nat.le_refl _) _
  have HOY : Hid (OwnB y w1.heap.size (.slice (some ⟨w1.heap.size, 0, none⟩) 1 1) [kd % 256]) := hidden (by rw [← hy]; exact own_one8 w1 _)
  have HBY := hidden hby
  have hBy : w1.heap.size ≤ y.heap.size := hby.size
  have hNw : IntKind.u64.wrap (N : Int) = (N : Int) := by rw [IntKind.wrap_u64]; omega
  have HU := hidden (refUint_any (N : Int) y (by omega) (by omega))
  clear hby
  go_wp2_with (first | (go_at_call 76; refine HU.out.mono ?_; rintro e w2 ⟨u2, rfl, ho2, hb2⟩; refine Hid.out ?_))
  apply hidden
  obtain ⟨ua, um, uc, rfl, us2, hum⟩ := ho2.slu (by omega) (by omega)
  have HO2 := hidden (HOY.out.on (Nat.le_refl _) hb2)
  have HF2 := hidden (own_far HOY.out ho2 (Nat.le_refl _))
  have HB2 := hidden (bl_go HBY.out (Nat.le_refl _) hb2)
  have hB2 : w1.heap.size ≤ w2.heap.size := Nat.le_trans hBy hb2.size
  have HA2 := hidden (radd_to (.slice (some ⟨w1.heap.size, 0, none⟩) 1 1) w1.heap.size [kd % 256] (uB (N : Int)) ua um uc w2 HO2.out us2 HF2.out (by simp; omega) hB2)
  clear HU ho2 us2 hb2 HO2 HF2 HOY HBY hBy hy b0 b1 b2 b3 b4
  go_wp2_with (first | (go_at_call 40; refine HA2.out.mono ?_; rintro e w3 ⟨v3, rfl, HO3, hb3⟩; refine Hid.out ?_))
  apply hidden
  have HB3 := hidden (HB2.out.trans hb3.out)
  have hB3 : w1.heap.size ≤ w3.heap.size := Nat.le_trans hB2 hb3.out.size
  have HS3 := hidden (HS1.out.on (Nat.le_refl _) HB3.out)
  have HL1 := (uB_length (N : Int)).1
  obtain ⟨L3, hL3⟩ : ∃ L, [kd % 256] ++ uB (N : Int) = L := ⟨_, rfl⟩
  have hll3 : L3.length ≤ 11 := by rw [← hL3]; simp only [List.length_append, List.length_cons, List.length_nil]; omega
  rw [hL3] at HO3 HQ
  have HA3 := hidden (radd_to v3 w1.heap.size L3 R a1 N c1 w3 HO3.out HS3.out (sl_far HS1.out HO3.out (Nat.le_refl _)) (by omega) hB3)
  clear HA2 hb3 HB2 hB2 HL1 hL3 HS3 HO3
  go_wp2_with (first | (go_at_call 40; refine HA3.out.mono ?_; rintro e w4 ⟨v4, rfl, HO4, hb4⟩; refine Hid.out ?_))
  apply hidden
  have HB4 := hidden (HB3.out.trans hb4.out)
  have hB4 : w1.heap.size ≤ w4.heap.size := Nat.le_trans hB3 hb4.out.size
  obtain ⟨L4, hL4⟩ : ∃ L, L3 ++ R = L := ⟨_, rfl⟩
  have hll4 : L4.length ≤ 11 + kn := by rw [← hL4, List.length_append, HRL.out]; omega
  rw [hL4] at HO4 HQ
  clear HA3 hb4 HB3 hB3 hL4 HS1 HRL
  have H54 := hidden (box_on HB5.out HB4.out)
  obtain ⟨b0, b1, b2, b3, b4⟩ := C5.cells H54.out
  have HV4 := hidden (HV.out.on (Nat.le_refl _) HB4.out)
  by_cases hk1 : kd = 1
  · subst hk1
    have hVw : IntKind.u64.wrap (vn : Int) = (vn : Int) := by rw [IntKind.wrap_u64]; omega
    have HQ1 := hidden (HQ.out _ (if_pos rfl))
    have HU := hidden (refUint_any (vn : Int) w4 (by omega) (by omega))
    clear HQ
    go_wp2_with (first | (go_at_call 76; refine HU.out.mono ?_; rintro e w5 ⟨u5, rfl, ho5, hb5⟩; refine Hid.out ?_))
    apply hidden
    obtain ⟨ub, un, ud, rfl, us5, hun⟩ := ho5.slu (by omega) (by omega)
    have HO5 := hidden (HO4.out.on (Nat.le_refl _) hb5)
    have HF5 := hidden (own_far HO4.out ho5 (Nat.le_refl _))
    have HB5' := hidden (bl_go HB4.out (Nat.le_refl _) hb5)
    have hB5 : w1.heap.size ≤ w5.heap.size := Nat.le_trans hB4 hb5.size
    have HA5 := hidden (radd_to v4 w1.heap.size L4 (uB (vn : Int)) ub un ud w5 HO5.out us5 HF5.out (by omega) hB5)
    clear HU ho5 us5 hb5 HO5 HF5 HO4
    go_wp2_with (first | (go_at_call 40; refine HA5.out.mono ?_; rintro e w6 ⟨v6, rfl, HO6, hb6⟩; refine Hid.out ?_))
    apply hidden
    have HB6 := hidden (HB5'.out.trans hb6.out)
    have hB6 : w1.heap.size ≤ w6.heap.size := Nat.le_trans hB5 hb6.out.size
    clear HA5 hb6 HB5' hB5 b0 b1 b2 b3 b4 H54
    have H56 := hidden (box_on HB5.out HB6.out)
    obtain ⟨b0, b1, b2, b3, b4⟩ := C5.cells H56.out
    have HV6 := hidden (HV.out.on (Nat.le_refl _) HB6.out)
    have hll6 : (L4 ++ uB (vn : Int)).length + vn ≤ 140737488355328 := by
      have := (uB_length (vn : Int)).1
      rw [List.length_append]
      omega
    have HA6 := hidden (radd_to v6 w1.heap.size (L4 ++ uB (vn : Int)) val va vn vc w6 HO6.out HV6.out (sl_far HV.out HO6.out (Nat.le_refl _)) hll6 hB6)
    clear HO6 HV6 HV4 H56
    go_wp2_with (first | (go_at_call 40; refine HA6.out.mono ?_; rintro e w7 ⟨v7, rfl, HO7, hb7⟩; refine Hid.out ?_))
    apply hidden
    have HO : Hid (OwnB w7 s v7 QQ) := hidden (by rw [HQ1.out, ← List.append_assoc]; exact HO7.out.low (Nat.le_of_lt hsx))
    have HB : Hid (Below s w w7) := hidden ((by have := HBX.out; rwa [hs] at this : Below s w w1).trans ((HB6.out.trans hb7.out).mono (Nat.le_of_lt hsx)))
    clear HA6 hb7
    go_wp2
    go_ret
    rw [hs]
    exact ⟨v7, rfl, HO, HB⟩
  · obtain ⟨P, hP⟩ : ∃ P, pg % 18446744073709551616 = P := ⟨_, rfl⟩
    obtain ⟨C, hC⟩ : ∃ C, ct % 18446744073709551616 = C := ⟨_, rfl⟩
    have hPw : IntKind.u64.wrap pg = P := by rw [IntKind.wrap_u64, hP]
    have hCw : IntKind.u64.wrap ct = C := by rw [IntKind.wrap_u64, hC]
    have HQ1 := hidden (HQ.out (uB P ++ uB C) (by rw [if_neg hk1, hP, hC]))
    have hP1 : 0 ≤ P ∧ P < 18446744073709551616 := by omega
    have hC1 : 0 ≤ C ∧ C < 18446744073709551616 := by omega
    have HU := hidden (refUint_any P w4 (by omega) (by omega))
    have hk1b : (kd == 1) = false := by simpa using hk1
    clear HQ hP hC HV4
    go_wp2_with (first | (go_at_call 76; refine HU.out.mono ?_; rintro e w5 ⟨u5, rfl, ho5, hb5⟩; refine Hid.out ?_))
    apply hidden
    obtain ⟨ub, un, ud, rfl, us5, hun⟩ := ho5.slu hP1.1 hP1.2
    have HO5 := hidden (HO4.out.on (Nat.le_refl _) hb5)
    have HF5 := hidden (own_far HO4.out ho5 (Nat.le_refl _))
    have HB5' := hidden (bl_go HB4.out (Nat.le_refl _) hb5)
    have hB5 : w1.heap.size ≤ w5.heap.size := Nat.le_trans hB4 hb5.size
    have HA5 := hidden (radd_to v4 w1.heap.size L4 (uB P) ub un ud w5 HO5.out us5 HF5.out (by omega) hB5)
    clear HU ho5 us5 hb5 HO5 HF5 HO4
    go_wp2_with (first | (go_at_call 40; refine HA5.out.mono ?_; rintro e w6 ⟨v6, rfl, HO6, hb6⟩; refine Hid.out ?_))
    apply hidden
    have HB6 := hidden (HB5'.out.trans hb6.out)
    have hB6 : w1.heap.size ≤ w6.heap.size := Nat.le_trans hB5 hb6.out.size
    clear HA5 hb6 HB5' hB5 b0 b1 b2 b3 b4 H54
    have H56 := hidden (box_on HB5.out HB6.out)
    obtain ⟨b0, b1, b2, b3, b4⟩ := C5.cells H56.out
    have HU := hidden (refUint_any C w6 hC1.1 hC1.2)
    go_wp2_with (first | (go_at_call 76; refine HU.out.mono ?_; rintro e w7 ⟨u7, rfl, ho7, hb7⟩; refine Hid.out ?_))
    apply hidden
    obtain ⟨ue, uq, uf, rfl, us7, huq⟩ := ho7.slu hC1.1 hC1.2
    have HO7 := hidden (HO6.out.on (Nat.le_refl _) hb7)
    have HF7 := hidden (own_far HO6.out ho7 (Nat.le_refl _))
    have HB7 := hidden (bl_go HB6.out (Nat.le_refl _) hb7)
    have hB7 : w1.heap.size ≤ w7.heap.size := Nat.le_trans hB6 hb7.size
    have hll6 : (L4 ++ uB P).length + uq ≤ 140737488355328 := by
      have := (uB_length P).1
      rw [List.length_append]
      omega
    have HA7 := hidden (radd_to v6 w1.heap.size (L4 ++ uB P) (uB C) ue uq uf w7 HO7.out us7 HF7.out hll6 hB7)
    clear HU ho7 us7 hb7 HO7 HF7 HO6 H56
    go_wp2_with (first | (go_at_call 40; refine HA7.out.mono ?_; rintro e w8 ⟨v8, rfl, HO8, hb8⟩; refine Hid.out ?_))
    apply hidden
    have HO : Hid (OwnB w8 s v8 QQ) := hidden (by rw [HQ1.out, ← List.append_assoc]; exact HO8.out.low (Nat.le_of_lt hsx))
    have HB : Hid (Below s w w8) := hidden ((by have := HBX.out; rwa [hs] at this : Below s w w1).trans ((HB7.out.trans hb8.out).mono (Nat.le_of_lt hsx)))
    clear HA7 hb8
    go_wp2
    go_ret
    rw [hs]
    exact ⟨v8, rfl, HO, HB⟩
end Go.Proofs.YtpjgmepafekhkaaGreatDoor

/- Keys in order: plain mathematics. -/

namespace Go.Proofs.YtpjgmepafekhkaaGreatDoor

set_option maxRecDepth 100000 in
theorem kl_trans : ∀ (a b c : List Int), kl a b → kl b c → kl a c
  | [], [], _, h, _ => by simp [kl, ordL] at h
  | [], _ :: _, [], _, h => by simp [kl, ordL] at h
  | [], _ :: _, _ :: _, _, _ => by simp [kl, ordL]
  | _ :: _, [], _, h, _ => by simp [kl, ordL] at h
  | _ :: _, _ :: _, [], _, h => by simp [kl, ordL] at h
  | x :: a, y :: b, z :: c, h, g => by
    have ih := kl_trans a b c
    unfold kl at *
    simp only [ordL] at h g ⊢
    by_cases h1 : x < y
    · by_cases g1 : y < z
      · rw [if_pos (by omega)]
      · rw [if_neg g1] at g
        by_cases g2 : z < y
        · rw [if_pos g2] at g; simp at g
        · rw [if_pos (by omega)]
    · rw [if_neg h1] at h
      by_cases h2 : y < x
      · rw [if_pos h2] at h; simp at h
      · rw [if_neg h2] at h
        by_cases g1 : y < z
        · rw [if_pos (by omega)]
        · rw [if_neg g1] at g
          by_cases g2 : z < y
          · rw [if_pos g2] at g; simp at g
          · rw [if_neg g2] at g
            rw [if_neg (by omega), if_neg (by omega)]
            exact ih h g
set_option maxRecDepth 100000 in
theorem kl_total : ∀ (a b : List Int), ¬ kl a b → a ≠ b → kl b a
  | [], [], _, h => absurd rfl h
  | [], _ :: _, h, _ => absurd (by simp [kl, ordL]) h
  | _ :: _, [], _, _ => by simp [kl, ordL]
  | x :: a, y :: b, h, g => by
    have ih := kl_total a b
    unfold kl at *
    simp only [ordL] at h ⊢
    by_cases h1 : x < y
    · rw [if_pos h1] at h
      exact absurd rfl h
    · rw [if_neg h1] at h
      by_cases h2 : y < x
      · rw [if_pos h2]
      · rw [if_neg h2] at h
        rw [if_neg h2, if_neg h1]
        obtain rfl : x = y := by omega
        exact ih h (fun e => g (by rw [e]))
/-- The keys rise. -/
def Rs (cs : List Cl) : Prop := cs.Pairwise fun c d => kl c.key d.key
end Go.Proofs.YtpjgmepafekhkaaGreatDoor

/- Pages of the packed kind: plain mathematics: what keys share, and what it saves. -/

namespace Go.Proofs.YtpjgmepafekhkaaGreatDoor

set_option maxRecDepth 100000 in
theorem lcp_take : ∀ (a b : List Int) (n : Nat), n ≤ a.length → lcp (a.take n) b = min n (lcp a b)
  | a, b, 0, _ => by simp [lcp]
  | [], b, n + 1, h => by simp at h
  | x :: a, [], n + 1, _ => by simp [lcp]
  | x :: a, y :: b, n + 1, h => by
    have ih := lcp_take a b n (by simpa using h)
    simp only [List.take_succ_cons, lcp]
    split
    · rw [ih]; omega
    · omega
set_option maxRecDepth 100000 in
theorem lcp_self : ∀ (a : List Int), lcp a a = a.length
  | [] => rfl
  | x :: a => by simp [lcp, lcp_self a]
set_option maxRecDepth 100000 in
theorem lcp_take_eq : ∀ (a b : List Int), a.take (lcp a b) = b.take (lcp a b)
  | [], _ => by simp [lcp]
  | _ :: _, [] => by simp [lcp]
  | x :: a, y :: b => by
    simp only [lcp]
    split
    · next h => subst h; simp [lcp_take_eq a b]
    · simp
set_option maxRecDepth 100000 in
/-- What stands between two keys begins as both do. -/
theorem lcp_between : ∀ (a b c : List Int), kl a b → kl b c → lcp a c ≤ lcp a b
  | [], _, _, _, _ => by simp [lcp]
  | _ :: _, [], _, h, _ => by simp [kl, ordL] at h
  | _ :: _, _ :: _, [], _, h => by simp [kl, ordL] at h
  | x :: a, y :: b, z :: c, h, g => by
    have ih := lcp_between a b c
    unfold kl at *
    simp only [ordL, lcp] at *
    by_cases e : x = z
    · subst e
      by_cases h1 : x < y
      · have : ¬ y < x := by omega
        rw [if_neg this, if_pos h1] at g
        cases g
      · rw [if_neg h1] at h
        by_cases h2 : y < x
        · rw [if_pos h2] at h
          cases h
        · obtain rfl : x = y := by omega
          simp only [if_true]
          rw [if_neg h1, if_neg h2] at g
          rw [if_neg h2] at h
          have := ih h g
          omega
    · rw [if_neg e]
      omega
/-- How much of a all the keys begin with. -/
def shn (a : List Int) : List Cl → Nat
  | [] => a.length
  | d :: r => min (lcp a d.key) (shn a r)
set_option maxRecDepth 100000 in
theorem shn_le (a : List Int) : ∀ (r : List Cl), shn a r ≤ a.length
  | [] => Nat.le_refl _
  | d :: r => by have := shn_le a r; unfold shn; omega
set_option maxRecDepth 100000 in
theorem shn_key (a : List Int) : ∀ (r : List Cl) (d : Cl), d ∈ r → shn a r ≤ d.key.length ∧ d.key.take (shn a r) = a.take (shn a r)
  | [], d, h => by cases h
  | e :: r, d, h => by
    have h1 := lcp_le a e.key
    have h2 := lcp_take_eq a e.key
    unfold shn
    rcases List.mem_cons.1 h with rfl | h
    · refine ⟨by omega, ?_⟩
      have e1 := congrArg (List.take (min (lcp a d.key) (shn a r))) h2
      rw [List.take_take, List.take_take, Nat.min_eq_left (by omega)] at e1
      exact e1.symm
    · have ih := shn_key a r d h
      refine ⟨by omega, ?_⟩
      have e1 := congrArg (List.take (min (lcp a e.key) (shn a r))) ih.2
      rw [List.take_take, List.take_take, Nat.min_eq_left (by omega)] at e1
      exact e1
set_option maxRecDepth 100000 in
/-- What any common beginning is no longer than. -/
theorem shn_most (a P : List Int) (ha : a.take P.length = P) : ∀ (r : List Cl), (∀ d ∈ r, d.key.take P.length = P) → P.length ≤ shn a r
  | [], _ => by
    unfold shn
    have := congrArg List.length ha
    rw [List.length_take] at this
    omega
  | d :: r, h => by
    have ih := shn_most a P ha r fun e he => h e (by simp [he])
    have hd := h d (by simp)
    unfold shn
    have l1 := congrArg List.length ha
    have l2 := congrArg List.length hd
    rw [List.length_take] at l1 l2
    have key : P.length ≤ lcp a d.key := by
      rcases Nat.lt_or_ge (lcp a d.key) P.length with hlt | hge
      · exfalso
        have hn := lcp_next a d.key (by omega) (by omega)
        apply hn
        have e : a.take P.length = d.key.take P.length := by rw [ha, hd]
        have e2 := congrArg (fun l => List.getD l (lcp a d.key) 0) e
        simp only [List.getD_eq_getElem?_getD] at e2 ⊢
        rwa [List.getElem?_take_of_lt hlt, List.getElem?_take_of_lt hlt] at e2
      · exact hge
    omega
set_option maxRecDepth 100000 in
/-- Of rising keys the first and the last tell it. -/
theorem shn_last (a : List Int) : ∀ (r : List Cl) (z : Cl), r.getLast? = some z → (∀ d ∈ r, kl a d.key) → Rs r → shn a r = lcp a z.key
  | [], z, h, _, _ => by simp at h
  | [d], z, h, _, _ => by
    simp at h
    subst h
    have := (lcp_le a d.key).1
    unfold shn shn
    omega
  | d :: e :: r, z, h, ha, hr => by
    unfold Rs at hr
    rw [List.pairwise_cons] at hr
    have hz : (e :: r).getLast? = some z := by simpa using h
    have ih := shn_last a (e :: r) z hz (fun x hx => ha x (by simp [List.mem_cons.1 hx])) hr.2
    have hzm : z ∈ e :: r := List.mem_of_getLast? hz
    have := lcp_between a d.key z.key (ha d (by simp)) (hr.1 z hzm)
    rw [shn, ih]
    omega
/-- The cells whose keys share a prefix. -/
def ktl (k : Int) (cs : List Cl) : List Cl := if k = 3 then cs.tail else cs
def shr : List Cl → List Int
  | [] => []
  | c :: r => c.key.take (shn c.key r)
/-- What cells share. -/
def shP (k : Int) (cs : List Cl) : List Int := shr (ktl k cs)
/-- All of them begin so. -/
def Beg (k : Int) (P : List Int) (cs : List Cl) : Prop := ∀ c ∈ ktl k cs, c.key.take P.length = P
set_option maxRecDepth 100000 in
theorem shr_beg : ∀ (l : List Cl), ∀ c ∈ l, c.key.take (shr l).length = shr l
  | [], c, h => by cases h
  | d :: r, c, h => by
    have hl : (shr (d :: r)).length = shn d.key r := by
      have := shn_le d.key r
      unfold shr
      rw [List.length_take]
      omega
    rw [hl]
    rcases List.mem_cons.1 h with rfl | h
    · rfl
    · exact (shn_key d.key r c h).2
set_option maxRecDepth 100000 in
theorem shP_beg (k : Int) (cs : List Cl) : Beg k (shP k cs) cs := fun c hc => shr_beg _ c hc
set_option maxRecDepth 100000 in
theorem shP_most {k : Int} {P : List Int} {cs : List Cl} (h : Beg k P cs) (hn : ktl k cs ≠ []) : P.length ≤ (shP k cs).length := by
  unfold Beg at h
  unfold shP
  cases hk : ktl k cs with
  | nil => exact absurd hk hn
  | cons c r =>
    rw [hk] at h
    have := shn_most c.key P (h c (by simp)) r fun d hd => h d (by simp [hd])
    have h2 := shn_le c.key r
    unfold shr
    rw [List.length_take]
    omega
set_option maxRecDepth 100000 in
theorem shP_nil {k : Int} {cs : List Cl} (h : ktl k cs = []) : shP k cs = [] := by unfold shP; rw [h]; rfl

set_option maxRecDepth 100000 in
theorem uBf_mono (f : Nat) : ∀ a b : Int, 0 ≤ a → a ≤ b → (uBf f a).length ≤ (uBf f b).length := by
  induction f with
  | zero => intro a b _ _; simp [uBf]
  | succ f ih =>
    intro a b h0 h
    rw [uBf, uBf]
    by_cases h1 : a < 128
    · rw [if_pos h1]
      split
      · simp
      · have := (uBf_length f (b / 128)).2
        simp only [List.length_cons, List.length_nil]
        omega
    · rw [if_neg h1, if_neg (by omega)]
      have := ih (a / 128) (b / 128) (by omega) (by omega)
      simp only [List.length_cons]
      omega
set_option maxRecDepth 100000 in
theorem tL_less (x d : Nat) (h : d ≤ x) : tL (x - d) + d ≤ tL x := by
  unfold tL
  have := uBf_mono 9 ((x - d : Nat) : Int) (x : Int) (by omega) (by omega)
  unfold uB
  omega
set_option maxRecDepth 100000 in
theorem qtk_less (m m' : Nat) (c : Cl) (h : m ≤ m') (hm : m' ≤ c.key.length) : qtk m' c + (m' - m) ≤ qtk m c := by
  have := tL_less (c.key.length - m) (m' - m) (by omega)
  rw [show c.key.length - m - (m' - m) = c.key.length - m' by omega] at this
  unfold qtk
  omega
/-- The cells' bytes; f: the first one's key stands whole. -/
def qbd (m : Nat) : Bool → List Cl → List Int
  | _, [] => []
  | f, c :: r => qB (if f then 0 else m) c ++ qbd m false r
/-- Where they begin, from b on. -/
def qst (m : Nat) : Bool → Nat → List Cl → List Nat
  | _, _, [] => []
  | f, b, c :: r => b :: qst m false (b + (qB (if f then 0 else m) c).length) r
/-- How many bytes they take with their slots. -/
def qsm (m : Nat) : Bool → List Cl → Nat
  | _, [] => 0
  | f, c :: r => qtk (if f then 0 else m) c + qsm m false r
/-- A branch's first key stands whole. -/
def whl (k : Int) : Bool := decide (k = 3)
/-- What a page of these cells takes with a prefix of m bytes. -/
def szQ (k : Int) (m : Nat) (cs : List Cl) : Nat := 10 + m + qsm m (whl k) cs
set_option maxRecDepth 100000 in
theorem qsm_eq (m : Nat) : ∀ (f : Bool) (cs : List Cl), qsm m f cs = 2 * cs.length + (qbd m f cs).length
  | _, [] => rfl
  | f, c :: r => by
    have h1 := qB_length (if f then 0 else m) c
    have h2 := qsm_eq m false r
    simp only [qsm, qbd, List.length_cons, List.length_append]
    omega
set_option maxRecDepth 100000 in
theorem qst_length (m : Nat) : ∀ (f : Bool) (b : Nat) (cs : List Cl), (qst m f b cs).length = cs.length
  | _, _, [] => rfl
  | f, b, c :: r => by simp [qst, qst_length m false _ r]
set_option maxRecDepth 100000 in
theorem qst_shift (m : Nat) : ∀ (f : Bool) (a b : Nat) (cs : List Cl), qst m f (a + b) cs = (qst m f b cs).map (a + ·)
  | _, _, _, [] => rfl
  | f, a, b, c :: r => by
    simp only [qst, List.map_cons, List.cons.injEq, true_and]
    rw [Nat.add_assoc]
    exact qst_shift m false a _ r
set_option maxRecDepth 100000 in
theorem qsm_less (m m' : Nat) (h : m ≤ m') : ∀ (cs : List Cl), (∀ c ∈ cs, m' ≤ c.key.length) → qsm m' false cs + (m' - m) * cs.length ≤ qsm m false cs
  | [], _ => by simp [qsm]
  | c :: r, hc => by
    have h1 := qsm_less m m' h r fun d hd => hc d (by simp [hd])
    have h2 := qtk_less m m' c h (hc c (by simp))
    simp only [qsm, List.length_cons, Nat.mul_add, Nat.mul_one]
    simp only [Bool.false_eq_true, if_false]
    omega
set_option maxRecDepth 100000 in
theorem beg_len {P : List Int} {c : Cl} (h : c.key.take P.length = P) : P.length ≤ c.key.length := by
  have := congrArg List.length h
  rw [List.length_take] at this
  omega
set_option maxRecDepth 100000 in
/-- Cells that have room with a prefix have it also with what they share. -/
theorem szQ_less {k : Int} {P : List Int} {cs : List Cl} (h : Beg k P cs) : szQ k (shP k cs).length cs ≤ szQ k P.length cs := by
  have hs := shP_beg k cs
  by_cases hn : ktl k cs = []
  · rw [shP_nil hn]
    unfold szQ ktl at *
    by_cases hk : k = 3
    · rw [if_pos hk] at hn
      match cs, hn with
      | [], _ => simp [qsm]
      | [c], _ => simp [qsm, whl, hk]
    · rw [if_neg hk] at hn
      subst hn
      simp [qsm]
  · have hm := shP_most h hn
    have hc : ∀ c ∈ ktl k cs, (shP k cs).length ≤ c.key.length := fun c hc => beg_len (hs c hc)
    generalize (shP k cs).length = m' at *
    have hq := qsm_less P.length m' hm (ktl k cs) hc
    have h1 : 1 ≤ (ktl k cs).length := List.length_pos_iff.2 hn
    have h2 : m' - P.length ≤ (m' - P.length) * (ktl k cs).length := Nat.le_mul_of_pos_right _ h1
    unfold szQ ktl at *
    by_cases hk : k = 3
    · rw [if_pos hk] at *
      match cs, hn with
      | c :: r, _ =>
        simp only [List.tail_cons] at hq h2
        simp only [qsm, whl, hk, decide_true, if_true]
        omega
    · rw [if_neg hk] at *
      simp only [whl, hk, decide_false]
      omega
end Go.Proofs.YtpjgmepafekhkaaGreatDoor

/- Pages of the packed kind: plain mathematics: the page's bytes, and how they are read. -/

namespace Go.Proofs.YtpjgmepafekhkaaGreatDoor

/-- The page ahead of its sum, with the prefix P. -/
def pkL (k : Int) (n : Nat) (P : List Int) (cs : List Cl) : List Int := [k, 2] ++ (fB 2 cs.length ++ (fB 2 P.length ++ (P ++ (sloB (qst P.length (whl k) (6 + P.length + 2 * cs.length) cs) ++ (qbd P.length (whl k) cs ++ zs (n - szQ k P.length cs))))))
def pkH (k : Int) (n : Nat) (cs : List Cl) : List Int := pkL k n (shP k cs) cs
/-- The page. -/
def pkB (k : Int) (n : Nat) (cs : List Cl) : List Int := sealB (pkH k n cs)
set_option maxRecDepth 100000 in
theorem szQ_eq (k : Int) (m : Nat) (cs : List Cl) : szQ k m cs = 10 + m + 2 * cs.length + (qbd m (whl k) cs).length := by
  unfold szQ
  rw [qsm_eq]
  omega
set_option maxRecDepth 100000 in
theorem pkL_length (k : Int) (n : Nat) (P : List Int) (cs : List Cl) (h : szQ k P.length cs ≤ n) : (pkL k n P cs).length = n - 4 := by
  have := szQ_eq k P.length cs
  simp only [pkL, List.length_append, List.length_cons, List.length_nil, fB_length, sloB_length, qst_length, zs_length]
  omega
set_option maxRecDepth 100000 in
theorem pkB_length (k : Int) (n : Nat) (cs : List Cl) (h : szQ k (shP k cs).length cs ≤ n) : (pkB k n cs).length = n := by
  have := szQ_eq k (shP k cs).length cs
  rw [pkB, sealB_length, pkH, pkL_length k n _ cs h]
  omega
set_option maxRecDepth 100000 in
theorem qbd_wf (m : Nat) : ∀ (f : Bool) (cs : List Cl), (∀ c ∈ cs, c.Wf ∧ c.fit) → Wf (qbd m f cs)
  | _, [], _ => Wf.nil
  | f, c :: r, h => by
    have hc := h c (by simp)
    have h1 := hc.2.key
    have h2 := hc.2.val
    exact (qB_wf hc.1 (by omega) (by omega)).append (qbd_wf m false r fun d hd => h d (by simp [hd]))
set_option maxRecDepth 100000 in
theorem shr_wf : ∀ (l : List Cl), (∀ c ∈ l, c.Wf) → Wf (shr l)
  | [], _ => Wf.nil
  | c :: r, h => (h c (by simp)).1.take _
set_option maxRecDepth 100000 in
theorem ktl_mem {k : Int} {cs : List Cl} {c : Cl} (h : c ∈ ktl k cs) : c ∈ cs := by
  unfold ktl at h
  split at h
  · exact List.mem_of_mem_tail h
  · exact h
set_option maxRecDepth 100000 in
theorem shP_wf {k : Int} {cs : List Cl} (h : ∀ c ∈ cs, c.Wf) : Wf (shP k cs) := shr_wf _ fun c hc => h c (ktl_mem hc)
set_option maxRecDepth 100000 in
theorem pkL_wf {k : Int} {n : Nat} {P : List Int} {cs : List Cl} (hk : 0 ≤ k ∧ k ≤ 255) (hP : Wf P) (h : ∀ c ∈ cs, c.Wf ∧ c.fit) : Wf (pkL k n P cs) :=
  Wf.append (Wf.cons hk (Wf.cons (by omega) Wf.nil)) (Wf.append (fB_wf _ _) (Wf.append (fB_wf _ _) (Wf.append hP (Wf.append (sloB_wf _) (Wf.append (qbd_wf _ _ _ h) (zs_wf _))))))
set_option maxRecDepth 100000 in
theorem pkB_wf {k : Int} {n : Nat} {cs : List Cl} (hk : 0 ≤ k ∧ k ≤ 255) (h : ∀ c ∈ cs, c.Wf ∧ c.fit) : Wf (pkB k n cs) := sealB_wf (pkL_wf hk (shP_wf fun c hc => (h c hc).1) h)

/-- Bytes as n cells that may be, with rising keys; what is left. -/
def partQ (k p : Int) (P : List Int) : Nat → Bool → Option (List Int) → List Int → Option (List Cl × List Int)
  | 0, _, _, l => some ([], l)
  | n + 1, f, pr, l =>
    match pC l with
    | none => none
    | some (d, r) =>
      if mayP k p (d.pre (if f then [] else P)) ∧ ahead pr (d.pre (if f then [] else P)).key then
        (partQ k p P n false (some (d.pre (if f then [] else P)).key) r).map fun x => (d.pre (if f then [] else P) :: x.1, x.2)
      else none
/-- All but the first begin with P; that one too, if f is not. -/
def BegF (P : List Int) : Bool → List Cl → Prop
  | _, [] => True
  | f, c :: r => (f = false → c.key.take P.length = P) ∧ BegF P false r
set_option maxRecDepth 100000 in
theorem begF_false (P : List Int) : ∀ (cs : List Cl), BegF P false cs ↔ ∀ c ∈ cs, c.key.take P.length = P
  | [] => by simp [BegF]
  | c :: r => by simp [BegF, begF_false P r]
set_option maxRecDepth 100000 in
theorem begF_iff (k : Int) (P : List Int) (cs : List Cl) : BegF P (whl k) cs ↔ Beg k P cs := by
  unfold Beg ktl whl
  by_cases hk : k = 3
  · simp only [hk, decide_true, if_true]
    cases cs with
    | nil => simp [BegF]
    | cons c r => simp [BegF, begF_false P r]
  · simp only [hk, decide_false, if_false]
    exact begF_false P cs
set_option maxRecDepth 100000 in
theorem Cl.cut_zero (c : Cl) : (c.cut 0).pre [] = c := by
  obtain ⟨key, kd, val, pg, ct⟩ := c
  simp [Cl.cut, Cl.pre]
set_option maxRecDepth 100000 in
theorem partQ_of {k p : Int} (hp : p ≤ 65536) (P z : List Int) : ∀ (cs : List Cl) (f : Bool) (pr : Option (List Int)), chk k p pr cs = 0 → BegF P f cs → partQ k p P cs.length f pr (qbd P.length f cs ++ z) = some (cs, z)
  | [], _, _, _, _ => rfl
  | c :: r, f, pr, h, hb => by
    unfold chk at h
    split at h
    · next h1 =>
      split at h
      · next h2 =>
        simp only [List.length_cons, partQ, qbd, List.append_assoc]
        rw [pC_mid _ c _ (h1.fit hp)]
        have e : (c.cut (if f then 0 else P.length)).pre (if f then [] else P) = c := by
          cases f with
          | true => exact c.cut_zero
          | false => exact c.cut_pre _ _ (hb.1 rfl)
        simp only [e, h1, h2, and_self, if_true]
        rw [partQ_of hp P z r false _ h hb.2]
        rfl
      · simp at h
    · simp at h
set_option maxRecDepth 100000 in
theorem qB_pre (P : List Int) (d : Cl) : qB P.length (d.pre P) = qB 0 d := by
  obtain ⟨key, kd, val, pg, ct⟩ := d
  unfold qB Cl.pre
  simp
set_option maxRecDepth 100000 in
theorem partQ_inv {k p : Int} (P : List Int) (hP : Wf P) : ∀ (n : Nat) (f : Bool) (pr : Option (List Int)) (l r : List Int) (cs : List Cl), Wf l → partQ k p P n f pr l = some (cs, r) → cs.length = n ∧ l = qbd P.length f cs ++ r ∧ chk k p pr cs = 0 ∧ (∀ c ∈ cs, c.Wf) ∧ BegF P f cs
  | 0, f, pr, l, r, cs, hw, h => by
    simp only [partQ, Option.some.injEq, Prod.mk.injEq] at h
    obtain ⟨rfl, rfl⟩ := h
    exact ⟨rfl, rfl, rfl, (fun c hc => by cases hc), trivial⟩
  | n + 1, f, pr, l, r, cs, hw, h => by
    unfold partQ at h
    split at h
    · cases h
    · next d r1 e =>
      obtain ⟨c, hc⟩ : ∃ c, d.pre (if f then [] else P) = c := ⟨_, rfl⟩
      rw [hc] at h
      split at h
      · next hm =>
        obtain ⟨e1, e3, e4, _⟩ := pC_inv hw e
        cases hq : partQ k p P n false (some c.key) r1 with
        | none => rw [hq] at h; cases h
        | some x =>
          obtain ⟨ds, r2⟩ := x
          rw [hq] at h
          simp only [Option.map_some, Option.some.injEq, Prod.mk.injEq] at h
          obtain ⟨rfl, rfl⟩ := h
          obtain ⟨f1, f2, f3, f4, f5⟩ := partQ_inv P hP n _ _ r1 _ ds e4 hq
          have hcb : qB (if f then 0 else P.length) c = qB 0 d := by
            rw [← hc]
            cases f with
            | true =>
              obtain ⟨key, kd, val, pg, ct⟩ := d
              simp [Cl.pre]
            | false => exact qB_pre P d
          have hcw : c.Wf := by
            rw [← hc]
            cases f with
            | true => exact e3
            | false => exact ⟨hP.append e3.1, e3.2⟩
          refine ⟨by simp [f1], ?_, ?_, ?_, ?_, f5⟩
          · rw [qbd, hcb, List.append_assoc, ← f2]
            exact e1
          · rw [chk, if_pos hm.1, if_pos hm.2]; exact f3
          · intro x hx
            rcases List.mem_cons.1 hx with e | e
            · rw [e]; exact hcw
            · exact f4 x e
          · intro hf
            subst hf
            rw [← hc]
            simp [Cl.pre]
      · cases h
/-- What the bytes b are, of cells. -/
structure IsQ (k : Int) (n : Nat) (cs : List Cl) (b : List Int) : Prop where
  kd : isKd k
  sz : pw n
  ok : chk k n none cs = 0
  fit : szQ k (shP k cs).length cs ≤ n
  eq : pkB k n cs = b
/-- Where the cells begin. -/
def frsQ (b : List Int) : Int := 6 + rdN b 4 2 + rdN b 2 2 * 2
/-- How bytes are read: the prefix, the cells. -/
def readQ (b : List Int) : Option (List Int × List Cl) :=
  if pw b.length ∧ isKd (b.getD 0 0) then
    (if (b.length : Int) - 4 < frsQ b then none else (partQ (b.getD 0 0) b.length ((b.drop 6).take (rdN b 4 2).toNat) (rdN b 2 2).toNat (whl (b.getD 0 0)) none ((b.drop (frsQ b).toNat).take (b.length - 4 - (frsQ b).toNat))).map fun x => ((b.drop 6).take (rdN b 4 2).toNat, x.1))
  else none
set_option maxRecDepth 100000 in
theorem readQ_inv {b P : List Int} {cs : List Cl} (hw : Wf b) (h : readQ b = some (P, cs)) : isKd (b.getD 0 0) ∧ pw b.length ∧ chk (b.getD 0 0) b.length none cs = 0 ∧ szQ (b.getD 0 0) P.length cs ≤ b.length ∧ (∀ c ∈ cs, c.Wf) ∧ Beg (b.getD 0 0) P cs ∧ Wf P := by
  unfold readQ at h
  split at h
  · next h1 =>
    split at h
    · cases h
    · next h2 =>
      have hn := (rdN_bound b hw 2 2).1
      have hm := (rdN_bound b hw 4 2).1
      have hp := pw_nat h1.1
      cases hq : partQ (b.getD 0 0) b.length ((b.drop 6).take (rdN b 4 2).toNat) (rdN b 2 2).toNat (whl (b.getD 0 0)) none ((b.drop (frsQ b).toNat).take (b.length - 4 - (frsQ b).toNat)) with
      | none => rw [hq] at h; cases h
      | some x =>
        obtain ⟨ds, r⟩ := x
        rw [hq] at h
        simp only [Option.map_some, Option.some.injEq, Prod.mk.injEq] at h
        obtain ⟨rfl, rfl⟩ := h
        have hPw : Wf ((b.drop 6).take (rdN b 4 2).toNat) := (hw.drop _).take _
        obtain ⟨e1, e2, e3, e4, e5⟩ := partQ_inv _ hPw _ _ _ _ _ _ ((hw.drop _).take _) hq
        have hl := congrArg List.length e2
        rw [List.length_take, List.length_drop, List.length_append] at hl
        have hPl : ((b.drop 6).take (rdN b 4 2).toNat).length = (rdN b 4 2).toNat := by
          rw [List.length_take, List.length_drop]
          unfold frsQ at h2
          omega
        refine ⟨h1.2, h1.1, e3, ?_, e4, (begF_iff _ _ _).1 e5, hPw⟩
        rw [szQ_eq]
        rw [hPl] at hl ⊢
        unfold frsQ at hl h2
        omega
  · cases h
set_option maxRecDepth 100000 in
theorem pkB_split (k : Int) (n : Nat) (cs : List Cl) : ∃ U : List Int, U.length = 4 ∧ pkB k n cs = pkL k n (shP k cs) cs ++ U := ⟨_, fB_length 4 _, rfl⟩
set_option maxRecDepth 100000 in
theorem shP_few {k : Int} {n : Nat} {cs : List Cl} (h : szQ k (shP k cs).length cs ≤ n) : (shP k cs).length ≤ n ∧ cs.length ≤ n := by
  have := szQ_eq k (shP k cs).length cs
  omega
set_option maxRecDepth 100000 in
theorem readQ_of {k : Int} {n : Nat} {cs : List Cl} {b : List Int} (h : IsQ k n cs b) : readQ b = some (shP k cs, cs) ∧ b.length = n ∧ b.getD 0 0 = k := by
  obtain ⟨h1, h2, h3, h4, h5⟩ := h
  have hp := pw_nat h2
  have hz := szQ_eq k (shP k cs).length cs
  have hlen : b.length = n := by rw [← h5, pkB_length k n cs h4]
  have hg : b.getD 0 0 = k := by rw [← h5]; rfl
  obtain ⟨U, hU, hsp⟩ := pkB_split k n cs
  rw [h5] at hsp
  have hbeg := shP_beg k cs
  generalize shP k cs = P at *
  obtain ⟨Z, hZ⟩ : ∃ Z, zs (n - szQ k P.length cs) = Z := ⟨_, rfl⟩
  obtain ⟨S, hS⟩ : ∃ S, sloB (qst P.length (whl k) (6 + P.length + 2 * cs.length) cs) = S := ⟨_, rfl⟩
  have hSl : S.length = 2 * cs.length := by rw [← hS, sloB_length, qst_length]
  unfold pkL at hsp
  rw [hZ, hS] at hsp
  simp only [List.append_assoc] at hsp
  have hZl : Z.length = n - szQ k P.length cs := by rw [← hZ, zs_length]
  have hr2 : rdN b 2 2 = (cs.length : Int) := by
    rw [hsp, rdN_mid [k, 2] (fB 2 cs.length) _ 2 2 rfl (fB_length _ _), fB_read 2 _ (by omega) (by omega)]
  have hr4 : rdN b 4 2 = (P.length : Int) := by
    rw [hsp, ← List.append_assoc [k, 2], rdN_mid ([k, 2] ++ fB 2 cs.length) (fB 2 P.length) _ 4 2 (by simp [fB_length]) (fB_length _ _), fB_read 2 _ (by omega) (by omega)]
  have hf : frsQ b = ((6 + P.length + 2 * cs.length : Nat) : Int) := by
    unfold frsQ
    rw [hr2, hr4]
    omega
  have hP6 : (b.drop 6).take P.length = P := by
    rw [hsp, ← List.append_assoc (fB 2 cs.length), ← List.append_assoc [k, 2], List.drop_left' (by simp [fB_length]), List.take_left]
  have hbody : (b.drop (6 + P.length + 2 * cs.length)).take (n - 4 - (6 + P.length + 2 * cs.length)) = qbd P.length (whl k) cs ++ Z := by
    have e : b = ([k, 2] ++ (fB 2 cs.length ++ (fB 2 P.length ++ (P ++ S)))) ++ ((qbd P.length (whl k) cs ++ Z) ++ U) := by
      rw [hsp]
      simp only [List.append_assoc]
    rw [e, List.drop_left' (by simp only [List.length_append, List.length_cons, List.length_nil, fB_length, hSl]; omega), List.take_left' (by rw [List.length_append, hZl]; omega)]
  refine ⟨?_, hlen, hg⟩
  unfold readQ
  rw [hg, hlen, hf, hr2, hr4, if_pos ⟨h2, h1⟩, if_neg (by omega)]
  simp only [Int.toNat_natCast]
  rw [hP6, hbody, partQ_of (by omega) P Z cs (whl k) none h3 ((begF_iff k P cs).2 hbeg)]
  rfl
set_option maxRecDepth 100000 in
/-- What reading gives is the page, if the page is written so. -/
theorem isQ_iff {b : List Int} (hw : Wf b) (cs : List Cl) : IsQ (b.getD 0 0) b.length cs b ↔ (∃ P, readQ b = some (P, cs)) ∧ pkB (b.getD 0 0) b.length cs = b := by
  constructor
  · intro h
    exact ⟨⟨_, (readQ_of h).1⟩, h.eq⟩
  · rintro ⟨⟨P, h1⟩, h2⟩
    obtain ⟨a1, a2, a3, a4, _, a6, _⟩ := readQ_inv hw h1
    exact ⟨a1, a2, a3, Nat.le_trans (szQ_less a6) a4, h2⟩
set_option maxRecDepth 100000 in
theorem IsQ.at {k : Int} {n : Nat} {cs : List Cl} {b : List Int} (h : IsQ k n cs b) : IsQ (b.getD 0 0) b.length cs b := by
  obtain ⟨_, h2, h3⟩ := readQ_of h
  rw [h2, h3]
  exact h
set_option maxRecDepth 100000 in
theorem IsQ.one {k j : Int} {n m : Nat} {cs ds : List Cl} {b : List Int} (h : IsQ k n cs b) (g : IsQ j m ds b) : k = j ∧ n = m ∧ cs = ds := by
  obtain ⟨h1, h2, h3⟩ := readQ_of h
  obtain ⟨g1, g2, g3⟩ := readQ_of g
  have := Option.some.inj (h1.symm.trans g1)
  exact ⟨h3.symm.trans g3, h2.symm.trans g2, congrArg Prod.snd this⟩
end Go.Proofs.YtpjgmepafekhkaaGreatDoor
