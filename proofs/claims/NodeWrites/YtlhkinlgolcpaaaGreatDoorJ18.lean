import Derived.Test.YtlhkinlgolcpaaaGreatDoorJ17
import Derived.Test.YtlhkinlgolcpaaaGreatDoorJ08
import Derived.Test.YtlhkinlgolcpaaaGreatDoorJ16
import Derived.Test.YtlhkinlgolcpaaaGreatDoorJ03
import Derived.Deep.MidRow
import Derived.Deep.Upon
import Derived.Laws.IdiomCopy
import Derived.Lib.SlBytesConst
import Derived.Test.YtlhkinlgolcpaaaGreatDoorJ01
namespace Go.Proofs.YtlhkinlgolcpaaaGreatDoor
set_option maxRecDepth 100000
open Go.RowKit
theorem or_one (n : Int) (h0 : 0 ≤ n) (h1 : n < 18446744073709551616) : bits .or .u64 n 1 = n / 2 * 2 + 1 := by
 obtain ⟨m, rfl⟩ := Int.eq_ofNat_of_zero_le h0
 have hm : m < 18446744073709551616 := by omega
 have e : m ||| 1 = m / 2 * 2 + 1 := by
  have h2 : m % 2 ||| m / 2 * 2 ^ 1 = m % 2 + m / 2 * 2 ^ 1 := or_nat (m % 2) (m / 2) 1 (by omega)
  have h3 : 1 ||| m / 2 * 2 ^ 1 = 1 + m / 2 * 2 ^ 1 := or_nat 1 (m / 2) 1 (by omega)
  have h4 : m % 2 ||| 1 = 1 := by rcases Nat.mod_two_eq_zero_or_one m with e | e <;> rw [e] <;> rfl
  have h5 : m = m % 2 ||| m / 2 * 2 ^ 1 := by rw [h2]; omega
  conv => lhs; rw [h5]
  rw [Nat.or_assoc, Nat.or_comm (m / 2 * 2 ^ 1) 1, ← Nat.or_assoc, h4, h3]
  omega
 rw [u64_or _ _ (by omega) (by omega) (by omega) (by omega), Int.toNat_natCast, show (1 : Int).toNat = 1 from rfl, e]
 omega
theorem bl_small : ∀ n : Fin 128, n.val ≠ 0 → 1 ≤ Lib.bitLen n.val ∧ Lib.bitLen n.val ≤ 7 := by decide +kernel
theorem uB_bits : ∀ (f : Nat) (m : Nat), m ≠ 0 → m < 18446744073709551616 → m < 128 ^ f → (Lib.bitLen m + 6) / 7 = (uB (m : Int)).length
 | 0, m, h0, _, h => by simp at h; omega
 | f + 1, m, h0, h1, h => by
  by_cases hm : m < 128
  ·have := bl_small ⟨m, hm⟩ h0
   rw [uB_small (by omega)]
   simp only [List.length_cons, List.length_nil] at *
   omega
  ·have e := Lib.bitLen_shift 7 m (by omega) (by omega)
   have ih := uB_bits f (m / 128) (by omega) (by omega) (by rw [Nat.pow_succ] at h; omega)
   rw [uB_step (by omega) (by omega), List.length_cons, e, show (2 : Nat) ^ 7 = 128 from rfl]
   rw [show ((m : Int) / 128) = ((m / 128 : Nat) : Int) by omega, ← ih]
   omega
theorem uB_odd (n : Int) (h0 : 0 ≤ n) (h1 : n < 18446744073709551616) : (uB (n / 2 * 2 + 1)).length = (uB n).length := by
 by_cases h : n < 128
 ·rw [uB_small h, uB_small (by omega)]
  rfl
 ·rw [uB_step h h1, uB_step (n := n / 2 * 2 + 1) (by omega) (by omega), show (n / 2 * 2 + 1) / 128 = n / 128 by omega]
  simp
theorem standsWhole_any (k i : Int) (w : World) : Calls Tryz.prog 91 #[.int .i64 k, .int .i64 i] w fun e w' => e = .returned (.bool (decide (k = 3 ∧ i = 0))) ∧ w' = w := by
 by_cases h1 : k = 3
 ·by_cases h2 : i = 0
  ·subst h1 h2
   go_enter Tryz.func91, Tryz.ntmps91
   go_wp2
   go_ret
   exact ⟨rfl, rfl⟩
  ·have d2 : (i == 0) = false := by simpa using h2
   subst h1
   go_enter Tryz.func91, Tryz.ntmps91
   go_wp2
   go_ret
   simp [h2]
 ·have d1 : (k == 3) = false := by simpa using h1
  go_enter Tryz.func91, Tryz.ntmps91
  go_wp2
  go_ret
  simp [h1]
theorem uintLen_any (n : Int) (w : World) (h0 : 0 ≤ n) (h1 : n < 18446744073709551616) : Calls Tryz.prog 126 #[.int .u64 n] w fun e w' => e = .returned (.int .i64 ((uB n).length : Int)) ∧ w' = w := by
 have ho := or_one n h0 h1
 obtain ⟨m, hm⟩ : ∃ m : Nat, n / 2 * 2 + 1 = (m : Int) := ⟨(n / 2 * 2 + 1).toNat, by omega⟩
 have hl := uB_bits 10 m (by omega) (by omega) (by omega)
 have hlu := uB_odd n h0 h1
 rw [hm] at ho hlu
 have HB := hidden (Tryz.bits_Len64 (m : Int) w (by omega) (by omega))
 rw [Int.toNat_natCast] at HB
 have hb : Lib.bitLen m ≤ 64 := Lib.bitLen_le m 64 (by omega) (by omega)
 have e1 : ((uB n).length : Int) = ((Lib.bitLen m : Int) + 6) / 7 := by rw [← hlu, ← hl]; omega
 rw [e1]
 generalize Lib.bitLen m = x at *
 clear hl hlu e1
 go_enter Tryz.func126, Tryz.ntmps126
 go_wp2_with (go_at_call 154; refine same_call HB.out ?_)
 go_ret
 exact ⟨rfl, rfl⟩
theorem textLen_any (n : Nat) (w : World) (h : n ≤ 140737488355328) : Calls Tryz.prog 92 #[.int .i64 (n : Int)] w fun e w' => e = .returned (.int .i64 (tL n : Int)) ∧ w' = w := by
 have HU := hidden (uintLen_any (n : Int) w (by omega) (by omega))
 have hw : IntKind.u64.wrap (n : Int) = (n : Int) := by rw [IntKind.wrap_u64]; omega
 have hu := (uB_length (n : Int)).1
 have e1 : (tL n : Int) = ((uB (n : Int)).length : Int) + (n : Int) := by unfold tL; omega
 rw [e1]
 generalize (uB (n : Int)).length = x at *
 clear e1
 go_enter Tryz.func92, Tryz.ntmps92
 go_wp2_with (go_at_call 126; refine same_call HU.out ?_)
 go_ret
 exact ⟨rfl, rfl⟩
def tlN (kd : Int) (vn : Nat) (pg ct : Int) : Nat := if kd = 1 then tL vn else (uB (pg % 18446744073709551616)).length + (uB (ct % 18446744073709551616)).length
theorem tailLen_any (ka : Option Addr) (kn kc : Nat) (kd : Int) (va : Option Addr) (vn vc : Nat) (pg ct : Int) (w : World) (hv : vn ≤ 140737488355328) :
  Calls Tryz.prog 93 #[.agg #[.slice ka kn kc, .int .i64 kd, .slice va vn vc, .int .i64 pg, .int .i64 ct]] w fun e w' => e = .returned (.int .i64 (tlN kd vn pg ct : Int)) ∧ Below w.heap.size w w' := by
 obtain ⟨x, hx⟩ : ∃ x, w.alloc (.cells #[.slice ka kn kc, .int .i64 kd, .slice va vn vc, .int .i64 pg, .int .i64 ct] 41) = x := ⟨_, rfl⟩
 have hbx : Below w.heap.size w x := by rw [← hx]; exact bl_al (Below.refl _ _) (Nat.le_refl _) _
 have hc5 : C5 x w.heap.size (.slice ka kn kc) (.int .i64 kd) (.slice va vn vc) (.int .i64 pg) (.int .i64 ct) := by rw [← hx]; exact C5.box w _ _ _ _ _
 obtain ⟨c0, c1, c2, c3, c4⟩ := hc5.cells
 have HBX := hidden hbx
 clear hc5 hbx
 unfold tlN
 by_cases h : kd = 1
 ·subst h
  rw [if_pos rfl]
  have HT := hidden (textLen_any vn x hv)
  go_enter Tryz.func93, Tryz.ntmps93
  go_wp2_with (go_at_call 92; refine same_call HT.out ?_)
  go_ret
  exact ⟨rfl, HBX.out⟩
 ·rw [if_neg h]
  have hk1b : (kd == 1) = false := by simpa using h
  obtain ⟨P, hP⟩ : ∃ P, pg % 18446744073709551616 = P := ⟨_, rfl⟩
  obtain ⟨C, hC⟩ : ∃ C, ct % 18446744073709551616 = C := ⟨_, rfl⟩
  have hPw : IntKind.u64.wrap pg = P := by rw [IntKind.wrap_u64, hP]
  have hCw : IntKind.u64.wrap ct = C := by rw [IntKind.wrap_u64, hC]
  have HU : Hid (∀ z q, (z = P ∨ z = C) → Calls Tryz.prog 126 #[.int .u64 z] (x.drewN q) fun e w' => e = .returned (.int .i64 ((uB z).length : Int)) ∧ w' = x.drewN q) := hidden fun z q hz => uintLen_any z _ (by omega) (by omega)
  have u1 := (uB_length P).1
  have u2 := (uB_length C).1
  rw [hP, hC]
  have b1 : ((uB P).length : Int) ≤ 10 := by omega
  have b2 : ((uB C).length : Int) ≤ 10 := by omega
  have b3 : IntKind.i64.wrap (((uB P).length : Int) + ((uB C).length : Int)) = ((uB P).length : Int) + ((uB C).length : Int) := by rw [IntKind.wrap_i64]; omega
  clear hP hC
  go_enter Tryz.func93, Tryz.ntmps93
  go_wp2_with fail
  go_quiet (first | (go_at_call 126; exact Calls.quiet_of_same (HU.out _ _ (by simp))))
  go_wp2
  go_ret
  exact ⟨by simp, bl_dr HBX.out _⟩
end Go.Proofs.YtlhkinlgolcpaaaGreatDoor

namespace Go.Proofs.YtlhkinlgolcpaaaGreatDoor
set_option maxRecDepth 100000
open Go.RowKit
theorem SlC.piece {w : World} {b off n cap : Nat} {cs : List Cl} (h : SlC w (some ⟨b, off, none⟩) n cap cs) (i k c : Nat) (hk : i + k ≤ n) (hc : k ≤ c) : SlC w (some ⟨b, off + i * 5, none⟩) k c ((cs.drop i).take k) := by
 have hl := h.hlen
 refine ⟨by rw [List.length_take, List.length_drop]; omega, hc, by have := h.hroom; omega, (by intro h; cases h), ?_⟩
 rcases h.hat with h0 | ⟨b', off', e, hb, hcs⟩
 ·exact .inl (by omega)
 ·injection e with e
  injection e with e1 e2
  subst e1 e2
  refine .inr ⟨b, off + i * 5, rfl, hb, fun j c hj => ?_⟩
  have hjl := (List.getElem?_eq_some_iff.1 hj).1
  rw [List.length_take, List.length_drop] at hjl
  rw [List.getElem?_take_of_lt (by omega), List.getElem?_drop] at hj
  have := hcs (i + j) c hj
  rwa [show off + (i + j) * 5 = off + i * 5 + j * 5 by omega] at this
end Go.Proofs.YtlhkinlgolcpaaaGreatDoor

namespace Go.Proofs.YtlhkinlgolcpaaaGreatDoor
set_option maxRecDepth 100000
open Go.RowKit
def cmN : List (List Int) → Nat
 | [] => 0
 | t :: r => r.foldl (fun n x => lcp (t.take n) x) t.length
set_option maxHeartbeats 1000000 in
theorem common_any (ao : Option Addr) (n cap : Nat) (t : List Int) (ls : List (List Int)) (w : World) (hs : SlS w ao n cap (t :: ls)) :
  Calls Tryz.prog 125 #[.slice ao n cap] w fun e w' => e = .returned (.int .i64 (cmN (t :: ls))) ∧ ∃ q, w' = w.drewN q := by
 obtain ⟨hlen, hcap, hroom, hnil, hat⟩ := hs
 obtain ⟨N, rfl⟩ : ∃ N, n = N + 1 := ⟨n - 1, by simp at hlen; omega⟩
 have hlen' : ls.length = N := by simpa using hlen
 clear hlen
 rcases hat with h | ⟨b, off, rfl, hbb, hc⟩
 ·omega
 obtain ⟨a0, m0, c0, hck0, hsl0⟩ := hc 0 (by omega)
 simp only [Nat.add_zero, List.getD_cons_zero] at hck0 hsl0
 have hm0 := hsl0.hlen
 have hr0 := hsl0.hroom
 have hcc0 := hsl0.hcap
 have HS0 := hidden hsl0
 have HC := hidden hc
 clear hsl0 hc
 show Calls Tryz.prog 125 #[.slice (some ⟨b, off, none⟩) (N + 1) cap] w fun e w' => e = .returned (.int .i64 ((ls.foldl (fun n x => lcp (t.take n) x) t.length : Nat) : Int)) ∧ ∃ q, w' = w.drewN q
 rw [hm0]
 generalize hF : ls.foldl (fun n x => lcp (t.take n) x) m0 = F
 have HF := hidden hF
 clear hF
 have hc1 : ((N : Int) + 1 == 0) = false := by simp; omega
 by_cases hcap1 : cap = 1
 ·obtain rfl : N = 0 := by omega
  obtain rfl : ls = [] := List.eq_nil_of_length_eq_zero hlen'
  have e : m0 = F := HF.out
  subst e
  clear HF HC
  go_enter Tryz.func125, Tryz.ntmps125
  go_wp2_with fail
  refine wp_loop_rounds 1 ?_
  rw [rounds_succ]
  go_wp2
  go_ret
  exact ⟨rfl, 0, rfl⟩
 ·go_enter Tryz.func125, Tryz.ntmps125
  go_wp2_with fail
  go_loopw [3, 16] (fun v i wr => ∃ (k q y : Nat), k ≤ N ∧ y ≤ m0 ∧ i = .int .i64 k ∧ v = .int .i64 y ∧ Hid ((ls.drop k).foldl (fun n x => lcp (t.take n) x) y = F) ∧ wr = w.drewN q) (fun _ i _ => N - (intOf i).toNat)
  case atStart => exact ⟨0, 0, m0, by omega, by omega, rfl, rfl, HF, rfl⟩
  case round =>
   obtain ⟨k, q, y, hk, hy, rfl, rfl, HK, rfl⟩ := hrel
   clear HF
   by_cases hlt : k < N
   ·obtain ⟨a, m, c, hck, hsl⟩ := HC.out (k + 1) (by omega)
    have hck' : w.cell? ⟨b, off + 1 + k, none⟩ = some (.slice a m c) := by rw [show off + 1 + k = off + (k + 1) by omega]; exact hck
    rw [show (t :: ls).getD (k + 1) [] = ls.getD k [] by simp [List.getD]] at hsl
    have e := HK.out
    rw [dropS ls k (by omega), List.foldl_cons] at e
    have hle := (lcp_le (t.take y) (ls.getD k [])).1
    have hty : (t.take y).length ≤ y := by simp; omega
    have hal2 := alike_any a0 a y m c0 c (t.take y) (ls.getD k []) (w.drewN q) ((HS0.out.take y hy).drewN q) (hsl.drewN q)
    generalize lcp (t.take y) (ls.getD k []) = y2 at *
    have HE := hidden e
    have HA := hidden hal2
    clear hal2 e HK hck
    go_wp2_with fail
    refine quiet_call' HA.out ?_
    intro q2
    go_wp2
    go_roundw
    case rel => exact ⟨k + 1, _, y2, by omega, by omega, by go_num, rfl, HE, rfl⟩
    case measure => simp [intOf]; omega
   ·have e : y = F := by rw [← HK.out, List.drop_eq_nil_of_le (by omega)]; rfl
    have HE := hidden e
    clear e HK
    go_wp2
    go_ret
    exact ⟨ret_int (by rw [HE.out]), _, rfl⟩
end Go.Proofs.YtlhkinlgolcpaaaGreatDoor

namespace Go.Proofs.YtlhkinlgolcpaaaGreatDoor
set_option maxRecDepth 100000
open Go.RowKit
theorem shn_take (a : List Int) : ∀ (r : List Cl) (j : Nat) (d : Cl), r[j]? = some d → shn a (r.take (j + 1)) = min (shn a (r.take j)) (lcp a d.key)
 | [], j, d, h => by simp at h
 | e :: r, 0, d, h => by
  simp at h
  subst h
  have := (lcp_le a e.key).1
  simp only [List.take_succ_cons, List.take_zero, shn]
  omega
 | e :: r, j + 1, d, h => by
  have ih := shn_take a r j d (by simpa using h)
  simp only [List.take_succ_cons, shn]
  rw [ih]
  omega
theorem cmN_two (t x : List Int) : cmN [t, x] = lcp t x := by
 unfold cmN
 simp
theorem sls_two {w : World} {g : Nat} {a1 a2 : Option Addr} {n1 c1 n2 c2 : Nat} {l1 l2 : List Int} (hg : w.heap[g]? = some (.cells #[.slice a1 n1 c1, .slice a2 n2 c2] 25 (0, 0))) (h1 : Sl w a1 n1 c1 l1) (h2 : Sl w a2 n2 c2 l2) : SlS w (some ⟨g, 0, none⟩) 2 2 [l1, l2] := by
 refine ⟨rfl, Nat.le_refl _, by omega, (by intro h; cases h), .inr ⟨g, 0, rfl, lt_some hg, fun i hi => ?_⟩⟩
 have hi' : i = 0 ∨ i = 1 := by omega
 rcases hi' with rfl | rfl
 ·exact ⟨a1, n1, c1, by rw [cell_of_row _ _ _ _ _ _ hg]; rfl, h1⟩
 ·exact ⟨a2, n2, c2, by rw [cell_of_row _ _ _ _ _ _ hg]; rfl, h2⟩
set_option maxHeartbeats 2000000 in
theorem palike_any (k : Int) (ao : Option Addr) (n cap : Nat) (cs : List Cl) (w : World) (hs : SlC w ao n cap cs) :
  Calls Tryz.prog 90 #[.int .i64 k, .slice ao n cap] w fun e w' => e = .returned (.int .i64 ((shP k cs).length : Int)) ∧ Hid (Below w.heap.size w w') := by
 have hn := hs.hroom
 have hcap := hs.hcap
 have hlen := hs.hlen
 by_cases h0 : n = 0
 ·subst h0
  obtain rfl : cs = [] := List.eq_nil_of_length_eq_zero hlen
  have hz : (shP k []).length = 0 := by unfold shP ktl; split <;> rfl
  rw [hz]
  clear hs
  go_enter Tryz.func90, Tryz.ntmps90
  go_wp2
  go_ret
  exact ⟨rfl, hidden (Below.refl _ _)⟩
 ·have hn0 : 0 < n := by omega
  have hnI : 0 < (n : Int) := by omega
  have d0 : ((n : Int) == 0) = false := by simp; omega
  obtain ⟨b, off, rfl⟩ : ∃ b off, ao = some ⟨b, off, none⟩ := by
   rcases hs.hat with h | ⟨b, off, e, _⟩
   ·exact absurd h h0
   ·exact ⟨b, off, e⟩
  by_cases hk : k = 3
  ·have hd : decide (k = 3 ∧ (0 : Int) = 0) = true := by simp [hk]
   have HSW : Hid (∀ u, Calls Tryz.prog 91 #[.int .i64 k, .int .i64 0] u fun e w' => e = .returned (.bool true) ∧ w' = u) := hidden (fun u => by have := standsWhole_any k 0 u; rwa [hd] at this)
   clear hd
   have hkt : ktl k cs = cs.drop 1 := by unfold ktl; rw [if_pos hk, List.drop_one]
   clear hk
   unfold shP
   rw [hkt]
   by_cases h1 : n = 1
   ·subst h1
    have hz : (shr (cs.drop 1)).length = 0 := by rw [List.drop_eq_nil_of_le (by omega)]; rfl
    rw [hz]
    have hc1 : (1 : Int) ≤ (cap : Int) := by omega
    clear hs
    by_cases hcc : cap = 1
    ·subst hcc
     go_enter Tryz.func90, Tryz.ntmps90
     go_wp2_with (first | (go_at_call 91; refine same_call (HSW.out _) ?_))
     go_ret
     exact ⟨rfl, hidden (Below.refl _ _)⟩
    ·have hcc2 : 1 < cap := by omega
     have hcc3 : cap - 1 ≠ 0 := by omega
     go_enter Tryz.func90, Tryz.ntmps90
     go_wp2_with (first | (go_at_call 91; refine same_call (HSW.out _) ?_))
     go_ret
     exact ⟨rfl, hidden (Below.refl _ _)⟩
   ·have h2 := hs.piece 1 (n - 1) (cap - 1) (by omega) (by omega)
    have e2 : (cs.drop 1).take (n - 1) = cs.drop 1 := List.take_of_length_le (by rw [List.length_drop]; omega)
    rw [e2, Nat.one_mul] at h2
    generalize cs.drop 1 = ds at *
    have hc1 : (1 : Int) ≤ (cap : Int) := by omega
    have hcc3 : cap - 1 ≠ 0 := by omega
    have hcc4 : 1 < cap := by omega
    have hn3 : (1 : Int) ≤ (n : Int) := by omega
    have hn4 : 1 ≤ n := by omega
    obtain ⟨n', hn'⟩ : ∃ n', n - 1 = n' := ⟨_, rfl⟩
    obtain ⟨cap', hcap'⟩ : ∃ c', cap - 1 = c' := ⟨_, rfl⟩
    obtain ⟨off', hoff'⟩ : ∃ o', off + 5 = o' := ⟨_, rfl⟩
    rw [hn', hcap', hoff'] at h2
    have hnn : (n : Int) - 1 = (n' : Int) := by omega
    have hn0' : 0 < n' := by omega
    have hnI' : 0 < (n' : Int) := by omega
    have d0' : ((n' : Int) == 0) = false := by simp; omega
    clear hs hlen hkt e2
    have HSC := hidden h2
    obtain ⟨b1, off1, c, ka, kc, va, vc, hbo, hbl, hci, c0, c1, c2, c3, c4, hkS, hvS⟩ := h2.item 0 hn0'
    injection hbo with hbo
    injection hbo with hb1 hb2
    subst hb1 hb2
    simp only [Nat.zero_mul, Nat.add_zero] at c0
    obtain ⟨r, hds⟩ : ∃ r, ds = c :: r := by
     match ds, hci with
     | x :: r, hci => simp at hci; subst hci; exact ⟨r, rfl⟩
    have HKS := hidden hkS
    have hklr := hkS.hroom
    have hkcr := hkS.hcap
    have hll := h2.hlen
    rw [hds] at hll
    simp only [List.length_cons] at hll
    have HEND : Hid ((shr ds).length = shn c.key r) := hidden (by
     rw [hds]
     unfold shr
     rw [List.length_take]
     have := shn_le c.key r
     omega)
    have HR : Hid (∀ j u, j < n' - 1 → Below w.heap.size w u → ∃ d da dc dva dvc, r[j]? = some d ∧ u.cell? ⟨b, off' + 5 + j * 5, none⟩ = some (.slice da d.key.length dc) ∧ u.cell? ⟨b, off' + 5 + j * 5 + 1, none⟩ = some (.int .i64 d.kd) ∧ u.cell? ⟨b, off' + 5 + j * 5 + 2, none⟩ = some (.slice dva d.val.length dvc) ∧ u.cell? ⟨b, off' + 5 + j * 5 + 3, none⟩ = some (.int .i64 d.pg) ∧ u.cell? ⟨b, off' + 5 + j * 5 + 4, none⟩ = some (.int .i64 d.ct) ∧ Sl u da d.key.length dc d.key) := hidden (by
     intro j u hj hu
     obtain ⟨b2, off2, d, da, dc, dva, dvc, hbo2, _, hdi, e0, e1, e2, e3, e4, hdk, _⟩ := (HSC.out.on hu).item (j + 1) (by omega)
     injection hbo2 with hbo2
     injection hbo2 with g1 g2
     subst g1 g2
     rw [hds] at hdi
     rw [show off' + (j + 1) * 5 = off' + 5 + j * 5 by omega] at e0 e1 e2 e3 e4
     exact ⟨d, da, dc, dva, dvc, by simpa using hdi, e0, e1, e2, e3, e4, hdk⟩)
    have HLR : Hid (r.length = n' - 1) := hidden (by omega)
    obtain ⟨M, hM⟩ : ∃ M, n' - 1 = M := ⟨_, rfl⟩
    rw [hM] at HR HLR
    have hMI : (n' : Int) - 1 = (M : Int) := by omega
    have hMb : (M : Int) ≤ 140737488355328 := by omega
    rw [HEND.out]
    have cN1 : (1 : Int) ≤ (n' : Int) := by omega
    have cC1 : (1 : Int) ≤ (cap' : Int) := by omega
    have HSH0 : Hid (shn c.key (r.take 0) = c.key.length) := hidden (by simp [shn])
    clear h2 hkS hvS hci c1 c2 c3 c4 hds hll
    by_cases hcc : cap' = 1
    ·have hN1 : n' = 1 := by omega
     obtain rfl : M = 0 := by omega
     have hr0 : r = [] := List.eq_nil_of_length_eq_zero HLR.out
     have HFIN : Hid (shn c.key r = c.key.length) := hidden (by rw [hr0]; rfl)
     clear hr0
     rw [HFIN.out]
     subst hcc hN1
     go_enter Tryz.func90, Tryz.ntmps90
     go_wp2_with (first | (go_at_call 91; refine same_call (HSW.out _) ?_))
     go_loopw [5, 27] (fun sh i wr => sh = .slice ka c.key.length kc ∧ i = .int .i64 0 ∧ wr = w) (fun _ _ _ => 0)
     case atStart => exact ⟨rfl, rfl, rfl⟩
     case round =>
      obtain ⟨rfl, rfl, rfl⟩ := hrel
      go_wp2
      go_ret
      exact ⟨rfl, hidden (Below.refl _ _)⟩
    ·have hcc1 : 1 < cap' := by omega
     have hcc2 : cap' - 1 ≠ 0 := by omega
     go_enter Tryz.func90, Tryz.ntmps90
     go_wp2_with (first | (go_at_call 91; refine same_call (HSW.out _) ?_))
     go_loopw [5, 27] (fun sh i wr => ∃ j p : Nat, j ≤ M ∧ p ≤ c.key.length ∧ i = .int .i64 j ∧ sh = .slice ka p kc ∧ Hid (p = shn c.key (r.take j)) ∧ Hid (Below w.heap.size w wr)) (fun _ i _ => M - (intOf i).toNat)
     case atStart => exact ⟨0, c.key.length, by omega, by omega, rfl, rfl, hidden HSH0.out.symm, hidden (Below.refl _ _)⟩
     case round =>
      obtain ⟨j, p, hj, hp, rfl, rfl, HP, HB⟩ := hrel
      have bj : (j : Int) ≤ 140737488355328 := by omega
      have bp : (p : Int) ≤ 140737488355328 := by omega
      by_cases hlt : j < M
      ·have hltI : (j : Int) < (M : Int) := by omega
       obtain ⟨d, da, dc, dva, dvc, hdi, e0, e1, e2, e3, e4, hdk⟩ := HR.out j wr hlt HB.out
       have HDI := hidden hdi
       obtain ⟨x, hx⟩ : ∃ x, (wr.alloc (.cells #[.slice da d.key.length dc, .int .i64 d.kd, .slice dva d.val.length dvc, .int .i64 d.pg, .int .i64 d.ct] 41)).alloc (.cells #[.slice ka p kc, .slice da d.key.length dc] 25) = x := ⟨_, rfl⟩
       have hbx : Below wr.heap.size wr x := by rw [← hx]; exact bl_al (bl_al (Below.refl _ _) (Nat.le_refl _) _) (Nat.le_refl _) _
       have hg : x.heap[wr.heap.size + 1]? = some (.cells #[.slice ka p kc, .slice da d.key.length dc] 25 (0, 0)) := by
        have h1 := heap_alloc_last (wr.alloc (.cells #[.slice da d.key.length dc, .int .i64 d.kd, .slice dva d.val.length dvc, .int .i64 d.pg, .int .i64 d.ct] 41)) (.cells #[.slice ka p kc, .slice da d.key.length dc] 25)
        rw [hx] at h1
        simpa using h1
       have hsk : Sl x ka p kc (c.key.take p) := ((HKS.out.on (Nat.le_refl _) HB.out).on (Nat.le_refl _) hbx).take p (by omega)
       have HCM := hidden (common_any (some ⟨wr.heap.size + 1, 0, none⟩) 2 2 (c.key.take p) [d.key] x (sls_two hg hsk (hdk.on (Nat.le_refl _) hbx)))
       rw [cmN_two, lcp_take _ _ _ hp] at HCM
       have HNX := hidden (shn_take c.key r j d hdi)
       obtain ⟨q, hq⟩ : ∃ q, min p (lcp c.key d.key) = q := ⟨_, rfl⟩
       rw [hq] at HCM
       have hqp : q ≤ p := by omega
       have hqI : (q : Int) ≤ (p : Int) := by omega
       have hqc : (q : Int) ≤ (kc : Int) := by omega
       have HQ := hidden hq
       have HBX := hidden hbx
       clear hdk hdi hg hsk hbx hq
       go_wp2_with (first | (go_at_call 125; refine HCM.out.mono ?_; rintro e w2 ⟨rfl, q2, rfl⟩))
       go_roundw
       case rel => exact ⟨j + 1, q, by omega, by omega, by go_num, rfl, hidden (by rw [HNX.out, ← HP.out]; exact HQ.out.symm), hidden (bl_dr (bl_go HB.out (Nat.le_refl _) HBX.out) _)⟩
       case measure => simp [intOf]; omega
      ·obtain rfl : j = M := by omega
       have hlI : ¬ (j : Int) < (j : Int) := by omega
       have HT : Hid (p = shn c.key r) := hidden (by rw [HP.out, List.take_of_length_le (by rw [HLR.out]; exact Nat.le_refl _)])
       go_wp2
       go_ret
       rw [← HT.out]
       exact ⟨rfl, HB⟩
  ·have hd : decide (k = 3 ∧ (0 : Int) = 0) = false := by simp [hk]
   have HSW : Hid (∀ u, Calls Tryz.prog 91 #[.int .i64 k, .int .i64 0] u fun e w' => e = .returned (.bool false) ∧ w' = u) := hidden (fun u => by have := standsWhole_any k 0 u; rwa [hd] at this)
   clear hd
   have hkt : ktl k cs = cs := by unfold ktl; rw [if_neg hk]
   clear hk
   unfold shP
   rw [hkt]
   have h2 := hs
   clear hkt
   have HSC := hidden h2
   obtain ⟨b1, off1, c, ka, kc, va, vc, hbo, hbl, hci, c0, c1, c2, c3, c4, hkS, hvS⟩ := h2.item 0 hn0
   injection hbo with hbo
   injection hbo with hb1 hb2
   subst hb1 hb2
   simp only [Nat.zero_mul, Nat.add_zero] at c0
   obtain ⟨r, hds⟩ : ∃ r, cs = c :: r := by
    match cs, hci with
    | x :: r, hci => simp at hci; subst hci; exact ⟨r, rfl⟩
   have HKS := hidden hkS
   have hklr := hkS.hroom
   have hkcr := hkS.hcap
   have hll := h2.hlen
   rw [hds] at hll
   simp only [List.length_cons] at hll
   have HEND : Hid ((shr cs).length = shn c.key r) := hidden (by
    rw [hds]
    unfold shr
    rw [List.length_take]
    have := shn_le c.key r
    omega)
   have HR : Hid (∀ j u, j < n - 1 → Below w.heap.size w u → ∃ d da dc dva dvc, r[j]? = some d ∧ u.cell? ⟨b, off + 5 + j * 5, none⟩ = some (.slice da d.key.length dc) ∧ u.cell? ⟨b, off + 5 + j * 5 + 1, none⟩ = some (.int .i64 d.kd) ∧ u.cell? ⟨b, off + 5 + j * 5 + 2, none⟩ = some (.slice dva d.val.length dvc) ∧ u.cell? ⟨b, off + 5 + j * 5 + 3, none⟩ = some (.int .i64 d.pg) ∧ u.cell? ⟨b, off + 5 + j * 5 + 4, none⟩ = some (.int .i64 d.ct) ∧ Sl u da d.key.length dc d.key) := hidden (by
    intro j u hj hu
    obtain ⟨b2, off2, d, da, dc, dva, dvc, hbo2, _, hdi, e0, e1, e2, e3, e4, hdk, _⟩ := (HSC.out.on hu).item (j + 1) (by omega)
    injection hbo2 with hbo2
    injection hbo2 with g1 g2
    subst g1 g2
    rw [hds] at hdi
    rw [show off + (j + 1) * 5 = off + 5 + j * 5 by omega] at e0 e1 e2 e3 e4
    exact ⟨d, da, dc, dva, dvc, by simpa using hdi, e0, e1, e2, e3, e4, hdk⟩)
   have HLR : Hid (r.length = n - 1) := hidden (by omega)
   obtain ⟨M, hM⟩ : ∃ M, n - 1 = M := ⟨_, rfl⟩
   rw [hM] at HR HLR
   have hMI : (n : Int) - 1 = (M : Int) := by omega
   have hMb : (M : Int) ≤ 140737488355328 := by omega
   rw [HEND.out]
   have cN1 : (1 : Int) ≤ (n : Int) := by omega
   have cC1 : (1 : Int) ≤ (cap : Int) := by omega
   have HSH0 : Hid (shn c.key (r.take 0) = c.key.length) := hidden (by simp [shn])
   clear h2 hkS hvS hci c1 c2 c3 c4 hds hll
   by_cases hcc : cap = 1
   ·have hN1 : n = 1 := by omega
    obtain rfl : M = 0 := by omega
    have hr0 : r = [] := List.eq_nil_of_length_eq_zero HLR.out
    have HFIN : Hid (shn c.key r = c.key.length) := hidden (by rw [hr0]; rfl)
    clear hr0
    rw [HFIN.out]
    subst hcc hN1
    go_enter Tryz.func90, Tryz.ntmps90
    go_wp2_with (first | (go_at_call 91; refine same_call (HSW.out _) ?_))
    go_loopw [5, 27] (fun sh i wr => sh = .slice ka c.key.length kc ∧ i = .int .i64 0 ∧ wr = w) (fun _ _ _ => 0)
    case atStart => exact ⟨rfl, rfl, rfl⟩
    case round =>
     obtain ⟨rfl, rfl, rfl⟩ := hrel
     go_wp2
     go_ret
     exact ⟨rfl, hidden (Below.refl _ _)⟩
   ·have hcc1 : 1 < cap := by omega
    have hcc2 : cap - 1 ≠ 0 := by omega
    go_enter Tryz.func90, Tryz.ntmps90
    go_wp2_with (first | (go_at_call 91; refine same_call (HSW.out _) ?_))
    go_loopw [5, 27] (fun sh i wr => ∃ j p : Nat, j ≤ M ∧ p ≤ c.key.length ∧ i = .int .i64 j ∧ sh = .slice ka p kc ∧ Hid (p = shn c.key (r.take j)) ∧ Hid (Below w.heap.size w wr)) (fun _ i _ => M - (intOf i).toNat)
    case atStart => exact ⟨0, c.key.length, by omega, by omega, rfl, rfl, hidden HSH0.out.symm, hidden (Below.refl _ _)⟩
    case round =>
     obtain ⟨j, p, hj, hp, rfl, rfl, HP, HB⟩ := hrel
     have bj : (j : Int) ≤ 140737488355328 := by omega
     have bp : (p : Int) ≤ 140737488355328 := by omega
     by_cases hlt : j < M
     ·have hltI : (j : Int) < (M : Int) := by omega
      obtain ⟨d, da, dc, dva, dvc, hdi, e0, e1, e2, e3, e4, hdk⟩ := HR.out j wr hlt HB.out
      have HDI := hidden hdi
      obtain ⟨x, hx⟩ : ∃ x, (wr.alloc (.cells #[.slice da d.key.length dc, .int .i64 d.kd, .slice dva d.val.length dvc, .int .i64 d.pg, .int .i64 d.ct] 41)).alloc (.cells #[.slice ka p kc, .slice da d.key.length dc] 25) = x := ⟨_, rfl⟩
      have hbx : Below wr.heap.size wr x := by rw [← hx]; exact bl_al (bl_al (Below.refl _ _) (Nat.le_refl _) _) (Nat.le_refl _) _
      have hg : x.heap[wr.heap.size + 1]? = some (.cells #[.slice ka p kc, .slice da d.key.length dc] 25 (0, 0)) := by
       have h1 := heap_alloc_last (wr.alloc (.cells #[.slice da d.key.length dc, .int .i64 d.kd, .slice dva d.val.length dvc, .int .i64 d.pg, .int .i64 d.ct] 41)) (.cells #[.slice ka p kc, .slice da d.key.length dc] 25)
       rw [hx] at h1
       simpa using h1
      have hsk : Sl x ka p kc (c.key.take p) := ((HKS.out.on (Nat.le_refl _) HB.out).on (Nat.le_refl _) hbx).take p (by omega)
      have HCM := hidden (common_any (some ⟨wr.heap.size + 1, 0, none⟩) 2 2 (c.key.take p) [d.key] x (sls_two hg hsk (hdk.on (Nat.le_refl _) hbx)))
      rw [cmN_two, lcp_take _ _ _ hp] at HCM
      have HNX := hidden (shn_take c.key r j d hdi)
      obtain ⟨q, hq⟩ : ∃ q, min p (lcp c.key d.key) = q := ⟨_, rfl⟩
      rw [hq] at HCM
      have hqp : q ≤ p := by omega
      have hqI : (q : Int) ≤ (p : Int) := by omega
      have hqc : (q : Int) ≤ (kc : Int) := by omega
      have HQ := hidden hq
      have HBX := hidden hbx
      clear hdk hdi hg hsk hbx hq
      go_wp2_with (first | (go_at_call 125; refine HCM.out.mono ?_; rintro e w2 ⟨rfl, q2, rfl⟩))
      go_roundw
      case rel => exact ⟨j + 1, q, by omega, by omega, by go_num, rfl, hidden (by rw [HNX.out, ← HP.out]; exact HQ.out.symm), hidden (bl_dr (bl_go HB.out (Nat.le_refl _) HBX.out) _)⟩
      case measure => simp [intOf]; omega
     ·obtain rfl : j = M := by omega
      have hlI : ¬ (j : Int) < (j : Int) := by omega
      have HT : Hid (p = shn c.key r) := hidden (by rw [HP.out, List.take_of_length_le (by rw [HLR.out]; exact Nat.le_refl _)])
      go_wp2
      go_ret
      rw [← HT.out]
      exact ⟨rfl, HB⟩
end Go.Proofs.YtlhkinlgolcpaaaGreatDoor
