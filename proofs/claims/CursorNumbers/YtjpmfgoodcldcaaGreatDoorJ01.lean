import Derived.Test.YtjpmfgoodcldcaaGreatDoorJ00
import Derived.Deep.QuietTactic
import Derived.BigQuiet
import Derived.WalkSmall
namespace Go.Proofs.YtjpmfgoodcldcaaGreatDoor
set_option maxRecDepth 100000
open Go.RowKit
set_option maxHeartbeats 1000000 in
theorem shifted_core (w : World) (R i0 i1 i2 i3 i4 i5 i6 i7 A0 A1 A2 A3 A4 A5 A6 A7 X1 X2 X3 X4 X5 X6 X7 : Nat)
  (h0 : bits .and .u32 (R : Int) 15 = (i0 : Int)) (h1 : bits .and .u32 ((R : Int) / 16) 15 = (i1 : Int)) (h2 : bits .and .u32 ((R : Int) / 256) 15 = (i2 : Int)) (h3 : bits .and .u32 ((R : Int) / 4096) 15 = (i3 : Int))
  (h4 : bits .and .u32 ((R : Int) / 65536) 15 = (i4 : Int)) (h5 : bits .and .u32 ((R : Int) / 1048576) 15 = (i5 : Int)) (h6 : bits .and .u32 ((R : Int) / 16777216) 15 = (i6 : Int)) (h7 : (R : Int) / 268435456 = (i7 : Int))
  (b0 : i0 < 16) (b1 : i1 < 16) (b2 : i2 < 16) (b3 : i3 < 16) (b4 : i4 < 16) (b5 : i5 < 16) (b6 : i6 < 16) (b7 : i7 < 16)
  (c0 : w.cell? ⟨1, 112 + i0, none⟩ = some (.int .u32 A0)) (c1 : w.cell? ⟨1, 96 + i1, none⟩ = some (.int .u32 A1)) (c2 : w.cell? ⟨1, 80 + i2, none⟩ = some (.int .u32 A2)) (c3 : w.cell? ⟨1, 64 + i3, none⟩ = some (.int .u32 A3))
  (c4 : w.cell? ⟨1, 48 + i4, none⟩ = some (.int .u32 A4)) (c5 : w.cell? ⟨1, 32 + i5, none⟩ = some (.int .u32 A5)) (c6 : w.cell? ⟨1, 16 + i6, none⟩ = some (.int .u32 A6)) (c7 : w.cell? ⟨1, i7, none⟩ = some (.int .u32 A7))
  (x1 : bits .xor .u32 (A0 : Int) (A1 : Int) = (X1 : Int)) (x2 : bits .xor .u32 (X1 : Int) (A2 : Int) = (X2 : Int)) (x3 : bits .xor .u32 (X2 : Int) (A3 : Int) = (X3 : Int)) (x4 : bits .xor .u32 (X3 : Int) (A4 : Int) = (X4 : Int))
  (x5 : bits .xor .u32 (X4 : Int) (A5 : Int) = (X5 : Int)) (x6 : bits .xor .u32 (X5 : Int) (A6 : Int) = (X6 : Int)) (x7 : bits .xor .u32 (X6 : Int) (A7 : Int) = (X7 : Int)) :
  Calls Tryz.prog 150 #[.int .u32 R] w fun e w' => e = .returned (.int .u32 X7) ∧ ∃ q, w' = w.drewN q := by
 go_enter Tryz.func150, Tryz.ntmps150
 go_wp2_with fail
 go_quiet (fail)
 go_wp2
 go_ret
 exact ⟨rfl, _, rfl⟩
theorem shifted_any (w : World) (R : Nat) (hR : R < 4294967296) (ht : Tab w) : Calls Tryz.prog 150 #[.int .u32 R] w fun e w' => e = .returned (.int .u32 (sh R)) ∧ ∃ q, w' = w.drewN q :=
 shifted_core w R (R % 16) (R / 16 % 16) (R / 256 % 16) (R / 4096 % 16) (R / 65536 % 16) (R / 1048576 % 16) (R / 16777216 % 16) (R / 268435456) _ _ _ _ _ _ _ _ _ _ _ _ _ _ _
  (by rw [and15 _ (by omega) (by omega)]; omega) (by rw [and15 _ (by omega) (by omega)]; omega) (by rw [and15 _ (by omega) (by omega)]; omega) (by rw [and15 _ (by omega) (by omega)]; omega)
  (by rw [and15 _ (by omega) (by omega)]; omega) (by rw [and15 _ (by omega) (by omega)]; omega) (by rw [and15 _ (by omega) (by omega)]; omega) (by omega)
  (by omega) (by omega) (by omega) (by omega) (by omega) (by omega) (by omega) (by omega)
  (ht _ (by omega)) (ht _ (by omega)) (ht _ (by omega)) (ht _ (by omega)) (ht _ (by omega)) (ht _ (by omega)) (ht _ (by omega)) (ht _ (by omega))
  (u32_xor_nat _ _ (tN_lt _) (tN_lt _)) (u32_xor_nat _ _ (xor32 (tN_lt _) (tN_lt _)) (tN_lt _)) (u32_xor_nat _ _ (xor32 (xor32 (tN_lt _) (tN_lt _)) (tN_lt _)) (tN_lt _))
  (u32_xor_nat _ _ (xor32 (xor32 (xor32 (tN_lt _) (tN_lt _)) (tN_lt _)) (tN_lt _)) (tN_lt _)) (u32_xor_nat _ _ (xor32 (xor32 (xor32 (xor32 (tN_lt _) (tN_lt _)) (tN_lt _)) (tN_lt _)) (tN_lt _)) (tN_lt _))
  (u32_xor_nat _ _ (xor32 (xor32 (xor32 (xor32 (xor32 (tN_lt _) (tN_lt _)) (tN_lt _)) (tN_lt _)) (tN_lt _)) (tN_lt _)) (tN_lt _))
  (u32_xor_nat _ _ (xor32 (xor32 (xor32 (xor32 (xor32 (xor32 (tN_lt _) (tN_lt _)) (tN_lt _)) (tN_lt _)) (tN_lt _)) (tN_lt _)) (tN_lt _)) (tN_lt _))
theorem tb_pack (w : World) (r C : Nat) (ht : Tab w) (hr : r < 4294967296) (hC : C < 4294967296) : ∃ R i1 i2 D A B X1 X2 : Nat, bits .xor .u32 (r : Int) (C : Int) = (R : Int) ∧ bits .and .u32 (R : Int) 15 = (i1 : Int) ∧ bits .and .u32 ((R : Int) / 16) 15 = (i2 : Int) ∧
  i1 < 16 ∧ i2 < 16 ∧ (R : Int) / 256 = (D : Int) ∧ w.cell? ⟨1, 16 + i1, none⟩ = some (.int .u32 A) ∧ w.cell? ⟨1, i2, none⟩ = some (.int .u32 B) ∧ bits .xor .u32 (D : Int) (A : Int) = (X1 : Int) ∧ bits .xor .u32 (X1 : Int) (B : Int) = (X2 : Int) ∧
  Hid (X2 = tb (r ^^^ C)) ∧ X2 < 4294967296 := by
 have hR := xor32 hr hC
 refine ⟨r ^^^ C, (r ^^^ C) % 16, (r ^^^ C) / 16 % 16, (r ^^^ C) / 256, tN (16 + (r ^^^ C) % 16), tN ((r ^^^ C) / 16 % 16), _, _, u32_xor_nat _ _ hr hC, ?_, ?_, by omega, by omega, by omega, ht _ (by omega), ht _ (by omega), u32_xor_nat _ _ (by omega) (tN_lt _), u32_xor_nat _ _ (xor32 (by omega) (tN_lt _)) (tN_lt _), rfl, tb_lt hR⟩
 ·rw [and15 _ (by omega) (by omega)]; omega
 ·rw [and15 _ (by omega) (by omega)]; omega
theorem or_pack (r a b c d : Nat) (hr : r < 4294967296) (ha : a < 256) (hb : b < 256) (hc : c < 256) (hd : d < 256) : ∃ O1 O2 O3 X : Nat, bits .or .u32 (a : Int) ((b : Int) * 256) = (O1 : Int) ∧ bits .or .u32 (O1 : Int) ((c : Int) * 65536) = (O2 : Int) ∧
  bits .or .u32 (O2 : Int) ((d : Int) * 16777216) = (O3 : Int) ∧ bits .xor .u32 (r : Int) (O3 : Int) = (X : Int) ∧ Hid (X = r ^^^ (a ||| b * 256 ||| c * 65536 ||| d * 16777216)) ∧ X < 4294967296 := by
 have o1 : (a ||| b * 256) < 4294967296 := Nat.or_lt_two_pow (n := 32) (by omega) (by omega)
 have o2 : (a ||| b * 256 ||| c * 65536) < 4294967296 := Nat.or_lt_two_pow (n := 32) o1 (by omega)
 have o3 : (a ||| b * 256 ||| c * 65536 ||| d * 16777216) < 4294967296 := Nat.or_lt_two_pow (n := 32) o2 (by omega)
 exact ⟨_, _, _, _, by simpa using u32_or_nat a (b * 256) (by omega) (by omega), by simpa using u32_or_nat _ (c * 65536) o1 (by omega), by simpa using u32_or_nat _ (d * 16777216) o2 (by omega), u32_xor_nat _ _ hr o3, rfl, xor32 hr o3⟩
theorem quiet_call' {P : Program} {f : FuncId} {args : Array Value} {w : World} {v : Value} {Q : Ending → World → Prop} (h : Calls P f args w fun e w' => e = .returned v ∧ ∃ q, w' = w.drewN q) (hQ : ∀ q, Q (.returned v) (w.drewN q)) : Calls P f args w Q :=
 h.mono fun e w' ⟨he, q, hw⟩ => by subst he; rw [hw]; exact hQ q
theorem tk_four (l : List Int) (r : Nat) (h : 4 ≤ l.length) : tk (l.map Int.toNat) r = tk ((l.drop 4).map Int.toNat) (sh (r ^^^ ((l.getD 0 0).toNat ||| (l.getD 1 0).toNat * 256 ||| (l.getD 2 0).toNat * 65536 ||| (l.getD 3 0).toNat * 16777216))) := by
 match l, h with
 | a :: b :: c :: d :: l, _ => simp [tk]
theorem tk_less (l : List Int) (r : Nat) (h : l.length < 4) : tk (l.map Int.toNat) r = tk1 r (l.map Int.toNat) := by
 match l, h with
 | [], _ => rfl
 | [_], _ => rfl
 | [_, _], _ => rfl
 | [_, _, _], _ => rfl
theorem tk1_cons (l : List Int) (k r : Nat) (h : k < l.length) : tk1 r ((l.drop k).map Int.toNat) = tk1 (tb (r ^^^ (l.getD k 0).toNat)) ((l.drop (k + 1)).map Int.toNat) := by
 rw [drop_cons l k h]
 simp [tk1]
theorem Sl.four {w : World} {b off n cap : Nat} {l : List Int} (h : Sl w (some ⟨b, off, none⟩) n cap l) (h4 : 4 ≤ n) (ao : Option Addr) (hao : ¬ cap = 4 → ao = some ⟨b, off + 4, none⟩) (hn : ao = none → False) : Sl w ao (n - 4) (cap - 4) (l.drop 4) := by
 obtain ⟨hlen, hcap, hroom, hwf, hnil, hat⟩ := h
 refine ⟨by simp; omega, by omega, by omega, hwf.drop 4, fun e => (hn e).elim, ?_⟩
 rcases hat with h0 | ⟨b', off', e, hlt, hc⟩
 ·omega
 ·cases e
  by_cases hc4 : cap = 4
  ·exact .inl (by omega)
  ·refine .inr ⟨b, off + 4, hao hc4, hlt, fun i hi => ?_⟩
   rw [Nat.add_assoc, hc (4 + i) (by omega)]
   simp [List.getD]
set_option maxHeartbeats 2000000 in
theorem taken_any (ao : Option Addr) (n cap : Nat) (l : List Int) (r : Nat) (w : World) (hs : Sl w ao n cap l) (ht : Tab w) (hr : r < 4294967296) :
  Calls Tryz.prog 137 #[.int .u32 r, .slice ao n cap] w fun e w' => e = .returned (.int .u32 (tk (l.map Int.toNat) r)) ∧ ∃ q, w' = w.drewN q := by
 have HT := hidden ht
 have HS := hidden hs
 clear ht hs
 generalize hF : tk (l.map Int.toNat) r = F
 have HF := hidden hF
 clear hF
 go_enter Tryz.func137, Tryz.ntmps137
 go_wp2_with fail
 go_loopw [0, 1] (fun v p wr => ∃ (ao' : Option Addr) (n' cap' : Nat) (l' : List Int) (q x : Nat), v = .int .u32 x ∧ x < 4294967296 ∧ p = .slice ao' n' cap' ∧ Hid (Sl w ao' n' cap' l') ∧ Hid (tk (l'.map Int.toNat) x = F) ∧ wr = w.drewN q) (fun _ p _ => match p with | .slice _ n _ => n | _ => 0)
 case atStart => exact ⟨ao, n, cap, l, 0, r, rfl, hr, rfl, HS, HF, rfl⟩
 case round =>
  obtain ⟨ao', n', cap', l', q, x, rfl, hx, rfl, HS', HF', rfl⟩ := hrel
  have hl' := HS'.out.hlen
  have hroom := HS'.out.hroom
  by_cases h4 : 4 ≤ n'
  ·rcases HS'.out.hat with h | ⟨b, off, rfl, hbb, hc⟩
   ·omega
   have c0 := hc 0 (by omega)
   have c1 := hc 1 (by omega)
   have c2 := hc 2 (by omega)
   have c3 := hc 3 (by omega)
   have w0 := HS'.out.wf.getD 0
   have w1 := HS'.out.wf.getD 1
   have w2 := HS'.out.wf.getD 2
   have w3 := HS'.out.wf.getD 3
   have hcap := HS'.out.hcap
   have e4 := tk_four l' x (by omega)
   rw [HF'.out] at e4
   clear hc
   generalize l'.getD 0 0 = a0 at *
   generalize l'.getD 1 0 = a1 at *
   generalize l'.getD 2 0 = a2 at *
   generalize l'.getD 3 0 = a3 at *
   obtain ⟨B0, rfl⟩ := Int.eq_ofNat_of_zero_le w0.1
   obtain ⟨B1, rfl⟩ := Int.eq_ofNat_of_zero_le w1.1
   obtain ⟨B2, rfl⟩ := Int.eq_ofNat_of_zero_le w2.1
   obtain ⟨B3, rfl⟩ := Int.eq_ofNat_of_zero_le w3.1
   simp only [Int.toNat_natCast] at e4
   obtain ⟨O1, O2, O3, X, o1, o2, o3, ox, HX, hX⟩ := or_pack x B0 B1 B2 B3 hx (by omega) (by omega) (by omega) (by omega)
   rw [← HX.out] at e4
   have E4 := hidden e4
   clear e4 HX
   simp only [Nat.add_zero] at c0
   go_wp2_with fail
   go_quiet (fail)
   go_wp2_with fail
   have hsx := shifted_any (w.drewN (q + nq)) X hX (HT.out.drewN _)
   have hS := sh_lt X
   generalize sh X = S at *
   refine quiet_call' hsx ?_
   clear hsx c0 c1 c2 c3 o1 o2 o3 ox w0 w1 w2 w3
   intro q2
   by_cases hc4 : cap' = 4
   ·have HN := hidden (HS'.out.four h4 (some ⟨b, off, none⟩) (fun h => absurd hc4 h) (fun h => by cases h))
    subst hc4
    go_wp2
    go_roundw
    case rel => exact ⟨_, _, _, l'.drop 4, _, S, rfl, hS, rfl, by have h := HN.out; rw [show n' - 4 = 0 by omega] at h; exact h, E4.out.symm, rfl⟩
    case measure => simp; omega
   ·have HN := hidden (HS'.out.four h4 (some ⟨b, off + 4, none⟩) (fun _ => rfl) (fun h => by cases h))
    go_wp2
    go_roundw
    case rel => exact ⟨_, _, _, l'.drop 4, _, S, rfl, hS, rfl, HN, E4.out.symm, rfl⟩
    case measure => simp; omega
  ·have e1 := tk_less l' x (by omega)
   rw [HF'.out] at e1
   have E1 := hidden e1
   clear e1 HF' HF HS
   go_wp2_with fail
   go_loopw [0, 40] (fun v i wr => ∃ (k q y : Nat), k ≤ n' ∧ i = .int .i64 k ∧ v = .int .u32 y ∧ y < 4294967296 ∧ Hid (F = tk1 y ((l'.drop k).map Int.toNat)) ∧ wr = w.drewN q) (fun _ i _ => n' - (intOf i).toNat)
   case atStart => exact ⟨0, q, x, by omega, rfl, rfl, hx, E1, rfl⟩
   case round =>
    obtain ⟨k, q', y, hk, rfl, rfl, hy, HK, rfl⟩ := hrel
    clear E1
    by_cases hlt : k < n'
    ·rcases HS'.out.hat with h | ⟨b, off, rfl, hbb, hc⟩
     ·omega
     have ck := hc k hlt
     have wk := HS'.out.wf.getD k
     have ek := tk1_cons l' k y (by omega)
     rw [← HK.out] at ek
     clear hc
     generalize l'.getD k 0 = a0 at *
     obtain ⟨C, rfl⟩ := Int.eq_ofNat_of_zero_le wk.1
     simp only [Int.toNat_natCast] at ek
     obtain ⟨R, i1, i2, D, A, B, X1, X2, p1, p2, p3, p4, p5, p6, p7, p8, p9, p10, HX, hX⟩ := tb_pack w y C HT.out hy (by omega)
     rw [← HX.out] at ek
     have EK := hidden ek
     clear ek HX HK
     go_wp2_with fail
     go_quiet (fail)
     go_wp2
     go_roundw
     case rel => exact ⟨k + 1, _, X2, by omega, by go_num, rfl, hX, EK, rfl⟩
     case measure => simp [intOf]; omega
    ·have eK : F = y := by
      rw [HK.out, List.drop_eq_nil_of_le (by omega)]
      rfl
     have EK := hidden eK
     clear eK HK
     go_wp2
     go_ret
     exact ⟨ret_int (by rw [EK.out]), _, rfl⟩
end Go.Proofs.YtjpmfgoodcldcaaGreatDoor
