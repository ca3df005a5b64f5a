/- The check sum, as package ink's text reckons it with its table. -/
import Derived.Test.YtiemnbanehdmnaaGreatDoorJa
import Derived.Deep.Draws
import Derived.Deep.QuietTactic
import Derived.BigQuiet
import Derived.WalkSmall
namespace Go.Proofs.YtiemnbanehdmnaaGreatDoor
open Go.RowKit

/-- The table of package ink, row by row. -/
def tabN : List Nat := [0, 274646895, 549293790, 820201905, 1098587580, 1361435347, 1640403810, 1905808397, 2197175160, 2460548119, 2722870694, 2987750089, 3280807620, 3553878443, 3811616794, 4084100981, 0, 4067132163, 3778769143, 324072436, 3348797215, 904991772, 648144872, 3570033899, 2329499855, 2024987596, 1809983544, 2575936315, 1296289744, 3207089363, 2893594407, 1578318884, 0, 1069937025, 2139874050, 1078858371, 4279748100, 3235002245, 2157716742, 3210335367, 4223924985, 3288730488, 2219317755, 3146639482, 81018109, 991022460, 2069880831, 1150955134, 0, 329422967, 658845934, 887597209, 1317691868, 1562966443, 1775194418, 2054015301, 2635383736, 2394315727, 3125932886, 2851302177, 3550388836, 3225172499, 4108030602, 3883469565, 0, 1889697162, 3779394324, 2447804062, 3345318105, 3083337043, 639728589, 1451427399, 2334619459, 4219800265, 1784908887, 448917981, 1279457178, 1021348368, 2902854798, 3718541572, 0, 2772537982, 1332695565, 3928932467, 2665391130, 1000289892, 3518101015, 1961911401, 944848581, 2635115707, 2000579784, 3531603638, 2794429151, 63834273, 3923822802, 1285642924, 0, 3915690301, 3609531531, 1044489654, 2879807463, 1120071386, 2088979308, 2515008081, 1386268991, 3150215170, 2240142772, 1826712713, 4177958616, 274868197, 774079059, 3343332206, 0, 3712330424, 3211207553, 1646430521, 2065838579, 2791807819, 3292861042, 419477706, 4131677158, 721537374, 1227047015, 2489772767, 2372293141, 1344534701, 838955412, 4014267180]
def tN (i : Nat) : Nat := tabN.getD i 0
set_option maxRecDepth 100000 in
theorem tN_lt (i : Nat) : tN i < 4294967296 := by
  by_cases h : i < 128
  · have h' : ∀ a : Fin 128, tN a.val < 4294967296 := by decide +kernel
    exact h' ⟨i, h⟩
  · have : tN i = 0 := by
      unfold tN
      rw [List.getD_eq_getElem?_getD, List.getElem?_eq_none (by rw [show tabN.length = 128 from rfl]; omega)]
      rfl
    omega
/-- The register behind a byte that has been xored in. -/
def tb (R : Nat) : Nat := R / 256 ^^^ tN (16 + R % 16) ^^^ tN (R / 16 % 16)
/-- The register behind four bytes that have been xored in. -/
def sh (R : Nat) : Nat := tN (112 + R % 16) ^^^ tN (96 + R / 16 % 16) ^^^ tN (80 + R / 256 % 16) ^^^ tN (64 + R / 4096 % 16) ^^^ tN (48 + R / 65536 % 16) ^^^ tN (32 + R / 1048576 % 16) ^^^ tN (16 + R / 16777216 % 16) ^^^ tN (R / 268435456)
set_option maxRecDepth 100000 in
theorem xor32 {a b : Nat} (ha : a < 4294967296) (hb : b < 4294967296) : a ^^^ b < 4294967296 := Nat.xor_lt_two_pow (n := 32) ha hb
set_option maxRecDepth 100000 in
theorem tb_lt {R : Nat} (h : R < 4294967296) : tb R < 4294967296 := xor32 (xor32 (by omega) (tN_lt _)) (tN_lt _)
set_option maxRecDepth 100000 in
theorem sh_lt (R : Nat) : sh R < 4294967296 := xor32 (xor32 (xor32 (xor32 (xor32 (xor32 (xor32 (tN_lt _) (tN_lt _)) (tN_lt _)) (tN_lt _)) (tN_lt _)) (tN_lt _)) (tN_lt _)) (tN_lt _)
set_option maxRecDepth 100000 in
theorem and15 (a : Int) (h0 : 0 ≤ a) (h1 : a < 4294967296) : bits .and .u32 a 15 = a % 16 := by
  rw [u32_and _ _ (by omega) (by omega) (by omega) (by omega), show (15 : Int).toNat = 2 ^ 4 - 1 from rfl, Nat.and_two_pow_sub_one_eq_mod]
  omega
/-- The world holds the table. -/
def Tab (w : World) : Prop := ∀ i, i < 128 → w.cell? ⟨1, i, none⟩ = some (.int .u32 (tN i))
set_option maxRecDepth 100000 in
theorem Tab.on {w w' : World} (h : Tab w) {B : Nat} (hb : Below B w w') (hB : 1 < B) : Tab w' := fun i hi => (hb.cell (p := ⟨1, i, none⟩) hB).trans (h i hi)
set_option maxRecDepth 100000 in
theorem Tab.drewN {w : World} (h : Tab w) (q : Nat) : Tab (w.drewN q) := fun i hi => by simpa using h i hi

/-- What 'taken' comes to: four bytes at a time, then byte by byte. -/
def tk1 (r : Nat) (l : List Nat) : Nat := l.foldl (fun r c => tb (r ^^^ c)) r
def tk : List Nat → Nat → Nat
  | a :: b :: c :: d :: l, r => tk l (sh (r ^^^ (a ||| b * 256 ||| c * 65536 ||| d * 16777216)))
  | l, r => tk1 r l
end Go.Proofs.YtiemnbanehdmnaaGreatDoor

/- ink.taken and ink.shifted, followed as their text goes. -/

namespace Go.Proofs.YtiemnbanehdmnaaGreatDoor
open Go.RowKit

set_option maxRecDepth 100000 in
set_option maxHeartbeats 1000000 in
theorem shifted_core (w : World) (R i0 i1 i2 i3 i4 i5 i6 i7 A0 A1 A2 A3 A4 A5 A6 A7 X1 X2 X3 X4 X5 X6 X7 : Nat)
    (h0 : bits .and .u32 (R : Int) 15 = (i0 : Int)) (h1 : bits .and .u32 ((R : Int) / 16) 15 = (i1 : Int)) (h2 : bits .and .u32 ((R : Int) / 256) 15 = (i2 : Int)) (h3 : bits .and .u32 ((R : Int) / 4096) 15 = (i3 : Int))
    (h4 : bits .and .u32 ((R : Int) / 65536) 15 = (i4 : Int)) (h5 : bits .and .u32 ((R : Int) / 1048576) 15 = (i5 : Int)) (h6 : bits .and .u32 ((R : Int) / 16777216) 15 = (i6 : Int)) (h7 : (R : Int) / 268435456 = (i7 : Int))
    (b0 : i0 < 16) (b1 : i1 < 16) (b2 : i2 < 16) (b3 : i3 < 16) (b4 : i4 < 16) (b5 : i5 < 16) (b6 : i6 < 16) (b7 : i7 < 16)
    (c0 : w.cell? ⟨1, 112 + i0, none⟩ = some (.int .u32 A0)) (c1 : w.cell? ⟨1, 96 + i1, none⟩ = some (.int .u32 A1)) (c2 : w.cell? ⟨1, 80 + i2, none⟩ = some (.int .u32 A2)) (c3 : w.cell? ⟨1, 64 + i3, none⟩ = some (.int .u32 A3))
    (c4 : w.cell? ⟨1, 48 + i4, none⟩ = some (.int .u32 A4)) (c5 : w.cell? ⟨1, 32 + i5, none⟩ = some (.int .u32 A5)) (c6 : w.cell? ⟨1, 16 + i6, none⟩ = some (.int .u32 A6)) (c7 : w.cell? ⟨1, i7, none⟩ = some (.int .u32 A7))
    (x1 : bits .xor .u32 (A0 : Int) (A1 : Int) = (X1 : Int)) (x2 : bits .xor .u32 (X1 : Int) (A2 : Int) = (X2 : Int)) (x3 : bits .xor .u32 (X2 : Int) (A3 : Int) = (X3 : Int)) (x4 : bits .xor .u32 (X3 : Int) (A4 : Int) = (X4 : Int))
    (x5 : bits .xor .u32 (X4 : Int) (A5 : Int) = (X5 : Int)) (x6 : bits .xor .u32 (X5 : Int) (A6 : Int) = (X6 : Int)) (x7 : bits .xor .u32 (X6 : Int) (A7 : Int) = (X7 : Int)) :
    Calls Tryz.prog 152 #[.int .u32 R] w fun e w' => e = .returned (.int .u32 X7) ∧ ∃ q, w' = w.drewN q := by
  go_enter Tryz.func152, Tryz.ntmps152
  go_wp2_with fail
  go_quiet (fail)
  go_wp2
  go_ret
  exact ⟨rfl, _, rfl⟩

set_option maxRecDepth 100000 in
theorem shifted_any (w : World) (R : Nat) (hR : R < 4294967296) (ht : Tab w) : Calls Tryz.prog 152 #[.int .u32 R] w fun e w' => e = .returned (.int .u32 (sh R)) ∧ ∃ q, w' = w.drewN q :=
  shifted_core w R (R % 16) (R / 16 % 16) (R / 256 % 16) (R / 4096 % 16) (R / 65536 % 16) (R / 1048576 % 16) (R / 16777216 % 16) (R / 268435456) _ _ _ _ _ _ _ _ _ _ _ _ _ _ _
    (by rw [and15 _ (by omega) (by omega)]; omega) (by rw [and15 _ (by omega) (by omega)]; omega) (by rw [and15 _ (by omega) (by omega)]; omega) (by rw [and15 _ (by omega) (by omega)]; omega)
    (by rw [and15 _ (by omega) (by omega)]; omega) (by rw [and15 _ (by omega) (by omega)]; omega) (by rw [and15 _ (by omega) (by omega)]; omega) (by omega)
    (by omega) (by omega) (by omega) (by omega) (by omega) (by omega) (by omega) (by omega)
    (ht _ (by omega)) (ht _ (by omega)) (ht _ (by omega)) (ht _ (by omega)) (ht _ (by omega)) (ht _ (by omega)) (ht _ (by omega)) (ht _ (by omega))
    (u32_xor_nat _ _ (tN_lt _) (tN_lt _)) (u32_xor_nat _ _ (xor32 (tN_lt _) (tN_lt _)) (tN_lt _)) (u32_xor_nat _ _ (xor32 (xor32 (tN_lt _) (tN_lt _)) (tN_lt _)) (tN_lt _))
    (u32_xor_nat _ _ (xor32 (xor32 (xor32 (tN_lt _) (tN_lt _)) (tN_lt _)) (tN_lt _)) (tN_lt _)) (u32_xor_nat _ _ (xor32 (xor32 (xor32 (xor32 (tN_lt _) (tN_lt _)) (tN_lt _)) (tN_lt _)) (tN_lt _)) (tN_lt _))
    (u32_xor_nat _ _ (xor32 (xor32 (xor32 (xor32 (xor32 (tN_lt _) (tN_lt _)) (tN_lt _)) (tN_lt _)) (tN_lt _)) (tN_lt _)) (tN_lt _))
    (u32_xor_nat _ _ (xor32 (xor32 (xor32 (xor32 (xor32 (xor32 (tN_lt _) (tN_lt _)) (tN_lt _)) (tN_lt _)) (tN_lt _)) (tN_lt _)) (tN_lt _)) (tN_lt _))

set_option maxRecDepth 100000 in
theorem tb_pack (w : World) (r C : Nat) (ht : Tab w) (hr : r < 4294967296) (hC : C < 4294967296) : ∃ R i1 i2 D A B X1 X2 : Nat, bits .xor .u32 (r : Int) (C : Int) = (R : Int) ∧ bits .and .u32 (R : Int) 15 = (i1 : Int) ∧ bits .and .u32 ((R : Int) / 16) 15 = (i2 : Int) ∧
    i1 < 16 ∧ i2 < 16 ∧ (R : Int) / 256 = (D : Int) ∧ w.cell? ⟨1, 16 + i1, none⟩ = some (.int .u32 A) ∧ w.cell? ⟨1, i2, none⟩ = some (.int .u32 B) ∧ bits .xor .u32 (D : Int) (A : Int) = (X1 : Int) ∧ bits .xor .u32 (X1 : Int) (B : Int) = (X2 : Int) ∧
    Hid (X2 = tb (r ^^^ C)) ∧ X2 < 4294967296 := by
  have hR := xor32 hr hC
  refine ⟨r ^^^ C, (r ^^^ C) % 16, (r ^^^ C) / 16 % 16, (r ^^^ C) / 256, tN (16 + (r ^^^ C) % 16), tN ((r ^^^ C) / 16 % 16), _, _, u32_xor_nat _ _ hr hC, ?_, ?_, by omega, by omega, by omega, ht _ (by omega), ht _ (by omega), u32_xor_nat _ _ (by omega) (tN_lt _), u32_xor_nat _ _ (xor32 (by omega) (tN_lt _)) (tN_lt _), rfl, tb_lt hR⟩
  · rw [and15 _ (by omega) (by omega)]; omega
  · rw [and15 _ (by omega) (by omega)]; omega
set_option maxRecDepth 100000 in
theorem or_pack (r a b c d : Nat) (hr : r < 4294967296) (ha : a < 256) (hb : b < 256) (hc : c < 256) (hd : d < 256) : ∃ O1 O2 O3 X : Nat, bits .or .u32 (a : Int) ((b : Int) * 256) = (O1 : Int) ∧ bits .or .u32 (O1 : Int) ((c : Int) * 65536) = (O2 : Int) ∧
    bits .or .u32 (O2 : Int) ((d : Int) * 16777216) = (O3 : Int) ∧ bits .xor .u32 (r : Int) (O3 : Int) = (X : Int) ∧ Hid (X = r ^^^ (a ||| b * 256 ||| c * 65536 ||| d * 16777216)) ∧ X < 4294967296 := by
  have o1 : (a ||| b * 256) < 4294967296 := Nat.or_lt_two_pow (n := 32) (by omega) (by omega)
  have o2 : (a ||| b * 256 ||| c * 65536) < 4294967296 := Nat.or_lt_two_pow (n := 32) o1 (by omega)
  have o3 : (a ||| b * 256 ||| c * 65536 ||| d * 16777216) < 4294967296 := Nat.or_lt_two_pow (n := 32) o2 (by omega)
  exact ⟨_, _, _, _, by simpa using u32_or_nat a (b * 256) (by omega) (by omega), by simpa using u32_or_nat _ (c * 65536) o1 (by omega), by simpa using u32_or_nat _ (d * 16777216) o2 (by omega), u32_xor_nat _ _ hr o3, rfl, xor32 hr o3⟩

set_option maxRecDepth 100000 in
theorem quiet_call' {P : Program} {f : FuncId} {args : Array Value} {w : World} {v : Value} {Q : Ending → World → Prop} (h : Calls P f args w fun e w' => e = .returned v ∧ ∃ q, w' = w.drewN q) (hQ : ∀ q, Q (.returned v) (w.drewN q)) : Calls P f args w Q :=
  h.mono fun e w' ⟨he, q, hw⟩ => by subst he; rw [hw]; exact hQ q

set_option maxRecDepth 100000 in
theorem toNat_getD (l : List Int) (k : Nat) : (l.map Int.toNat).getD k 0 = (l.getD k 0).toNat := by
  by_cases h : k < l.length
  · simp [List.getD, h]
  · simp [List.getD, List.getElem?_eq_none (Nat.le_of_not_lt h)]

set_option maxRecDepth 100000 in
theorem tk_four (l : List Int) (r : Nat) (h : 4 ≤ l.length) : tk (l.map Int.toNat) r = tk ((l.drop 4).map Int.toNat) (sh (r ^^^ ((l.getD 0 0).toNat ||| (l.getD 1 0).toNat * 256 ||| (l.getD 2 0).toNat * 65536 ||| (l.getD 3 0).toNat * 16777216))) := by
  match l, h with
  | a :: b :: c :: d :: l, _ => simp [tk]
set_option maxRecDepth 100000 in
theorem tk_less (l : List Int) (r : Nat) (h : l.length < 4) : tk (l.map Int.toNat) r = tk1 r (l.map Int.toNat) := by
  match l, h with
  | [], _ => rfl
  | [_], _ => rfl
  | [_, _], _ => rfl
  | [_, _, _], _ => rfl
set_option maxRecDepth 100000 in
theorem tk1_cons (l : List Int) (k r : Nat) (h : k < l.length) : tk1 r ((l.drop k).map Int.toNat) = tk1 (tb (r ^^^ (l.getD k 0).toNat)) ((l.drop (k + 1)).map Int.toNat) := by
  rw [drop_cons l k h]
  simp [tk1]

set_option maxRecDepth 100000 in
/-- A slice cut behind its first four bytes. -/
theorem Sl.four {w : World} {b off n cap : Nat} {l : List Int} (h : Sl w (some ⟨b, off, none⟩) n cap l) (h4 : 4 ≤ n) (ao : Option Addr) (hao : ¬ cap = 4 → ao = some ⟨b, off + 4, none⟩) (hn : ao = none → False) : Sl w ao (n - 4) (cap - 4) (l.drop 4) := by
  obtain ⟨hlen, hcap, hroom, hwf, hnil, hat⟩ := h
  refine ⟨by simp; omega, by omega, by omega, hwf.drop 4, fun e => (hn e).elim, ?_⟩
  rcases hat with h0 | ⟨b', off', e, hlt, hc⟩
  · omega
  · cases e
    by_cases hc4 : cap = 4
    · exact .inl (by omega)
    · refine .inr ⟨b, off + 4, hao hc4, hlt, fun i hi => ?_⟩
      rw [Nat.add_assoc, hc (4 + i) (by omega)]
      simp [List.getD]

set_option maxRecDepth 100000 in
set_option maxHeartbeats 2000000 in
theorem taken_any (ao : Option Addr) (n cap : Nat) (l : List Int) (r : Nat) (w : World) (hs : Sl w ao n cap l) (ht : Tab w) (hr : r < 4294967296) :
    Calls Tryz.prog 139 #[.int .u32 r, .slice ao n cap] w fun e w' => e = .returned (.int .u32 (tk (l.map Int.toNat) r)) ∧ ∃ q, w' = w.drewN q := by
  have HT := hidden ht
  have HS := hidden hs
  clear ht hs
  generalize hF : tk (l.map Int.toNat) r = F
  have HF := hidden hF
  clear hF
  go_enter Tryz.func139, Tryz.ntmps139
  go_wp2_with fail
  go_loopw [0, 1] (fun v p wr => ∃ (ao' : Option Addr) (n' cap' : Nat) (l' : List Int) (q x : Nat), v = .int .u32 x ∧ x < 4294967296 ∧ p = .slice ao' n' cap' ∧ Hid (Sl w ao' n' cap' l') ∧ Hid (tk (l'.map Int.toNat) x = F) ∧ wr = w.drewN q) (fun _ p _ => match p with | .slice _ n _ => n | _ => 0)
  case atStart => exact ⟨ao, n, cap, l, 0, r, rfl, hr, rfl, HS, HF, rfl⟩
  case round =>
    obtain ⟨ao', n', cap', l', q, x, rfl, hx, rfl, HS', HF', rfl⟩ := hrel
    have hl' := HS'.out.hlen
    have hroom := HS'.out.hroom
    by_cases h4 : 4 ≤ n'
    · rcases HS'.out.hat with h | ⟨b, off, rfl, hbb, hc⟩
      · omega
      have c0 := hc 0 (by omega)
      have c1 := hc 1 (by omega)
      have c2 := hc 2 (by omega)
      have c3 := hc 3 (by omega)
      have w0 := HS'.out.wf.getD 0
      have w1 := HS'.out.wf.getD 1
      have w2 := HS'.out.wf.getD 2
      have w3 := HS'.out.wf.getD 3
      have hcap := HS'.out.hcap
      have e4 := tk_four l' x (by omega)
      rw [HF'.out] at e4
      clear hc
      generalize l'.getD 0 0 = a0 at *
      generalize l'.getD 1 0 = a1 at *
      generalize l'.getD 2 0 = a2 at *
      generalize l'.getD 3 0 = a3 at *
      obtain ⟨B0, rfl⟩ := Int.eq_ofNat_of_zero_le w0.1
      obtain ⟨B1, rfl⟩ := Int.eq_ofNat_of_zero_le w1.1
      obtain ⟨B2, rfl⟩ := Int.eq_ofNat_of_zero_le w2.1
      obtain ⟨B3, rfl⟩ := Int.eq_ofNat_of_zero_le w3.1
      simp only [Int.toNat_natCast] at e4
      obtain ⟨O1, O2, O3, X, o1, o2, o3, ox, HX, hX⟩ := or_pack x B0 B1 B2 B3 hx (by omega) (by omega) (by omega) (by omega)
      rw [← HX.out] at e4
      have E4 := hidden e4
      clear e4 HX
      simp only [Nat.add_zero] at c0
      go_wp2_with fail
      go_quiet (fail)
      go_wp2_with fail
      have hsx := shifted_any (w.drewN (q + nq)) X hX (HT.out.drewN _)
      have hS := sh_lt X
      generalize sh X = S at *
      refine quiet_call' hsx ?_
      clear hsx c0 c1 c2 c3 o1 o2 o3 ox w0 w1 w2 w3
      intro q2
      by_cases hc4 : cap' = 4
      · have HN := hidden (HS'.out.four h4 (some ⟨b, off, none⟩) (fun h => absurd hc4 h) (fun h => by cases h))
        subst hc4
        go_wp2
        go_roundw
        case rel => exact ⟨_, _, _, l'.drop 4, _, S, rfl, hS, rfl, by have h := HN.out; rw [show n' - 4 = 0 by omega] at h; exact h, E4.out.symm, rfl⟩
        case measure => simp; omega
      · have HN := hidden (HS'.out.four h4 (some ⟨b, off + 4, none⟩) (fun _ => rfl) (fun h => by cases h))
        go_wp2
        go_roundw
        case rel => exact ⟨_, _, _, l'.drop 4, _, S, rfl, hS, rfl, HN, E4.out.symm, rfl⟩
        case measure => simp; omega
    · have e1 := tk_less l' x (by omega)
      rw [HF'.out] at e1
      have E1 := hidden e1
      clear e1 HF' HF HS
      go_wp2_with fail
      go_loopw [0, 40] (fun v i wr => ∃ (k q y : Nat), k ≤ n' ∧ i = .int .i64 k ∧ v = .int .u32 y ∧ y < 4294967296 ∧ Hid (F = tk1 y ((l'.drop k).map Int.toNat)) ∧ wr = w.drewN q) (fun _ i _ => n' - (intOf i).toNat)
      case atStart => exact ⟨0, q, x, by omega, rfl, rfl, hx, E1, rfl⟩
      case round =>
        obtain ⟨k, q', y, hk, rfl, rfl, hy, HK, rfl⟩ := hrel
        clear E1
        by_cases hlt : k < n'
        · rcases HS'.out.hat with h | ⟨b, off, rfl, hbb, hc⟩
          · omega
          have ck := hc k hlt
          have wk := HS'.out.wf.getD k
          have ek := tk1_cons l' k y (by omega)
          rw [← HK.out] at ek
          clear hc
          generalize l'.getD k 0 = a0 at *
          obtain ⟨C, rfl⟩ := Int.eq_ofNat_of_zero_le wk.1
          simp only [Int.toNat_natCast] at ek
          obtain ⟨R, i1, i2, D, A, B, X1, X2, p1, p2, p3, p4, p5, p6, p7, p8, p9, p10, HX, hX⟩ := tb_pack w y C HT.out hy (by omega)
          rw [← HX.out] at ek
          have EK := hidden ek
          clear ek HX HK
          go_wp2_with fail
          go_quiet (fail)
          go_wp2
          go_roundw
          case rel => exact ⟨k + 1, _, X2, by omega, by go_num, rfl, hX, EK, rfl⟩
          case measure => simp [intOf]; omega
        · have eK : F = y := by
            rw [HK.out, List.drop_eq_nil_of_le (by omega)]
            rfl
          have EK := hidden eK
          clear eK HK
          go_wp2
          go_ret
          exact ⟨ret_int (by rw [EK.out]), _, rfl⟩

end Go.Proofs.YtiemnbanehdmnaaGreatDoor

/- ink.Sum, followed as its text goes. -/

namespace Go.Proofs.YtiemnbanehdmnaaGreatDoor
open Go.RowKit

/-- A slice of slices of bytes. -/
structure SlS (w : World) (ao : Option Addr) (n cap : Nat) (ls : List (List Int)) : Prop where
  hlen : ls.length = n
  hcap : n ≤ cap
  hroom : n ≤ 140737488355328
  hnil : ao = none → cap = 0
  hat : n = 0 ∨ ∃ b off, ao = some ⟨b, off, none⟩ ∧ b < w.heap.size ∧ ∀ i, i < n → ∃ a m c, w.cell? ⟨b, off + i, none⟩ = some (.slice a m c) ∧ Sl w a m c (ls.getD i [])

/-- What Sum comes to. -/
def sumN (ls : List (List Int)) : Nat := 4294967295 ^^^ ls.foldl (fun r l => tk (l.map Int.toNat) r) 4294967295
set_option maxRecDepth 100000 in
theorem tk1_lt : ∀ (l : List Nat) (r : Nat), r < 4294967296 → (∀ x ∈ l, x < 256) → tk1 r l < 4294967296
  | [], _, h, _ => h
  | c :: l, r, h, hl => by
    show tk1 (tb (r ^^^ c)) l < _
    exact tk1_lt l _ (tb_lt (xor32 h (by have := hl c (by simp); omega))) (fun x hx => hl x (by simp [hx]))
set_option maxRecDepth 100000 in
theorem tk_lt : ∀ (l : List Nat) (r : Nat), r < 4294967296 → (∀ x ∈ l, x < 256) → tk l r < 4294967296
  | [], _, h, _ => h
  | [a], r, h, hl => tk1_lt [a] r h hl
  | [a, b], r, h, hl => tk1_lt [a, b] r h hl
  | [a, b, c], r, h, hl => tk1_lt [a, b, c] r h hl
  | a :: b :: c :: d :: l, r, _, hl => by
    show tk l (sh _) < _
    exact tk_lt l _ (sh_lt _) (fun x hx => hl x (by simp [hx]))
set_option maxRecDepth 100000 in
theorem nat_lt (l : List Int) (h : Wf l) : ∀ x ∈ l.map Int.toNat, x < 256 := by
  intro x hx
  obtain ⟨y, hy, rfl⟩ := List.mem_map.1 hx
  have := h y hy
  omega
set_option maxRecDepth 100000 in
theorem dropS (ls : List (List Int)) (k : Nat) (h : k < ls.length) : ls.drop k = ls.getD k [] :: ls.drop (k + 1) := by
  rw [List.drop_eq_getElem_cons h]
  simp [List.getD, List.getElem?_eq_getElem h]

set_option maxRecDepth 100000 in
set_option maxHeartbeats 1000000 in
theorem sum_any (ao : Option Addr) (n cap : Nat) (ls : List (List Int)) (w : World) (hs : SlS w ao n cap ls) (ht : Tab w) :
    Calls Tryz.prog 91 #[.slice ao n cap] w fun e w' => e = .returned (.int .u32 (sumN ls)) ∧ ∃ q, w' = w.drewN q := by
  have HT := hidden ht
  clear ht
  obtain ⟨hlen, hcap, hroom, hnil, hat⟩ := hs
  unfold sumN
  generalize hF : ls.foldl (fun r l => tk (l.map Int.toNat) r) 4294967295 = F
  have HF := hidden hF
  clear hF
  go_enter Tryz.func91, Tryz.ntmps91
  go_wp2_with fail
  go_loopw [3, 8] (fun v i wr => ∃ (k q y : Nat), k ≤ n ∧ i = .int .i64 k ∧ v = .int .u32 y ∧ y < 4294967296 ∧ Hid ((ls.drop k).foldl (fun r l => tk (l.map Int.toNat) r) y = F) ∧ wr = w.drewN q) (fun _ i _ => n - (intOf i).toNat)
  case atStart => exact ⟨0, 0, 4294967295, by omega, rfl, rfl, by omega, HF, rfl⟩
  case round =>
    obtain ⟨k, q, y, hk, rfl, rfl, hy, HK, rfl⟩ := hrel
    clear HF
    by_cases hlt : k < n
    · rcases hat with h | ⟨b, off, rfl, hbb, hc⟩
      · omega
      obtain ⟨a, m, c, hck, hsl⟩ := hc k hlt
      clear hc
      have hT := taken_any a m c (ls.getD k []) y (w.drewN q) (hsl.drewN q) (HT.out.drewN q) hy
      have hlt2 := tk_lt _ y hy (nat_lt _ hsl.wf)
      have e := HK.out
      rw [dropS ls k (by omega), List.foldl_cons] at e
      clear HK hsl
      generalize tk ((ls.getD k []).map Int.toNat) y = y2 at *
      have HT2 := hidden hT
      have HE := hidden e
      clear hT e
      go_wp2_with fail
      refine quiet_call' HT2.out ?_
      intro q2
      go_wp2
      go_roundw
      case rel => exact ⟨k + 1, _, y2, by omega, by go_num, rfl, hlt2, HE, rfl⟩
      case measure => simp [intOf]; omega
    · have e : F = y := by
        rw [← HK.out, List.drop_eq_nil_of_le (by omega)]
        rfl
      have HE := hidden e
      have hx := u32_xor_nat 4294967295 y (by omega) hy
      have HX := hidden hx
      have hsg : IntKind.u32.signed = false := rfl
      clear e HK hx
      go_wp2
      go_ret
      exact ⟨ret_int (by rw [HE.out]; exact HX.out), _, rfl⟩

end Go.Proofs.YtiemnbanehdmnaaGreatDoor

/- The table's way of reckoning the check sum is the bit by bit one; and what is turned within 32 places is told. -/

namespace Go.Proofs.YtiemnbanehdmnaaGreatDoor

/-- One shift of the register. -/
def S (r : Nat) : Nat := if r % 2 = 1 then r / 2 ^^^ 2197175160 else r / 2
def Sn : Nat → Nat → Nat
  | 0, r => r
  | k + 1, r => Sn k (S r)
set_option maxRecDepth 100000 in
theorem S_xor (a b : Nat) : S (a ^^^ b) = S a ^^^ S b := by
  have h2 : (a ^^^ b) / 2 = a / 2 ^^^ b / 2 := by
    have := Nat.xor_div_two_pow (a := a) (b := b) (n := 1)
    simpa using this
  have hm : (a ^^^ b) % 2 = (a % 2 + b % 2) % 2 := by
    have := Nat.xor_mod_two_pow (a := a) (b := b) (n := 1)
    simp only [Nat.pow_one] at this
    rw [this]
    have ha : a % 2 = 0 ∨ a % 2 = 1 := by omega
    have hb : b % 2 = 0 ∨ b % 2 = 1 := by omega
    rcases ha with ha | ha <;> rcases hb with hb | hb <;> rw [ha, hb] <;> rfl
  unfold S
  rw [h2, hm]
  have ha : a % 2 = 0 ∨ a % 2 = 1 := by omega
  have hb : b % 2 = 0 ∨ b % 2 = 1 := by omega
  rcases ha with ha | ha <;> rcases hb with hb | hb <;> simp only [ha, hb] <;> simp
  · rw [Nat.xor_assoc]
  · rw [Nat.xor_assoc, Nat.xor_comm (b / 2), Nat.xor_assoc]
  · rw [Nat.xor_assoc, Nat.xor_comm 2197175160, Nat.xor_assoc, Nat.xor_self, Nat.xor_zero]
set_option maxRecDepth 100000 in
theorem Sn_xor (k : Nat) : ∀ a b, Sn k (a ^^^ b) = Sn k a ^^^ Sn k b := by
  induction k with
  | zero => intro a b; rfl
  | succ k ih => intro a b; rw [Sn, S_xor, ih]; rfl
set_option maxRecDepth 100000 in
theorem Sn_add (j k r : Nat) : Sn (j + k) r = Sn k (Sn j r) := by
  induction j generalizing r with
  | zero => simp [Sn]
  | succ j ih => rw [Nat.succ_add, Sn, ih]; rfl
set_option maxRecDepth 100000 in
theorem Sn_zero (k : Nat) : Sn k 0 = 0 := by
  induction k with
  | zero => rfl
  | succ k ih => rw [Sn, show S 0 = 0 from rfl, ih]
set_option maxRecDepth 100000 in
theorem Sn_shift (k x : Nat) : Sn k (x * 2 ^ k) = x := by
  induction k with
  | zero => simp [Sn]
  | succ k ih =>
    have h : S (x * 2 ^ (k + 1)) = x * 2 ^ k := by
      rw [Nat.pow_succ, ← Nat.mul_assoc]
      generalize x * 2 ^ k = y
      unfold S
      rw [if_neg (by omega)]
      omega
    rw [Sn, h, ih]
set_option maxRecDepth 100000 in
theorem S_lt {r : Nat} (h : r < 4294967296) : S r < 4294967296 := by
  unfold S
  split
  · exact xor32 (by omega) (by omega)
  · omega
set_option maxRecDepth 100000 in
theorem S_inj {r : Nat} (h : r < 4294967296) (e : S r = 0) : r = 0 := by
  unfold S at e
  split at e
  · have h' := congrArg (· ^^^ 2197175160) e
    simp only [Nat.xor_assoc, Nat.xor_self, Nat.xor_zero, Nat.zero_xor] at h'
    omega
  · omega
set_option maxRecDepth 100000 in
theorem Sn_lt (k : Nat) : ∀ {r : Nat}, r < 4294967296 → Sn k r < 4294967296 := by
  induction k with
  | zero => intro r h; exact h
  | succ k ih => intro r h; exact ih (S_lt h)
set_option maxRecDepth 100000 in
theorem Sn_inj (k : Nat) : ∀ {r : Nat}, r < 4294967296 → Sn k r = 0 → r = 0 := by
  induction k with
  | zero => intro r _ e; exact e
  | succ k ih => intro r h e; exact S_inj h (ih (S_lt h) e)

set_option maxRecDepth 100000 in
theorem split_add (a b k : Nat) (h : b < 2 ^ k) : a * 2 ^ k + b = a * 2 ^ k ^^^ b := by
  rw [Nat.mul_comm, Nat.two_pow_add_eq_or_of_lt h]
  apply Nat.eq_of_testBit_eq
  intro i
  rw [Nat.testBit_or, Nat.testBit_xor]
  by_cases hi : i < k
  · rw [show (2 ^ k * a).testBit i = false by rw [Nat.testBit_two_pow_mul]; simp; omega]
    simp
  · rw [show b.testBit i = false from Nat.testBit_lt_two_pow (Nat.lt_of_lt_of_le h (Nat.pow_le_pow_right (by omega) (by omega)))]
    simp
set_option maxRecDepth 100000 in
theorem tb_eq (R : Nat) : tb R = Sn 8 R := by
  have e : R = (R / 256) * 2 ^ 8 ^^^ ((R / 16 % 16) * 2 ^ 4 ^^^ R % 16) := by
    rw [← split_add (R / 16 % 16) (R % 16) 4 (by omega), ← split_add (R / 256) _ 8 (by omega)]
    omega
  have h0 : ∀ a : Fin 16, tN a.val = Sn 8 (a.val * 2 ^ 4) := by decide +kernel
  have h1 : ∀ a : Fin 16, tN (16 + a.val) = Sn 8 a.val := by decide +kernel
  conv => rhs; rw [e, Sn_xor, Sn_xor, Sn_shift]
  unfold tb
  rw [h0 ⟨R / 16 % 16, by omega⟩, h1 ⟨R % 16, by omega⟩, Nat.xor_assoc, Nat.xor_comm (Sn 8 (R % 16))]
set_option maxRecDepth 100000 in
theorem xor8 (x0 x1 x2 x3 x4 x5 x6 x7 : Nat) : x7 ^^^ x6 ^^^ x5 ^^^ x4 ^^^ x3 ^^^ x2 ^^^ x1 ^^^ x0 = x0 ^^^ (x1 ^^^ (x2 ^^^ (x3 ^^^ (x4 ^^^ (x5 ^^^ (x6 ^^^ x7)))))) := by
  rw [Nat.xor_comm x0, Nat.xor_comm x1, Nat.xor_comm x2, Nat.xor_comm x3, Nat.xor_comm x4, Nat.xor_comm x5, Nat.xor_comm x6]
set_option maxRecDepth 100000 in
theorem sh_eq (R : Nat) (h : R < 4294967296) : sh R = Sn 32 R := by
  have e : R = (R / 268435456) * 2 ^ 28 ^^^ ((R / 16777216 % 16) * 2 ^ 24 ^^^ ((R / 1048576 % 16) * 2 ^ 20 ^^^ ((R / 65536 % 16) * 2 ^ 16 ^^^ ((R / 4096 % 16) * 2 ^ 12 ^^^ ((R / 256 % 16) * 2 ^ 8 ^^^ ((R / 16 % 16) * 2 ^ 4 ^^^ R % 16)))))) := by
    rw [← split_add (R / 16 % 16) (R % 16) 4 (by omega), ← split_add (R / 256 % 16) _ 8 (by omega), ← split_add (R / 4096 % 16) _ 12 (by omega), ← split_add (R / 65536 % 16) _ 16 (by omega), ← split_add (R / 1048576 % 16) _ 20 (by omega),
      ← split_add (R / 16777216 % 16) _ 24 (by omega), ← split_add (R / 268435456) _ 28 (by omega)]
    omega
  have t : ∀ (k : Fin 8) (a : Fin 16), tN (16 * k.val + a.val) = Sn 32 (a.val * 2 ^ (28 - 4 * k.val)) := by decide +kernel
  have t0 := t 0 ⟨R / 268435456, by omega⟩
  have t1 := t 1 ⟨R / 16777216 % 16, by omega⟩
  have t2 := t 2 ⟨R / 1048576 % 16, by omega⟩
  have t3 := t 3 ⟨R / 65536 % 16, by omega⟩
  have t4 := t 4 ⟨R / 4096 % 16, by omega⟩
  have t5 := t 5 ⟨R / 256 % 16, by omega⟩
  have t6 := t 6 ⟨R / 16 % 16, by omega⟩
  have t7 := t 7 ⟨R % 16, by omega⟩
  simp only [Fin.isValue, show (0 : Fin 8).val = 0 from rfl, show (1 : Fin 8).val = 1 from rfl, show (2 : Fin 8).val = 2 from rfl, show (3 : Fin 8).val = 3 from rfl, show (4 : Fin 8).val = 4 from rfl, show (5 : Fin 8).val = 5 from rfl, show (6 : Fin 8).val = 6 from rfl, show (7 : Fin 8).val = 7 from rfl, Nat.mul_zero, Nat.zero_add, Nat.reduceMul, Nat.reduceSub, Nat.pow_zero, Nat.mul_one] at t0 t1 t2 t3 t4 t5 t6 t7
  conv => rhs; rw [e, Sn_xor, Sn_xor, Sn_xor, Sn_xor, Sn_xor, Sn_xor, Sn_xor]
  unfold sh
  rw [t0, t1, t2, t3, t4, t5, t6, t7]
  exact xor8 _ _ _ _ _ _ _ _

/-- The register behind bytes, bit by bit. -/
def cr (r : Nat) (l : List Nat) : Nat := l.foldl (fun r c => Sn 8 (r ^^^ c)) r
set_option maxRecDepth 100000 in
theorem tk1_eq (r : Nat) (l : List Nat) : tk1 r l = cr r l := by
  unfold tk1 cr
  congr 1
  funext r c
  exact tb_eq _
set_option maxRecDepth 100000 in
theorem four_eq (r a b c d : Nat) (hr : r < 4294967296) (ha : a < 256) (hb : b < 256) (hc : c < 256) (hd : d < 256) : sh (r ^^^ (a ||| b * 256 ||| c * 65536 ||| d * 16777216)) = cr r [a, b, c, d] := by
  have o : (a ||| b * 256 ||| c * 65536 ||| d * 16777216) = a ^^^ (b * 2 ^ 8 ^^^ (c * 2 ^ 16 ^^^ d * 2 ^ 24)) := by
    have h1 : a ||| b * 256 = b * 2 ^ 8 + a := by rw [Nat.or_comm, show b * 256 = 2 ^ 8 * b by omega, ← Nat.two_pow_add_eq_or_of_lt (by omega)]
    have h2 : (b * 2 ^ 8 + a) ||| c * 65536 = c * 2 ^ 16 + (b * 2 ^ 8 + a) := by rw [Nat.or_comm, show c * 65536 = 2 ^ 16 * c by omega, ← Nat.two_pow_add_eq_or_of_lt (by omega)]
    have h3 : (c * 2 ^ 16 + (b * 2 ^ 8 + a)) ||| d * 16777216 = d * 2 ^ 24 + (c * 2 ^ 16 + (b * 2 ^ 8 + a)) := by rw [Nat.or_comm, show d * 16777216 = 2 ^ 24 * d by omega, ← Nat.two_pow_add_eq_or_of_lt (by omega)]
    rw [h1, h2, h3, split_add d _ 24 (by omega), split_add c _ 16 (by omega), split_add b _ 8 (by omega), Nat.xor_comm (d * 2 ^ 24), Nat.xor_comm (c * 2 ^ 16), Nat.xor_comm (b * 2 ^ 8), Nat.xor_assoc, Nat.xor_assoc]
  have hor : (a ||| b * 256 ||| c * 65536 ||| d * 16777216) < 4294967296 := Nat.or_lt_two_pow (n := 32) (Nat.or_lt_two_pow (n := 32) (Nat.or_lt_two_pow (n := 32) (by omega) (by omega)) (by omega)) (by omega)
  rw [sh_eq _ (xor32 hr hor), o]
  show _ = Sn 8 (Sn 8 (Sn 8 (Sn 8 (r ^^^ a) ^^^ b) ^^^ c) ^^^ d)
  rw [← Nat.xor_assoc r a, show (32 : Nat) = 8 + (8 + (8 + 8)) from rfl, Sn_add, Sn_add, Sn_add]
  rw [Sn_xor 8 (r ^^^ a), Sn_xor 8 (b * 2 ^ 8), Sn_shift, Sn_xor 8 (c * 2 ^ 16), show c * 2 ^ 16 = (c * 2 ^ 8) * 2 ^ 8 by omega, Sn_shift, show d * 2 ^ 24 = (d * 2 ^ 16) * 2 ^ 8 by omega, Sn_shift]
  rw [← Nat.xor_assoc, Sn_xor 8 (Sn 8 (r ^^^ a) ^^^ b), Sn_xor 8 (c * 2 ^ 8), Sn_shift, show d * 2 ^ 16 = (d * 2 ^ 8) * 2 ^ 8 by omega, Sn_shift]
  rw [← Nat.xor_assoc, Sn_xor 8 (Sn 8 (Sn 8 (r ^^^ a) ^^^ b) ^^^ c), Sn_shift]
set_option maxRecDepth 100000 in
theorem cr_lt : ∀ (l : List Nat) (r : Nat), r < 4294967296 → (∀ x ∈ l, x < 256) → cr r l < 4294967296
  | [], _, h, _ => h
  | c :: l, r, h, hl => cr_lt l _ (Sn_lt 8 (xor32 h (by have := hl c (by simp); omega))) (fun x hx => hl x (by simp [hx]))
set_option maxRecDepth 100000 in
theorem cr_append (r : Nat) (a b : List Nat) : cr r (a ++ b) = cr (cr r a) b := by simp [cr]
set_option maxRecDepth 100000 in
theorem tk_eq : ∀ (l : List Nat) (r : Nat), r < 4294967296 → (∀ x ∈ l, x < 256) → tk l r = cr r l
  | [], _, _, _ => rfl
  | [a], r, _, _ => tk1_eq r [a]
  | [a, b], r, _, _ => tk1_eq r [a, b]
  | [a, b, c], r, _, _ => tk1_eq r [a, b, c]
  | a :: b :: c :: d :: l, r, hr, hl => by
    show tk l (sh _) = _
    rw [four_eq r a b c d hr (hl a (by simp)) (hl b (by simp)) (hl c (by simp)) (hl d (by simp)), tk_eq l _ (cr_lt _ _ hr (fun x hx => hl x (by simp at hx ⊢; omega))) (fun x hx => hl x (by simp [hx])), ← cr_append]
    rfl
end Go.Proofs.YtiemnbanehdmnaaGreatDoor

/- What is turned within 32 neighbouring places makes another sum. -/

namespace Go.Proofs.YtiemnbanehdmnaaGreatDoor

/-- Bytes with a number's bytes xored in, the lowest first. -/
def xorV : List Nat → Nat → List Nat
  | [], _ => []
  | x :: l, V => (x ^^^ V % 256) :: xorV l (V / 256)
set_option maxRecDepth 100000 in
theorem xorV_length : ∀ (l : List Nat) (V : Nat), (xorV l V).length = l.length
  | [], _ => rfl
  | _ :: l, V => by simp [xorV, xorV_length l]
set_option maxRecDepth 100000 in
theorem xorV_zero : ∀ (l : List Nat), xorV l 0 = l
  | [] => rfl
  | x :: l => by simp [xorV, xorV_zero l]
set_option maxRecDepth 100000 in
theorem xorV_snoc : ∀ (l : List Nat) (x V : Nat), xorV (l ++ [x]) V = xorV l V ++ [x ^^^ V / 256 ^ l.length % 256]
  | [], x, V => by simp [xorV]
  | y :: l, x, V => by
    simp only [List.cons_append, xorV, xorV_snoc l, List.length_cons]
    rw [Nat.div_div_eq_div_mul, Nat.pow_succ, Nat.mul_comm 256]
set_option maxRecDepth 100000 in
theorem low_xor (V k : Nat) : V % 256 ^ (k + 1) = V % 256 ^^^ (V / 256 % 256 ^ k) * 2 ^ 8 := by
  rw [Nat.xor_comm, ← split_add _ _ 8 (by omega), Nat.pow_succ, Nat.mul_comm (256 ^ k), Nat.mod_mul]
  omega
set_option maxRecDepth 100000 in
/-- The register behind bytes that are turned: its turn goes on by itself. -/
theorem cr_turned : ∀ (l : List Nat) (r e V : Nat), cr (r ^^^ e) (xorV l V) = cr r l ^^^ Sn (8 * l.length) (e ^^^ V % 256 ^ l.length)
  | [], r, e, V => by simp [xorV, cr, Sn, Nat.mod_one]
  | x :: l, r, e, V => by
    show cr (Sn 8 (r ^^^ e ^^^ (x ^^^ V % 256))) (xorV l (V / 256)) = cr (Sn 8 (r ^^^ x)) l ^^^ _
    have h1 : r ^^^ e ^^^ (x ^^^ V % 256) = (r ^^^ x) ^^^ (e ^^^ V % 256) := by
      rw [Nat.xor_assoc, Nat.xor_assoc, ← Nat.xor_assoc e x, Nat.xor_comm e x, Nat.xor_assoc x e]
    rw [h1, Sn_xor, cr_turned l]
    congr 1
    rw [List.length_cons, low_xor, ← Nat.xor_assoc, show 8 * (l.length + 1) = 8 + 8 * l.length by omega, Sn_add, Sn_xor 8 (e ^^^ V % 256), Sn_shift]
set_option maxRecDepth 100000 in
theorem cr_on (l : List Nat) (r e : Nat) : cr (r ^^^ e) l = cr r l ^^^ Sn (8 * l.length) e := by
  have := cr_turned l r e 0
  rw [xorV_zero] at this
  simpa using this

/-- Bytes in whose middle a number's bytes are xored in. -/
def upd (l : List Nat) (a V : Nat) : Nat → List Nat
  | 0 => l
  | k + 1 => (upd l a V k).set (a + k) ((upd l a V k).getD (a + k) 0 ^^^ V / 256 ^ k % 256)
set_option maxRecDepth 100000 in
theorem upd_eq (l : List Nat) (a V : Nat) : ∀ m, a + m ≤ l.length → upd l a V m = l.take a ++ (xorV ((l.drop a).take m) V ++ l.drop (a + m)) := by
  intro m
  induction m with
  | zero => intro _; simp [upd, xorV]
  | succ m ih =>
    intro h
    have hl : a + m < l.length := by omega
    have hA : (l.take a).length = a := by simp; omega
    have hB : (xorV ((l.drop a).take m) V).length = m := by rw [xorV_length]; simp; omega
    have hC : l.drop (a + m) = l[a + m] :: l.drop (a + m + 1) := List.drop_eq_getElem_cons hl
    have ht : (l.drop a).take (m + 1) = (l.drop a).take m ++ [l[a + m]] := by
      rw [List.take_succ_eq_append_getElem (by simp; omega)]
      simp
    have hL : ((l.drop a).take m).length = m := by simp; omega
    rw [upd, ih (by omega), ht, xorV_snoc, hL, hC]
    have hg : (l.take a ++ (xorV ((l.drop a).take m) V ++ l[a + m] :: l.drop (a + m + 1))).getD (a + m) 0 = l[a + m] := by
      rw [List.getD_eq_getElem?_getD, List.getElem?_append_right (by omega), hA, List.getElem?_append_right (by omega), hB]
      simp [List.getElem?_eq_getElem hl]
    rw [hg, List.set_append_right _ _ (by omega), hA, List.set_append_right _ _ (by omega), hB]
    simp [Nat.add_assoc]
set_option maxRecDepth 100000 in
theorem upd_length (l : List Nat) (a V : Nat) : ∀ m, (upd l a V m).length = l.length
  | 0 => rfl
  | m + 1 => by simp [upd, upd_length l a V m]
set_option maxRecDepth 100000 in
theorem upd_lt (l : List Nat) (a V : Nat) (h : ∀ x ∈ l, x < 256) : ∀ m, ∀ x ∈ upd l a V m, x < 256
  | 0 => h
  | m + 1 => by
    intro x hx
    rw [upd] at hx
    rcases List.mem_or_eq_of_mem_set hx with hx | rfl
    · exact upd_lt l a V h m x hx
    · refine Nat.xor_lt_two_pow (n := 8) ?_ (by omega)
      rw [List.getD_eq_getElem?_getD]
      cases hg : (upd l a V m)[a + m]? with
      | none => simp
      | some y => exact upd_lt l a V h m y (List.mem_of_getElem? hg)
set_option maxRecDepth 100000 in
theorem pow_four (m : Nat) (h : m ≤ 4) (V : Nat) : V % 256 ^ m < 4294967296 := by
  have h2 : m = 0 ∨ m = 1 ∨ m = 2 ∨ m = 3 ∨ m = 4 := by omega
  rcases h2 with rfl | rfl | rfl | rfl | rfl <;> simp <;> omega

set_option maxRecDepth 100000 in
/-- THE SUMS PART JUST WHERE SOMETHING WAS TURNED. -/
theorem turned_told (l : List Nat) (a mask s m r : Nat) (hl : a + m ≤ l.length) (hm : m ≤ 5) (hm0 : 0 < mask) (hmask : mask < 4294967296) (hs : s < 8) :
    cr r (upd l a (mask * 2 ^ s) m) = cr r l ↔ (mask * 2 ^ s) % 256 ^ m = 0 := by
  have e : l = l.take a ++ ((l.drop a).take m ++ l.drop (a + m)) := by
    rw [← List.drop_drop, List.take_append_drop, List.take_append_drop]
  have hL : ((l.drop a).take m).length = m := by simp; omega
  have h1 := cr_turned ((l.drop a).take m) (cr r (l.take a)) 0 (mask * 2 ^ s)
  rw [Nat.xor_zero, Nat.zero_xor, hL] at h1
  rw [upd_eq l a _ m hl, cr_append, cr_append, h1, cr_on]
  have h2 : cr r l = cr (cr (cr r (l.take a)) ((l.drop a).take m)) (l.drop (a + m)) := by
    conv => lhs; rw [e, cr_append, cr_append]
  rw [h2]
  generalize cr (cr (cr r (l.take a)) ((l.drop a).take m)) (l.drop (a + m)) = Y
  have hz : ∀ Z, (Y ^^^ Z = Y) ↔ Z = 0 := by
    intro Z
    constructor
    · intro h
      have h' := congrArg (Y ^^^ ·) h
      simpa [← Nat.xor_assoc] using h'
    · rintro rfl; simp
  rw [hz]
  have hlow : Sn (8 * m) (mask * 2 ^ s % 256 ^ m) < 4294967296 ∧ (Sn (8 * m) (mask * 2 ^ s % 256 ^ m) = 0 → mask * 2 ^ s % 256 ^ m = 0) := by
    by_cases h4 : m ≤ 4
    · have := pow_four m h4 (mask * 2 ^ s)
      exact ⟨Sn_lt _ this, Sn_inj _ this⟩
    · obtain rfl : m = 5 := by omega
      have h128 : 2 ^ s ≤ 128 := by
        have h3 : s = 0 ∨ s = 1 ∨ s = 2 ∨ s = 3 ∨ s = 4 ∨ s = 5 ∨ s = 6 ∨ s = 7 := by omega
        rcases h3 with rfl | rfl | rfl | rfl | rfl | rfl | rfl | rfl <;> decide
      have hV : mask * 2 ^ s < 256 ^ 5 := by
        have : mask * 2 ^ s ≤ 4294967295 * 128 := Nat.mul_le_mul (by omega) h128
        simp only [Nat.reducePow]
        omega
      rw [Nat.mod_eq_of_lt hV, show 8 * 5 = s + (40 - s) by omega, Sn_add, Sn_shift]
      refine ⟨Sn_lt _ hmask, fun h => ?_⟩
      have := Sn_inj _ hmask h
      omega
  constructor
  · intro h
    exact hlow.2 (Sn_inj _ hlow.1 h)
  · intro h
    rw [h, Sn_zero, Sn_zero]
end Go.Proofs.YtiemnbanehdmnaaGreatDoor

/- A meta's numbers, its page, and what a page says: plain mathematics. -/

namespace Go.Proofs.YtiemnbanehdmnaaGreatDoor

/-- A meta's numbers. -/
structure Mt where
  en : Int
  pg : Int
  tx : Int
  ro : Int
  co : Int
  fr : Int
  li : Int
  hi : Int

/-- A power of two that a page's size may be. -/
def pw (n : Int) : Prop := n = 512 ∨ n = 1024 ∨ n = 2048 ∨ n = 4096 ∨ n = 8192 ∨ n = 16384 ∨ n = 32768 ∨ n = 65536
/-- The numbers are a meta's. -/
structure Mt.ok (m : Mt) : Prop where
  en : m.en = 1 ∨ m.en = 2
  pg : pw m.pg
  tx : 0 ≤ m.tx ∧ m.tx ≤ 1099511627776
  hi : 2 ≤ m.hi ∧ m.hi ≤ 65536
  ro : m.ro = 0 ∨ 2 ≤ m.ro ∧ m.ro < m.hi
  fr : m.fr = 0 ∨ 2 ≤ m.fr ∧ m.fr < m.hi
  co : 0 ≤ m.co ∧ m.co ≤ 256
  cr : m.co = 0 ↔ m.ro = 0
  li : 0 ≤ m.li ∧ m.li ≤ m.hi - 2
  lf : m.li = 0 ∨ m.fr ≠ 0
  rf : ¬ (m.ro = m.fr ∧ m.ro ≠ 0)
set_option maxRecDepth 100000 in
theorem pw_le {n : Int} (h : pw n) : 512 ≤ n ∧ n ≤ 65536 := by
  unfold pw at h
  omega

/-- k zeros. -/
def zs (k : Nat) : List Int := List.replicate k 0
set_option maxRecDepth 100000 in
theorem zs_length (k : Nat) : (zs k).length = k := by simp [zs]
set_option maxRecDepth 100000 in
theorem zs_wf (k : Nat) : Wf (zs k) := by
  intro x hx
  simp only [zs, List.mem_replicate] at hx
  omega
set_option maxRecDepth 100000 in
theorem zs_add (a b : Nat) : zs (a + b) = zs a ++ zs b := by
  unfold zs
  exact (List.replicate_append_replicate (n := a) (m := b)).symm

/-- The first 40 bytes of a meta page. -/
def hdB (m : Mt) : List Int := [1] ++ (fB 1 m.en ++ ([0, 0, 69, 83, 80, 76] ++ (fB 4 m.pg ++ (fB 8 m.tx ++ (fB 4 m.ro ++ (fB 4 m.co ++ (fB 4 m.fr ++ (fB 4 m.li ++ fB 4 m.hi))))))))
set_option maxRecDepth 100000 in
theorem hdB_length (m : Mt) : (hdB m).length = 40 := by simp [hdB, fB_length]
set_option maxRecDepth 100000 in
theorem hdB_wf (m : Mt) : Wf (hdB m) := by
  unfold hdB
  refine Wf.append (Wf.cons (by omega) Wf.nil) ((fB_wf _ _).append (Wf.append ?_ ((fB_wf _ _).append ((fB_wf _ _).append ((fB_wf _ _).append ((fB_wf _ _).append ((fB_wf _ _).append ((fB_wf _ _).append (fB_wf _ _)))))))))
  intro x hx
  simp only [List.mem_cons, List.not_mem_nil, or_false] at hx
  omega
/-- All ahead of the sum. -/
def bodyB (m : Mt) : List Int := hdB m ++ zs (m.pg.toNat - 44)
set_option maxRecDepth 100000 in
theorem bodyB_wf (m : Mt) : Wf (bodyB m) := (hdB_wf m).append (zs_wf _)
set_option maxRecDepth 100000 in
theorem bodyB_length (m : Mt) (h : m.ok) : (bodyB m).length = m.pg.toNat - 4 := by
  have := pw_le h.pg
  simp only [bodyB, List.length_append, hdB_length, zs_length]
  omega
/-- Bytes and their sum. -/
def sealB (l : List Int) : List Int := l ++ fB 4 (sumN [l])
set_option maxRecDepth 100000 in
theorem sealB_length (l : List Int) : (sealB l).length = l.length + 4 := by simp [sealB, fB_length]
set_option maxRecDepth 100000 in
theorem sealB_wf {l : List Int} (h : Wf l) : Wf (sealB l) := h.append (fB_wf _ _)
/-- THE META'S PAGE. -/
def pageB (m : Mt) : List Int := sealB (bodyB m)
set_option maxRecDepth 100000 in
theorem pageB_wf (m : Mt) : Wf (pageB m) := sealB_wf (bodyB_wf m)
set_option maxRecDepth 100000 in
theorem pageB_length (m : Mt) (h : m.ok) : (pageB m).length = m.pg.toNat := by
  have := pw_le h.pg
  rw [pageB, sealB_length, bodyB_length m h]
  omega

/-- The bytes l are just the page of m. -/
def Says (l : List Int) (m : Mt) : Prop := m.ok ∧ pageB m = l

/-- The number that stands at a place. -/
def rdN (l : List Int) (p w : Nat) : Int := rdB ((l.drop p).take w)
set_option maxRecDepth 100000 in
theorem rdN_mid (A F C : List Int) (p w : Nat) (hp : A.length = p) (hw : F.length = w) : rdN (A ++ (F ++ C)) p w = rdB F := by
  subst hp hw
  unfold rdN
  rw [List.drop_left, List.take_left]
set_option maxRecDepth 100000 in
theorem rdN_bound (l : List Int) (h : Wf l) (p w : Nat) : 0 ≤ rdN l p w ∧ rdN l p w < 256 ^ w := by
  have h1 := rdB_bound ((l.drop p).take w) ((h.drop p).take w)
  refine ⟨h1.1, Int.lt_of_lt_of_le h1.2 ?_⟩
  have h2 : ((l.drop p).take w).length ≤ w := by simp; omega
  have h3 : (256 : Nat) ^ ((l.drop p).take w).length ≤ 256 ^ w := Nat.pow_le_pow_right (by omega) h2
  exact_mod_cast h3
/-- What the bytes would say. -/
def rdM (l : List Int) : Mt := ⟨rdN l 1 1, rdN l 8 4, IntKind.i64.wrap (rdN l 12 8), rdN l 20 4, rdN l 24 4, rdN l 28 4, rdN l 32 4, rdN l 36 4⟩

set_option maxRecDepth 100000 in
theorem fB_read (w : Nat) (n : Int) (h0 : 0 ≤ n) (h : n < 256 ^ w) : rdB (fB w n) = n := by
  rw [rdB_fB w n h0]
  exact Int.emod_eq_of_lt h0 h
set_option maxRecDepth 100000 in
theorem wrap_small (n : Int) (h0 : 0 ≤ n) (h : n < 9223372036854775808) : IntKind.i64.wrap n = n := by
  rw [IntKind.wrap_i64]
  omega
set_option maxRecDepth 100000 in
theorem rdM_page (m : Mt) (h : m.ok) : rdM (pageB m) = m := by
  obtain ⟨en, pg, tx, hi, ro, fr, co, cr, li, lf, rf⟩ := h
  have hpg := pw_le pg
  obtain ⟨Z, hZ⟩ : ∃ Z, Z = zs (m.pg.toNat - 44) ++ fB 4 (sumN [bodyB m]) := ⟨_, rfl⟩
  have e : pageB m = [1] ++ (fB 1 m.en ++ ([0, 0, 69, 83, 80, 76] ++ (fB 4 m.pg ++ (fB 8 m.tx ++ (fB 4 m.ro ++ (fB 4 m.co ++ (fB 4 m.fr ++ (fB 4 m.li ++ (fB 4 m.hi ++ Z))))))))) := by
    rw [hZ]
    simp only [pageB, sealB, bodyB, hdB, List.append_assoc]
  have e1 : rdN (pageB m) 1 1 = m.en := by
    rw [e, rdN_mid [1] (fB 1 m.en) _ 1 1 rfl (fB_length _ _), fB_read 1 _ (by omega) (by simp; omega)]
  have e2 : rdN (pageB m) 8 4 = m.pg := by
    rw [e, show [1] ++ (fB 1 m.en ++ ([0, 0, 69, 83, 80, 76] ++ (fB 4 m.pg ++ (fB 8 m.tx ++ (fB 4 m.ro ++ (fB 4 m.co ++ (fB 4 m.fr ++ (fB 4 m.li ++ (fB 4 m.hi ++ Z))))))))) = ([1] ++ fB 1 m.en ++ [0, 0, 69, 83, 80, 76]) ++ (fB 4 m.pg ++ (fB 8 m.tx ++ (fB 4 m.ro ++ (fB 4 m.co ++ (fB 4 m.fr ++ (fB 4 m.li ++ (fB 4 m.hi ++ Z))))))) from by simp only [List.append_assoc],
      rdN_mid _ (fB 4 m.pg) _ 8 4 (by simp [fB_length]) (fB_length _ _), fB_read 4 _ (by omega) (by simp; omega)]
  have e3 : rdN (pageB m) 12 8 = m.tx := by
    rw [e, show [1] ++ (fB 1 m.en ++ ([0, 0, 69, 83, 80, 76] ++ (fB 4 m.pg ++ (fB 8 m.tx ++ (fB 4 m.ro ++ (fB 4 m.co ++ (fB 4 m.fr ++ (fB 4 m.li ++ (fB 4 m.hi ++ Z))))))))) = ([1] ++ fB 1 m.en ++ [0, 0, 69, 83, 80, 76] ++ fB 4 m.pg) ++ (fB 8 m.tx ++ (fB 4 m.ro ++ (fB 4 m.co ++ (fB 4 m.fr ++ (fB 4 m.li ++ (fB 4 m.hi ++ Z)))))) from by simp only [List.append_assoc],
      rdN_mid _ (fB 8 m.tx) _ 12 8 (by simp [fB_length]) (fB_length _ _), fB_read 8 _ (by omega) (by simp; omega)]
  have e4 : rdN (pageB m) 20 4 = m.ro := by
    rw [e, show [1] ++ (fB 1 m.en ++ ([0, 0, 69, 83, 80, 76] ++ (fB 4 m.pg ++ (fB 8 m.tx ++ (fB 4 m.ro ++ (fB 4 m.co ++ (fB 4 m.fr ++ (fB 4 m.li ++ (fB 4 m.hi ++ Z))))))))) = ([1] ++ fB 1 m.en ++ [0, 0, 69, 83, 80, 76] ++ fB 4 m.pg ++ fB 8 m.tx) ++ (fB 4 m.ro ++ (fB 4 m.co ++ (fB 4 m.fr ++ (fB 4 m.li ++ (fB 4 m.hi ++ Z))))) from by simp only [List.append_assoc],
      rdN_mid _ (fB 4 m.ro) _ 20 4 (by simp [fB_length]) (fB_length _ _), fB_read 4 _ (by omega) (by simp; omega)]
  have e5 : rdN (pageB m) 24 4 = m.co := by
    rw [e, show [1] ++ (fB 1 m.en ++ ([0, 0, 69, 83, 80, 76] ++ (fB 4 m.pg ++ (fB 8 m.tx ++ (fB 4 m.ro ++ (fB 4 m.co ++ (fB 4 m.fr ++ (fB 4 m.li ++ (fB 4 m.hi ++ Z))))))))) = ([1] ++ fB 1 m.en ++ [0, 0, 69, 83, 80, 76] ++ fB 4 m.pg ++ fB 8 m.tx ++ fB 4 m.ro) ++ (fB 4 m.co ++ (fB 4 m.fr ++ (fB 4 m.li ++ (fB 4 m.hi ++ Z)))) from by simp only [List.append_assoc],
      rdN_mid _ (fB 4 m.co) _ 24 4 (by simp [fB_length]) (fB_length _ _), fB_read 4 _ (by omega) (by simp; omega)]
  have e6 : rdN (pageB m) 28 4 = m.fr := by
    rw [e, show [1] ++ (fB 1 m.en ++ ([0, 0, 69, 83, 80, 76] ++ (fB 4 m.pg ++ (fB 8 m.tx ++ (fB 4 m.ro ++ (fB 4 m.co ++ (fB 4 m.fr ++ (fB 4 m.li ++ (fB 4 m.hi ++ Z))))))))) = ([1] ++ fB 1 m.en ++ [0, 0, 69, 83, 80, 76] ++ fB 4 m.pg ++ fB 8 m.tx ++ fB 4 m.ro ++ fB 4 m.co) ++ (fB 4 m.fr ++ (fB 4 m.li ++ (fB 4 m.hi ++ Z))) from by simp only [List.append_assoc],
      rdN_mid _ (fB 4 m.fr) _ 28 4 (by simp [fB_length]) (fB_length _ _), fB_read 4 _ (by omega) (by simp; omega)]
  have e7 : rdN (pageB m) 32 4 = m.li := by
    rw [e, show [1] ++ (fB 1 m.en ++ ([0, 0, 69, 83, 80, 76] ++ (fB 4 m.pg ++ (fB 8 m.tx ++ (fB 4 m.ro ++ (fB 4 m.co ++ (fB 4 m.fr ++ (fB 4 m.li ++ (fB 4 m.hi ++ Z))))))))) = ([1] ++ fB 1 m.en ++ [0, 0, 69, 83, 80, 76] ++ fB 4 m.pg ++ fB 8 m.tx ++ fB 4 m.ro ++ fB 4 m.co ++ fB 4 m.fr) ++ (fB 4 m.li ++ (fB 4 m.hi ++ Z)) from by simp only [List.append_assoc],
      rdN_mid _ (fB 4 m.li) _ 32 4 (by simp [fB_length]) (fB_length _ _), fB_read 4 _ (by omega) (by simp; omega)]
  have e8 : rdN (pageB m) 36 4 = m.hi := by
    rw [e, show [1] ++ (fB 1 m.en ++ ([0, 0, 69, 83, 80, 76] ++ (fB 4 m.pg ++ (fB 8 m.tx ++ (fB 4 m.ro ++ (fB 4 m.co ++ (fB 4 m.fr ++ (fB 4 m.li ++ (fB 4 m.hi ++ Z))))))))) = ([1] ++ fB 1 m.en ++ [0, 0, 69, 83, 80, 76] ++ fB 4 m.pg ++ fB 8 m.tx ++ fB 4 m.ro ++ fB 4 m.co ++ fB 4 m.fr ++ fB 4 m.li) ++ (fB 4 m.hi ++ Z) from by simp only [List.append_assoc],
      rdN_mid _ (fB 4 m.hi) _ 36 4 (by simp [fB_length]) (fB_length _ _), fB_read 4 _ (by omega) (by simp; omega)]
  unfold rdM
  rw [e1, e2, e3, e4, e5, e6, e7, e8, wrap_small m.tx (by omega) (by omega)]

set_option maxRecDepth 100000 in
/-- A page says one meta at most, the one that stands in it. -/
theorem Says.eq {l : List Int} {m : Mt} (h : Says l m) : m = rdM l := by
  obtain ⟨h1, rfl⟩ := h
  exact (rdM_page m h1).symm
set_option maxRecDepth 100000 in
theorem Says.one {l : List Int} {m n : Mt} (h : Says l m) (k : Says l n) : m = n := h.eq.trans k.eq.symm
set_option maxRecDepth 100000 in
theorem Says.length {l : List Int} {m : Mt} (h : Says l m) : (l.length : Int) = m.pg ∧ 512 ≤ l.length := by
  obtain ⟨h1, rfl⟩ := h
  have := pw_le h1.pg
  rw [pageB_length m h1]
  omega
set_option maxRecDepth 100000 in
theorem says_iff (l : List Int) : (∃ m, Says l m) ↔ (rdM l).ok ∧ pageB (rdM l) = l := by
  constructor
  · rintro ⟨m, h⟩
    have e := h.eq
    subst e
    exact h
  · intro h
    exact ⟨_, h⟩

set_option maxRecDepth 100000 in
/-- What is changed is told: the page's length, the same last four, another sum. -/
theorem seal_end {a b : List Int} (h : a.length = b.length) (e : sealB a = sealB b) : a = b := (List.append_inj e h).1
set_option maxRecDepth 100000 in
theorem sumN_lt (l : List Int) (h : Wf l) : sumN [l] < 4294967296 := by
  have := tk_lt (l.map Int.toNat) 4294967295 (by omega) (nat_lt l h)
  exact xor32 (by omega) this
set_option maxRecDepth 100000 in
theorem fB4_inj {a b : Nat} (ha : a < 4294967296) (hb : b < 4294967296) (e : fB 4 (a : Int) = fB 4 (b : Int)) : a = b := by
  have h1 := fB_read 4 (a : Int) (by omega) (by simp; omega)
  have h2 := fB_read 4 (b : Int) (by omega) (by simp; omega)
  rw [e] at h1
  have : (a : Int) = b := h1.symm.trans h2
  omega
end Go.Proofs.YtiemnbanehdmnaaGreatDoor

/- Cells and pages of the plain kind: plain mathematics: a cell's bytes, a page's, and how both are read. -/

namespace Go.Proofs.YtiemnbanehdmnaaGreatDoor

/-- A cell. -/
structure Cl where
  key : List Int
  kd : Int
  val : List Int
  pg : Int
  ct : Int
deriving DecidableEq, Inhabited

/-- Its key and its value are bytes. -/
def Cl.Wf (c : Cl) : Prop := Go.Proofs.YtiemnbanehdmnaaGreatDoor.Wf c.key ∧ Go.Proofs.YtiemnbanehdmnaaGreatDoor.Wf c.val
def nowhere (c : Cl) : Prop := c.pg = 0 ∧ c.ct = 0
def leadsP (c : Cl) (lo hi : Int) : Prop := (2 ≤ c.pg ∧ c.pg ≤ 65535) ∧ (lo ≤ c.ct ∧ c.ct ≤ hi)
/-- What a cell may be. -/
def mayP (kind page : Int) (c : Cl) : Prop :=
  (c.key.length : Int) ≤ page / 8 ∧
  ((kind = 3 ∧ c.kd = 3 ∧ c.val = [] ∧ leadsP c 1 1073741824) ∨
   (kind ≠ 3 ∧ 0 < c.key.length ∧
     ((c.kd = 1 ∧ (c.val.length : Int) ≤ page / 16 * 3 ∧ nowhere c) ∨ (c.kd = 2 ∧ c.val = [] ∧ leadsP c (page / 16 * 3 + 1) 65536) ∨ (c.kd = 4 ∧ c.val = [] ∧ (nowhere c ∨ leadsP c 1 1073741824)))))
instance (c : Cl) : Decidable (nowhere c) := by unfold nowhere; infer_instance
instance (c : Cl) (a b : Int) : Decidable (leadsP c a b) := by unfold leadsP; infer_instance
instance (k p : Int) (c : Cl) : Decidable (mayP k p c) := by unfold mayP; infer_instance

/-- How many bytes it takes, with its slot. -/
def ctk (c : Cl) : Nat := if c.kd = 1 then 7 + c.key.length + c.val.length else 13 + c.key.length
/-- Its bytes. -/
def cB (c : Cl) : List Int := [c.kd % 256] ++ (fB 2 c.key.length ++ (c.key ++ (if c.kd = 1 then fB 2 c.val.length ++ c.val else fB 4 c.pg ++ fB 4 c.ct)))
set_option maxRecDepth 100000 in
theorem cB_length (c : Cl) : (cB c).length + 2 = ctk c := by
  unfold cB ctk
  split <;> simp [fB_length] <;> omega
set_option maxRecDepth 100000 in
theorem cB_wf {c : Cl} (h : c.Wf) : Wf (cB c) := by
  unfold cB
  refine Wf.append (Wf.cons (by omega) Wf.nil) (Wf.append (fB_wf _ _) (Wf.append h.1 ?_))
  split
  · exact Wf.append (fB_wf _ _) h.2
  · exact Wf.append (fB_wf _ _) (fB_wf _ _)

/-- The number at the bytes' beginning. -/
def pNum (w : Nat) (l : List Int) : Option (Int × List Int) := if l.length < w then none else some (rdB (l.take w), l.drop w)
/-- The text there. -/
def pText (l : List Int) : Option (List Int × List Int) :=
  match pNum 2 l with
  | none => none
  | some (n, r) => if (r.length : Int) < n then none else some (r.take n.toNat, r.drop n.toNat)
/-- The cell there. -/
def pCell (l : List Int) : Option (Cl × List Int) :=
  match pNum 1 l with
  | none => none
  | some (k, r) =>
    match pText r with
    | none => none
    | some (key, r) =>
      if k = 1 then
        match pText r with
        | none => none
        | some (val, r) => some (⟨key, k, val, 0, 0⟩, r)
      else
        match pNum 4 r with
        | none => none
        | some (p, r) =>
          match pNum 4 r with
          | none => none
          | some (c, r) => some (⟨key, k, [], p, c⟩, r)

/-- What is written comes out: of cells whose numbers fit. -/
structure Cl.fit (c : Cl) : Prop where
  kd : 0 ≤ c.kd ∧ c.kd < 256
  key : c.key.length < 65536
  val : c.val.length < 65536
  pg : 0 ≤ c.pg ∧ c.pg < 4294967296
  ct : 0 ≤ c.ct ∧ c.ct < 4294967296
  one : c.kd = 1 → c.pg = 0 ∧ c.ct = 0
  oth : c.kd ≠ 1 → c.val = []
set_option maxRecDepth 100000 in
theorem mayP.fit {k p : Int} {c : Cl} (h : mayP k p c) (hp : p ≤ 65536) : c.fit := by
  obtain ⟨h1, h2⟩ := h
  unfold leadsP nowhere at h2
  rcases h2 with ⟨e, h3, h4, h5⟩ | ⟨e, h3, ⟨h4, h5, h6⟩ | ⟨h4, h5, h6⟩ | ⟨h4, h5, h6⟩⟩
  · exact ⟨by omega, by omega, by rw [h4]; decide, by omega, by omega, by omega, fun _ => h4⟩
  · exact ⟨by omega, by omega, by omega, by omega, by omega, fun _ => h6, fun h => absurd h4 h⟩
  · exact ⟨by omega, by omega, by rw [h5]; decide, by omega, by omega, by omega, fun _ => h5⟩
  · exact ⟨by omega, by omega, by rw [h5]; decide, by omega, by omega, by omega, fun _ => h5⟩

set_option maxRecDepth 100000 in
theorem pNum_mid (w : Nat) (n : Int) (r : List Int) (h0 : 0 ≤ n) (h : n < 256 ^ w) : pNum w (fB w n ++ r) = some (n, r) := by
  unfold pNum
  rw [if_neg (by simp [fB_length]), List.take_left' (fB_length w n), List.drop_left' (fB_length w n), fB_read w n h0 h]
set_option maxRecDepth 100000 in
theorem pText_mid (t r : List Int) (h : t.length < 65536) : pText (fB 2 t.length ++ (t ++ r)) = some (t, r) := by
  unfold pText
  rw [pNum_mid 2 _ _ (by omega) (by omega)]
  simp only
  rw [if_neg (by rw [List.length_append]; omega), Int.toNat_natCast, List.take_left, List.drop_left]
set_option maxRecDepth 100000 in
theorem pCell_mid (c : Cl) (r : List Int) (h : c.fit) : pCell (cB c ++ r) = some (c, r) := by
  obtain ⟨key, kd, val, pg, ct⟩ := c
  obtain ⟨h1, h2, h3, h4, h5, h6, h7⟩ := h
  simp only at h1 h2 h3 h4 h5 h6 h7
  unfold cB pCell
  simp only
  rw [List.append_assoc, show ([kd % 256] : List Int) = fB 1 kd from by simp [fB], pNum_mid 1 kd _ h1.1 (by omega)]
  simp only
  rw [List.append_assoc, List.append_assoc, pText_mid _ _ h2]
  simp only
  by_cases e : kd = 1
  · rw [if_pos e, if_pos e, List.append_assoc, pText_mid _ _ h3]
    simp only
    obtain ⟨rfl, rfl⟩ := h6 e
    rfl
  · rw [if_neg e, if_neg e, List.append_assoc, pNum_mid 4 pg _ h4.1 (by omega)]
    simp only
    rw [pNum_mid 4 ct _ h5.1 (by omega)]
    simp only
    rw [h7 e]

set_option maxRecDepth 100000 in
theorem rdB_nil : rdB [] = 0 := rfl
set_option maxRecDepth 100000 in
/-- A number's bytes, read and written, are those bytes. -/
theorem fB_rdB : ∀ (l : List Int), Wf l → fB l.length (rdB l) = l
  | [], _ => rfl
  | c :: l, h => by
    have hc := h c (by simp)
    have hl : Wf l := fun x hx => h x (by simp [hx])
    have hb := rdB_bound l hl
    have ih := fB_rdB l hl
    have e : ∀ (j : Nat) (m : Int), fB j (c * 256 ^ l.length + m) = fB j m ∨ l.length < j := by
      intro j m
      by_cases hj : l.length < j
      · exact .inr hj
      · left
        induction j with
        | zero => rfl
        | succ j ihj =>
          rw [fB, fB, ihj (by omega)]
          congr 1
          obtain ⟨d, hd⟩ : ∃ d, l.length = j + 1 + d := ⟨l.length - (j + 1), by omega⟩
          rw [hd, show (256 : Int) ^ (j + 1 + d) = 256 ^ j * (256 * 256 ^ d) from by rw [Int.pow_add, Int.pow_succ, Int.mul_assoc],
            show c * (256 ^ j * (256 * 256 ^ d)) + m = m + (256 ^ j) * (256 * (c * 256 ^ d)) from by
              rw [Int.add_comm, ← Int.mul_assoc, Int.mul_comm c (256 ^ j), Int.mul_assoc, ← Int.mul_assoc c, Int.mul_comm c 256, Int.mul_assoc]]
          rw [Int.add_mul_ediv_left _ _ (by have : (0 : Int) < 256 ^ j := Int.pow_pos (by omega)
                                            omega)]
          omega
    rw [rdB_cons, List.length_cons, fB]
    rcases e l.length (rdB l) with e | e
    · rw [e, ih]
      congr 1
      have hp : (0 : Int) < 256 ^ l.length := Int.pow_pos (by omega)
      rw [Int.add_comm, Int.add_mul_ediv_right _ _ (by omega), Int.ediv_eq_zero_of_lt hb.1 hb.2]
      omega
    · omega
set_option maxRecDepth 100000 in
theorem pNum_inv {w : Nat} {l r : List Int} {n : Int} (hw : Wf l) (h : pNum w l = some (n, r)) : l = fB w n ++ r ∧ 0 ≤ n ∧ n < 256 ^ w ∧ Wf r := by
  unfold pNum at h
  split at h
  · cases h
  · next hl =>
    simp only [Option.some.injEq, Prod.mk.injEq] at h
    obtain ⟨rfl, rfl⟩ := h
    have ht : (l.take w).length = w := by rw [List.length_take]; omega
    have := fB_rdB (l.take w) (hw.take w)
    rw [ht] at this
    have hb := rdB_bound (l.take w) (hw.take w)
    rw [ht] at hb
    exact ⟨by rw [this, List.take_append_drop], hb.1, hb.2, hw.drop w⟩
set_option maxRecDepth 100000 in
theorem pText_inv {l r t : List Int} (hw : Wf l) (h : pText l = some (t, r)) : l = fB 2 t.length ++ (t ++ r) ∧ t.length < 65536 ∧ Wf t ∧ Wf r := by
  unfold pText at h
  split at h
  · cases h
  · next n r' e =>
    obtain ⟨h1, h2, h3, h4⟩ := pNum_inv hw e
    split at h
    · cases h
    · next hl =>
      simp only [Option.some.injEq, Prod.mk.injEq] at h
      obtain ⟨rfl, rfl⟩ := h
      have ht : (r'.take n.toNat).length = n.toNat := by rw [List.length_take]; omega
      refine ⟨?_, by rw [ht]; omega, h4.take _, h4.drop _⟩
      rw [ht, Int.toNat_of_nonneg h2, List.take_append_drop]
      exact h1
set_option maxRecDepth 100000 in
theorem pCell_inv {l r : List Int} {c : Cl} (hw : Wf l) (h : pCell l = some (c, r)) : l = cB c ++ r ∧ c.fit ∧ c.Wf ∧ Wf r := by
  unfold pCell at h
  split at h
  · cases h
  · next k r1 e1 =>
    obtain ⟨h1, h2, h3, h4⟩ := pNum_inv hw e1
    split at h
    · cases h
    · next key r2 e2 =>
      obtain ⟨g1, g2, g3, g4⟩ := pText_inv h4 e2
      split at h
      · next hk =>
        split at h
        · cases h
        · next val r3 e3 =>
          obtain ⟨f1, f2, f3, f4⟩ := pText_inv g4 e3
          simp only [Option.some.injEq, Prod.mk.injEq] at h
          obtain ⟨rfl, rfl⟩ := h
          refine ⟨?_, ⟨by simp only; omega, g2, f2, by simp, by simp, fun _ => ⟨rfl, rfl⟩, fun h => absurd hk h⟩, ⟨g3, f3⟩, f4⟩
          rw [h1, g1, f1]
          simp [cB, hk, fB]
      · next hk =>
        split at h
        · cases h
        · next p r3 e3 =>
          obtain ⟨f1, f2, f3, f4⟩ := pNum_inv g4 e3
          split at h
          · cases h
          · next ct r4 e4 =>
            obtain ⟨d1, d2, d3, d4⟩ := pNum_inv f4 e4
            simp only [Option.some.injEq, Prod.mk.injEq] at h
            obtain ⟨rfl, rfl⟩ := h
            refine ⟨?_, ⟨by simp only; omega, g2, by simp, ⟨f2, by simp only; omega⟩, ⟨d2, by simp only; omega⟩, fun h => absurd h hk, fun _ => rfl⟩, ⟨g3, Wf.nil⟩, d4⟩
            rw [h1, g1, f1, d1]
            simp [cB, hk, fB]
end Go.Proofs.YtiemnbanehdmnaaGreatDoor

/- Pages of the plain kind: plain mathematics. -/

namespace Go.Proofs.YtiemnbanehdmnaaGreatDoor

/-- a stands ahead of b. -/
def kl (a b : List Int) : Prop := ordL a b = -1
instance (a b : List Int) : Decidable (kl a b) := by unfold kl; infer_instance
/-- The key ahead is none, or stands ahead. -/
def ahead : Option (List Int) → List Int → Prop
  | none, _ => True
  | some p, k => kl p k
instance (p : Option (List Int)) (k : List Int) : Decidable (ahead p k) := by cases p <;> (unfold ahead; infer_instance)
/-- What is wrong with cells, the first fault; 0: nothing. -/
def chk (k p : Int) : Option (List Int) → List Cl → Int
  | _, [] => 0
  | pr, c :: r => if mayP k p c then (if ahead pr c.key then chk k p (some c.key) r else 63) else 62
set_option maxRecDepth 100000 in
theorem chk_vals (k p : Int) : ∀ (pr : Option (List Int)) (cs : List Cl), chk k p pr cs = 0 ∨ chk k p pr cs = 62 ∨ chk k p pr cs = 63
  | _, [] => .inl rfl
  | pr, c :: r => by
    unfold chk
    split
    · split
      · exact chk_vals k p _ r
      · simp
    · simp
set_option maxRecDepth 100000 in
theorem chk_may {k p : Int} : ∀ {pr : Option (List Int)} {cs : List Cl}, chk k p pr cs = 0 → ∀ c ∈ cs, mayP k p c
  | _, [], _, c, hc => by cases hc
  | pr, d :: r, h, c, hc => by
    unfold chk at h
    split at h
    · next h1 =>
      split at h
      · rcases List.mem_cons.1 hc with e | e
        · rw [e]; exact h1
        · exact chk_may h c e
      · simp at h
    · simp at h

/-- The cells' bytes. -/
def bdy (cs : List Cl) : List Int := cs.flatMap cB
/-- Where they begin, from b on. -/
def sts : Nat → List Cl → List Nat
  | _, [] => []
  | b, c :: r => b :: sts (b + (cB c).length) r
set_option maxRecDepth 100000 in
theorem bdy_cons (c : Cl) (cs : List Cl) : bdy (c :: cs) = cB c ++ bdy cs := by simp [bdy]
set_option maxRecDepth 100000 in
theorem bdy_append (a b : List Cl) : bdy (a ++ b) = bdy a ++ bdy b := by simp [bdy]
set_option maxRecDepth 100000 in
theorem sts_length : ∀ (b : Nat) (cs : List Cl), (sts b cs).length = cs.length
  | _, [] => rfl
  | b, c :: r => by simp [sts, sts_length _ r]
set_option maxRecDepth 100000 in
theorem sts_shift : ∀ (a b : Nat) (cs : List Cl), sts (a + b) cs = (sts b cs).map (a + ·)
  | _, _, [] => rfl
  | a, b, c :: r => by
    simp only [sts, List.map_cons, List.cons.injEq, true_and]
    rw [Nat.add_assoc]
    exact sts_shift a _ r
set_option maxRecDepth 100000 in
theorem sts_append : ∀ (b : Nat) (x y : List Cl), sts b (x ++ y) = sts b x ++ sts (b + (bdy x).length) y
  | _, [], _ => rfl
  | b, c :: r, y => by
    simp only [List.cons_append, sts, bdy_cons, List.length_append, List.cons.injEq, true_and]
    rw [sts_append, Nat.add_assoc]
set_option maxRecDepth 100000 in
theorem sts_get : ∀ (b i : Nat) (cs : List Cl), i < cs.length → (sts b cs).getD i 0 = b + (bdy (cs.take i)).length
  | _, _, [], h => by simp at h
  | b, 0, c :: r, _ => by simp [sts, bdy]
  | b, i + 1, c :: r, h => by
    have := sts_get (b + (cB c).length) i r (by simpa using h)
    simp only [sts, List.getD_cons_succ, List.take_succ_cons, bdy_cons, List.length_append]
    rw [this]
    omega
set_option maxRecDepth 100000 in
theorem bdy_wf : ∀ {cs : List Cl}, (∀ c ∈ cs, c.Wf) → Wf (bdy cs)
  | [], _ => Wf.nil
  | c :: r, h => by
    rw [bdy_cons]
    exact (cB_wf (h c (by simp))).append (bdy_wf fun d hd => h d (by simp [hd]))
/-- How many bytes they take. -/
def szN (cs : List Cl) : Nat := 8 + (cs.map ctk).sum
set_option maxRecDepth 100000 in
theorem szN_eq (cs : List Cl) : szN cs = 8 + 2 * cs.length + (bdy cs).length := by
  unfold szN
  induction cs with
  | nil => rfl
  | cons c r ih =>
    have := cB_length c
    simp only [List.map_cons, List.sum_cons, List.length_cons, bdy_cons, List.length_append]
    omega

/-- The slots. -/
def sloB (l : List Nat) : List Int := l.flatMap fun (s : Nat) => fB 2 (s : Int)
set_option maxRecDepth 100000 in
theorem sloB_length (l : List Nat) : (sloB l).length = 2 * l.length := by
  induction l with
  | nil => rfl
  | cons x r ih => simp only [sloB, List.flatMap_cons, List.length_append, fB_length, List.length_cons] at ih ⊢; omega
set_option maxRecDepth 100000 in
theorem sloB_wf (l : List Nat) : Wf (sloB l) := by
  induction l with
  | nil => exact Wf.nil
  | cons x r ih => simp only [sloB, List.flatMap_cons]; exact (fB_wf _ _).append ih
/-- The page behind i slots. -/
def layP (k : Int) (n : Nat) (cs : List Cl) (i : Nat) : List Int := [k, 1] ++ (fB 2 cs.length ++ (sloB ((sts (n - 4 - (bdy cs).length) cs).take i) ++ zs (n - 4 - 2 * i)))
/-- The page ahead of its sum. -/
def pgH (k : Int) (n : Nat) (cs : List Cl) : List Int := [k, 1] ++ (fB 2 cs.length ++ (sloB (sts (n - 4 - (bdy cs).length) cs) ++ (zs (n - szN cs) ++ bdy cs)))
/-- The page. -/
def pgB (k : Int) (n : Nat) (cs : List Cl) : List Int := sealB (pgH k n cs)
set_option maxRecDepth 100000 in
theorem pgH_length (k : Int) (n : Nat) (cs : List Cl) (h : szN cs ≤ n) : (pgH k n cs).length = n - 4 := by
  have := szN_eq cs
  simp only [pgH, List.length_append, List.length_cons, List.length_nil, fB_length, sloB_length, sts_length, zs_length]
  omega
set_option maxRecDepth 100000 in
theorem pgB_length (k : Int) (n : Nat) (cs : List Cl) (h : szN cs ≤ n) : (pgB k n cs).length = n := by
  have := szN_eq cs
  rw [pgB, sealB_length, pgH_length k n cs h]
  omega
set_option maxRecDepth 100000 in
theorem pgH_wf {k : Int} {n : Nat} {cs : List Cl} (hk : 0 ≤ k ∧ k ≤ 255) (h : ∀ c ∈ cs, c.Wf) : Wf (pgH k n cs) :=
  Wf.append (Wf.cons hk (Wf.cons (by omega) Wf.nil)) (Wf.append (fB_wf _ _) (Wf.append (sloB_wf _) (Wf.append (zs_wf _) (bdy_wf h))))
set_option maxRecDepth 100000 in
theorem pgB_wf {k : Int} {n : Nat} {cs : List Cl} (hk : 0 ≤ k ∧ k ≤ 255) (h : ∀ c ∈ cs, c.Wf) : Wf (pgB k n cs) := sealB_wf (pgH_wf hk h)

/-- Bytes as n cells that may be, with rising keys, and no more. -/
def part (k p : Int) : Nat → Option (List Int) → List Int → Option (List Cl)
  | 0, _, l => if l = [] then some [] else none
  | n + 1, pr, l =>
    match pCell l with
    | none => none
    | some (c, r) => if mayP k p c ∧ ahead pr c.key then (part k p n (some c.key) r).map (c :: ·) else none
set_option maxRecDepth 100000 in
theorem part_of {k p : Int} (hp : p ≤ 65536) : ∀ (cs : List Cl) (pr : Option (List Int)), chk k p pr cs = 0 → part k p cs.length pr (bdy cs) = some cs
  | [], _, _ => rfl
  | c :: r, pr, h => by
    unfold chk at h
    split at h
    · next h1 =>
      split at h
      · next h2 =>
        simp only [List.length_cons, part, bdy_cons]
        rw [pCell_mid c _ (h1.fit hp)]
        simp only [h1, h2, and_self, if_true]
        rw [part_of hp r _ h]
        rfl
      · simp at h
    · simp at h
set_option maxRecDepth 100000 in
theorem part_inv {k p : Int} : ∀ (n : Nat) (pr : Option (List Int)) (l : List Int) (cs : List Cl), Wf l → part k p n pr l = some cs → cs.length = n ∧ l = bdy cs ∧ chk k p pr cs = 0 ∧ ∀ c ∈ cs, c.Wf
  | 0, pr, l, cs, hw, h => by
    unfold part at h
    split at h
    · next e =>
      cases h
      exact ⟨rfl, e, rfl, fun c hc => by cases hc⟩
    · cases h
  | n + 1, pr, l, cs, hw, h => by
    unfold part at h
    split at h
    · cases h
    · next c r e =>
      split at h
      · next hm =>
        obtain ⟨e1, _, e3, e4⟩ := pCell_inv hw e
        cases hq : part k p n (some c.key) r with
        | none => rw [hq] at h; cases h
        | some ds =>
          rw [hq] at h
          simp only [Option.map_some, Option.some.injEq] at h
          subst h
          obtain ⟨f1, f2, f3, f4⟩ := part_inv n _ r ds e4 hq
          refine ⟨by simp [f1], by rw [bdy_cons, ← f2]; exact e1, ?_, ?_⟩
          · rw [chk, if_pos hm.1, if_pos hm.2]; exact f3
          · intro d hd
            rcases List.mem_cons.1 hd with e | e
            · rw [e]; exact e3
            · exact f4 d e
      · cases h

/-- A page's kind. -/
def isKd (k : Int) : Prop := k = 2 ∨ k = 3
instance (k : Int) : Decidable (isKd k) := by unfold isKd; infer_instance
instance (k : Int) : Decidable (pw k) := by unfold pw; infer_instance
/-- What the bytes b are, of cells. -/
structure Is (k : Int) (n : Nat) (cs : List Cl) (b : List Int) : Prop where
  kd : isKd k
  sz : pw n
  ok : chk k n none cs = 0
  fit : szN cs ≤ n
  eq : pgB k n cs = b
/-- Where the first cell begins. -/
def frst (b : List Int) : Int := if 0 < rdN b 2 2 then rdN b 4 2 else (b.length : Int) - 4
/-- How bytes are read. -/
def readM (b : List Int) : Option (List Cl) :=
  if pw b.length ∧ isKd (b.getD 0 0) then
    (if frst b < 4 + rdN b 2 2 * 2 ∨ (b.length : Int) - 4 < frst b then none else part (b.getD 0 0) b.length (rdN b 2 2).toNat none ((b.drop (frst b).toNat).take (b.length - 4 - (frst b).toNat)))
  else none
set_option maxRecDepth 100000 in
theorem pw_nat {n : Nat} (h : pw n) : 512 ≤ n ∧ n ≤ 65536 := by
  have := pw_le h
  omega
set_option maxRecDepth 100000 in
theorem readM_inv {b : List Int} {cs : List Cl} (hw : Wf b) (h : readM b = some cs) : isKd (b.getD 0 0) ∧ pw b.length ∧ chk (b.getD 0 0) b.length none cs = 0 ∧ szN cs ≤ b.length ∧ (∀ c ∈ cs, c.Wf) ∧ (cs.length : Int) = rdN b 2 2 ∧ bdy cs = (b.drop (frst b).toNat).take (b.length - 4 - (frst b).toNat) ∧ frst b = (b.length : Int) - 4 - (bdy cs).length ∧ 4 + rdN b 2 2 * 2 ≤ frst b := by
  unfold readM at h
  split at h
  · next h1 =>
    split at h
    · cases h
    · next h2 =>
      have hn := (rdN_bound b hw 2 2).1
      have hp := pw_nat h1.1
      obtain ⟨e1, e2, e3, e4⟩ := part_inv _ _ _ _ ((hw.drop _).take _) h
      have hl := congrArg List.length e2
      rw [List.length_take, List.length_drop] at hl
      have hz := szN_eq cs
      refine ⟨h1.2, h1.1, e3, ?_, e4, ?_, e2.symm, ?_, ?_⟩ <;> omega
  · cases h
set_option maxRecDepth 100000 in
theorem pgB_split (k : Int) (n : Nat) (cs : List Cl) : ∃ U : List Int, U.length = 4 ∧ pgB k n cs = [k, 1] ++ (fB 2 cs.length ++ (sloB (sts (n - 4 - (bdy cs).length) cs) ++ (zs (n - szN cs) ++ (bdy cs ++ U)))) :=
  ⟨fB 4 (sumN [pgH k n cs]), fB_length _ _, by rw [pgB, sealB]; conv => lhs; arg 1; rw [pgH]
                                               simp only [List.append_assoc]⟩
set_option maxRecDepth 100000 in
theorem readM_of {k : Int} {n : Nat} {cs : List Cl} {b : List Int} (h : Is k n cs b) : readM b = some cs ∧ b.length = n ∧ b.getD 0 0 = k := by
  obtain ⟨h1, h2, h3, h4, h5⟩ := h
  have hp := pw_nat h2
  have hz := szN_eq cs
  have hlen : b.length = n := by rw [← h5, pgB_length k n cs h4]
  have hg : b.getD 0 0 = k := by rw [← h5]; rfl
  obtain ⟨U, hU, hsp⟩ := pgB_split k n cs
  rw [h5] at hsp
  obtain ⟨F, hF⟩ : ∃ F, n - 4 - (bdy cs).length = F := ⟨_, rfl⟩
  rw [hF] at hsp
  have hr : rdN b 2 2 = (cs.length : Int) := by
    rw [hsp, rdN_mid _ _ _ 2 2 rfl (fB_length _ _), fB_read 2 _ (by omega) (by omega)]
  have hf : frst b = (F : Int) := by
    unfold frst
    rw [hr, hlen]
    cases cs with
    | nil =>
      simp [bdy] at hF
      simp
      omega
    | cons c r =>
      have e : b = ([k, 1] ++ fB 2 ((c :: r).length : Nat)) ++ (fB 2 (F : Int) ++ (sloB (sts (F + (cB c).length) r) ++ (zs (n - szN (c :: r)) ++ (bdy (c :: r) ++ U)))) := by
        rw [hsp, show sloB (sts F (c :: r)) = fB 2 (F : Int) ++ sloB (sts (F + (cB c).length) r) from by simp [sloB, sts]]
        simp only [List.append_assoc]
      rw [if_pos (by simp only [List.length_cons]; omega), e, rdN_mid _ _ _ 4 2 (by simp [fB_length]) (fB_length _ _), fB_read 2 _ (by omega) (by omega)]
  have hb : (b.drop F).take (n - 4 - F) = bdy cs := by
    have e : b = ([k, 1] ++ (fB 2 cs.length ++ (sloB (sts F cs) ++ zs (n - szN cs)))) ++ (bdy cs ++ U) := by
      rw [hsp]
      simp only [List.append_assoc]
    have hA : ([k, 1] ++ (fB 2 cs.length ++ (sloB (sts F cs) ++ zs (n - szN cs)))).length = F := by
      simp only [List.length_append, List.length_cons, List.length_nil, fB_length, sloB_length, sts_length, zs_length]
      omega
    rw [e, List.drop_left' hA, List.take_left' (by omega)]
  refine ⟨?_, hlen, hg⟩
  unfold readM
  rw [hg, hlen, hr, hf, if_pos ⟨h2, h1⟩, if_neg (by omega), Int.toNat_natCast, Int.toNat_natCast, hb]
  exact part_of (by omega) cs none h3
set_option maxRecDepth 100000 in
/-- What reading gives is the page, if the page is written so. -/
theorem is_iff {b : List Int} (hw : Wf b) (cs : List Cl) : Is (b.getD 0 0) b.length cs b ↔ readM b = some cs ∧ pgB (b.getD 0 0) b.length cs = b := by
  constructor
  · intro h
    exact ⟨(readM_of h).1, h.eq⟩
  · rintro ⟨h1, h2⟩
    obtain ⟨a1, a2, a3, a4, _⟩ := readM_inv hw h1
    exact ⟨a1, a2, a3, a4, h2⟩
set_option maxRecDepth 100000 in
theorem Is.at {k : Int} {n : Nat} {cs : List Cl} {b : List Int} (h : Is k n cs b) : Is (b.getD 0 0) b.length cs b := by
  obtain ⟨_, h2, h3⟩ := readM_of h
  rw [h2, h3]
  exact h
set_option maxRecDepth 100000 in
theorem Is.one {k j : Int} {n m : Nat} {cs ds : List Cl} {b : List Int} (h : Is k n cs b) (g : Is j m ds b) : k = j ∧ n = m ∧ cs = ds := by
  obtain ⟨h1, h2, h3⟩ := readM_of h
  obtain ⟨g1, g2, g3⟩ := readM_of g
  exact ⟨h3.symm.trans g3, h2.symm.trans g2, Option.some.inj (h1.symm.trans g1)⟩

set_option maxRecDepth 100000 in
theorem set_two (A Z : List Int) (x y : Int) (p : Nat) (hp : A.length = p) : ((A ++ ([0, 0] ++ Z)).set p x).set (p + 1) y = A ++ ([x, y] ++ Z) := by
  subst hp
  rw [List.set_append_right _ _ (Nat.le_refl _), List.set_append_right _ _ (by omega)]
  simp
set_option maxRecDepth 100000 in
/-- The page grows slot by slot. -/
theorem layP_set (k : Int) (n : Nat) (cs : List Cl) (i : Nat) (hi : i < cs.length) (hf : szN cs ≤ n) (x y : Int) (hxy : [x, y] = fB 2 ((n : Int) - 4 - (bdy cs).length + (sts 0 cs).getD i 0)) :
    ((layP k n cs i).set (4 + i * 2) x).set (4 + i * 2 + 1) y = layP k n cs (i + 1) := by
  have hz := szN_eq cs
  obtain ⟨F, hF⟩ : ∃ F, n - 4 - (bdy cs).length = F := ⟨_, rfl⟩
  have hFs : sts F cs = (sts 0 cs).map (F + ·) := by
    have := sts_shift F 0 cs
    rwa [Nat.add_zero] at this
  have hg : (sts F cs).take (i + 1) = (sts F cs).take i ++ [F + (sts 0 cs).getD i 0] := by
    rw [List.take_add_one, hFs]
    congr 1
    have hl : i < (sts 0 cs).length := by rw [sts_length]; exact hi
    simp [List.getElem?_map, List.getD, List.getElem?_eq_getElem hl]
  have hs : sloB ((sts F cs).take (i + 1)) = sloB ((sts F cs).take i) ++ [x, y] := by
    rw [hg, hxy, show (n : Int) - 4 - (bdy cs).length + (((sts 0 cs).getD i 0 : Nat) : Int) = ((F + (sts 0 cs).getD i 0 : Nat) : Int) by omega]
    simp [sloB]
  unfold layP
  rw [hF, hs, show n - 4 - 2 * i = 2 + (n - 4 - 2 * (i + 1)) by omega, zs_add]
  obtain ⟨A, hA⟩ : ∃ A, [k, 1] ++ (fB 2 cs.length ++ sloB ((sts F cs).take i)) = A := ⟨_, rfl⟩
  have hAl : A.length = 4 + i * 2 := by
    rw [← hA]
    simp only [List.length_append, List.length_cons, List.length_nil, fB_length, sloB_length, List.length_take, sts_length]
    omega
  generalize zs (n - 4 - 2 * (i + 1)) = Z
  have h2 := set_two A Z x y (4 + i * 2) hAl
  rw [← hA] at h2
  simpa [List.append_assoc, zs] using h2
end Go.Proofs.YtiemnbanehdmnaaGreatDoor

/- Cells of the packed kind: plain mathematics: a cell's bytes with a prefix left out, and how they are read. -/

namespace Go.Proofs.YtiemnbanehdmnaaGreatDoor

set_option maxRecDepth 100000 in
theorem uB_length_pos (n : Int) : 1 ≤ (uB n).length := (uB_length n).2
/-- The number at the bytes' beginning, in groups of seven bits. -/
def pU (l : List Int) : Option (Int × List Int) := if (rU 0 l 0 0).2.2 = 0 then some ((rU 0 l 0 0).1, l.drop (rU 0 l 0 0).2.1.toNat) else none
set_option maxRecDepth 100000 in
theorem pU_mid (n : Int) (r : List Int) (h0 : 0 ≤ n) (h : n < 18446744073709551616) : pU (uB n ++ r) = some (n, r) := by
  unfold pU
  rw [rU_uB 0 n r h0 h]
  simp
set_option maxRecDepth 100000 in
theorem pU_inv {l r : List Int} {n : Int} (hw : Wf l) (h : pU l = some (n, r)) : l = uB n ++ r ∧ 0 ≤ n ∧ n < 18446744073709551616 ∧ Wf r := by
  unfold pU at h
  split at h
  · next he =>
    simp only [Option.some.injEq, Prod.mk.injEq] at h
    obtain ⟨h1, h2⟩ := h
    rcases rU_spec l 0 0 0 hw (by omega) (by omega) (by omega) with ⟨g, _⟩ | ⟨_, k, M, g1, g2, g3, g4, g5, g6, g7, _⟩
    · exact absurd he g
    · have e1 : n = M := by rw [← h1, g5]; simp
      have e2 : (rU 0 l 0 0).2.1.toNat = k := by rw [g3]; omega
      rw [e2] at h2
      subst e1
      refine ⟨?_, g4, by rw [← h1]; exact g6, by rw [← h2]; exact hw.drop _⟩
      rw [← h2, ← g7, List.take_append_drop]
  · cases h
/-- The text there. -/
def pT (l : List Int) : Option (List Int × List Int) :=
  match pU l with
  | none => none
  | some (n, r) => if (r.length : Int) < n then none else some (r.take n.toNat, r.drop n.toNat)
/-- The cell there: the rest of its key as its key. -/
def pC (l : List Int) : Option (Cl × List Int) :=
  match pNum 1 l with
  | none => none
  | some (k, r) =>
    match pT r with
    | none => none
    | some (key, r) =>
      if k = 1 then
        match pT r with
        | none => none
        | some (val, r) => some (⟨key, k, val, 0, 0⟩, r)
      else
        match pU r with
        | none => none
        | some (p, r) =>
          match pU r with
          | none => none
          | some (c, r) => some (⟨key, k, [], RowKit.wrap64 p, RowKit.wrap64 c⟩, r)
/-- A cell's bytes, the first m of its key left out. -/
def qB (m : Nat) (c : Cl) : List Int := [c.kd % 256] ++ (uB ((c.key.length - m : Nat) : Int) ++ (c.key.drop m ++ (if c.kd = 1 then uB c.val.length ++ c.val else uB (c.pg % 18446744073709551616) ++ uB (c.ct % 18446744073709551616))))
/-- How many bytes a text of n bytes takes. -/
def tL (n : Nat) : Nat := (uB (n : Int)).length + n
/-- How many a cell takes with its slot. -/
def qtk (m : Nat) (c : Cl) : Nat := 3 + tL (c.key.length - m) + (if c.kd = 1 then tL c.val.length else (uB (c.pg % 18446744073709551616)).length + (uB (c.ct % 18446744073709551616)).length)
set_option maxRecDepth 100000 in
theorem qB_length (m : Nat) (c : Cl) : (qB m c).length + 2 = qtk m c := by
  unfold qB qtk tL
  split <;> simp only [List.length_append, List.length_cons, List.length_nil, List.length_drop] <;> omega
set_option maxRecDepth 100000 in
theorem qB_wf {m : Nat} {c : Cl} (h : c.Wf) (h1 : c.key.length < 18446744073709551616) (h2 : c.val.length < 18446744073709551616) : Wf (qB m c) := by
  unfold qB
  refine Wf.append (Wf.cons (by omega) Wf.nil) (Wf.append (uB_wf (by omega) (by omega)) (Wf.append (h.1.drop m) ?_))
  split
  · exact Wf.append (uB_wf (by omega) (by omega)) h.2
  · exact Wf.append (uB_wf (by omega) (by omega)) (uB_wf (by omega) (by omega))
/-- A cell with the rest of its key alone. -/
def Cl.cut (c : Cl) (m : Nat) : Cl := ⟨c.key.drop m, c.kd, c.val, c.pg, c.ct⟩
/-- A cell with more ahead of its key. -/
def Cl.pre (c : Cl) (P : List Int) : Cl := ⟨P ++ c.key, c.kd, c.val, c.pg, c.ct⟩
set_option maxRecDepth 100000 in
theorem Cl.cut_pre (c : Cl) (m : Nat) (P : List Int) (h : c.key.take m = P) : (c.cut m).pre P = c := by
  subst h
  obtain ⟨key, kd, val, pg, ct⟩ := c
  simp [Cl.cut, Cl.pre, List.take_append_drop]
set_option maxRecDepth 100000 in
theorem pT_mid (t r : List Int) (h : t.length < 18446744073709551616) : pT (uB t.length ++ (t ++ r)) = some (t, r) := by
  unfold pT
  rw [pU_mid _ _ (by omega) (by omega)]
  simp only
  rw [if_neg (by rw [List.length_append]; omega), Int.toNat_natCast, List.take_left, List.drop_left]
set_option maxRecDepth 100000 in
theorem pC_mid (m : Nat) (c : Cl) (r : List Int) (h : c.fit) : pC (qB m c ++ r) = some (c.cut m, r) := by
  obtain ⟨key, kd, val, pg, ct⟩ := c
  obtain ⟨h1, h2, h3, h4, h5, h6, h7⟩ := h
  simp only at h1 h2 h3 h4 h5 h6 h7
  unfold qB pC Cl.cut
  simp only
  rw [List.append_assoc, show ([kd % 256] : List Int) = fB 1 kd from by simp [fB], pNum_mid 1 kd _ h1.1 (by omega)]
  simp only
  rw [List.append_assoc, List.append_assoc, show key.length - m = (key.drop m).length from by rw [List.length_drop], pT_mid _ _ (by rw [List.length_drop]; omega)]
  simp only
  by_cases e : kd = 1
  · rw [if_pos e, if_pos e, List.append_assoc, pT_mid _ _ (by omega)]
    simp only
    obtain ⟨rfl, rfl⟩ := h6 e
    rfl
  · have e4 : pg % 18446744073709551616 = pg := by omega
    have e5 : ct % 18446744073709551616 = ct := by omega
    rw [if_neg e, if_neg e, List.append_assoc, e4, e5, pU_mid pg _ h4.1 (by omega)]
    simp only
    rw [pU_mid ct _ h5.1 (by omega)]
    simp only
    have e6 : RowKit.wrap64 pg = pg := by unfold RowKit.wrap64; omega
    have e7 : RowKit.wrap64 ct = ct := by unfold RowKit.wrap64; omega
    rw [h7 e, e6, e7]
set_option maxRecDepth 100000 in
theorem pT_inv {l r t : List Int} (hw : Wf l) (h : pT l = some (t, r)) : l = uB t.length ++ (t ++ r) ∧ Wf t ∧ Wf r := by
  unfold pT at h
  split at h
  · cases h
  · next n r' e =>
    obtain ⟨h1, h2, h3, h4⟩ := pU_inv hw e
    split at h
    · cases h
    · next hl =>
      simp only [Option.some.injEq, Prod.mk.injEq] at h
      obtain ⟨rfl, rfl⟩ := h
      have ht : (r'.take n.toNat).length = n.toNat := by rw [List.length_take]; omega
      refine ⟨?_, h4.take _, h4.drop _⟩
      rw [ht, Int.toNat_of_nonneg h2, List.take_append_drop]
      exact h1
set_option maxRecDepth 100000 in
/-- What is read was written so, with nothing left out. -/
theorem pC_inv {l r : List Int} {c : Cl} (hw : Wf l) (h : pC l = some (c, r)) : l = qB 0 c ++ r ∧ c.Wf ∧ Wf r ∧ (0 ≤ c.kd ∧ c.kd ≤ 255) := by
  unfold pC at h
  split at h
  · cases h
  · next k r1 e1 =>
    obtain ⟨h1, h2, h3, h4⟩ := pNum_inv hw e1
    split at h
    · cases h
    · next key r2 e2 =>
      obtain ⟨g1, g3, g4⟩ := pT_inv h4 e2
      split at h
      · next hk =>
        split at h
        · cases h
        · next val r3 e3 =>
          obtain ⟨f1, f3, f4⟩ := pT_inv g4 e3
          simp only [Option.some.injEq, Prod.mk.injEq] at h
          obtain ⟨rfl, rfl⟩ := h
          refine ⟨?_, ⟨g3, f3⟩, f4, by simp only; omega⟩
          rw [h1, g1, f1]
          simp [qB, hk, fB]
      · next hk =>
        split at h
        · cases h
        · next p r3 e3 =>
          obtain ⟨f1, f2, f3, f4⟩ := pU_inv g4 e3
          split at h
          · cases h
          · next ct r4 e4 =>
            obtain ⟨d1, d2, d3, d4⟩ := pU_inv f4 e4
            simp only [Option.some.injEq, Prod.mk.injEq] at h
            obtain ⟨rfl, rfl⟩ := h
            have e5 : RowKit.wrap64 p % 18446744073709551616 = p := by unfold RowKit.wrap64; omega
            have e6 : RowKit.wrap64 ct % 18446744073709551616 = ct := by unfold RowKit.wrap64; omega
            refine ⟨?_, ⟨g3, Wf.nil⟩, d4, by simp only; omega⟩
            rw [h1, g1, f1, d1]
            simp [qB, hk, fB, e5, e6]
end Go.Proofs.YtiemnbanehdmnaaGreatDoor

/- Keys in order: plain mathematics. -/

namespace Go.Proofs.YtiemnbanehdmnaaGreatDoor

set_option maxRecDepth 100000 in
theorem kl_trans : ∀ (a b c : List Int), kl a b → kl b c → kl a c
  | [], [], _, h, _ => by simp [kl, ordL] at h
  | [], _ :: _, [], _, h => by simp [kl, ordL] at h
  | [], _ :: _, _ :: _, _, _ => by simp [kl, ordL]
  | _ :: _, [], _, h, _ => by simp [kl, ordL] at h
  | _ :: _, _ :: _, [], _, h => by simp [kl, ordL] at h
  | x :: a, y :: b, z :: c, h, g => by
    have ih := kl_trans a b c
    unfold kl at *
    simp only [ordL] at h g ⊢
    by_cases h1 : x < y
    · by_cases g1 : y < z
      · rw [if_pos (by omega)]
      · rw [if_neg g1] at g
        by_cases g2 : z < y
        · rw [if_pos g2] at g; simp at g
        · rw [if_pos (by omega)]
    · rw [if_neg h1] at h
      by_cases h2 : y < x
      · rw [if_pos h2] at h; simp at h
      · rw [if_neg h2] at h
        by_cases g1 : y < z
        · rw [if_pos (by omega)]
        · rw [if_neg g1] at g
          by_cases g2 : z < y
          · rw [if_pos g2] at g; simp at g
          · rw [if_neg g2] at g
            rw [if_neg (by omega), if_neg (by omega)]
            exact ih h g
set_option maxRecDepth 100000 in
theorem kl_total : ∀ (a b : List Int), ¬ kl a b → a ≠ b → kl b a
  | [], [], _, h => absurd rfl h
  | [], _ :: _, h, _ => absurd (by simp [kl, ordL]) h
  | _ :: _, [], _, _ => by simp [kl, ordL]
  | x :: a, y :: b, h, g => by
    have ih := kl_total a b
    unfold kl at *
    simp only [ordL] at h ⊢
    by_cases h1 : x < y
    · rw [if_pos h1] at h
      exact absurd rfl h
    · rw [if_neg h1] at h
      by_cases h2 : y < x
      · rw [if_pos h2]
      · rw [if_neg h2] at h
        rw [if_neg h2, if_neg h1]
        obtain rfl : x = y := by omega
        exact ih h (fun e => g (by rw [e]))
/-- The keys rise. -/
def Rs (cs : List Cl) : Prop := cs.Pairwise fun c d => kl c.key d.key
end Go.Proofs.YtiemnbanehdmnaaGreatDoor

/- Pages of the packed kind: plain mathematics: what keys share, and what it saves. -/

namespace Go.Proofs.YtiemnbanehdmnaaGreatDoor

set_option maxRecDepth 100000 in
theorem lcp_take : ∀ (a b : List Int) (n : Nat), n ≤ a.length → lcp (a.take n) b = min n (lcp a b)
  | a, b, 0, _ => by simp [lcp]
  | [], b, n + 1, h => by simp at h
  | x :: a, [], n + 1, _ => by simp [lcp]
  | x :: a, y :: b, n + 1, h => by
    have ih := lcp_take a b n (by simpa using h)
    simp only [List.take_succ_cons, lcp]
    split
    · rw [ih]; omega
    · omega
set_option maxRecDepth 100000 in
theorem lcp_self : ∀ (a : List Int), lcp a a = a.length
  | [] => rfl
  | x :: a => by simp [lcp, lcp_self a]
set_option maxRecDepth 100000 in
theorem lcp_take_eq : ∀ (a b : List Int), a.take (lcp a b) = b.take (lcp a b)
  | [], _ => by simp [lcp]
  | _ :: _, [] => by simp [lcp]
  | x :: a, y :: b => by
    simp only [lcp]
    split
    · next h => subst h; simp [lcp_take_eq a b]
    · simp
set_option maxRecDepth 100000 in
/-- What stands between two keys begins as both do. -/
theorem lcp_between : ∀ (a b c : List Int), kl a b → kl b c → lcp a c ≤ lcp a b
  | [], _, _, _, _ => by simp [lcp]
  | _ :: _, [], _, h, _ => by simp [kl, ordL] at h
  | _ :: _, _ :: _, [], _, h => by simp [kl, ordL] at h
  | x :: a, y :: b, z :: c, h, g => by
    have ih := lcp_between a b c
    unfold kl at *
    simp only [ordL, lcp] at *
    by_cases e : x = z
    · subst e
      by_cases h1 : x < y
      · have : ¬ y < x := by omega
        rw [if_neg this, if_pos h1] at g
        cases g
      · rw [if_neg h1] at h
        by_cases h2 : y < x
        · rw [if_pos h2] at h
          cases h
        · obtain rfl : x = y := by omega
          simp only [if_true]
          rw [if_neg h1, if_neg h2] at g
          rw [if_neg h2] at h
          have := ih h g
          omega
    · rw [if_neg e]
      omega
/-- How much of a all the keys begin with. -/
def shn (a : List Int) : List Cl → Nat
  | [] => a.length
  | d :: r => min (lcp a d.key) (shn a r)
set_option maxRecDepth 100000 in
theorem shn_le (a : List Int) : ∀ (r : List Cl), shn a r ≤ a.length
  | [] => Nat.le_refl _
  | d :: r => by have := shn_le a r; unfold shn; omega
set_option maxRecDepth 100000 in
theorem shn_key (a : List Int) : ∀ (r : List Cl) (d : Cl), d ∈ r → shn a r ≤ d.key.length ∧ d.key.take (shn a r) = a.take (shn a r)
  | [], d, h => by cases h
  | e :: r, d, h => by
    have h1 := lcp_le a e.key
    have h2 := lcp_take_eq a e.key
    unfold shn
    rcases List.mem_cons.1 h with rfl | h
    · refine ⟨by omega, ?_⟩
      have e1 := congrArg (List.take (min (lcp a d.key) (shn a r))) h2
      rw [List.take_take, List.take_take, Nat.min_eq_left (by omega)] at e1
      exact e1.symm
    · have ih := shn_key a r d h
      refine ⟨by omega, ?_⟩
      have e1 := congrArg (List.take (min (lcp a e.key) (shn a r))) ih.2
      rw [List.take_take, List.take_take, Nat.min_eq_left (by omega)] at e1
      exact e1
set_option maxRecDepth 100000 in
/-- What any common beginning is no longer than. -/
theorem shn_most (a P : List Int) (ha : a.take P.length = P) : ∀ (r : List Cl), (∀ d ∈ r, d.key.take P.length = P) → P.length ≤ shn a r
  | [], _ => by
    unfold shn
    have := congrArg List.length ha
    rw [List.length_take] at this
    omega
  | d :: r, h => by
    have ih := shn_most a P ha r fun e he => h e (by simp [he])
    have hd := h d (by simp)
    unfold shn
    have l1 := congrArg List.length ha
    have l2 := congrArg List.length hd
    rw [List.length_take] at l1 l2
    have key : P.length ≤ lcp a d.key := by
      rcases Nat.lt_or_ge (lcp a d.key) P.length with hlt | hge
      · exfalso
        have hn := lcp_next a d.key (by omega) (by omega)
        apply hn
        have e : a.take P.length = d.key.take P.length := by rw [ha, hd]
        have e2 := congrArg (fun l => List.getD l (lcp a d.key) 0) e
        simp only [List.getD_eq_getElem?_getD] at e2 ⊢
        rwa [List.getElem?_take_of_lt hlt, List.getElem?_take_of_lt hlt] at e2
      · exact hge
    omega
set_option maxRecDepth 100000 in
/-- Of rising keys the first and the last tell it. -/
theorem shn_last (a : List Int) : ∀ (r : List Cl) (z : Cl), r.getLast? = some z → (∀ d ∈ r, kl a d.key) → Rs r → shn a r = lcp a z.key
  | [], z, h, _, _ => by simp at h
  | [d], z, h, _, _ => by
    simp at h
    subst h
    have := (lcp_le a d.key).1
    unfold shn shn
    omega
  | d :: e :: r, z, h, ha, hr => by
    unfold Rs at hr
    rw [List.pairwise_cons] at hr
    have hz : (e :: r).getLast? = some z := by simpa using h
    have ih := shn_last a (e :: r) z hz (fun x hx => ha x (by simp [List.mem_cons.1 hx])) hr.2
    have hzm : z ∈ e :: r := List.mem_of_getLast? hz
    have := lcp_between a d.key z.key (ha d (by simp)) (hr.1 z hzm)
    rw [shn, ih]
    omega
/-- The cells whose keys share a prefix. -/
def ktl (k : Int) (cs : List Cl) : List Cl := if k = 3 then cs.tail else cs
def shr : List Cl → List Int
  | [] => []
  | c :: r => c.key.take (shn c.key r)
/-- What cells share. -/
def shP (k : Int) (cs : List Cl) : List Int := shr (ktl k cs)
/-- All of them begin so. -/
def Beg (k : Int) (P : List Int) (cs : List Cl) : Prop := ∀ c ∈ ktl k cs, c.key.take P.length = P
set_option maxRecDepth 100000 in
theorem shr_beg : ∀ (l : List Cl), ∀ c ∈ l, c.key.take (shr l).length = shr l
  | [], c, h => by cases h
  | d :: r, c, h => by
    have hl : (shr (d :: r)).length = shn d.key r := by
      have := shn_le d.key r
      unfold shr
      rw [List.length_take]
      omega
    rw [hl]
    rcases List.mem_cons.1 h with rfl | h
    · rfl
    · exact (shn_key d.key r c h).2
set_option maxRecDepth 100000 in
theorem shP_beg (k : Int) (cs : List Cl) : Beg k (shP k cs) cs := fun c hc => shr_beg _ c hc
set_option maxRecDepth 100000 in
theorem shP_most {k : Int} {P : List Int} {cs : List Cl} (h : Beg k P cs) (hn : ktl k cs ≠ []) : P.length ≤ (shP k cs).length := by
  unfold Beg at h
  unfold shP
  cases hk : ktl k cs with
  | nil => exact absurd hk hn
  | cons c r =>
    rw [hk] at h
    have := shn_most c.key P (h c (by simp)) r fun d hd => h d (by simp [hd])
    have h2 := shn_le c.key r
    unfold shr
    rw [List.length_take]
    omega
set_option maxRecDepth 100000 in
theorem shP_nil {k : Int} {cs : List Cl} (h : ktl k cs = []) : shP k cs = [] := by unfold shP; rw [h]; rfl

set_option maxRecDepth 100000 in
theorem uBf_mono (f : Nat) : ∀ a b : Int, 0 ≤ a → a ≤ b → (uBf f a).length ≤ (uBf f b).length := by
  induction f with
  | zero => intro a b _ _; simp [uBf]
  | succ f ih =>
    intro a b h0 h
    rw [uBf, uBf]
    by_cases h1 : a < 128
    · rw [if_pos h1]
      split
      · simp
      · have := (uBf_length f (b / 128)).2
        simp only [List.length_cons, List.length_nil]
        omega
    · rw [if_neg h1, if_neg (by omega)]
      have := ih (a / 128) (b / 128) (by omega) (by omega)
      simp only [List.length_cons]
      omega
set_option maxRecDepth 100000 in
theorem tL_less (x d : Nat) (h : d ≤ x) : tL (x - d) + d ≤ tL x := by
  unfold tL
  have := uBf_mono 9 ((x - d : Nat) : Int) (x : Int) (by omega) (by omega)
  unfold uB
  omega
set_option maxRecDepth 100000 in
theorem qtk_less (m m' : Nat) (c : Cl) (h : m ≤ m') (hm : m' ≤ c.key.length) : qtk m' c + (m' - m) ≤ qtk m c := by
  have := tL_less (c.key.length - m) (m' - m) (by omega)
  rw [show c.key.length - m - (m' - m) = c.key.length - m' by omega] at this
  unfold qtk
  omega
/-- The cells' bytes; f: the first one's key stands whole. -/
def qbd (m : Nat) : Bool → List Cl → List Int
  | _, [] => []
  | f, c :: r => qB (if f then 0 else m) c ++ qbd m false r
/-- Where they begin, from b on. -/
def qst (m : Nat) : Bool → Nat → List Cl → List Nat
  | _, _, [] => []
  | f, b, c :: r => b :: qst m false (b + (qB (if f then 0 else m) c).length) r
/-- How many bytes they take with their slots. -/
def qsm (m : Nat) : Bool → List Cl → Nat
  | _, [] => 0
  | f, c :: r => qtk (if f then 0 else m) c + qsm m false r
/-- A branch's first key stands whole. -/
def whl (k : Int) : Bool := decide (k = 3)
/-- What a page of these cells takes with a prefix of m bytes. -/
def szQ (k : Int) (m : Nat) (cs : List Cl) : Nat := 10 + m + qsm m (whl k) cs
set_option maxRecDepth 100000 in
theorem qsm_eq (m : Nat) : ∀ (f : Bool) (cs : List Cl), qsm m f cs = 2 * cs.length + (qbd m f cs).length
  | _, [] => rfl
  | f, c :: r => by
    have h1 := qB_length (if f then 0 else m) c
    have h2 := qsm_eq m false r
    simp only [qsm, qbd, List.length_cons, List.length_append]
    omega
set_option maxRecDepth 100000 in
theorem qst_length (m : Nat) : ∀ (f : Bool) (b : Nat) (cs : List Cl), (qst m f b cs).length = cs.length
  | _, _, [] => rfl
  | f, b, c :: r => by simp [qst, qst_length m false _ r]
set_option maxRecDepth 100000 in
theorem qst_shift (m : Nat) : ∀ (f : Bool) (a b : Nat) (cs : List Cl), qst m f (a + b) cs = (qst m f b cs).map (a + ·)
  | _, _, _, [] => rfl
  | f, a, b, c :: r => by
    simp only [qst, List.map_cons, List.cons.injEq, true_and]
    rw [Nat.add_assoc]
    exact qst_shift m false a _ r
set_option maxRecDepth 100000 in
theorem qsm_less (m m' : Nat) (h : m ≤ m') : ∀ (cs : List Cl), (∀ c ∈ cs, m' ≤ c.key.length) → qsm m' false cs + (m' - m) * cs.length ≤ qsm m false cs
  | [], _ => by simp [qsm]
  | c :: r, hc => by
    have h1 := qsm_less m m' h r fun d hd => hc d (by simp [hd])
    have h2 := qtk_less m m' c h (hc c (by simp))
    simp only [qsm, List.length_cons, Nat.mul_add, Nat.mul_one]
    simp only [Bool.false_eq_true, if_false]
    omega
set_option maxRecDepth 100000 in
theorem beg_len {P : List Int} {c : Cl} (h : c.key.take P.length = P) : P.length ≤ c.key.length := by
  have := congrArg List.length h
  rw [List.length_take] at this
  omega
set_option maxRecDepth 100000 in
/-- Cells that have room with a prefix have it also with what they share. -/
theorem szQ_less {k : Int} {P : List Int} {cs : List Cl} (h : Beg k P cs) : szQ k (shP k cs).length cs ≤ szQ k P.length cs := by
  have hs := shP_beg k cs
  by_cases hn : ktl k cs = []
  · rw [shP_nil hn]
    unfold szQ ktl at *
    by_cases hk : k = 3
    · rw [if_pos hk] at hn
      match cs, hn with
      | [], _ => simp [qsm]
      | [c], _ => simp [qsm, whl, hk]
    · rw [if_neg hk] at hn
      subst hn
      simp [qsm]
  · have hm := shP_most h hn
    have hc : ∀ c ∈ ktl k cs, (shP k cs).length ≤ c.key.length := fun c hc => beg_len (hs c hc)
    generalize (shP k cs).length = m' at *
    have hq := qsm_less P.length m' hm (ktl k cs) hc
    have h1 : 1 ≤ (ktl k cs).length := List.length_pos_iff.2 hn
    have h2 : m' - P.length ≤ (m' - P.length) * (ktl k cs).length := Nat.le_mul_of_pos_right _ h1
    unfold szQ ktl at *
    by_cases hk : k = 3
    · rw [if_pos hk] at *
      match cs, hn with
      | c :: r, _ =>
        simp only [List.tail_cons] at hq h2
        simp only [qsm, whl, hk, decide_true, if_true]
        omega
    · rw [if_neg hk] at *
      simp only [whl, hk, decide_false]
      omega
end Go.Proofs.YtiemnbanehdmnaaGreatDoor

/- Pages of the packed kind: plain mathematics: the page's bytes, and how they are read. -/

namespace Go.Proofs.YtiemnbanehdmnaaGreatDoor

/-- The page ahead of its sum, with the prefix P. -/
def pkL (k : Int) (n : Nat) (P : List Int) (cs : List Cl) : List Int := [k, 2] ++ (fB 2 cs.length ++ (fB 2 P.length ++ (P ++ (sloB (qst P.length (whl k) (6 + P.length + 2 * cs.length) cs) ++ (qbd P.length (whl k) cs ++ zs (n - szQ k P.length cs))))))
def pkH (k : Int) (n : Nat) (cs : List Cl) : List Int := pkL k n (shP k cs) cs
/-- The page. -/
def pkB (k : Int) (n : Nat) (cs : List Cl) : List Int := sealB (pkH k n cs)
set_option maxRecDepth 100000 in
theorem szQ_eq (k : Int) (m : Nat) (cs : List Cl) : szQ k m cs = 10 + m + 2 * cs.length + (qbd m (whl k) cs).length := by
  unfold szQ
  rw [qsm_eq]
  omega
set_option maxRecDepth 100000 in
theorem pkL_length (k : Int) (n : Nat) (P : List Int) (cs : List Cl) (h : szQ k P.length cs ≤ n) : (pkL k n P cs).length = n - 4 := by
  have := szQ_eq k P.length cs
  simp only [pkL, List.length_append, List.length_cons, List.length_nil, fB_length, sloB_length, qst_length, zs_length]
  omega
set_option maxRecDepth 100000 in
theorem pkB_length (k : Int) (n : Nat) (cs : List Cl) (h : szQ k (shP k cs).length cs ≤ n) : (pkB k n cs).length = n := by
  have := szQ_eq k (shP k cs).length cs
  rw [pkB, sealB_length, pkH, pkL_length k n _ cs h]
  omega
set_option maxRecDepth 100000 in
theorem qbd_wf (m : Nat) : ∀ (f : Bool) (cs : List Cl), (∀ c ∈ cs, c.Wf ∧ c.fit) → Wf (qbd m f cs)
  | _, [], _ => Wf.nil
  | f, c :: r, h => by
    have hc := h c (by simp)
    have h1 := hc.2.key
    have h2 := hc.2.val
    exact (qB_wf hc.1 (by omega) (by omega)).append (qbd_wf m false r fun d hd => h d (by simp [hd]))
set_option maxRecDepth 100000 in
theorem shr_wf : ∀ (l : List Cl), (∀ c ∈ l, c.Wf) → Wf (shr l)
  | [], _ => Wf.nil
  | c :: r, h => (h c (by simp)).1.take _
set_option maxRecDepth 100000 in
theorem ktl_mem {k : Int} {cs : List Cl} {c : Cl} (h : c ∈ ktl k cs) : c ∈ cs := by
  unfold ktl at h
  split at h
  · exact List.mem_of_mem_tail h
  · exact h
set_option maxRecDepth 100000 in
theorem shP_wf {k : Int} {cs : List Cl} (h : ∀ c ∈ cs, c.Wf) : Wf (shP k cs) := shr_wf _ fun c hc => h c (ktl_mem hc)
set_option maxRecDepth 100000 in
theorem pkL_wf {k : Int} {n : Nat} {P : List Int} {cs : List Cl} (hk : 0 ≤ k ∧ k ≤ 255) (hP : Wf P) (h : ∀ c ∈ cs, c.Wf ∧ c.fit) : Wf (pkL k n P cs) :=
  Wf.append (Wf.cons hk (Wf.cons (by omega) Wf.nil)) (Wf.append (fB_wf _ _) (Wf.append (fB_wf _ _) (Wf.append hP (Wf.append (sloB_wf _) (Wf.append (qbd_wf _ _ _ h) (zs_wf _))))))
set_option maxRecDepth 100000 in
theorem pkB_wf {k : Int} {n : Nat} {cs : List Cl} (hk : 0 ≤ k ∧ k ≤ 255) (h : ∀ c ∈ cs, c.Wf ∧ c.fit) : Wf (pkB k n cs) := sealB_wf (pkL_wf hk (shP_wf fun c hc => (h c hc).1) h)

/-- Bytes as n cells that may be, with rising keys; what is left. -/
def partQ (k p : Int) (P : List Int) : Nat → Bool → Option (List Int) → List Int → Option (List Cl × List Int)
  | 0, _, _, l => some ([], l)
  | n + 1, f, pr, l =>
    match pC l with
    | none => none
    | some (d, r) =>
      if mayP k p (d.pre (if f then [] else P)) ∧ ahead pr (d.pre (if f then [] else P)).key then
        (partQ k p P n false (some (d.pre (if f then [] else P)).key) r).map fun x => (d.pre (if f then [] else P) :: x.1, x.2)
      else none
/-- All but the first begin with P; that one too, if f is not. -/
def BegF (P : List Int) : Bool → List Cl → Prop
  | _, [] => True
  | f, c :: r => (f = false → c.key.take P.length = P) ∧ BegF P false r
set_option maxRecDepth 100000 in
theorem begF_false (P : List Int) : ∀ (cs : List Cl), BegF P false cs ↔ ∀ c ∈ cs, c.key.take P.length = P
  | [] => by simp [BegF]
  | c :: r => by simp [BegF, begF_false P r]
set_option maxRecDepth 100000 in
theorem begF_iff (k : Int) (P : List Int) (cs : List Cl) : BegF P (whl k) cs ↔ Beg k P cs := by
  unfold Beg ktl whl
  by_cases hk : k = 3
  · simp only [hk, decide_true, if_true]
    cases cs with
    | nil => simp [BegF]
    | cons c r => simp [BegF, begF_false P r]
  · simp only [hk, decide_false, if_false]
    exact begF_false P cs
set_option maxRecDepth 100000 in
theorem Cl.cut_zero (c : Cl) : (c.cut 0).pre [] = c := by
  obtain ⟨key, kd, val, pg, ct⟩ := c
  simp [Cl.cut, Cl.pre]
set_option maxRecDepth 100000 in
theorem partQ_of {k p : Int} (hp : p ≤ 65536) (P z : List Int) : ∀ (cs : List Cl) (f : Bool) (pr : Option (List Int)), chk k p pr cs = 0 → BegF P f cs → partQ k p P cs.length f pr (qbd P.length f cs ++ z) = some (cs, z)
  | [], _, _, _, _ => rfl
  | c :: r, f, pr, h, hb => by
    unfold chk at h
    split at h
    · next h1 =>
      split at h
      · next h2 =>
        simp only [List.length_cons, partQ, qbd, List.append_assoc]
        rw [pC_mid _ c _ (h1.fit hp)]
        have e : (c.cut (if f then 0 else P.length)).pre (if f then [] else P) = c := by
          cases f with
          | true => exact c.cut_zero
          | false => exact c.cut_pre _ _ (hb.1 rfl)
        simp only [e, h1, h2, and_self, if_true]
        rw [partQ_of hp P z r false _ h hb.2]
        rfl
      · simp at h
    · simp at h
set_option maxRecDepth 100000 in
theorem qB_pre (P : List Int) (d : Cl) : qB P.length (d.pre P) = qB 0 d := by
  obtain ⟨key, kd, val, pg, ct⟩ := d
  unfold qB Cl.pre
  simp
set_option maxRecDepth 100000 in
theorem partQ_inv {k p : Int} (P : List Int) (hP : Wf P) : ∀ (n : Nat) (f : Bool) (pr : Option (List Int)) (l r : List Int) (cs : List Cl), Wf l → partQ k p P n f pr l = some (cs, r) → cs.length = n ∧ l = qbd P.length f cs ++ r ∧ chk k p pr cs = 0 ∧ (∀ c ∈ cs, c.Wf) ∧ BegF P f cs
  | 0, f, pr, l, r, cs, hw, h => by
    simp only [partQ, Option.some.injEq, Prod.mk.injEq] at h
    obtain ⟨rfl, rfl⟩ := h
    exact ⟨rfl, rfl, rfl, (fun c hc => by cases hc), trivial⟩
  | n + 1, f, pr, l, r, cs, hw, h => by
    unfold partQ at h
    split at h
    · cases h
    · next d r1 e =>
      obtain ⟨c, hc⟩ : ∃ c, d.pre (if f then [] else P) = c := ⟨_, rfl⟩
      rw [hc] at h
      split at h
      · next hm =>
        obtain ⟨e1, e3, e4, _⟩ := pC_inv hw e
        cases hq : partQ k p P n false (some c.key) r1 with
        | none => rw [hq] at h; cases h
        | some x =>
          obtain ⟨ds, r2⟩ := x
          rw [hq] at h
          simp only [Option.map_some, Option.some.injEq, Prod.mk.injEq] at h
          obtain ⟨rfl, rfl⟩ := h
          obtain ⟨f1, f2, f3, f4, f5⟩ := partQ_inv P hP n _ _ r1 _ ds e4 hq
          have hcb : qB (if f then 0 else P.length) c = qB 0 d := by
            rw [← hc]
            cases f with
            | true =>
              obtain ⟨key, kd, val, pg, ct⟩ := d
              simp [Cl.pre]
            | false => exact qB_pre P d
          have hcw : c.Wf := by
            rw [← hc]
            cases f with
            | true => exact e3
            | false => exact ⟨hP.append e3.1, e3.2⟩
          refine ⟨by simp [f1], ?_, ?_, ?_, ?_, f5⟩
          · rw [qbd, hcb, List.append_assoc, ← f2]
            exact e1
          · rw [chk, if_pos hm.1, if_pos hm.2]; exact f3
          · intro x hx
            rcases List.mem_cons.1 hx with e | e
            · rw [e]; exact hcw
            · exact f4 x e
          · intro hf
            subst hf
            rw [← hc]
            simp [Cl.pre]
      · cases h
/-- What the bytes b are, of cells. -/
structure IsQ (k : Int) (n : Nat) (cs : List Cl) (b : List Int) : Prop where
  kd : isKd k
  sz : pw n
  ok : chk k n none cs = 0
  fit : szQ k (shP k cs).length cs ≤ n
  eq : pkB k n cs = b
/-- Where the cells begin. -/
def frsQ (b : List Int) : Int := 6 + rdN b 4 2 + rdN b 2 2 * 2
/-- How bytes are read: the prefix, the cells. -/
def readQ (b : List Int) : Option (List Int × List Cl) :=
  if pw b.length ∧ isKd (b.getD 0 0) then
    (if (b.length : Int) - 4 < frsQ b then none else (partQ (b.getD 0 0) b.length ((b.drop 6).take (rdN b 4 2).toNat) (rdN b 2 2).toNat (whl (b.getD 0 0)) none ((b.drop (frsQ b).toNat).take (b.length - 4 - (frsQ b).toNat))).map fun x => ((b.drop 6).take (rdN b 4 2).toNat, x.1))
  else none
set_option maxRecDepth 100000 in
theorem readQ_inv {b P : List Int} {cs : List Cl} (hw : Wf b) (h : readQ b = some (P, cs)) : isKd (b.getD 0 0) ∧ pw b.length ∧ chk (b.getD 0 0) b.length none cs = 0 ∧ szQ (b.getD 0 0) P.length cs ≤ b.length ∧ (∀ c ∈ cs, c.Wf) ∧ Beg (b.getD 0 0) P cs ∧ Wf P := by
  unfold readQ at h
  split at h
  · next h1 =>
    split at h
    · cases h
    · next h2 =>
      have hn := (rdN_bound b hw 2 2).1
      have hm := (rdN_bound b hw 4 2).1
      have hp := pw_nat h1.1
      cases hq : partQ (b.getD 0 0) b.length ((b.drop 6).take (rdN b 4 2).toNat) (rdN b 2 2).toNat (whl (b.getD 0 0)) none ((b.drop (frsQ b).toNat).take (b.length - 4 - (frsQ b).toNat)) with
      | none => rw [hq] at h; cases h
      | some x =>
        obtain ⟨ds, r⟩ := x
        rw [hq] at h
        simp only [Option.map_some, Option.some.injEq, Prod.mk.injEq] at h
        obtain ⟨rfl, rfl⟩ := h
        have hPw : Wf ((b.drop 6).take (rdN b 4 2).toNat) := (hw.drop _).take _
        obtain ⟨e1, e2, e3, e4, e5⟩ := partQ_inv _ hPw _ _ _ _ _ _ ((hw.drop _).take _) hq
        have hl := congrArg List.length e2
        rw [List.length_take, List.length_drop, List.length_append] at hl
        have hPl : ((b.drop 6).take (rdN b 4 2).toNat).length = (rdN b 4 2).toNat := by
          rw [List.length_take, List.length_drop]
          unfold frsQ at h2
          omega
        refine ⟨h1.2, h1.1, e3, ?_, e4, (begF_iff _ _ _).1 e5, hPw⟩
        rw [szQ_eq]
        rw [hPl] at hl ⊢
        unfold frsQ at hl h2
        omega
  · cases h
set_option maxRecDepth 100000 in
theorem pkB_split (k : Int) (n : Nat) (cs : List Cl) : ∃ U : List Int, U.length = 4 ∧ pkB k n cs = pkL k n (shP k cs) cs ++ U := ⟨_, fB_length 4 _, rfl⟩
set_option maxRecDepth 100000 in
theorem shP_few {k : Int} {n : Nat} {cs : List Cl} (h : szQ k (shP k cs).length cs ≤ n) : (shP k cs).length ≤ n ∧ cs.length ≤ n := by
  have := szQ_eq k (shP k cs).length cs
  omega
set_option maxRecDepth 100000 in
theorem readQ_of {k : Int} {n : Nat} {cs : List Cl} {b : List Int} (h : IsQ k n cs b) : readQ b = some (shP k cs, cs) ∧ b.length = n ∧ b.getD 0 0 = k := by
  obtain ⟨h1, h2, h3, h4, h5⟩ := h
  have hp := pw_nat h2
  have hz := szQ_eq k (shP k cs).length cs
  have hlen : b.length = n := by rw [← h5, pkB_length k n cs h4]
  have hg : b.getD 0 0 = k := by rw [← h5]; rfl
  obtain ⟨U, hU, hsp⟩ := pkB_split k n cs
  rw [h5] at hsp
  have hbeg := shP_beg k cs
  generalize shP k cs = P at *
  obtain ⟨Z, hZ⟩ : ∃ Z, zs (n - szQ k P.length cs) = Z := ⟨_, rfl⟩
  obtain ⟨S, hS⟩ : ∃ S, sloB (qst P.length (whl k) (6 + P.length + 2 * cs.length) cs) = S := ⟨_, rfl⟩
  have hSl : S.length = 2 * cs.length := by rw [← hS, sloB_length, qst_length]
  unfold pkL at hsp
  rw [hZ, hS] at hsp
  simp only [List.append_assoc] at hsp
  have hZl : Z.length = n - szQ k P.length cs := by rw [← hZ, zs_length]
  have hr2 : rdN b 2 2 = (cs.length : Int) := by
    rw [hsp, rdN_mid [k, 2] (fB 2 cs.length) _ 2 2 rfl (fB_length _ _), fB_read 2 _ (by omega) (by omega)]
  have hr4 : rdN b 4 2 = (P.length : Int) := by
    rw [hsp, ← List.append_assoc [k, 2], rdN_mid ([k, 2] ++ fB 2 cs.length) (fB 2 P.length) _ 4 2 (by simp [fB_length]) (fB_length _ _), fB_read 2 _ (by omega) (by omega)]
  have hf : frsQ b = ((6 + P.length + 2 * cs.length : Nat) : Int) := by
    unfold frsQ
    rw [hr2, hr4]
    omega
  have hP6 : (b.drop 6).take P.length = P := by
    rw [hsp, ← List.append_assoc (fB 2 cs.length), ← List.append_assoc [k, 2], List.drop_left' (by simp [fB_length]), List.take_left]
  have hbody : (b.drop (6 + P.length + 2 * cs.length)).take (n - 4 - (6 + P.length + 2 * cs.length)) = qbd P.length (whl k) cs ++ Z := by
    have e : b = ([k, 2] ++ (fB 2 cs.length ++ (fB 2 P.length ++ (P ++ S)))) ++ ((qbd P.length (whl k) cs ++ Z) ++ U) := by
      rw [hsp]
      simp only [List.append_assoc]
    rw [e, List.drop_left' (by simp only [List.length_append, List.length_cons, List.length_nil, fB_length, hSl]; omega), List.take_left' (by rw [List.length_append, hZl]; omega)]
  refine ⟨?_, hlen, hg⟩
  unfold readQ
  rw [hg, hlen, hf, hr2, hr4, if_pos ⟨h2, h1⟩, if_neg (by omega)]
  simp only [Int.toNat_natCast]
  rw [hP6, hbody, partQ_of (by omega) P Z cs (whl k) none h3 ((begF_iff k P cs).2 hbeg)]
  rfl
set_option maxRecDepth 100000 in
/-- What reading gives is the page, if the page is written so. -/
theorem isQ_iff {b : List Int} (hw : Wf b) (cs : List Cl) : IsQ (b.getD 0 0) b.length cs b ↔ (∃ P, readQ b = some (P, cs)) ∧ pkB (b.getD 0 0) b.length cs = b := by
  constructor
  · intro h
    exact ⟨⟨_, (readQ_of h).1⟩, h.eq⟩
  · rintro ⟨⟨P, h1⟩, h2⟩
    obtain ⟨a1, a2, a3, a4, _, a6, _⟩ := readQ_inv hw h1
    exact ⟨a1, a2, a3, Nat.le_trans (szQ_less a6) a4, h2⟩
set_option maxRecDepth 100000 in
theorem IsQ.at {k : Int} {n : Nat} {cs : List Cl} {b : List Int} (h : IsQ k n cs b) : IsQ (b.getD 0 0) b.length cs b := by
  obtain ⟨_, h2, h3⟩ := readQ_of h
  rw [h2, h3]
  exact h
set_option maxRecDepth 100000 in
theorem IsQ.one {k j : Int} {n m : Nat} {cs ds : List Cl} {b : List Int} (h : IsQ k n cs b) (g : IsQ j m ds b) : k = j ∧ n = m ∧ cs = ds := by
  obtain ⟨h1, h2, h3⟩ := readQ_of h
  obtain ⟨g1, g2, g3⟩ := readQ_of g
  have := Option.some.inj (h1.symm.trans g1)
  exact ⟨h3.symm.trans g3, h2.symm.trans g2, congrArg Prod.snd this⟩
end Go.Proofs.YtiemnbanehdmnaaGreatDoor
