/- The check sum, as package ink's text reckons it with its table. -/
import Derived.Test.YtddjepdgigeelabDoorJa
import Derived.Deep.Draws
import Derived.Deep.QuietTactic
import Derived.BigQuiet
import Derived.WalkSmall
import Derived.Handy
import Derived.Laws.BitsAllLaws
import Derived.Deep.WholeRow
import Derived.Lib.SlBuf
import Derived.Lib.BufferWrite
import Derived.Laws.CopyOwn
import Derived.Deep.RegionLaw
namespace Go.Proofs.YtddjepdgigeelabDoor
open Go.RowKit

/-- The table of package ink, row by row. -/
def tabN : List Nat := [0, 274646895, 549293790, 820201905, 1098587580, 1361435347, 1640403810, 1905808397, 2197175160, 2460548119, 2722870694, 2987750089, 3280807620, 3553878443, 3811616794, 4084100981, 0, 4067132163, 3778769143, 324072436, 3348797215, 904991772, 648144872, 3570033899, 2329499855, 2024987596, 1809983544, 2575936315, 1296289744, 3207089363, 2893594407, 1578318884, 0, 1069937025, 2139874050, 1078858371, 4279748100, 3235002245, 2157716742, 3210335367, 4223924985, 3288730488, 2219317755, 3146639482, 81018109, 991022460, 2069880831, 1150955134, 0, 329422967, 658845934, 887597209, 1317691868, 1562966443, 1775194418, 2054015301, 2635383736, 2394315727, 3125932886, 2851302177, 3550388836, 3225172499, 4108030602, 3883469565, 0, 1889697162, 3779394324, 2447804062, 3345318105, 3083337043, 639728589, 1451427399, 2334619459, 4219800265, 1784908887, 448917981, 1279457178, 1021348368, 2902854798, 3718541572, 0, 2772537982, 1332695565, 3928932467, 2665391130, 1000289892, 3518101015, 1961911401, 944848581, 2635115707, 2000579784, 3531603638, 2794429151, 63834273, 3923822802, 1285642924, 0, 3915690301, 3609531531, 1044489654, 2879807463, 1120071386, 2088979308, 2515008081, 1386268991, 3150215170, 2240142772, 1826712713, 4177958616, 274868197, 774079059, 3343332206, 0, 3712330424, 3211207553, 1646430521, 2065838579, 2791807819, 3292861042, 419477706, 4131677158, 721537374, 1227047015, 2489772767, 2372293141, 1344534701, 838955412, 4014267180]
def tN (i : Nat) : Nat := tabN.getD i 0
set_option maxRecDepth 100000 in
theorem tN_lt (i : Nat) : tN i < 4294967296 := by
  by_cases h : i < 128
  · have h' : ∀ a : Fin 128, tN a.val < 4294967296 := by decide +kernel
    exact h' ⟨i, h⟩
  · have : tN i = 0 := by
      unfold tN
      rw [List.getD_eq_getElem?_getD, List.getElem?_eq_none (by rw [show tabN.length = 128 from rfl]; omega)]
      rfl
    omega
/-- The register behind a byte that has been xored in. -/
def tb (R : Nat) : Nat := R / 256 ^^^ tN (16 + R % 16) ^^^ tN (R / 16 % 16)
/-- The register behind four bytes that have been xored in. -/
def sh (R : Nat) : Nat := tN (112 + R % 16) ^^^ tN (96 + R / 16 % 16) ^^^ tN (80 + R / 256 % 16) ^^^ tN (64 + R / 4096 % 16) ^^^ tN (48 + R / 65536 % 16) ^^^ tN (32 + R / 1048576 % 16) ^^^ tN (16 + R / 16777216 % 16) ^^^ tN (R / 268435456)
set_option maxRecDepth 100000 in
theorem xor32 {a b : Nat} (ha : a < 4294967296) (hb : b < 4294967296) : a ^^^ b < 4294967296 := Nat.xor_lt_two_pow (n := 32) ha hb
set_option maxRecDepth 100000 in
theorem tb_lt {R : Nat} (h : R < 4294967296) : tb R < 4294967296 := xor32 (xor32 (by omega) (tN_lt _)) (tN_lt _)
set_option maxRecDepth 100000 in
theorem sh_lt (R : Nat) : sh R < 4294967296 := xor32 (xor32 (xor32 (xor32 (xor32 (xor32 (xor32 (tN_lt _) (tN_lt _)) (tN_lt _)) (tN_lt _)) (tN_lt _)) (tN_lt _)) (tN_lt _)) (tN_lt _)
set_option maxRecDepth 100000 in
theorem and15 (a : Int) (h0 : 0 ≤ a) (h1 : a < 4294967296) : bits .and .u32 a 15 = a % 16 := by
  rw [u32_and _ _ (by omega) (by omega) (by omega) (by omega), show (15 : Int).toNat = 2 ^ 4 - 1 from rfl, Nat.and_two_pow_sub_one_eq_mod]
  omega
/-- The world holds the table. -/
def Tab (w : World) : Prop := ∀ i, i < 128 → w.cell? ⟨1, i, none⟩ = some (.int .u32 (tN i))
set_option maxRecDepth 100000 in
theorem Tab.on {w w' : World} (h : Tab w) {B : Nat} (hb : Below B w w') (hB : 1 < B) : Tab w' := fun i hi => (hb.cell (p := ⟨1, i, none⟩) hB).trans (h i hi)
set_option maxRecDepth 100000 in
theorem Tab.drewN {w : World} (h : Tab w) (q : Nat) : Tab (w.drewN q) := fun i hi => by simpa using h i hi

/-- What 'taken' comes to: four bytes at a time, then byte by byte. -/
def tk1 (r : Nat) (l : List Nat) : Nat := l.foldl (fun r c => tb (r ^^^ c)) r
def tk : List Nat → Nat → Nat
  | a :: b :: c :: d :: l, r => tk l (sh (r ^^^ (a ||| b * 256 ||| c * 65536 ||| d * 16777216)))
  | l, r => tk1 r l
end Go.Proofs.YtddjepdgigeelabDoor

/- ink.taken and ink.shifted, followed as their text goes. -/

namespace Go.Proofs.YtddjepdgigeelabDoor
open Go.RowKit

set_option maxRecDepth 100000 in
set_option maxHeartbeats 1000000 in
theorem shifted_core (w : World) (R i0 i1 i2 i3 i4 i5 i6 i7 A0 A1 A2 A3 A4 A5 A6 A7 X1 X2 X3 X4 X5 X6 X7 : Nat)
    (h0 : bits .and .u32 (R : Int) 15 = (i0 : Int)) (h1 : bits .and .u32 ((R : Int) / 16) 15 = (i1 : Int)) (h2 : bits .and .u32 ((R : Int) / 256) 15 = (i2 : Int)) (h3 : bits .and .u32 ((R : Int) / 4096) 15 = (i3 : Int))
    (h4 : bits .and .u32 ((R : Int) / 65536) 15 = (i4 : Int)) (h5 : bits .and .u32 ((R : Int) / 1048576) 15 = (i5 : Int)) (h6 : bits .and .u32 ((R : Int) / 16777216) 15 = (i6 : Int)) (h7 : (R : Int) / 268435456 = (i7 : Int))
    (b0 : i0 < 16) (b1 : i1 < 16) (b2 : i2 < 16) (b3 : i3 < 16) (b4 : i4 < 16) (b5 : i5 < 16) (b6 : i6 < 16) (b7 : i7 < 16)
    (c0 : w.cell? ⟨1, 112 + i0, none⟩ = some (.int .u32 A0)) (c1 : w.cell? ⟨1, 96 + i1, none⟩ = some (.int .u32 A1)) (c2 : w.cell? ⟨1, 80 + i2, none⟩ = some (.int .u32 A2)) (c3 : w.cell? ⟨1, 64 + i3, none⟩ = some (.int .u32 A3))
    (c4 : w.cell? ⟨1, 48 + i4, none⟩ = some (.int .u32 A4)) (c5 : w.cell? ⟨1, 32 + i5, none⟩ = some (.int .u32 A5)) (c6 : w.cell? ⟨1, 16 + i6, none⟩ = some (.int .u32 A6)) (c7 : w.cell? ⟨1, i7, none⟩ = some (.int .u32 A7))
    (x1 : bits .xor .u32 (A0 : Int) (A1 : Int) = (X1 : Int)) (x2 : bits .xor .u32 (X1 : Int) (A2 : Int) = (X2 : Int)) (x3 : bits .xor .u32 (X2 : Int) (A3 : Int) = (X3 : Int)) (x4 : bits .xor .u32 (X3 : Int) (A4 : Int) = (X4 : Int))
    (x5 : bits .xor .u32 (X4 : Int) (A5 : Int) = (X5 : Int)) (x6 : bits .xor .u32 (X5 : Int) (A6 : Int) = (X6 : Int)) (x7 : bits .xor .u32 (X6 : Int) (A7 : Int) = (X7 : Int)) :
    Calls Tryd.prog 66 #[.int .u32 R] w fun e w' => e = .returned (.int .u32 X7) ∧ ∃ q, w' = w.drewN q := by
  go_enter Tryd.func66, Tryd.ntmps66
  go_wp2_with fail
  go_quiet (fail)
  go_wp2
  go_ret
  exact ⟨rfl, _, rfl⟩

set_option maxRecDepth 100000 in
theorem shifted_any (w : World) (R : Nat) (hR : R < 4294967296) (ht : Tab w) : Calls Tryd.prog 66 #[.int .u32 R] w fun e w' => e = .returned (.int .u32 (sh R)) ∧ ∃ q, w' = w.drewN q :=
  shifted_core w R (R % 16) (R / 16 % 16) (R / 256 % 16) (R / 4096 % 16) (R / 65536 % 16) (R / 1048576 % 16) (R / 16777216 % 16) (R / 268435456) _ _ _ _ _ _ _ _ _ _ _ _ _ _ _
    (by rw [and15 _ (by omega) (by omega)]; omega) (by rw [and15 _ (by omega) (by omega)]; omega) (by rw [and15 _ (by omega) (by omega)]; omega) (by rw [and15 _ (by omega) (by omega)]; omega)
    (by rw [and15 _ (by omega) (by omega)]; omega) (by rw [and15 _ (by omega) (by omega)]; omega) (by rw [and15 _ (by omega) (by omega)]; omega) (by omega)
    (by omega) (by omega) (by omega) (by omega) (by omega) (by omega) (by omega) (by omega)
    (ht _ (by omega)) (ht _ (by omega)) (ht _ (by omega)) (ht _ (by omega)) (ht _ (by omega)) (ht _ (by omega)) (ht _ (by omega)) (ht _ (by omega))
    (u32_xor_nat _ _ (tN_lt _) (tN_lt _)) (u32_xor_nat _ _ (xor32 (tN_lt _) (tN_lt _)) (tN_lt _)) (u32_xor_nat _ _ (xor32 (xor32 (tN_lt _) (tN_lt _)) (tN_lt _)) (tN_lt _))
    (u32_xor_nat _ _ (xor32 (xor32 (xor32 (tN_lt _) (tN_lt _)) (tN_lt _)) (tN_lt _)) (tN_lt _)) (u32_xor_nat _ _ (xor32 (xor32 (xor32 (xor32 (tN_lt _) (tN_lt _)) (tN_lt _)) (tN_lt _)) (tN_lt _)) (tN_lt _))
    (u32_xor_nat _ _ (xor32 (xor32 (xor32 (xor32 (xor32 (tN_lt _) (tN_lt _)) (tN_lt _)) (tN_lt _)) (tN_lt _)) (tN_lt _)) (tN_lt _))
    (u32_xor_nat _ _ (xor32 (xor32 (xor32 (xor32 (xor32 (xor32 (tN_lt _) (tN_lt _)) (tN_lt _)) (tN_lt _)) (tN_lt _)) (tN_lt _)) (tN_lt _)) (tN_lt _))

set_option maxRecDepth 100000 in
theorem tb_pack (w : World) (r C : Nat) (ht : Tab w) (hr : r < 4294967296) (hC : C < 4294967296) : ∃ R i1 i2 D A B X1 X2 : Nat, bits .xor .u32 (r : Int) (C : Int) = (R : Int) ∧ bits .and .u32 (R : Int) 15 = (i1 : Int) ∧ bits .and .u32 ((R : Int) / 16) 15 = (i2 : Int) ∧
    i1 < 16 ∧ i2 < 16 ∧ (R : Int) / 256 = (D : Int) ∧ w.cell? ⟨1, 16 + i1, none⟩ = some (.int .u32 A) ∧ w.cell? ⟨1, i2, none⟩ = some (.int .u32 B) ∧ bits .xor .u32 (D : Int) (A : Int) = (X1 : Int) ∧ bits .xor .u32 (X1 : Int) (B : Int) = (X2 : Int) ∧
    Hid (X2 = tb (r ^^^ C)) ∧ X2 < 4294967296 := by
  have hR := xor32 hr hC
  refine ⟨r ^^^ C, (r ^^^ C) % 16, (r ^^^ C) / 16 % 16, (r ^^^ C) / 256, tN (16 + (r ^^^ C) % 16), tN ((r ^^^ C) / 16 % 16), _, _, u32_xor_nat _ _ hr hC, ?_, ?_, by omega, by omega, by omega, ht _ (by omega), ht _ (by omega), u32_xor_nat _ _ (by omega) (tN_lt _), u32_xor_nat _ _ (xor32 (by omega) (tN_lt _)) (tN_lt _), rfl, tb_lt hR⟩
  · rw [and15 _ (by omega) (by omega)]; omega
  · rw [and15 _ (by omega) (by omega)]; omega
set_option maxRecDepth 100000 in
theorem or_pack (r a b c d : Nat) (hr : r < 4294967296) (ha : a < 256) (hb : b < 256) (hc : c < 256) (hd : d < 256) : ∃ O1 O2 O3 X : Nat, bits .or .u32 (a : Int) ((b : Int) * 256) = (O1 : Int) ∧ bits .or .u32 (O1 : Int) ((c : Int) * 65536) = (O2 : Int) ∧
    bits .or .u32 (O2 : Int) ((d : Int) * 16777216) = (O3 : Int) ∧ bits .xor .u32 (r : Int) (O3 : Int) = (X : Int) ∧ Hid (X = r ^^^ (a ||| b * 256 ||| c * 65536 ||| d * 16777216)) ∧ X < 4294967296 := by
  have o1 : (a ||| b * 256) < 4294967296 := Nat.or_lt_two_pow (n := 32) (by omega) (by omega)
  have o2 : (a ||| b * 256 ||| c * 65536) < 4294967296 := Nat.or_lt_two_pow (n := 32) o1 (by omega)
  have o3 : (a ||| b * 256 ||| c * 65536 ||| d * 16777216) < 4294967296 := Nat.or_lt_two_pow (n := 32) o2 (by omega)
  exact ⟨_, _, _, _, by simpa using u32_or_nat a (b * 256) (by omega) (by omega), by simpa using u32_or_nat _ (c * 65536) o1 (by omega), by simpa using u32_or_nat _ (d * 16777216) o2 (by omega), u32_xor_nat _ _ hr o3, rfl, xor32 hr o3⟩

set_option maxRecDepth 100000 in
theorem quiet_call' {P : Program} {f : FuncId} {args : Array Value} {w : World} {v : Value} {Q : Ending → World → Prop} (h : Calls P f args w fun e w' => e = .returned v ∧ ∃ q, w' = w.drewN q) (hQ : ∀ q, Q (.returned v) (w.drewN q)) : Calls P f args w Q :=
  h.mono fun e w' ⟨he, q, hw⟩ => by subst he; rw [hw]; exact hQ q

set_option maxRecDepth 100000 in
theorem toNat_getD (l : List Int) (k : Nat) : (l.map Int.toNat).getD k 0 = (l.getD k 0).toNat := by
  by_cases h : k < l.length
  · simp [List.getD, h]
  · simp [List.getD, List.getElem?_eq_none (Nat.le_of_not_lt h)]

set_option maxRecDepth 100000 in
theorem tk_four (l : List Int) (r : Nat) (h : 4 ≤ l.length) : tk (l.map Int.toNat) r = tk ((l.drop 4).map Int.toNat) (sh (r ^^^ ((l.getD 0 0).toNat ||| (l.getD 1 0).toNat * 256 ||| (l.getD 2 0).toNat * 65536 ||| (l.getD 3 0).toNat * 16777216))) := by
  match l, h with
  | a :: b :: c :: d :: l, _ => simp [tk]
set_option maxRecDepth 100000 in
theorem tk_less (l : List Int) (r : Nat) (h : l.length < 4) : tk (l.map Int.toNat) r = tk1 r (l.map Int.toNat) := by
  match l, h with
  | [], _ => rfl
  | [_], _ => rfl
  | [_, _], _ => rfl
  | [_, _, _], _ => rfl
set_option maxRecDepth 100000 in
theorem tk1_cons (l : List Int) (k r : Nat) (h : k < l.length) : tk1 r ((l.drop k).map Int.toNat) = tk1 (tb (r ^^^ (l.getD k 0).toNat)) ((l.drop (k + 1)).map Int.toNat) := by
  rw [drop_cons l k h]
  simp [tk1]

set_option maxRecDepth 100000 in
/-- A slice cut behind its first four bytes. -/
theorem Sl.four {w : World} {b off n cap : Nat} {l : List Int} (h : Sl w (some ⟨b, off, none⟩) n cap l) (h4 : 4 ≤ n) (ao : Option Addr) (hao : ¬ cap = 4 → ao = some ⟨b, off + 4, none⟩) (hn : ao = none → False) : Sl w ao (n - 4) (cap - 4) (l.drop 4) := by
  obtain ⟨hlen, hcap, hroom, hwf, hnil, hat⟩ := h
  refine ⟨by simp; omega, by omega, by omega, hwf.drop 4, fun e => (hn e).elim, ?_⟩
  rcases hat with h0 | ⟨b', off', e, hlt, hc⟩
  · omega
  · cases e
    by_cases hc4 : cap = 4
    · exact .inl (by omega)
    · refine .inr ⟨b, off + 4, hao hc4, hlt, fun i hi => ?_⟩
      rw [Nat.add_assoc, hc (4 + i) (by omega)]
      simp [List.getD]

set_option maxRecDepth 100000 in
set_option maxHeartbeats 2000000 in
theorem taken_any (ao : Option Addr) (n cap : Nat) (l : List Int) (r : Nat) (w : World) (hs : Sl w ao n cap l) (ht : Tab w) (hr : r < 4294967296) :
    Calls Tryd.prog 60 #[.int .u32 r, .slice ao n cap] w fun e w' => e = .returned (.int .u32 (tk (l.map Int.toNat) r)) ∧ ∃ q, w' = w.drewN q := by
  have HT := hidden ht
  have HS := hidden hs
  clear ht hs
  generalize hF : tk (l.map Int.toNat) r = F
  have HF := hidden hF
  clear hF
  go_enter Tryd.func60, Tryd.ntmps60
  go_wp2_with fail
  go_loopw [0, 1] (fun v p wr => ∃ (ao' : Option Addr) (n' cap' : Nat) (l' : List Int) (q x : Nat), v = .int .u32 x ∧ x < 4294967296 ∧ p = .slice ao' n' cap' ∧ Hid (Sl w ao' n' cap' l') ∧ Hid (tk (l'.map Int.toNat) x = F) ∧ wr = w.drewN q) (fun _ p _ => match p with | .slice _ n _ => n | _ => 0)
  case atStart => exact ⟨ao, n, cap, l, 0, r, rfl, hr, rfl, HS, HF, rfl⟩
  case round =>
    obtain ⟨ao', n', cap', l', q, x, rfl, hx, rfl, HS', HF', rfl⟩ := hrel
    have hl' := HS'.out.hlen
    have hroom := HS'.out.hroom
    by_cases h4 : 4 ≤ n'
    · rcases HS'.out.hat with h | ⟨b, off, rfl, hbb, hc⟩
      · omega
      have c0 := hc 0 (by omega)
      have c1 := hc 1 (by omega)
      have c2 := hc 2 (by omega)
      have c3 := hc 3 (by omega)
      have w0 := HS'.out.wf.getD 0
      have w1 := HS'.out.wf.getD 1
      have w2 := HS'.out.wf.getD 2
      have w3 := HS'.out.wf.getD 3
      have hcap := HS'.out.hcap
      have e4 := tk_four l' x (by omega)
      rw [HF'.out] at e4
      clear hc
      generalize l'.getD 0 0 = a0 at *
      generalize l'.getD 1 0 = a1 at *
      generalize l'.getD 2 0 = a2 at *
      generalize l'.getD 3 0 = a3 at *
      obtain ⟨B0, rfl⟩ := Int.eq_ofNat_of_zero_le w0.1
      obtain ⟨B1, rfl⟩ := Int.eq_ofNat_of_zero_le w1.1
      obtain ⟨B2, rfl⟩ := Int.eq_ofNat_of_zero_le w2.1
      obtain ⟨B3, rfl⟩ := Int.eq_ofNat_of_zero_le w3.1
      simp only [Int.toNat_natCast] at e4
      obtain ⟨O1, O2, O3, X, o1, o2, o3, ox, HX, hX⟩ := or_pack x B0 B1 B2 B3 hx (by omega) (by omega) (by omega) (by omega)
      rw [← HX.out] at e4
      have E4 := hidden e4
      clear e4 HX
      simp only [Nat.add_zero] at c0
      go_wp2_with fail
      go_quiet (fail)
      go_wp2_with fail
      have hsx := shifted_any (w.drewN (q + nq)) X hX (HT.out.drewN _)
      have hS := sh_lt X
      generalize sh X = S at *
      refine quiet_call' hsx ?_
      clear hsx c0 c1 c2 c3 o1 o2 o3 ox w0 w1 w2 w3
      intro q2
      by_cases hc4 : cap' = 4
      · have HN := hidden (HS'.out.four h4 (some ⟨b, off, none⟩) (fun h => absurd hc4 h) (fun h => by cases h))
        subst hc4
        go_wp2
        go_roundw
        case rel => exact ⟨_, _, _, l'.drop 4, _, S, rfl, hS, rfl, by have h := HN.out; rw [show n' - 4 = 0 by omega] at h; exact h, E4.out.symm, rfl⟩
        case measure => simp; omega
      · have HN := hidden (HS'.out.four h4 (some ⟨b, off + 4, none⟩) (fun _ => rfl) (fun h => by cases h))
        go_wp2
        go_roundw
        case rel => exact ⟨_, _, _, l'.drop 4, _, S, rfl, hS, rfl, HN, E4.out.symm, rfl⟩
        case measure => simp; omega
    · have e1 := tk_less l' x (by omega)
      rw [HF'.out] at e1
      have E1 := hidden e1
      clear e1 HF' HF HS
      go_wp2_with fail
      go_loopw [0, 40] (fun v i wr => ∃ (k q y : Nat), k ≤ n' ∧ i = .int .i64 k ∧ v = .int .u32 y ∧ y < 4294967296 ∧ Hid (F = tk1 y ((l'.drop k).map Int.toNat)) ∧ wr = w.drewN q) (fun _ i _ => n' - (intOf i).toNat)
      case atStart => exact ⟨0, q, x, by omega, rfl, rfl, hx, E1, rfl⟩
      case round =>
        obtain ⟨k, q', y, hk, rfl, rfl, hy, HK, rfl⟩ := hrel
        clear E1
        by_cases hlt : k < n'
        · rcases HS'.out.hat with h | ⟨b, off, rfl, hbb, hc⟩
          · omega
          have ck := hc k hlt
          have wk := HS'.out.wf.getD k
          have ek := tk1_cons l' k y (by omega)
          rw [← HK.out] at ek
          clear hc
          generalize l'.getD k 0 = a0 at *
          obtain ⟨C, rfl⟩ := Int.eq_ofNat_of_zero_le wk.1
          simp only [Int.toNat_natCast] at ek
          obtain ⟨R, i1, i2, D, A, B, X1, X2, p1, p2, p3, p4, p5, p6, p7, p8, p9, p10, HX, hX⟩ := tb_pack w y C HT.out hy (by omega)
          rw [← HX.out] at ek
          have EK := hidden ek
          clear ek HX HK
          go_wp2_with fail
          go_quiet (fail)
          go_wp2
          go_roundw
          case rel => exact ⟨k + 1, _, X2, by omega, by go_num, rfl, hX, EK, rfl⟩
          case measure => simp [intOf]; omega
        · have eK : F = y := by
            rw [HK.out, List.drop_eq_nil_of_le (by omega)]
            rfl
          have EK := hidden eK
          clear eK HK
          go_wp2
          go_ret
          exact ⟨ret_int (by rw [EK.out]), _, rfl⟩

end Go.Proofs.YtddjepdgigeelabDoor

/- ink.Sum, followed as its text goes. -/

namespace Go.Proofs.YtddjepdgigeelabDoor
open Go.RowKit

/-- A slice of slices of bytes. -/
structure SlS (w : World) (ao : Option Addr) (n cap : Nat) (ls : List (List Int)) : Prop where
  hlen : ls.length = n
  hcap : n ≤ cap
  hroom : n ≤ 140737488355328
  hnil : ao = none → cap = 0
  hat : n = 0 ∨ ∃ b off, ao = some ⟨b, off, none⟩ ∧ b < w.heap.size ∧ ∀ i, i < n → ∃ a m c, w.cell? ⟨b, off + i, none⟩ = some (.slice a m c) ∧ Sl w a m c (ls.getD i [])

/-- What Sum comes to. -/
def sumN (ls : List (List Int)) : Nat := 4294967295 ^^^ ls.foldl (fun r l => tk (l.map Int.toNat) r) 4294967295
set_option maxRecDepth 100000 in
theorem tk1_lt : ∀ (l : List Nat) (r : Nat), r < 4294967296 → (∀ x ∈ l, x < 256) → tk1 r l < 4294967296
  | [], _, h, _ => h
  | c :: l, r, h, hl => by
    show tk1 (tb (r ^^^ c)) l < _
    exact tk1_lt l _ (tb_lt (xor32 h (by have := hl c (by simp); omega))) (fun x hx => hl x (by simp [hx]))
set_option maxRecDepth 100000 in
theorem tk_lt : ∀ (l : List Nat) (r : Nat), r < 4294967296 → (∀ x ∈ l, x < 256) → tk l r < 4294967296
  | [], _, h, _ => h
  | [a], r, h, hl => tk1_lt [a] r h hl
  | [a, b], r, h, hl => tk1_lt [a, b] r h hl
  | [a, b, c], r, h, hl => tk1_lt [a, b, c] r h hl
  | a :: b :: c :: d :: l, r, _, hl => by
    show tk l (sh _) < _
    exact tk_lt l _ (sh_lt _) (fun x hx => hl x (by simp [hx]))
set_option maxRecDepth 100000 in
theorem nat_lt (l : List Int) (h : Wf l) : ∀ x ∈ l.map Int.toNat, x < 256 := by
  intro x hx
  obtain ⟨y, hy, rfl⟩ := List.mem_map.1 hx
  have := h y hy
  omega
set_option maxRecDepth 100000 in
theorem dropS (ls : List (List Int)) (k : Nat) (h : k < ls.length) : ls.drop k = ls.getD k [] :: ls.drop (k + 1) := by
  rw [List.drop_eq_getElem_cons h]
  simp [List.getD, List.getElem?_eq_getElem h]

set_option maxRecDepth 100000 in
set_option maxHeartbeats 1000000 in
theorem sum_any (ao : Option Addr) (n cap : Nat) (ls : List (List Int)) (w : World) (hs : SlS w ao n cap ls) (ht : Tab w) :
    Calls Tryd.prog 39 #[.slice ao n cap] w fun e w' => e = .returned (.int .u32 (sumN ls)) ∧ ∃ q, w' = w.drewN q := by
  have HT := hidden ht
  clear ht
  obtain ⟨hlen, hcap, hroom, hnil, hat⟩ := hs
  unfold sumN
  generalize hF : ls.foldl (fun r l => tk (l.map Int.toNat) r) 4294967295 = F
  have HF := hidden hF
  clear hF
  go_enter Tryd.func39, Tryd.ntmps39
  go_wp2_with fail
  go_loopw [3, 8] (fun v i wr => ∃ (k q y : Nat), k ≤ n ∧ i = .int .i64 k ∧ v = .int .u32 y ∧ y < 4294967296 ∧ Hid ((ls.drop k).foldl (fun r l => tk (l.map Int.toNat) r) y = F) ∧ wr = w.drewN q) (fun _ i _ => n - (intOf i).toNat)
  case atStart => exact ⟨0, 0, 4294967295, by omega, rfl, rfl, by omega, HF, rfl⟩
  case round =>
    obtain ⟨k, q, y, hk, rfl, rfl, hy, HK, rfl⟩ := hrel
    clear HF
    by_cases hlt : k < n
    · rcases hat with h | ⟨b, off, rfl, hbb, hc⟩
      · omega
      obtain ⟨a, m, c, hck, hsl⟩ := hc k hlt
      clear hc
      have hT := taken_any a m c (ls.getD k []) y (w.drewN q) (hsl.drewN q) (HT.out.drewN q) hy
      have hlt2 := tk_lt _ y hy (nat_lt _ hsl.wf)
      have e := HK.out
      rw [dropS ls k (by omega), List.foldl_cons] at e
      clear HK hsl
      generalize tk ((ls.getD k []).map Int.toNat) y = y2 at *
      have HT2 := hidden hT
      have HE := hidden e
      clear hT e
      go_wp2_with fail
      refine quiet_call' HT2.out ?_
      intro q2
      go_wp2
      go_roundw
      case rel => exact ⟨k + 1, _, y2, by omega, by go_num, rfl, hlt2, HE, rfl⟩
      case measure => simp [intOf]; omega
    · have e : F = y := by
        rw [← HK.out, List.drop_eq_nil_of_le (by omega)]
        rfl
      have HE := hidden e
      have hx := u32_xor_nat 4294967295 y (by omega) hy
      have HX := hidden hx
      have hsg : IntKind.u32.signed = false := rfl
      clear e HK hx
      go_wp2
      go_ret
      exact ⟨ret_int (by rw [HE.out]; exact HX.out), _, rfl⟩

end Go.Proofs.YtddjepdgigeelabDoor

/- The table's way of reckoning the check sum is the bit by bit one; and what is turned within 32 places is told. -/

namespace Go.Proofs.YtddjepdgigeelabDoor

/-- One shift of the register. -/
def S (r : Nat) : Nat := if r % 2 = 1 then r / 2 ^^^ 2197175160 else r / 2
def Sn : Nat → Nat → Nat
  | 0, r => r
  | k + 1, r => Sn k (S r)
set_option maxRecDepth 100000 in
theorem S_xor (a b : Nat) : S (a ^^^ b) = S a ^^^ S b := by
  have h2 : (a ^^^ b) / 2 = a / 2 ^^^ b / 2 := by
    have := Nat.xor_div_two_pow (a := a) (b := b) (n := 1)
    simpa using this
  have hm : (a ^^^ b) % 2 = (a % 2 + b % 2) % 2 := by
    have := Nat.xor_mod_two_pow (a := a) (b := b) (n := 1)
    simp only [Nat.pow_one] at this
    rw [this]
    have ha : a % 2 = 0 ∨ a % 2 = 1 := by omega
    have hb : b % 2 = 0 ∨ b % 2 = 1 := by omega
    rcases ha with ha | ha <;> rcases hb with hb | hb <;> rw [ha, hb] <;> rfl
  unfold S
  rw [h2, hm]
  have ha : a % 2 = 0 ∨ a % 2 = 1 := by omega
  have hb : b % 2 = 0 ∨ b % 2 = 1 := by omega
  rcases ha with ha | ha <;> rcases hb with hb | hb <;> simp only [ha, hb] <;> simp
  · rw [Nat.xor_assoc]
  · rw [Nat.xor_assoc, Nat.xor_comm (b / 2), Nat.xor_assoc]
  · rw [Nat.xor_assoc, Nat.xor_comm 2197175160, Nat.xor_assoc, Nat.xor_self, Nat.xor_zero]
set_option maxRecDepth 100000 in
theorem Sn_xor (k : Nat) : ∀ a b, Sn k (a ^^^ b) = Sn k a ^^^ Sn k b := by
  induction k with
  | zero => intro a b; rfl
  | succ k ih => intro a b; rw [Sn, S_xor, ih]; rfl
set_option maxRecDepth 100000 in
theorem Sn_add (j k r : Nat) : Sn (j + k) r = Sn k (Sn j r) := by
  induction j generalizing r with
  | zero => simp [Sn]
  | succ j ih => rw [Nat.succ_add, Sn, ih]; rfl
set_option maxRecDepth 100000 in
theorem Sn_zero (k : Nat) : Sn k 0 = 0 := by
  induction k with
  | zero => rfl
  | succ k ih => rw [Sn, show S 0 = 0 from rfl, ih]
set_option maxRecDepth 100000 in
theorem Sn_shift (k x : Nat) : Sn k (x * 2 ^ k) = x := by
  induction k with
  | zero => simp [Sn]
  | succ k ih =>
    have h : S (x * 2 ^ (k + 1)) = x * 2 ^ k := by
      rw [Nat.pow_succ, ← Nat.mul_assoc]
      generalize x * 2 ^ k = y
      unfold S
      rw [if_neg (by omega)]
      omega
    rw [Sn, h, ih]
set_option maxRecDepth 100000 in
theorem S_lt {r : Nat} (h : r < 4294967296) : S r < 4294967296 := by
  unfold S
  split
  · exact xor32 (by omega) (by omega)
  · omega
set_option maxRecDepth 100000 in
theorem S_inj {r : Nat} (h : r < 4294967296) (e : S r = 0) : r = 0 := by
  unfold S at e
  split at e
  · have h' := congrArg (· ^^^ 2197175160) e
    simp only [Nat.xor_assoc, Nat.xor_self, Nat.xor_zero, Nat.zero_xor] at h'
    omega
  · omega
set_option maxRecDepth 100000 in
theorem Sn_lt (k : Nat) : ∀ {r : Nat}, r < 4294967296 → Sn k r < 4294967296 := by
  induction k with
  | zero => intro r h; exact h
  | succ k ih => intro r h; exact ih (S_lt h)
set_option maxRecDepth 100000 in
theorem Sn_inj (k : Nat) : ∀ {r : Nat}, r < 4294967296 → Sn k r = 0 → r = 0 := by
  induction k with
  | zero => intro r _ e; exact e
  | succ k ih => intro r h e; exact S_inj h (ih (S_lt h) e)

set_option maxRecDepth 100000 in
theorem split_add (a b k : Nat) (h : b < 2 ^ k) : a * 2 ^ k + b = a * 2 ^ k ^^^ b := by
  rw [Nat.mul_comm, Nat.two_pow_add_eq_or_of_lt h]
  apply Nat.eq_of_testBit_eq
  intro i
  rw [Nat.testBit_or, Nat.testBit_xor]
  by_cases hi : i < k
  · rw [show (2 ^ k * a).testBit i = false by rw [Nat.testBit_two_pow_mul]; simp; omega]
    simp
  · rw [show b.testBit i = false from Nat.testBit_lt_two_pow (Nat.lt_of_lt_of_le h (Nat.pow_le_pow_right (by omega) (by omega)))]
    simp
set_option maxRecDepth 100000 in
theorem tb_eq (R : Nat) : tb R = Sn 8 R := by
  have e : R = (R / 256) * 2 ^ 8 ^^^ ((R / 16 % 16) * 2 ^ 4 ^^^ R % 16) := by
    rw [← split_add (R / 16 % 16) (R % 16) 4 (by omega), ← split_add (R / 256) _ 8 (by omega)]
    omega
  have h0 : ∀ a : Fin 16, tN a.val = Sn 8 (a.val * 2 ^ 4) := by decide +kernel
  have h1 : ∀ a : Fin 16, tN (16 + a.val) = Sn 8 a.val := by decide +kernel
  conv => rhs; rw [e, Sn_xor, Sn_xor, Sn_shift]
  unfold tb
  rw [h0 ⟨R / 16 % 16, by omega⟩, h1 ⟨R % 16, by omega⟩, Nat.xor_assoc, Nat.xor_comm (Sn 8 (R % 16))]
set_option maxRecDepth 100000 in
theorem xor8 (x0 x1 x2 x3 x4 x5 x6 x7 : Nat) : x7 ^^^ x6 ^^^ x5 ^^^ x4 ^^^ x3 ^^^ x2 ^^^ x1 ^^^ x0 = x0 ^^^ (x1 ^^^ (x2 ^^^ (x3 ^^^ (x4 ^^^ (x5 ^^^ (x6 ^^^ x7)))))) := by
  rw [Nat.xor_comm x0, Nat.xor_comm x1, Nat.xor_comm x2, Nat.xor_comm x3, Nat.xor_comm x4, Nat.xor_comm x5, Nat.xor_comm x6]
set_option maxRecDepth 100000 in
theorem sh_eq (R : Nat) (h : R < 4294967296) : sh R = Sn 32 R := by
  have e : R = (R / 268435456) * 2 ^ 28 ^^^ ((R / 16777216 % 16) * 2 ^ 24 ^^^ ((R / 1048576 % 16) * 2 ^ 20 ^^^ ((R / 65536 % 16) * 2 ^ 16 ^^^ ((R / 4096 % 16) * 2 ^ 12 ^^^ ((R / 256 % 16) * 2 ^ 8 ^^^ ((R / 16 % 16) * 2 ^ 4 ^^^ R % 16)))))) := by
    rw [← split_add (R / 16 % 16) (R % 16) 4 (by omega), ← split_add (R / 256 % 16) _ 8 (by omega), ← split_add (R / 4096 % 16) _ 12 (by omega), ← split_add (R / 65536 % 16) _ 16 (by omega), ← split_add (R / 1048576 % 16) _ 20 (by omega),
      ← split_add (R / 16777216 % 16) _ 24 (by omega), ← split_add (R / 268435456) _ 28 (by omega)]
    omega
  have t : ∀ (k : Fin 8) (a : Fin 16), tN (16 * k.val + a.val) = Sn 32 (a.val * 2 ^ (28 - 4 * k.val)) := by decide +kernel
  have t0 := t 0 ⟨R / 268435456, by omega⟩
  have t1 := t 1 ⟨R / 16777216 % 16, by omega⟩
  have t2 := t 2 ⟨R / 1048576 % 16, by omega⟩
  have t3 := t 3 ⟨R / 65536 % 16, by omega⟩
  have t4 := t 4 ⟨R / 4096 % 16, by omega⟩
  have t5 := t 5 ⟨R / 256 % 16, by omega⟩
  have t6 := t 6 ⟨R / 16 % 16, by omega⟩
  have t7 := t 7 ⟨R % 16, by omega⟩
  simp only [Fin.isValue, show (0 : Fin 8).val = 0 from rfl, show (1 : Fin 8).val = 1 from rfl, show (2 : Fin 8).val = 2 from rfl, show (3 : Fin 8).val = 3 from rfl, show (4 : Fin 8).val = 4 from rfl, show (5 : Fin 8).val = 5 from rfl, show (6 : Fin 8).val = 6 from rfl, show (7 : Fin 8).val = 7 from rfl, Nat.mul_zero, Nat.zero_add, Nat.reduceMul, Nat.reduceSub, Nat.pow_zero, Nat.mul_one] at t0 t1 t2 t3 t4 t5 t6 t7
  conv => rhs; rw [e, Sn_xor, Sn_xor, Sn_xor, Sn_xor, Sn_xor, Sn_xor, Sn_xor]
  unfold sh
  rw [t0, t1, t2, t3, t4, t5, t6, t7]
  exact xor8 _ _ _ _ _ _ _ _

/-- The register behind bytes, bit by bit. -/
def cr (r : Nat) (l : List Nat) : Nat := l.foldl (fun r c => Sn 8 (r ^^^ c)) r
set_option maxRecDepth 100000 in
theorem tk1_eq (r : Nat) (l : List Nat) : tk1 r l = cr r l := by
  unfold tk1 cr
  congr 1
  funext r c
  exact tb_eq _
set_option maxRecDepth 100000 in
theorem four_eq (r a b c d : Nat) (hr : r < 4294967296) (ha : a < 256) (hb : b < 256) (hc : c < 256) (hd : d < 256) : sh (r ^^^ (a ||| b * 256 ||| c * 65536 ||| d * 16777216)) = cr r [a, b, c, d] := by
  have o : (a ||| b * 256 ||| c * 65536 ||| d * 16777216) = a ^^^ (b * 2 ^ 8 ^^^ (c * 2 ^ 16 ^^^ d * 2 ^ 24)) := by
    have h1 : a ||| b * 256 = b * 2 ^ 8 + a := by rw [Nat.or_comm, show b * 256 = 2 ^ 8 * b by omega, ← Nat.two_pow_add_eq_or_of_lt (by omega)]
    have h2 : (b * 2 ^ 8 + a) ||| c * 65536 = c * 2 ^ 16 + (b * 2 ^ 8 + a) := by rw [Nat.or_comm, show c * 65536 = 2 ^ 16 * c by omega, ← Nat.two_pow_add_eq_or_of_lt (by omega)]
    have h3 : (c * 2 ^ 16 + (b * 2 ^ 8 + a)) ||| d * 16777216 = d * 2 ^ 24 + (c * 2 ^ 16 + (b * 2 ^ 8 + a)) := by rw [Nat.or_comm, show d * 16777216 = 2 ^ 24 * d by omega, ← Nat.two_pow_add_eq_or_of_lt (by omega)]
    rw [h1, h2, h3, split_add d _ 24 (by omega), split_add c _ 16 (by omega), split_add b _ 8 (by omega), Nat.xor_comm (d * 2 ^ 24), Nat.xor_comm (c * 2 ^ 16), Nat.xor_comm (b * 2 ^ 8), Nat.xor_assoc, Nat.xor_assoc]
  have hor : (a ||| b * 256 ||| c * 65536 ||| d * 16777216) < 4294967296 := Nat.or_lt_two_pow (n := 32) (Nat.or_lt_two_pow (n := 32) (Nat.or_lt_two_pow (n := 32) (by omega) (by omega)) (by omega)) (by omega)
  rw [sh_eq _ (xor32 hr hor), o]
  show _ = Sn 8 (Sn 8 (Sn 8 (Sn 8 (r ^^^ a) ^^^ b) ^^^ c) ^^^ d)
  rw [← Nat.xor_assoc r a, show (32 : Nat) = 8 + (8 + (8 + 8)) from rfl, Sn_add, Sn_add, Sn_add]
  rw [Sn_xor 8 (r ^^^ a), Sn_xor 8 (b * 2 ^ 8), Sn_shift, Sn_xor 8 (c * 2 ^ 16), show c * 2 ^ 16 = (c * 2 ^ 8) * 2 ^ 8 by omega, Sn_shift, show d * 2 ^ 24 = (d * 2 ^ 16) * 2 ^ 8 by omega, Sn_shift]
  rw [← Nat.xor_assoc, Sn_xor 8 (Sn 8 (r ^^^ a) ^^^ b), Sn_xor 8 (c * 2 ^ 8), Sn_shift, show d * 2 ^ 16 = (d * 2 ^ 8) * 2 ^ 8 by omega, Sn_shift]
  rw [← Nat.xor_assoc, Sn_xor 8 (Sn 8 (Sn 8 (r ^^^ a) ^^^ b) ^^^ c), Sn_shift]
set_option maxRecDepth 100000 in
theorem cr_lt : ∀ (l : List Nat) (r : Nat), r < 4294967296 → (∀ x ∈ l, x < 256) → cr r l < 4294967296
  | [], _, h, _ => h
  | c :: l, r, h, hl => cr_lt l _ (Sn_lt 8 (xor32 h (by have := hl c (by simp); omega))) (fun x hx => hl x (by simp [hx]))
set_option maxRecDepth 100000 in
theorem cr_append (r : Nat) (a b : List Nat) : cr r (a ++ b) = cr (cr r a) b := by simp [cr]
set_option maxRecDepth 100000 in
theorem tk_eq : ∀ (l : List Nat) (r : Nat), r < 4294967296 → (∀ x ∈ l, x < 256) → tk l r = cr r l
  | [], _, _, _ => rfl
  | [a], r, _, _ => tk1_eq r [a]
  | [a, b], r, _, _ => tk1_eq r [a, b]
  | [a, b, c], r, _, _ => tk1_eq r [a, b, c]
  | a :: b :: c :: d :: l, r, hr, hl => by
    show tk l (sh _) = _
    rw [four_eq r a b c d hr (hl a (by simp)) (hl b (by simp)) (hl c (by simp)) (hl d (by simp)), tk_eq l _ (cr_lt _ _ hr (fun x hx => hl x (by simp at hx ⊢; omega))) (fun x hx => hl x (by simp [hx])), ← cr_append]
    rfl
end Go.Proofs.YtddjepdgigeelabDoor

/- What is turned within 32 neighbouring places makes another sum. -/

namespace Go.Proofs.YtddjepdgigeelabDoor

/-- Bytes with a number's bytes xored in, the lowest first. -/
def xorV : List Nat → Nat → List Nat
  | [], _ => []
  | x :: l, V => (x ^^^ V % 256) :: xorV l (V / 256)
set_option maxRecDepth 100000 in
theorem xorV_length : ∀ (l : List Nat) (V : Nat), (xorV l V).length = l.length
  | [], _ => rfl
  | _ :: l, V => by simp [xorV, xorV_length l]
set_option maxRecDepth 100000 in
theorem xorV_zero : ∀ (l : List Nat), xorV l 0 = l
  | [] => rfl
  | x :: l => by simp [xorV, xorV_zero l]
set_option maxRecDepth 100000 in
theorem xorV_snoc : ∀ (l : List Nat) (x V : Nat), xorV (l ++ [x]) V = xorV l V ++ [x ^^^ V / 256 ^ l.length % 256]
  | [], x, V => by simp [xorV]
  | y :: l, x, V => by
    simp only [List.cons_append, xorV, xorV_snoc l, List.length_cons]
    rw [Nat.div_div_eq_div_mul, Nat.pow_succ, Nat.mul_comm 256]
set_option maxRecDepth 100000 in
theorem low_xor (V k : Nat) : V % 256 ^ (k + 1) = V % 256 ^^^ (V / 256 % 256 ^ k) * 2 ^ 8 := by
  rw [Nat.xor_comm, ← split_add _ _ 8 (by omega), Nat.pow_succ, Nat.mul_comm (256 ^ k), Nat.mod_mul]
  omega
set_option maxRecDepth 100000 in
/-- The register behind bytes that are turned: its turn goes on by itself. -/
theorem cr_turned : ∀ (l : List Nat) (r e V : Nat), cr (r ^^^ e) (xorV l V) = cr r l ^^^ Sn (8 * l.length) (e ^^^ V % 256 ^ l.length)
  | [], r, e, V => by simp [xorV, cr, Sn, Nat.mod_one]
  | x :: l, r, e, V => by
    show cr (Sn 8 (r ^^^ e ^^^ (x ^^^ V % 256))) (xorV l (V / 256)) = cr (Sn 8 (r ^^^ x)) l ^^^ _
    have h1 : r ^^^ e ^^^ (x ^^^ V % 256) = (r ^^^ x) ^^^ (e ^^^ V % 256) := by
      rw [Nat.xor_assoc, Nat.xor_assoc, ← Nat.xor_assoc e x, Nat.xor_comm e x, Nat.xor_assoc x e]
    rw [h1, Sn_xor, cr_turned l]
    congr 1
    rw [List.length_cons, low_xor, ← Nat.xor_assoc, show 8 * (l.length + 1) = 8 + 8 * l.length by omega, Sn_add, Sn_xor 8 (e ^^^ V % 256), Sn_shift]
set_option maxRecDepth 100000 in
theorem cr_on (l : List Nat) (r e : Nat) : cr (r ^^^ e) l = cr r l ^^^ Sn (8 * l.length) e := by
  have := cr_turned l r e 0
  rw [xorV_zero] at this
  simpa using this

/-- Bytes in whose middle a number's bytes are xored in. -/
def upd (l : List Nat) (a V : Nat) : Nat → List Nat
  | 0 => l
  | k + 1 => (upd l a V k).set (a + k) ((upd l a V k).getD (a + k) 0 ^^^ V / 256 ^ k % 256)
set_option maxRecDepth 100000 in
theorem upd_eq (l : List Nat) (a V : Nat) : ∀ m, a + m ≤ l.length → upd l a V m = l.take a ++ (xorV ((l.drop a).take m) V ++ l.drop (a + m)) := by
  intro m
  induction m with
  | zero => intro _; simp [upd, xorV]
  | succ m ih =>
    intro h
    have hl : a + m < l.length := by omega
    have hA : (l.take a).length = a := by simp; omega
    have hB : (xorV ((l.drop a).take m) V).length = m := by rw [xorV_length]; simp; omega
    have hC : l.drop (a + m) = l[a + m] :: l.drop (a + m + 1) := List.drop_eq_getElem_cons hl
    have ht : (l.drop a).take (m + 1) = (l.drop a).take m ++ [l[a + m]] := by
      rw [List.take_succ_eq_append_getElem (by simp; omega)]
      simp
    have hL : ((l.drop a).take m).length = m := by simp; omega
    rw [upd, ih (by omega), ht, xorV_snoc, hL, hC]
    have hg : (l.take a ++ (xorV ((l.drop a).take m) V ++ l[a + m] :: l.drop (a + m + 1))).getD (a + m) 0 = l[a + m] := by
      rw [List.getD_eq_getElem?_getD, List.getElem?_append_right (by omega), hA, List.getElem?_append_right (by omega), hB]
      simp [List.getElem?_eq_getElem hl]
    rw [hg, List.set_append_right _ _ (by omega), hA, List.set_append_right _ _ (by omega), hB]
    simp [Nat.add_assoc]
set_option maxRecDepth 100000 in
theorem upd_length (l : List Nat) (a V : Nat) : ∀ m, (upd l a V m).length = l.length
  | 0 => rfl
  | m + 1 => by simp [upd, upd_length l a V m]
set_option maxRecDepth 100000 in
theorem upd_lt (l : List Nat) (a V : Nat) (h : ∀ x ∈ l, x < 256) : ∀ m, ∀ x ∈ upd l a V m, x < 256
  | 0 => h
  | m + 1 => by
    intro x hx
    rw [upd] at hx
    rcases List.mem_or_eq_of_mem_set hx with hx | rfl
    · exact upd_lt l a V h m x hx
    · refine Nat.xor_lt_two_pow (n := 8) ?_ (by omega)
      rw [List.getD_eq_getElem?_getD]
      cases hg : (upd l a V m)[a + m]? with
      | none => simp
      | some y => exact upd_lt l a V h m y (List.mem_of_getElem? hg)
set_option maxRecDepth 100000 in
theorem pow_four (m : Nat) (h : m ≤ 4) (V : Nat) : V % 256 ^ m < 4294967296 := by
  have h2 : m = 0 ∨ m = 1 ∨ m = 2 ∨ m = 3 ∨ m = 4 := by omega
  rcases h2 with rfl | rfl | rfl | rfl | rfl <;> simp <;> omega

set_option maxRecDepth 100000 in
/-- THE SUMS PART JUST WHERE SOMETHING WAS TURNED. -/
theorem turned_told (l : List Nat) (a mask s m r : Nat) (hl : a + m ≤ l.length) (hm : m ≤ 5) (hm0 : 0 < mask) (hmask : mask < 4294967296) (hs : s < 8) :
    cr r (upd l a (mask * 2 ^ s) m) = cr r l ↔ (mask * 2 ^ s) % 256 ^ m = 0 := by
  have e : l = l.take a ++ ((l.drop a).take m ++ l.drop (a + m)) := by
    rw [← List.drop_drop, List.take_append_drop, List.take_append_drop]
  have hL : ((l.drop a).take m).length = m := by simp; omega
  have h1 := cr_turned ((l.drop a).take m) (cr r (l.take a)) 0 (mask * 2 ^ s)
  rw [Nat.xor_zero, Nat.zero_xor, hL] at h1
  rw [upd_eq l a _ m hl, cr_append, cr_append, h1, cr_on]
  have h2 : cr r l = cr (cr (cr r (l.take a)) ((l.drop a).take m)) (l.drop (a + m)) := by
    conv => lhs; rw [e, cr_append, cr_append]
  rw [h2]
  generalize cr (cr (cr r (l.take a)) ((l.drop a).take m)) (l.drop (a + m)) = Y
  have hz : ∀ Z, (Y ^^^ Z = Y) ↔ Z = 0 := by
    intro Z
    constructor
    · intro h
      have h' := congrArg (Y ^^^ ·) h
      simpa [← Nat.xor_assoc] using h'
    · rintro rfl; simp
  rw [hz]
  have hlow : Sn (8 * m) (mask * 2 ^ s % 256 ^ m) < 4294967296 ∧ (Sn (8 * m) (mask * 2 ^ s % 256 ^ m) = 0 → mask * 2 ^ s % 256 ^ m = 0) := by
    by_cases h4 : m ≤ 4
    · have := pow_four m h4 (mask * 2 ^ s)
      exact ⟨Sn_lt _ this, Sn_inj _ this⟩
    · obtain rfl : m = 5 := by omega
      have h128 : 2 ^ s ≤ 128 := by
        have h3 : s = 0 ∨ s = 1 ∨ s = 2 ∨ s = 3 ∨ s = 4 ∨ s = 5 ∨ s = 6 ∨ s = 7 := by omega
        rcases h3 with rfl | rfl | rfl | rfl | rfl | rfl | rfl | rfl <;> decide
      have hV : mask * 2 ^ s < 256 ^ 5 := by
        have : mask * 2 ^ s ≤ 4294967295 * 128 := Nat.mul_le_mul (by omega) h128
        simp only [Nat.reducePow]
        omega
      rw [Nat.mod_eq_of_lt hV, show 8 * 5 = s + (40 - s) by omega, Sn_add, Sn_shift]
      refine ⟨Sn_lt _ hmask, fun h => ?_⟩
      have := Sn_inj _ hmask h
      omega
  constructor
  · intro h
    exact hlow.2 (Sn_inj _ hlow.1 h)
  · intro h
    rw [h, Sn_zero, Sn_zero]
end Go.Proofs.YtddjepdgigeelabDoor

/- What was written is read. -/

namespace Go.Proofs.YtddjepdgigeelabDoor

set_option maxRecDepth 100000 in
theorem rdB_acc (l : List Int) : ∀ acc : Int, l.foldl (fun n c => n * 256 + c) acc = acc * 256 ^ l.length + rdB l := by
  induction l with
  | nil => intro acc; simp [rdB]
  | cons c l ih =>
    intro acc
    have h : rdB (c :: l) = c * 256 ^ l.length + rdB l := by
      show l.foldl _ (0 * 256 + c) = _
      rw [ih]
      simp
    rw [List.foldl_cons, ih, h, List.length_cons, Int.pow_succ, Int.add_mul, Int.mul_assoc, Int.mul_comm 256 (256 ^ l.length)]
    omega
set_option maxRecDepth 100000 in
theorem rdB_cons (c : Int) (l : List Int) : rdB (c :: l) = c * 256 ^ l.length + rdB l := by
  show l.foldl _ (0 * 256 + c) = _
  rw [rdB_acc]
  simp
set_option maxRecDepth 100000 in
theorem rdB_fB (w : Nat) (n : Int) (h : 0 ≤ n) : rdB (fB w n) = n % 256 ^ w := by
  induction w with
  | zero => simp [fB, rdB, Int.emod_one]
  | succ w ih =>
    rw [fB, rdB_cons, ih, fB_length]
    obtain ⟨N, rfl⟩ := Int.eq_ofNat_of_zero_le h
    have e : N % (256 ^ w * 256) = N % 256 ^ w + 256 ^ w * (N / 256 ^ w % 256) := Nat.mod_mul
    generalize hP : (256 : Nat) ^ w = P at *
    have hP2 : (256 : Int) ^ w = (P : Int) := by rw [← hP]; simp
    rw [Int.pow_succ, hP2]
    have e2 : (N : Int) % ((P : Int) * 256) = ((N % (P * 256) : Nat) : Int) := by simp
    rw [e2, e]
    rw [Int.natCast_add, Int.natCast_mul, Int.mul_comm]
    simp only [Int.natCast_emod, Int.natCast_ediv]
    rw [Int.add_comm]
    rfl

set_option maxRecDepth 100000 in
theorem rU_back (p : Int) (rest : List Int) : ∀ (k : Nat) (m : Int) (i : Nat) (acc : Int), m < 2 ^ k → 0 ≤ m → 0 ≤ acc → acc + m * 128 ^ i < 18446744073709551616 → (0 < i → 0 < m) → i ≤ 9 →
    rU p (uB m ++ rest) i acc = (acc + m * 128 ^ i, p + i + (uB m).length, 0) := by
  intro k
  induction k with
  | zero =>
    intro m i acc hk h0 ha hb hi hi9
    obtain rfl : m = 0 := by simp at hk; omega
    obtain rfl : i = 0 := by
      rcases Nat.eq_zero_or_pos i with h | h
      · exact h
      · have := hi h; omega
    rw [uB_small (by omega)]
    simp [rU]
  | succ k ih =>
    intro m i acc hk h0 ha hb hi hi9
    have hpos : (0 : Int) < 128 ^ i := Int.pow_pos (by omega)
    by_cases hm : m < 128
    · rw [uB_small hm, List.singleton_append, rU]
      have h9 : ¬ (i = 9 ∧ 1 < m) := by
        rintro ⟨rfl, h1⟩
        simp at hb
        omega
      rw [if_neg h9, if_neg (by omega), if_neg (by intro h; have := hi h.2; omega)]
      simp
    · have hmlt : m < 18446744073709551616 := by
        have h1 : m ≤ m * 128 ^ i := by
          have := Int.mul_le_mul_of_nonneg_left (show (1 : Int) ≤ 128 ^ i by omega) h0
          omega
        omega
      have h9 : i < 9 := by
        rcases Nat.lt_or_ge i 9 with h | h
        · exact h
        · obtain rfl : i = 9 := by omega
          simp at hb
          omega
      rw [uB_step hm hmlt, List.cons_append, rU, if_neg (by omega), if_pos (by omega)]
      have e : acc + (m % 128 + 128 - 128) * 128 ^ i + m / 128 * 128 ^ (i + 1) = acc + m * 128 ^ i := by
        rw [Int.pow_succ, Int.mul_comm (128 ^ i) 128, ← Int.mul_assoc]
        have : m * 128 ^ i = (m % 128 + m / 128 * 128) * 128 ^ i := by rw [show m % 128 + m / 128 * 128 = m by omega]
        rw [this, Int.add_mul]
        have e3 : m % 128 + 128 - 128 = m % 128 := by omega
        rw [e3]
        omega
      have hd : 0 ≤ (m % 128 + 128 - 128) * 128 ^ i := Int.mul_nonneg (by omega) (Int.le_of_lt hpos)
      rw [ih (m / 128) (i + 1) _ (by rw [Int.pow_succ] at hk; omega) (by omega) (by omega) (by rw [e]; exact hb) (fun _ => by omega) (by omega), e]
      simp only [List.length_cons]
      push_cast
      rw [show p + (i + 1) + ((uB (m / 128)).length : Int) = p + i + ((uB (m / 128)).length + 1) by omega]
set_option maxRecDepth 100000 in
theorem rU_uB (p n : Int) (rest : List Int) (h0 : 0 ≤ n) (h : n < 18446744073709551616) : rU p (uB n ++ rest) 0 0 = (n, p + (uB n).length, 0) := by
  have := rU_back p rest 64 n 0 0 (by simp; omega) h0 (by omega) (by simp; omega) (fun h => by omega) (by omega)
  simpa using this
set_option maxRecDepth 100000 in
theorem rU_open (p : Int) : ∀ (l : List Int) (i : Nat) (n : Int), (∀ x ∈ l, 128 ≤ x) → i + l.length ≤ 9 → rU p l i n = (0, 0, 10)
  | [], _, _, _, _ => rfl
  | c :: l, i, n, h, hl => by
    have hc := h c (by simp)
    simp only [List.length_cons] at hl
    rw [rU, if_neg (by omega), if_pos hc]
    exact rU_open p l (i + 1) _ (fun x hx => h x (by simp [hx])) (by omega)
set_option maxRecDepth 100000 in
theorem uBf_high (f : Nat) : ∀ n, 0 ≤ n → ∀ x ∈ (uBf f n).take ((uBf f n).length - 1), 128 ≤ x := by
  induction f with
  | zero => intro n _ x hx; simp [uBf] at hx
  | succ f ih =>
    intro n h0 x hx
    unfold uBf at hx
    split at hx
    · simp at hx
    · have hl := (uBf_length f (n / 128)).2
      rw [show ((n % 128 + 128) :: uBf f (n / 128)).length - 1 = (uBf f (n / 128)).length - 1 + 1 by simp; omega, List.take_succ_cons] at hx
      rcases List.mem_cons.1 hx with e | e
      · omega
      · exact ih (n / 128) (by omega) x e
set_option maxRecDepth 100000 in
theorem rU_cut (p n : Int) (h0 : 0 ≤ n) : rU p ((uB n).take ((uB n).length - 1)) 0 0 = (0, 0, 10) := by
  have h := (uB_length n)
  exact rU_open p _ 0 0 (uBf_high 9 n h0) (by simp; omega)

set_option maxRecDepth 100000 in
theorem rO_back (t rest : List Int) : ∀ (i : Int) (acc : List Int), rO (oB t ++ rest) i acc = (acc ++ t, i + (oB t).length, 0) := by
  induction t with
  | nil => intro i acc; simp [oB, oM, rO_two]
  | cons c t ih =>
    intro i acc
    have e : oB (c :: t) = oC c ++ oB t := by simp [oB, oM]
    rw [e]
    by_cases h : c = 0
    · subst h
      simp only [oC, if_pos, List.cons_append, List.nil_append, rO_two, ih, List.length_cons]
      simp
      omega
    · simp only [oC, if_neg h, List.cons_append, List.nil_append, rO_plain _ _ _ _ h, ih, List.length_cons]
      simp
      omega
set_option maxRecDepth 100000 in
theorem rO_open (t : List Int) : ∀ (i : Int) (acc : List Int), rO (oM t ++ [0]) i acc = ([], 0, 10) := by
  induction t with
  | nil => intro i acc; exact rO_cut i acc
  | cons c t ih =>
    intro i acc
    have e : oM (c :: t) = oC c ++ oM t := by simp [oM]
    rw [e]
    by_cases h : c = 0
    · subst h
      simp only [oC, if_pos, List.cons_append, List.nil_append, rO_two, ih]
    · simp only [oC, if_neg h, List.cons_append, List.nil_append, rO_plain _ _ _ _ h, ih]
set_option maxRecDepth 100000 in
theorem oB_cut (t : List Int) : (oB t).take ((oB t).length - 1) = oM t ++ [0] := by
  have h : oB t = (oM t ++ [0]) ++ [1] := by simp [oB]
  have hl : (oB t).length - 1 = (oM t ++ [0]).length := by simp [oB]
  rw [hl, h, List.take_left]
end Go.Proofs.YtddjepdgigeelabDoor

/- A meta's numbers, its page, and what a page says: plain mathematics. -/

namespace Go.Proofs.YtddjepdgigeelabDoor

/-- A meta's numbers. -/
structure Mt where
  en : Int
  pg : Int
  tx : Int
  ro : Int
  co : Int
  fr : Int
  li : Int
  hi : Int

/-- A power of two that a page's size may be. -/
def pw (n : Int) : Prop := n = 512 ∨ n = 1024 ∨ n = 2048 ∨ n = 4096 ∨ n = 8192 ∨ n = 16384 ∨ n = 32768 ∨ n = 65536
/-- The numbers are a meta's. -/
structure Mt.ok (m : Mt) : Prop where
  en : m.en = 1 ∨ m.en = 2
  pg : pw m.pg
  tx : 0 ≤ m.tx ∧ m.tx ≤ 1099511627776
  hi : 2 ≤ m.hi ∧ m.hi ≤ 65536
  ro : m.ro = 0 ∨ 2 ≤ m.ro ∧ m.ro < m.hi
  fr : m.fr = 0 ∨ 2 ≤ m.fr ∧ m.fr < m.hi
  co : 0 ≤ m.co ∧ m.co ≤ 256
  cr : m.co = 0 ↔ m.ro = 0
  li : 0 ≤ m.li ∧ m.li ≤ m.hi - 2
  lf : m.li = 0 ∨ m.fr ≠ 0
  rf : ¬ (m.ro = m.fr ∧ m.ro ≠ 0)
set_option maxRecDepth 100000 in
theorem pw_le {n : Int} (h : pw n) : 512 ≤ n ∧ n ≤ 65536 := by
  unfold pw at h
  omega

/-- k zeros. -/
def zs (k : Nat) : List Int := List.replicate k 0
set_option maxRecDepth 100000 in
theorem zs_length (k : Nat) : (zs k).length = k := by simp [zs]
set_option maxRecDepth 100000 in
theorem zs_wf (k : Nat) : Wf (zs k) := by
  intro x hx
  simp only [zs, List.mem_replicate] at hx
  omega
set_option maxRecDepth 100000 in
theorem zs_add (a b : Nat) : zs (a + b) = zs a ++ zs b := by
  unfold zs
  exact (List.replicate_append_replicate (n := a) (m := b)).symm

/-- The first 40 bytes of a meta page. -/
def hdB (m : Mt) : List Int := [1] ++ (fB 1 m.en ++ ([0, 0, 69, 83, 80, 76] ++ (fB 4 m.pg ++ (fB 8 m.tx ++ (fB 4 m.ro ++ (fB 4 m.co ++ (fB 4 m.fr ++ (fB 4 m.li ++ fB 4 m.hi))))))))
set_option maxRecDepth 100000 in
theorem hdB_length (m : Mt) : (hdB m).length = 40 := by simp [hdB, fB_length]
set_option maxRecDepth 100000 in
theorem hdB_wf (m : Mt) : Wf (hdB m) := by
  unfold hdB
  refine Wf.append (Wf.cons (by omega) Wf.nil) ((fB_wf _ _).append (Wf.append ?_ ((fB_wf _ _).append ((fB_wf _ _).append ((fB_wf _ _).append ((fB_wf _ _).append ((fB_wf _ _).append ((fB_wf _ _).append (fB_wf _ _)))))))))
  intro x hx
  simp only [List.mem_cons, List.not_mem_nil, or_false] at hx
  omega
/-- All ahead of the sum. -/
def bodyB (m : Mt) : List Int := hdB m ++ zs (m.pg.toNat - 44)
set_option maxRecDepth 100000 in
theorem bodyB_wf (m : Mt) : Wf (bodyB m) := (hdB_wf m).append (zs_wf _)
set_option maxRecDepth 100000 in
theorem bodyB_length (m : Mt) (h : m.ok) : (bodyB m).length = m.pg.toNat - 4 := by
  have := pw_le h.pg
  simp only [bodyB, List.length_append, hdB_length, zs_length]
  omega
/-- Bytes and their sum. -/
def sealB (l : List Int) : List Int := l ++ fB 4 (sumN [l])
set_option maxRecDepth 100000 in
theorem sealB_length (l : List Int) : (sealB l).length = l.length + 4 := by simp [sealB, fB_length]
set_option maxRecDepth 100000 in
theorem sealB_wf {l : List Int} (h : Wf l) : Wf (sealB l) := h.append (fB_wf _ _)
/-- THE META'S PAGE. -/
def pageB (m : Mt) : List Int := sealB (bodyB m)
set_option maxRecDepth 100000 in
theorem pageB_wf (m : Mt) : Wf (pageB m) := sealB_wf (bodyB_wf m)
set_option maxRecDepth 100000 in
theorem pageB_length (m : Mt) (h : m.ok) : (pageB m).length = m.pg.toNat := by
  have := pw_le h.pg
  rw [pageB, sealB_length, bodyB_length m h]
  omega

/-- The bytes l are just the page of m. -/
def Says (l : List Int) (m : Mt) : Prop := m.ok ∧ pageB m = l

/-- The number that stands at a place. -/
def rdN (l : List Int) (p w : Nat) : Int := rdB ((l.drop p).take w)
set_option maxRecDepth 100000 in
theorem rdN_mid (A F C : List Int) (p w : Nat) (hp : A.length = p) (hw : F.length = w) : rdN (A ++ (F ++ C)) p w = rdB F := by
  subst hp hw
  unfold rdN
  rw [List.drop_left, List.take_left]
set_option maxRecDepth 100000 in
theorem rdN_bound (l : List Int) (h : Wf l) (p w : Nat) : 0 ≤ rdN l p w ∧ rdN l p w < 256 ^ w := by
  have h1 := rdB_bound ((l.drop p).take w) ((h.drop p).take w)
  refine ⟨h1.1, Int.lt_of_lt_of_le h1.2 ?_⟩
  have h2 : ((l.drop p).take w).length ≤ w := by simp; omega
  have h3 : (256 : Nat) ^ ((l.drop p).take w).length ≤ 256 ^ w := Nat.pow_le_pow_right (by omega) h2
  exact_mod_cast h3
/-- What the bytes would say. -/
def rdM (l : List Int) : Mt := ⟨rdN l 1 1, rdN l 8 4, IntKind.i64.wrap (rdN l 12 8), rdN l 20 4, rdN l 24 4, rdN l 28 4, rdN l 32 4, rdN l 36 4⟩

set_option maxRecDepth 100000 in
theorem fB_read (w : Nat) (n : Int) (h0 : 0 ≤ n) (h : n < 256 ^ w) : rdB (fB w n) = n := by
  rw [rdB_fB w n h0]
  exact Int.emod_eq_of_lt h0 h
set_option maxRecDepth 100000 in
theorem wrap_small (n : Int) (h0 : 0 ≤ n) (h : n < 9223372036854775808) : IntKind.i64.wrap n = n := by
  rw [IntKind.wrap_i64]
  omega
set_option maxRecDepth 100000 in
theorem rdM_page (m : Mt) (h : m.ok) : rdM (pageB m) = m := by
  obtain ⟨en, pg, tx, hi, ro, fr, co, cr, li, lf, rf⟩ := h
  have hpg := pw_le pg
  obtain ⟨Z, hZ⟩ : ∃ Z, Z = zs (m.pg.toNat - 44) ++ fB 4 (sumN [bodyB m]) := ⟨_, rfl⟩
  have e : pageB m = [1] ++ (fB 1 m.en ++ ([0, 0, 69, 83, 80, 76] ++ (fB 4 m.pg ++ (fB 8 m.tx ++ (fB 4 m.ro ++ (fB 4 m.co ++ (fB 4 m.fr ++ (fB 4 m.li ++ (fB 4 m.hi ++ Z))))))))) := by
    rw [hZ]
    simp only [pageB, sealB, bodyB, hdB, List.append_assoc]
  have e1 : rdN (pageB m) 1 1 = m.en := by
    rw [e, rdN_mid [1] (fB 1 m.en) _ 1 1 rfl (fB_length _ _), fB_read 1 _ (by omega) (by simp; omega)]
  have e2 : rdN (pageB m) 8 4 = m.pg := by
    rw [e, show [1] ++ (fB 1 m.en ++ ([0, 0, 69, 83, 80, 76] ++ (fB 4 m.pg ++ (fB 8 m.tx ++ (fB 4 m.ro ++ (fB 4 m.co ++ (fB 4 m.fr ++ (fB 4 m.li ++ (fB 4 m.hi ++ Z))))))))) = ([1] ++ fB 1 m.en ++ [0, 0, 69, 83, 80, 76]) ++ (fB 4 m.pg ++ (fB 8 m.tx ++ (fB 4 m.ro ++ (fB 4 m.co ++ (fB 4 m.fr ++ (fB 4 m.li ++ (fB 4 m.hi ++ Z))))))) from by simp only [List.append_assoc],
      rdN_mid _ (fB 4 m.pg) _ 8 4 (by simp [fB_length]) (fB_length _ _), fB_read 4 _ (by omega) (by simp; omega)]
  have e3 : rdN (pageB m) 12 8 = m.tx := by
    rw [e, show [1] ++ (fB 1 m.en ++ ([0, 0, 69, 83, 80, 76] ++ (fB 4 m.pg ++ (fB 8 m.tx ++ (fB 4 m.ro ++ (fB 4 m.co ++ (fB 4 m.fr ++ (fB 4 m.li ++ (fB 4 m.hi ++ Z))))))))) = ([1] ++ fB 1 m.en ++ [0, 0, 69, 83, 80, 76] ++ fB 4 m.pg) ++ (fB 8 m.tx ++ (fB 4 m.ro ++ (fB 4 m.co ++ (fB 4 m.fr ++ (fB 4 m.li ++ (fB 4 m.hi ++ Z)))))) from by simp only [List.append_assoc],
      rdN_mid _ (fB 8 m.tx) _ 12 8 (by simp [fB_length]) (fB_length _ _), fB_read 8 _ (by omega) (by simp; omega)]
  have e4 : rdN (pageB m) 20 4 = m.ro := by
    rw [e, show [1] ++ (fB 1 m.en ++ ([0, 0, 69, 83, 80, 76] ++ (fB 4 m.pg ++ (fB 8 m.tx ++ (fB 4 m.ro ++ (fB 4 m.co ++ (fB 4 m.fr ++ (fB 4 m.li ++ (fB 4 m.hi ++ Z))))))))) = ([1] ++ fB 1 m.en ++ [0, 0, 69, 83, 80, 76] ++ fB 4 m.pg ++ fB 8 m.tx) ++ (fB 4 m.ro ++ (fB 4 m.co ++ (fB 4 m.fr ++ (fB 4 m.li ++ (fB 4 m.hi ++ Z))))) from by simp only [List.append_assoc],
      rdN_mid _ (fB 4 m.ro) _ 20 4 (by simp [fB_length]) (fB_length _ _), fB_read 4 _ (by omega) (by simp; omega)]
  have e5 : rdN (pageB m) 24 4 = m.co := by
    rw [e, show [1] ++ (fB 1 m.en ++ ([0, 0, 69, 83, 80, 76] ++ (fB 4 m.pg ++ (fB 8 m.tx ++ (fB 4 m.ro ++ (fB 4 m.co ++ (fB 4 m.fr ++ (fB 4 m.li ++ (fB 4 m.hi ++ Z))))))))) = ([1] ++ fB 1 m.en ++ [0, 0, 69, 83, 80, 76] ++ fB 4 m.pg ++ fB 8 m.tx ++ fB 4 m.ro) ++ (fB 4 m.co ++ (fB 4 m.fr ++ (fB 4 m.li ++ (fB 4 m.hi ++ Z)))) from by simp only [List.append_assoc],
      rdN_mid _ (fB 4 m.co) _ 24 4 (by simp [fB_length]) (fB_length _ _), fB_read 4 _ (by omega) (by simp; omega)]
  have e6 : rdN (pageB m) 28 4 = m.fr := by
    rw [e, show [1] ++ (fB 1 m.en ++ ([0, 0, 69, 83, 80, 76] ++ (fB 4 m.pg ++ (fB 8 m.tx ++ (fB 4 m.ro ++ (fB 4 m.co ++ (fB 4 m.fr ++ (fB 4 m.li ++ (fB 4 m.hi ++ Z))))))))) = ([1] ++ fB 1 m.en ++ [0, 0, 69, 83, 80, 76] ++ fB 4 m.pg ++ fB 8 m.tx ++ fB 4 m.ro ++ fB 4 m.co) ++ (fB 4 m.fr ++ (fB 4 m.li ++ (fB 4 m.hi ++ Z))) from by simp only [List.append_assoc],
      rdN_mid _ (fB 4 m.fr) _ 28 4 (by simp [fB_length]) (fB_length _ _), fB_read 4 _ (by omega) (by simp; omega)]
  have e7 : rdN (pageB m) 32 4 = m.li := by
    rw [e, show [1] ++ (fB 1 m.en ++ ([0, 0, 69, 83, 80, 76] ++ (fB 4 m.pg ++ (fB 8 m.tx ++ (fB 4 m.ro ++ (fB 4 m.co ++ (fB 4 m.fr ++ (fB 4 m.li ++ (fB 4 m.hi ++ Z))))))))) = ([1] ++ fB 1 m.en ++ [0, 0, 69, 83, 80, 76] ++ fB 4 m.pg ++ fB 8 m.tx ++ fB 4 m.ro ++ fB 4 m.co ++ fB 4 m.fr) ++ (fB 4 m.li ++ (fB 4 m.hi ++ Z)) from by simp only [List.append_assoc],
      rdN_mid _ (fB 4 m.li) _ 32 4 (by simp [fB_length]) (fB_length _ _), fB_read 4 _ (by omega) (by simp; omega)]
  have e8 : rdN (pageB m) 36 4 = m.hi := by
    rw [e, show [1] ++ (fB 1 m.en ++ ([0, 0, 69, 83, 80, 76] ++ (fB 4 m.pg ++ (fB 8 m.tx ++ (fB 4 m.ro ++ (fB 4 m.co ++ (fB 4 m.fr ++ (fB 4 m.li ++ (fB 4 m.hi ++ Z))))))))) = ([1] ++ fB 1 m.en ++ [0, 0, 69, 83, 80, 76] ++ fB 4 m.pg ++ fB 8 m.tx ++ fB 4 m.ro ++ fB 4 m.co ++ fB 4 m.fr ++ fB 4 m.li) ++ (fB 4 m.hi ++ Z) from by simp only [List.append_assoc],
      rdN_mid _ (fB 4 m.hi) _ 36 4 (by simp [fB_length]) (fB_length _ _), fB_read 4 _ (by omega) (by simp; omega)]
  unfold rdM
  rw [e1, e2, e3, e4, e5, e6, e7, e8, wrap_small m.tx (by omega) (by omega)]

set_option maxRecDepth 100000 in
/-- A page says one meta at most, the one that stands in it. -/
theorem Says.eq {l : List Int} {m : Mt} (h : Says l m) : m = rdM l := by
  obtain ⟨h1, rfl⟩ := h
  exact (rdM_page m h1).symm
set_option maxRecDepth 100000 in
theorem Says.one {l : List Int} {m n : Mt} (h : Says l m) (k : Says l n) : m = n := h.eq.trans k.eq.symm
set_option maxRecDepth 100000 in
theorem Says.length {l : List Int} {m : Mt} (h : Says l m) : (l.length : Int) = m.pg ∧ 512 ≤ l.length := by
  obtain ⟨h1, rfl⟩ := h
  have := pw_le h1.pg
  rw [pageB_length m h1]
  omega
set_option maxRecDepth 100000 in
theorem says_iff (l : List Int) : (∃ m, Says l m) ↔ (rdM l).ok ∧ pageB (rdM l) = l := by
  constructor
  · rintro ⟨m, h⟩
    have e := h.eq
    subst e
    exact h
  · intro h
    exact ⟨_, h⟩

set_option maxRecDepth 100000 in
/-- What is changed is told: the page's length, the same last four, another sum. -/
theorem seal_end {a b : List Int} (h : a.length = b.length) (e : sealB a = sealB b) : a = b := (List.append_inj e h).1
set_option maxRecDepth 100000 in
theorem sumN_lt (l : List Int) (h : Wf l) : sumN [l] < 4294967296 := by
  have := tk_lt (l.map Int.toNat) 4294967295 (by omega) (nat_lt l h)
  exact xor32 (by omega) this
set_option maxRecDepth 100000 in
theorem fB4_inj {a b : Nat} (ha : a < 4294967296) (hb : b < 4294967296) (e : fB 4 (a : Int) = fB 4 (b : Int)) : a = b := by
  have h1 := fB_read 4 (a : Int) (by omega) (by simp; omega)
  have h2 := fB_read 4 (b : Int) (by omega) (by simp; omega)
  rw [e] at h1
  have : (a : Int) = b := h1.symm.trans h2
  omega
end Go.Proofs.YtddjepdgigeelabDoor

/- The small functions of package meta: what they answer. -/

namespace Go.Proofs.YtddjepdgigeelabDoor
open Go.RowKit

/-- A meta as the program has it. -/
def mtV (m : Mt) : Value := .agg #[.int .i64 m.en, .int .i64 m.pg, .int .i64 m.tx, .int .i64 m.ro, .int .i64 m.co, .int .i64 m.fr, .int .i64 m.li, .int .i64 m.hi]
/-- It answers whether P. -/
def Ans (P : Prop) (w : World) (e : Ending) (w' : World) : Prop := ∃ b, e = .returned (.bool b) ∧ (b = true ↔ P) ∧ Below w.heap.size w w'
set_option maxRecDepth 100000 in
theorem Ans.mk {P : Prop} {w w' : World} {b : Bool} (h : b = true ↔ P) (hb : Below w.heap.size w w') : Ans P w (.returned (.bool b)) w' := ⟨b, rfl, h, hb⟩
/-- The table of places. -/
def plC : Array Value := #[.int .i64 1, .int .i64 1, .int .i64 1, .int .i64 2, .int .i64 8, .int .i64 4, .int .i64 512, .int .i64 65536, .int .i64 12, .int .i64 8, .int .i64 0, .int .i64 1099511627776, .int .i64 20, .int .i64 4, .int .i64 0, .int .i64 65535,
  .int .i64 24, .int .i64 4, .int .i64 0, .int .i64 256, .int .i64 28, .int .i64 4, .int .i64 0, .int .i64 65535, .int .i64 32, .int .i64 4, .int .i64 0, .int .i64 65534, .int .i64 36, .int .i64 4, .int .i64 2, .int .i64 65536]
def plV : Value := .agg plC
set_option maxRecDepth 100000 in
theorem plC_one : plC.all (·.oneCell') = true := by kernel_rfl
set_option maxRecDepth 100000 in
theorem i64_and_one (n : Int) : bits .and .i64 n 1 = n % 2 := by
  have h1 : (BitVec.ofInt 64 1).toNat = 2 ^ 1 - 1 := by decide
  have key : (BitVec.ofInt 64 n &&& BitVec.ofInt 64 1).toNat = (n % ((2 ^ 64 : Nat) : Int)).toNat % 2 ^ 1 := by
    rw [BitVec.toNat_and, BitVec.toNat_ofInt, h1, Nat.and_two_pow_sub_one_eq_mod]
  show IntKind.i64.wrap ((BitVec.ofInt 64 n &&& BitVec.ofInt 64 1).toNat : Nat) = n % 2
  rw [key, IntKind.wrap_i64]
  omega
set_option maxRecDepth 100000 in
theorem i64_and_nat (a b : Nat) (ha : a < 9223372036854775808) (hb : b < 9223372036854775808) : bits .and .i64 (a : Int) (b : Int) = ((a &&& b : Nat) : Int) := by
  show IntKind.i64.wrap ((BitVec.ofInt 64 a &&& BitVec.ofInt 64 b).toNat : Nat) = _
  have hle : a &&& b < 9223372036854775808 := Nat.and_lt_two_pow (n := 63) a (by omega)
  have h1 : (BitVec.ofInt 64 (a : Int)).toNat = a := by rw [BitVec.toNat_ofInt]; omega
  have h2 : (BitVec.ofInt 64 (b : Int)).toNat = b := by rw [BitVec.toNat_ofInt]; omega
  rw [BitVec.toNat_and, h1, h2, IntKind.wrap_i64]
  omega
set_option maxRecDepth 100000 in
theorem top_bit (n k : Nat) (h1 : 2 ^ k < n) (h2 : n < 2 * 2 ^ k) : n &&& (n - 1) ≠ 0 := by
  intro h
  have hb := congrArg (fun x => Nat.testBit x k) h
  simp only [Nat.testBit_and, Nat.zero_testBit] at hb
  have e1 : n.testBit k = true := by
    rw [Nat.testBit_eq_decide_div_mod_eq]
    have : n / 2 ^ k = 1 := Nat.div_eq_of_lt_le (by omega) (by omega)
    simp [this]
  have e2 : (n - 1).testBit k = true := by
    rw [Nat.testBit_eq_decide_div_mod_eq]
    have : (n - 1) / 2 ^ k = 1 := Nat.div_eq_of_lt_le (by omega) (by omega)
    simp [this]
  rw [e1, e2] at hb
  cases hb
set_option maxRecDepth 100000 in
theorem pow_iff (x : Int) (h0 : 512 ≤ x) (h1 : x ≤ 65536) : bits .and .i64 x (x - 1) = 0 ↔ pw x := by
  obtain ⟨n, rfl⟩ := Int.eq_ofNat_of_zero_le (show 0 ≤ x by omega)
  have e : ((n : Int) - 1) = ((n - 1 : Nat) : Int) := by omega
  rw [e, i64_and_nat n (n - 1) (by omega) (by omega)]
  constructor
  · intro h
    have h' : n &&& (n - 1) = 0 := by omega
    unfold pw
    have k9 : ¬ (512 < n ∧ n < 1024) := fun a => top_bit n 9 (by simpa using a.1) (by simpa using a.2) h'
    have k10 : ¬ (1024 < n ∧ n < 2048) := fun a => top_bit n 10 (by simpa using a.1) (by simpa using a.2) h'
    have k11 : ¬ (2048 < n ∧ n < 4096) := fun a => top_bit n 11 (by simpa using a.1) (by simpa using a.2) h'
    have k12 : ¬ (4096 < n ∧ n < 8192) := fun a => top_bit n 12 (by simpa using a.1) (by simpa using a.2) h'
    have k13 : ¬ (8192 < n ∧ n < 16384) := fun a => top_bit n 13 (by simpa using a.1) (by simpa using a.2) h'
    have k14 : ¬ (16384 < n ∧ n < 32768) := fun a => top_bit n 14 (by simpa using a.1) (by simpa using a.2) h'
    have k15 : ¬ (32768 < n ∧ n < 65536) := fun a => top_bit n 15 (by simpa using a.1) (by simpa using a.2) h'
    omega
  · intro h
    have h2 : n = 512 ∨ n = 1024 ∨ n = 2048 ∨ n = 4096 ∨ n = 8192 ∨ n = 16384 ∨ n = 32768 ∨ n = 65536 := by unfold pw at h; omega
    rcases h2 with rfl | rfl | rfl | rfl | rfl | rfl | rfl | rfl <;> decide

end Go.Proofs.YtddjepdgigeelabDoor

/- meta.isWithin and meta.Check: what they answer. -/

namespace Go.Proofs.YtddjepdgigeelabDoor
open Go.RowKit

set_option maxRecDepth 100000 in
theorem bl_al {B : Nat} {a w : World} (h : Below B a w) (hB : B ≤ a.heap.size) (o : Obj) : Below B a (w.alloc o) := h.alloc (Nat.le_trans hB h.size) o
set_option maxRecDepth 100000 in
theorem bl_go {B : Nat} {a w w' : World} (h : Below B a w) (hB : B ≤ a.heap.size) (k : Below w.heap.size w w') : Below B a w' := h.trans (k.mono (Nat.le_trans hB h.size))
set_option maxRecDepth 100000 in
theorem bl_dr {B : Nat} {a w : World} (h : Below B a w) (q : Nat) : Below B a (w.drewN q) := h.trans ⟨rfl, rfl, rfl, Nat.le_refl _, fun _ _ => rfl⟩
set_option maxRecDepth 100000 in
theorem lt_some {w : World} {g : Nat} {o : Obj} (h : w.heap[g]? = some o) : g < w.heap.size := by
  rcases Nat.lt_or_ge g w.heap.size with hx | hx
  · exact hx
  · rw [Array.getElem?_eq_none hx] at h; cases h
/-- Each number lies between its least and its most. -/
def Mt.nth (m : Mt) (k : Nat) : Int := [m.en, m.pg, m.tx, m.ro, m.co, m.fr, m.li, m.hi].getD k 0
def atN (k : Nat) : Nat := [1, 8, 12, 20, 24, 28, 32, 36].getD k 0
def wdN (k : Nat) : Nat := [1, 4, 8, 4, 4, 4, 4, 4].getD k 0
def leastN (k : Nat) : Int := [1, 512, 0, 0, 0, 0, 0, 2].getD k 0
def mostN (k : Nat) : Int := [2, 65536, 1099511627776, 65535, 256, 65535, 65534, 65536].getD k 0
def InM (m : Mt) : Prop := ∀ k, k < 8 → leastN k ≤ m.nth k ∧ m.nth k ≤ mostN k
set_option maxRecDepth 100000 in
theorem eight {k : Nat} (h : k < 8) : k = 0 ∨ k = 1 ∨ k = 2 ∨ k = 3 ∨ k = 4 ∨ k = 5 ∨ k = 6 ∨ k = 7 := by omega
/-- The cells of a meta. -/
def mtC (m : Mt) : Array Value := #[.int .i64 m.en, .int .i64 m.pg, .int .i64 m.tx, .int .i64 m.ro, .int .i64 m.co, .int .i64 m.fr, .int .i64 m.li, .int .i64 m.hi]
set_option maxRecDepth 100000 in
theorem mtV_eq (m : Mt) : mtV m = .agg #[.int .i64 m.en, .int .i64 m.pg, .int .i64 m.tx, .int .i64 m.ro, .int .i64 m.co, .int .i64 m.fr, .int .i64 m.li, .int .i64 m.hi] := rfl
set_option maxRecDepth 100000 in
theorem mtC_at (m : Mt) (k : Nat) (h : k < 8) : (mtC m)[k]? = some (.int .i64 (m.nth k)) := by
  rcases eight h with rfl | rfl | rfl | rfl | rfl | rfl | rfl | rfl <;> rfl
set_option maxRecDepth 100000 in
theorem cell_mt {w : World} {g t : Nat} {m : Mt} (hg : w.heap[g]? = some (.cells (mtC m) t (0, 0))) (k : Nat) (h : k < 8) : w.cell? ⟨g, k, none⟩ = some (.int .i64 (m.nth k)) := by
  rw [cell_of_row _ _ k _ _ _ hg, mtC_at m k h]

set_option maxRecDepth 100000 in
theorem inM_iff (m : Mt) : InM m ↔ (1 ≤ m.en ∧ m.en ≤ 2) ∧ (512 ≤ m.pg ∧ m.pg ≤ 65536) ∧ (0 ≤ m.tx ∧ m.tx ≤ 1099511627776) ∧ (0 ≤ m.ro ∧ m.ro ≤ 65535) ∧ (0 ≤ m.co ∧ m.co ≤ 256) ∧ (0 ≤ m.fr ∧ m.fr ≤ 65535) ∧ (0 ≤ m.li ∧ m.li ≤ 65534) ∧ (2 ≤ m.hi ∧ m.hi ≤ 65536) := by
  constructor
  · intro h
    exact ⟨h 0 (by omega), h 1 (by omega), h 2 (by omega), h 3 (by omega), h 4 (by omega), h 5 (by omega), h 6 (by omega), h 7 (by omega)⟩
  · rintro ⟨h0, h1, h2, h3, h4, h5, h6, h7⟩ k hk
    rcases eight hk with rfl | rfl | rfl | rfl | rfl | rfl | rfl | rfl
    · exact h0
    · exact h1
    · exact h2
    · exact h3
    · exact h4
    · exact h5
    · exact h6
    · exact h7

/-- A meta's cells in a block. -/
structure Row8 (w : World) (g : Nat) (m : Mt) : Prop where
  c0 : w.cell? ⟨g, 0, none⟩ = some (.int .i64 m.en)
  c1 : w.cell? ⟨g, 1, none⟩ = some (.int .i64 m.pg)
  c2 : w.cell? ⟨g, 2, none⟩ = some (.int .i64 m.tx)
  c3 : w.cell? ⟨g, 3, none⟩ = some (.int .i64 m.ro)
  c4 : w.cell? ⟨g, 4, none⟩ = some (.int .i64 m.co)
  c5 : w.cell? ⟨g, 5, none⟩ = some (.int .i64 m.fr)
  c6 : w.cell? ⟨g, 6, none⟩ = some (.int .i64 m.li)
  c7 : w.cell? ⟨g, 7, none⟩ = some (.int .i64 m.hi)
set_option maxRecDepth 100000 in
theorem row8 {w : World} {g t : Nat} {m : Mt} (h : w.heap[g]? = some (.cells (mtC m) t (0, 0))) : Row8 w g m :=
  ⟨cell_mt h 0 (by omega), cell_mt h 1 (by omega), cell_mt h 2 (by omega), cell_mt h 3 (by omega), cell_mt h 4 (by omega), cell_mt h 5 (by omega), cell_mt h 6 (by omega), cell_mt h 7 (by omega)⟩
set_option maxRecDepth 100000 in
theorem Row8.go {w w' : World} {g : Nat} {m : Mt} (h : Row8 w g m) (hg : g < w.heap.size) (hb : Below w.heap.size w w') : Row8 w' g m :=
  ⟨(hb.cell (p := ⟨g, 0, none⟩) hg).trans h.c0, (hb.cell (p := ⟨g, 1, none⟩) hg).trans h.c1, (hb.cell (p := ⟨g, 2, none⟩) hg).trans h.c2, (hb.cell (p := ⟨g, 3, none⟩) hg).trans h.c3,
   (hb.cell (p := ⟨g, 4, none⟩) hg).trans h.c4, (hb.cell (p := ⟨g, 5, none⟩) hg).trans h.c5, (hb.cell (p := ⟨g, 6, none⟩) hg).trans h.c6, (hb.cell (p := ⟨g, 7, none⟩) hg).trans h.c7⟩
set_option maxRecDepth 100000 in
theorem row_new (w : World) (m : Mt) (t : TypeId) : (w.alloc (.cells (mtC m) t)).heap[w.heap.size]? = some (.cells (mtC m) t (0, 0)) := heap_alloc_last w _
set_option maxRecDepth 100000 in
/-- What a call leaves: the box that was made ahead of it. -/
theorem box_kept {w w1 : World} {m : Mt} {t : TypeId} (hb : Below (w.alloc (.cells (mtC m) t)).heap.size (w.alloc (.cells (mtC m) t)) w1) : w1.heap[w.heap.size]? = some (.cells (mtC m) t (0, 0)) ∧ Below w.heap.size w w1 :=
  ⟨(hb.block _ (by simp)).trans (row_new w m t), bl_go (bl_al (Below.refl _ w) (Nat.le_refl _) _) (Nat.le_refl _) hb⟩
set_option maxRecDepth 100000 in
theorem box_on {w1 w2 : World} {g : Nat} {o : Obj} (h : w1.heap[g]? = some o) (hb : Below w1.heap.size w1 w2) : w2.heap[g]? = some o := (hb.block _ (lt_some h)).trans h

/-- What Check answers: 0 for a meta, else 1. -/
def Says1 (m : Mt) (w : World) (e : Ending) (w' : World) : Prop := ∃ k, e = .returned (.int .i64 k) ∧ (m.ok ∧ k = 0 ∨ ¬ m.ok ∧ k = 1) ∧ Below w.heap.size w w'
set_option maxRecDepth 100000 in
theorem Says1.yes {m : Mt} {w w' : World} (h : m.ok) (hb : Below w.heap.size w w') : Says1 m w (.returned (.int .i64 0)) w' := ⟨0, rfl, .inl ⟨h, rfl⟩, hb⟩
set_option maxRecDepth 100000 in
theorem Says1.no {m : Mt} {w w' : World} (h : ¬ m.ok) (hb : Below w.heap.size w w') : Says1 m w (.returned (.int .i64 1)) w' := ⟨1, rfl, .inr ⟨h, rfl⟩, hb⟩
set_option maxRecDepth 100000 in
theorem ok_of (m : Mt) (h1 : InM m) (h2 : pw m.pg) (h3 : m.ro = 0 ∧ m.co = 0 ∨ m.ro ≠ 0 ∧ 2 ≤ m.ro ∧ m.ro < m.hi ∧ 0 < m.co) (h4 : m.fr = 0 ∧ m.li = 0 ∨ m.fr ≠ 0 ∧ 2 ≤ m.fr ∧ m.fr < m.hi ∧ m.li ≤ m.hi - 2) (h5 : ¬ (m.ro = m.fr ∧ m.ro ≠ 0)) : m.ok := by
  rw [inM_iff] at h1
  exact ⟨by omega, h2, by omega, by omega, by omega, by omega, by omega, by omega, by omega, by omega, h5⟩
set_option maxRecDepth 100000 in
theorem Mt.ok.inM {m : Mt} (h : m.ok) : InM m := by
  rw [inM_iff]
  have := pw_le h.pg
  obtain ⟨h1, h2, h3, h4, h5, h6, h7, h8, h9, h10, h11⟩ := h
  omega
set_option maxRecDepth 100000 in
theorem Mt.ok.tree {m : Mt} (h : m.ok) : m.ro = 0 ∧ m.co = 0 ∨ m.ro ≠ 0 ∧ 2 ≤ m.ro ∧ m.ro < m.hi ∧ 0 < m.co := by
  obtain ⟨h1, h2, h3, h4, h5, h6, h7, h8, h9, h10, h11⟩ := h
  omega
set_option maxRecDepth 100000 in
theorem Mt.ok.list {m : Mt} (h : m.ok) : m.fr = 0 ∧ m.li = 0 ∨ m.fr ≠ 0 ∧ 2 ≤ m.fr ∧ m.fr < m.hi ∧ m.li ≤ m.hi - 2 := by
  obtain ⟨h1, h2, h3, h4, h5, h6, h7, h8, h9, h10, h11⟩ := h
  omega

end Go.Proofs.YtddjepdgigeelabDoor

/- meta.written: the page's bytes, number by number. -/

namespace Go.Proofs.YtddjepdgigeelabDoor
open Go.RowKit

set_option maxRecDepth 100000 in
theorem splice_mid (A X N C : List Int) (a : Nat) (hA : A.length = a) (hX : X.length = N.length) : splice (A ++ (X ++ C)) a N = A ++ (N ++ C) := by
  subst hA
  unfold splice
  have e : (A ++ (X ++ C)).drop (A.length + N.length) = C := by
    rw [← List.append_assoc]
    exact List.drop_left' (by rw [List.length_append, hX])
  rw [List.take_left, e]
/-- A page behind its first k numbers. -/
def lay5 (m : Mt) : Nat → List Int
  | 0 => [1, 0, 0, 0, 69, 83, 80, 76] ++ zs (m.pg.toNat - 8)
  | k + 1 => splice (lay5 m k) (atN k) (fB (wdN k) (m.nth k))
set_option maxRecDepth 100000 in
theorem lay5_all (m : Mt) (h : m.ok) : lay5 m 8 = hdB m ++ zs (m.pg.toNat - 40) := by
  have hp := pw_le h.pg
  obtain ⟨Z, hZ⟩ : ∃ Z, Z = zs (m.pg.toNat - 40) := ⟨_, rfl⟩
  have e0 : lay5 m 0 = [1] ++ (zs 1 ++ ([0, 0, 69, 83, 80, 76] ++ (zs 4 ++ (zs 8 ++ (zs 4 ++ (zs 4 ++ (zs 4 ++ (zs 4 ++ (zs 4 ++ (Z)))))))))) := by
    show [1, 0, 0, 0, 69, 83, 80, 76] ++ zs (m.pg.toNat - 8) = _
    rw [show m.pg.toNat - 8 = 4 + (8 + (4 + (4 + (4 + (4 + (4 + (m.pg.toNat - 40))))))) by omega, zs_add, zs_add, zs_add, zs_add, zs_add, zs_add, zs_add, ← hZ]
    rfl
  have e1 : lay5 m 1 = [1] ++ (fB 1 m.en ++ ([0, 0, 69, 83, 80, 76] ++ (zs 4 ++ (zs 8 ++ (zs 4 ++ (zs 4 ++ (zs 4 ++ (zs 4 ++ (zs 4 ++ (Z)))))))))) := by
    show splice (lay5 m 0) 1 (fB 1 m.en) = _
    rw [e0, show [1] ++ (zs 1 ++ ([0, 0, 69, 83, 80, 76] ++ (zs 4 ++ (zs 8 ++ (zs 4 ++ (zs 4 ++ (zs 4 ++ (zs 4 ++ (zs 4 ++ (Z)))))))))) = ([1]) ++ (zs 1 ++ ([0, 0, 69, 83, 80, 76] ++ (zs 4 ++ (zs 8 ++ (zs 4 ++ (zs 4 ++ (zs 4 ++ (zs 4 ++ (zs 4 ++ (Z)))))))))) from rfl, splice_mid _ _ _ _ 1 rfl (by rw [zs_length, fB_length])]
  have e2 : lay5 m 2 = [1] ++ (fB 1 m.en ++ ([0, 0, 69, 83, 80, 76] ++ (fB 4 m.pg ++ (zs 8 ++ (zs 4 ++ (zs 4 ++ (zs 4 ++ (zs 4 ++ (zs 4 ++ (Z)))))))))) := by
    show splice (lay5 m 1) 8 (fB 4 m.pg) = _
    rw [e1, show [1] ++ (fB 1 m.en ++ ([0, 0, 69, 83, 80, 76] ++ (zs 4 ++ (zs 8 ++ (zs 4 ++ (zs 4 ++ (zs 4 ++ (zs 4 ++ (zs 4 ++ (Z)))))))))) = ([1] ++ fB 1 m.en ++ [0, 0, 69, 83, 80, 76]) ++ (zs 4 ++ (zs 8 ++ (zs 4 ++ (zs 4 ++ (zs 4 ++ (zs 4 ++ (zs 4 ++ (Z)))))))) from by simp only [List.append_assoc], splice_mid _ _ _ _ 8 (by simp [fB_length]) (by rw [zs_length, fB_length])]
    simp only [List.append_assoc]
  have e3 : lay5 m 3 = [1] ++ (fB 1 m.en ++ ([0, 0, 69, 83, 80, 76] ++ (fB 4 m.pg ++ (fB 8 m.tx ++ (zs 4 ++ (zs 4 ++ (zs 4 ++ (zs 4 ++ (zs 4 ++ (Z)))))))))) := by
    show splice (lay5 m 2) 12 (fB 8 m.tx) = _
    rw [e2, show [1] ++ (fB 1 m.en ++ ([0, 0, 69, 83, 80, 76] ++ (fB 4 m.pg ++ (zs 8 ++ (zs 4 ++ (zs 4 ++ (zs 4 ++ (zs 4 ++ (zs 4 ++ (Z)))))))))) = ([1] ++ fB 1 m.en ++ [0, 0, 69, 83, 80, 76] ++ fB 4 m.pg) ++ (zs 8 ++ (zs 4 ++ (zs 4 ++ (zs 4 ++ (zs 4 ++ (zs 4 ++ (Z))))))) from by simp only [List.append_assoc], splice_mid _ _ _ _ 12 (by simp [fB_length]) (by rw [zs_length, fB_length])]
    simp only [List.append_assoc]
  have e4 : lay5 m 4 = [1] ++ (fB 1 m.en ++ ([0, 0, 69, 83, 80, 76] ++ (fB 4 m.pg ++ (fB 8 m.tx ++ (fB 4 m.ro ++ (zs 4 ++ (zs 4 ++ (zs 4 ++ (zs 4 ++ (Z)))))))))) := by
    show splice (lay5 m 3) 20 (fB 4 m.ro) = _
    rw [e3, show [1] ++ (fB 1 m.en ++ ([0, 0, 69, 83, 80, 76] ++ (fB 4 m.pg ++ (fB 8 m.tx ++ (zs 4 ++ (zs 4 ++ (zs 4 ++ (zs 4 ++ (zs 4 ++ (Z)))))))))) = ([1] ++ fB 1 m.en ++ [0, 0, 69, 83, 80, 76] ++ fB 4 m.pg ++ fB 8 m.tx) ++ (zs 4 ++ (zs 4 ++ (zs 4 ++ (zs 4 ++ (zs 4 ++ (Z)))))) from by simp only [List.append_assoc], splice_mid _ _ _ _ 20 (by simp [fB_length]) (by rw [zs_length, fB_length])]
    simp only [List.append_assoc]
  have e5 : lay5 m 5 = [1] ++ (fB 1 m.en ++ ([0, 0, 69, 83, 80, 76] ++ (fB 4 m.pg ++ (fB 8 m.tx ++ (fB 4 m.ro ++ (fB 4 m.co ++ (zs 4 ++ (zs 4 ++ (zs 4 ++ (Z)))))))))) := by
    show splice (lay5 m 4) 24 (fB 4 m.co) = _
    rw [e4, show [1] ++ (fB 1 m.en ++ ([0, 0, 69, 83, 80, 76] ++ (fB 4 m.pg ++ (fB 8 m.tx ++ (fB 4 m.ro ++ (zs 4 ++ (zs 4 ++ (zs 4 ++ (zs 4 ++ (Z)))))))))) = ([1] ++ fB 1 m.en ++ [0, 0, 69, 83, 80, 76] ++ fB 4 m.pg ++ fB 8 m.tx ++ fB 4 m.ro) ++ (zs 4 ++ (zs 4 ++ (zs 4 ++ (zs 4 ++ (Z))))) from by simp only [List.append_assoc], splice_mid _ _ _ _ 24 (by simp [fB_length]) (by rw [zs_length, fB_length])]
    simp only [List.append_assoc]
  have e6 : lay5 m 6 = [1] ++ (fB 1 m.en ++ ([0, 0, 69, 83, 80, 76] ++ (fB 4 m.pg ++ (fB 8 m.tx ++ (fB 4 m.ro ++ (fB 4 m.co ++ (fB 4 m.fr ++ (zs 4 ++ (zs 4 ++ (Z)))))))))) := by
    show splice (lay5 m 5) 28 (fB 4 m.fr) = _
    rw [e5, show [1] ++ (fB 1 m.en ++ ([0, 0, 69, 83, 80, 76] ++ (fB 4 m.pg ++ (fB 8 m.tx ++ (fB 4 m.ro ++ (fB 4 m.co ++ (zs 4 ++ (zs 4 ++ (zs 4 ++ (Z)))))))))) = ([1] ++ fB 1 m.en ++ [0, 0, 69, 83, 80, 76] ++ fB 4 m.pg ++ fB 8 m.tx ++ fB 4 m.ro ++ fB 4 m.co) ++ (zs 4 ++ (zs 4 ++ (zs 4 ++ (Z)))) from by simp only [List.append_assoc], splice_mid _ _ _ _ 28 (by simp [fB_length]) (by rw [zs_length, fB_length])]
    simp only [List.append_assoc]
  have e7 : lay5 m 7 = [1] ++ (fB 1 m.en ++ ([0, 0, 69, 83, 80, 76] ++ (fB 4 m.pg ++ (fB 8 m.tx ++ (fB 4 m.ro ++ (fB 4 m.co ++ (fB 4 m.fr ++ (fB 4 m.li ++ (zs 4 ++ (Z)))))))))) := by
    show splice (lay5 m 6) 32 (fB 4 m.li) = _
    rw [e6, show [1] ++ (fB 1 m.en ++ ([0, 0, 69, 83, 80, 76] ++ (fB 4 m.pg ++ (fB 8 m.tx ++ (fB 4 m.ro ++ (fB 4 m.co ++ (fB 4 m.fr ++ (zs 4 ++ (zs 4 ++ (Z)))))))))) = ([1] ++ fB 1 m.en ++ [0, 0, 69, 83, 80, 76] ++ fB 4 m.pg ++ fB 8 m.tx ++ fB 4 m.ro ++ fB 4 m.co ++ fB 4 m.fr) ++ (zs 4 ++ (zs 4 ++ (Z))) from by simp only [List.append_assoc], splice_mid _ _ _ _ 32 (by simp [fB_length]) (by rw [zs_length, fB_length])]
    simp only [List.append_assoc]
  have e8 : lay5 m 8 = [1] ++ (fB 1 m.en ++ ([0, 0, 69, 83, 80, 76] ++ (fB 4 m.pg ++ (fB 8 m.tx ++ (fB 4 m.ro ++ (fB 4 m.co ++ (fB 4 m.fr ++ (fB 4 m.li ++ (fB 4 m.hi ++ (Z)))))))))) := by
    show splice (lay5 m 7) 36 (fB 4 m.hi) = _
    rw [e7, show [1] ++ (fB 1 m.en ++ ([0, 0, 69, 83, 80, 76] ++ (fB 4 m.pg ++ (fB 8 m.tx ++ (fB 4 m.ro ++ (fB 4 m.co ++ (fB 4 m.fr ++ (fB 4 m.li ++ (zs 4 ++ (Z)))))))))) = ([1] ++ fB 1 m.en ++ [0, 0, 69, 83, 80, 76] ++ fB 4 m.pg ++ fB 8 m.tx ++ fB 4 m.ro ++ fB 4 m.co ++ fB 4 m.fr ++ fB 4 m.li) ++ (zs 4 ++ (Z)) from by simp only [List.append_assoc], splice_mid _ _ _ _ 36 (by simp [fB_length]) (by rw [zs_length, fB_length])]
    simp only [List.append_assoc]
  rw [e8, hZ]
  simp only [hdB, List.append_assoc]
set_option maxRecDepth 100000 in
theorem lay5_length (m : Mt) (h : m.ok) : ∀ k, k ≤ 8 → (lay5 m k).length = m.pg.toNat
  | 0, _ => by
    have hp := pw_le h.pg
    simp only [lay5, List.length_append, zs_length, List.length_cons, List.length_nil]
    omega
  | k + 1, hk => by
    have hp := pw_le h.pg
    have ih := lay5_length m h k (by omega)
    show (splice _ _ _).length = _
    rw [length_splice _ _ _ (by
      rw [ih, fB_length]
      rcases eight (show k < 8 by omega) with rfl | rfl | rfl | rfl | rfl | rfl | rfl | rfl <;> simp [atN, wdN] <;> omega), ih]
set_option maxRecDepth 100000 in
theorem splice_wf {l cs : List Int} (h : Wf l) (hc : Wf cs) (off : Nat) : Wf (splice l off cs) := (h.take _).append (hc.append (h.drop _))
set_option maxRecDepth 100000 in
theorem lay5_wf (m : Mt) : ∀ k, Wf (lay5 m k)
  | 0 => by
    refine Wf.append ?_ (zs_wf _)
    intro x hx
    simp only [List.mem_cons, List.not_mem_nil, or_false] at hx
    omega
  | k + 1 => splice_wf (lay5_wf m k) (fB_wf _ _) _
set_option maxRecDepth 100000 in
theorem lay5_body (m : Mt) (h : m.ok) : (lay5 m 8).take (m.pg.toNat - 4) = bodyB m := by
  have hp := pw_le h.pg
  rw [lay5_all m h, List.take_append, hdB_length, List.take_of_length_le (by rw [hdB_length]; omega)]
  unfold bodyB zs
  rw [List.take_replicate, show min (m.pg.toNat - 4 - 40) (m.pg.toNat - 40) = m.pg.toNat - 44 by omega]
set_option maxRecDepth 100000 in
theorem lay5_page (m : Mt) (h : m.ok) : splice (lay5 m 8) (m.pg.toNat - 4) (fB 4 (sumN [bodyB m])) = pageB m := by
  have hp := pw_le h.pg
  unfold splice
  rw [lay5_body m h, fB_length, List.drop_eq_nil_of_le (by rw [lay5_length m h 8 (Nat.le_refl _)]; omega), List.append_nil]
  rfl
set_option maxRecDepth 100000 in
theorem By_splice5 (l cs : List Int) (off : Nat) : splice (By l) off (By cs) = By (splice l off cs) := by simp [splice, By, List.map_take, List.map_drop]

set_option maxRecDepth 100000 in
theorem step_copy_rw {P : Program} {ops : Array Oper} {o : Oper} {a : Act} {w : World} {K : Act → World → Prop} {Q : Exit → Act → World → Prop} {E : Prop} (hgd : o.guard = none) (d s : Operand) (dT sT : TypeId)
    (ho : o.op = .call { callee := .builtin .copy, args := #[d, s], argTypes := #[dT, sT] }) (elem : TypeId) (hu : P.underlying dT = some (.slice elem)) (hsz : (P.info? elem).map (·.size) = some 1)
    (g off dLen dCap : Nat) (ad : Addr) (sLen sCap : Nat) (hd : a.eval d = .slice (some ⟨g, off, none⟩) dLen dCap) (hs : a.eval s = .slice (some ad) sLen sCap)
    (cur : List Value) (t : TypeId) (hg : w.heap[g]? = some (.cells cur.toArray t (0, 0))) (cs : List Value) (hn : cs.length = Nat.min sLen dLen)
    (hsrc : ∀ j v, cs[j]? = some v → w.cell? (ad.add j) = some v) (hfit : off + cs.length ≤ cur.length) (h1 : ∀ v ∈ cs, v.oneCell' = true)
    (h : ∀ u, Hid (u = w.setRow g (splice cur off cs).toArray) → K (a.put o.dst (goInt cs.length)) u) : if Region.wanted o (yielded ops a.tmps) = true then Oper.wp P o a w K Q else E := by
  have hw : Region.wanted o (yielded ops a.tmps) = true := by simp [Region.wanted, hgd]
  rw [if_pos hw]
  have hrun := run_copy_row (P := P) w dT sT o.type elem g off dLen dCap ad sLen sCap cur.toArray t cs hu hsz hg hn hsrc (by simpa using hfit) h1
  unfold Oper.wp
  simp [execOp, ho, resolve, invoke, builtin, hd, hs, hrun, Result.andThen]
  exact h _ (hidden (by simp [splice]))

set_option maxRecDepth 100000 in
/-- What Fixed hands out lies in new memory. -/
theorem fixed_row (n x : Int) (w : World) (h0 : 0 ≤ n) (h1 : 1 ≤ x) (h2 : x ≤ 8) :
    Calls Tryd.prog 38 #[.int .u64 n, .int .i64 x] w fun e w' => ∃ b off c, e = .returned (.slice (some ⟨b, off, none⟩) x.toNat c) ∧ Hid (Sl w' (some ⟨b, off, none⟩) x.toNat c (fB x.toNat n)) ∧ Hid (Below w.heap.size w w') := by
  refine (fixed_yes n x w h0 h1 h2).mono ?_
  rintro e w' ⟨v, rfl, ho, hb⟩
  obtain ⟨ao, cap, rfl, hs, _⟩ := ho.sl (fB_wf _ _) (by rw [fB_length]; omega)
  rw [fB_length] at hs ⊢
  rcases hs.hat with h | ⟨b, off, rfl, hlt, hc⟩
  · omega
  · exact ⟨b, off, cap, rfl, hs, hb⟩
set_option maxRecDepth 100000 in
theorem sl_src5 {w : World} {b off n c : Nat} {l : List Int} (h : Sl w (some ⟨b, off, none⟩) n c l) : ∀ j v, (By l)[j]? = some v → w.cell? ((⟨b, off, none⟩ : Addr).add j) = some v := by
  intro j v hv
  obtain ⟨h1, rfl⟩ := getElem?_By l j v hv
  rw [Addr.add_lit]
  rcases h.hat with h0 | ⟨b', off', e, hlt, hc⟩
  · have := h.hlen; omega
  · injection e with e
    injection e with e1 e2
    subst e1 e2
    exact hc j (by have := h.hlen; omega)
end Go.Proofs.YtddjepdgigeelabDoor

/- meta.written, followed as its text goes; meta.Encode. -/

namespace Go.Proofs.YtddjepdgigeelabDoor
open Go.RowKit

/-- A row of bytes. -/
def Bk (w : World) (g : Nat) (l : List Int) : Prop := w.heap[g]? = some (.cells (By l).toArray 5 (0, 0))
set_option maxRecDepth 100000 in
theorem Bk.on {w w' : World} {g : Nat} {l : List Int} (h : Bk w g l) (hb : Below w.heap.size w w') : Bk w' g l := (hb.block _ (lt_some h)).trans h
set_option maxRecDepth 100000 in
theorem set_row {w : World} {a i : Nat} {cs : List Value} {t : TypeId} {u : Value} (h : w.heap[a]? = some (.cells cs.toArray t (0, 0))) : (w.setCell ⟨a, i, none⟩ u).heap[a]? = some (.cells (cs.set i u).toArray t (0, 0)) := by
  have := setCell_eq_setRow w a i cs.toArray t (0, 0) u h
  rw [this, setRow_heap w a _ _ t _ h]
  simp
set_option maxRecDepth 100000 in
theorem Bk.cell {w : World} {g : Nat} {l : List Int} (h : Bk w g l) (k : Nat) (hk : k < l.length) : w.cell? ⟨g, k, none⟩ = some (.int .u8 (l.getD k 0)) := by
  rw [cell_of_row _ _ k _ _ _ h]
  simp [By, List.getElem?_eq_getElem hk, List.getD]
set_option maxRecDepth 100000 in
theorem Bk.free {w : World} {g : Nat} {l : List Int} (h : Bk w g l) (k : Nat) : w.frozen? ⟨g, k, none⟩ = false := by
  unfold Bk at h
  simp [World.frozen?, h]
set_option maxRecDepth 100000 in
theorem Bk.sl {w : World} {g n : Nat} {l : List Int} (h : Bk w g l) (hl : l.length = n) (hw : Wf l) (hn : n ≤ 140737488355328) : Sl w (some ⟨g, 0, none⟩) n n l :=
  ⟨hl, Nat.le_refl _, hn, hw, (by intro h; cases h), .inr ⟨g, 0, rfl, lt_some h, fun i hi => by rw [Nat.zero_add]; exact h.cell i (by omega)⟩⟩

set_option maxRecDepth 100000 in
theorem Sl.alloc5 {w : World} {ao : Option Addr} {n cap : Nat} {l : List Int} (h : Sl w ao n cap l) (o : Obj) : Sl (w.alloc o) ao n cap l := h.on (Nat.le_refl _) ((Below.refl _ _).alloc (Nat.le_refl _) o)
set_option maxRecDepth 100000 in
theorem lit_cell5 (w : World) (cs : Array Value) (t : TypeId) (f : Nat × Nat) (i B : Nat) (hB : w.heap.size = B) : (w.alloc (.cells cs t f)).cell? ⟨B, i, none⟩ = cs[i]? := by
  subst hB
  unfold World.cell?
  rw [show (w.alloc (.cells cs t f)).heap[w.heap.size]? = some (.cells cs t f) from heap_alloc_new w _]
  rfl
set_option maxRecDepth 100000 in
theorem sls_one5 (w : World) (a : Option Addr) (n c : Nat) (la : List Int) (ha : Sl w a n c la) (B : Nat) (hB : w.heap.size = B) : SlS (w.alloc (.cells #[.slice a n c] 25)) (some ⟨B, 0, none⟩) 1 1 [la] := by
  refine ⟨rfl, Nat.le_refl _, by omega, (by intro h; cases h), .inr ⟨B, 0, rfl, by simp; omega, fun i hi => ?_⟩⟩
  obtain rfl : i = 0 := by omega
  exact ⟨a, n, c, lit_cell5 _ _ _ _ _ _ hB, ha.alloc5 _⟩
set_option maxRecDepth 100000 in
theorem SlS.drew5 {w : World} {ao : Option Addr} {n cap : Nat} {ls : List (List Int)} (h : SlS w ao n cap ls) : SlS w.drew ao n cap ls := by
  refine ⟨h.hlen, h.hcap, h.hroom, h.hnil, ?_⟩
  rcases h.hat with h0 | ⟨b, off, e, hb, hc⟩
  · exact .inl h0
  · refine .inr ⟨b, off, e, hb, fun i hi => ?_⟩
    obtain ⟨a, m, c, h1, h2⟩ := hc i hi
    exact ⟨a, m, c, h1, h2.on (Nat.le_refl _) (Below.refl _ _).drew⟩
set_option maxRecDepth 100000 in
/-- What one number of a meta may be. -/
theorem nth_ok (m : Mt) (h : m.ok) (k : Nat) (hk : k < 8) : 0 ≤ m.nth k ∧ m.nth k ≤ 1099511627776 := by
  have h1 := h.inM k hk
  have h2 : 0 ≤ leastN k ∧ mostN k ≤ 1099511627776 := by
    rcases eight hk with rfl | rfl | rfl | rfl | rfl | rfl | rfl | rfl <;> simp [leastN, mostN]
  omega
set_option maxRecDepth 100000 in
theorem place_ok (k : Nat) (hk : k < 8) : 1 ≤ wdN k ∧ wdN k ≤ 8 ∧ atN k + wdN k ≤ 40 := by
  rcases eight hk with rfl | rfl | rfl | rfl | rfl | rfl | rfl | rfl <;> simp [wdN, atN]
set_option maxRecDepth 100000 in
theorem first_laid (m : Mt) (P : Nat) (hP : m.pg.toNat = P) (h : 512 ≤ P) : List.take 4 ((By (zs P)).set 0 (Value.int IntKind.u8 1)) ++ (Lib.byteCells [69, 83, 80, 76] ++ List.drop 8 ((By (zs P)).set 0 (Value.int IntKind.u8 1))) = By (lay5 m 0) := by
  have e : zs P = [0, 0, 0, 0, 0, 0, 0, 0] ++ zs (P - 8) := by
    conv => lhs; rw [show P = 8 + (P - 8) by omega, zs_add]
    rfl
  show _ = By ([1, 0, 0, 0, 69, 83, 80, 76] ++ zs (m.pg.toNat - 8))
  rw [e, By_append, By_append, hP]
  generalize By (zs (P - 8)) = Z
  simp [By, Lib.byteCells]

/-- What Encode answers. -/
def Enc5 (m : Mt) (w : World) (e : Ending) (w' : World) : Prop :=
  (m.ok ∧ ∃ g, e = .returned (.tuple #[.slice (some ⟨g, 0, none⟩) m.pg.toNat m.pg.toNat, .int .i64 0]) ∧ w.heap.size ≤ g ∧ Bk w' g (pageB m) ∧ Below w.heap.size w w') ∨
  (¬ m.ok ∧ e = .returned (.tuple #[.slice none 0 0, .int .i64 1]) ∧ Below w.heap.size w w')
end Go.Proofs.YtddjepdgigeelabDoor
