/- The check sum, as package ink's text reckons it with its table. -/
import Derived.Test.YtbnjojplfbibkaaGreatDoorBase
import Derived.Deep.Draws
namespace Go.Proofs.YtbnjojplfbibkaaGreatDoor
open Go.RowKit

/-- The table of package ink, row by row. -/
def tabN : List Nat := [0, 274646895, 549293790, 820201905, 1098587580, 1361435347, 1640403810, 1905808397, 2197175160, 2460548119, 2722870694, 2987750089, 3280807620, 3553878443, 3811616794, 4084100981, 0, 4067132163, 3778769143, 324072436, 3348797215, 904991772, 648144872, 3570033899, 2329499855, 2024987596, 1809983544, 2575936315, 1296289744, 3207089363, 2893594407, 1578318884, 0, 1069937025, 2139874050, 1078858371, 4279748100, 3235002245, 2157716742, 3210335367, 4223924985, 3288730488, 2219317755, 3146639482, 81018109, 991022460, 2069880831, 1150955134, 0, 329422967, 658845934, 887597209, 1317691868, 1562966443, 1775194418, 2054015301, 2635383736, 2394315727, 3125932886, 2851302177, 3550388836, 3225172499, 4108030602, 3883469565, 0, 1889697162, 3779394324, 2447804062, 3345318105, 3083337043, 639728589, 1451427399, 2334619459, 4219800265, 1784908887, 448917981, 1279457178, 1021348368, 2902854798, 3718541572, 0, 2772537982, 1332695565, 3928932467, 2665391130, 1000289892, 3518101015, 1961911401, 944848581, 2635115707, 2000579784, 3531603638, 2794429151, 63834273, 3923822802, 1285642924, 0, 3915690301, 3609531531, 1044489654, 2879807463, 1120071386, 2088979308, 2515008081, 1386268991, 3150215170, 2240142772, 1826712713, 4177958616, 274868197, 774079059, 3343332206, 0, 3712330424, 3211207553, 1646430521, 2065838579, 2791807819, 3292861042, 419477706, 4131677158, 721537374, 1227047015, 2489772767, 2372293141, 1344534701, 838955412, 4014267180]
def tN (i : Nat) : Nat := tabN.getD i 0
set_option maxRecDepth 100000 in
theorem tN_lt (i : Nat) : tN i < 4294967296 := by
  by_cases h : i < 128
  · have h' : ∀ a : Fin 128, tN a.val < 4294967296 := by decide +kernel
    exact h' ⟨i, h⟩
  · have : tN i = 0 := by
      unfold tN
      rw [List.getD_eq_getElem?_getD, List.getElem?_eq_none (by rw [show tabN.length = 128 from rfl]; omega)]
      rfl
    omega
/-- The register behind a byte that has been xored in. -/
def tb (R : Nat) : Nat := R / 256 ^^^ tN (16 + R % 16) ^^^ tN (R / 16 % 16)
/-- The register behind four bytes that have been xored in. -/
def sh (R : Nat) : Nat := tN (112 + R % 16) ^^^ tN (96 + R / 16 % 16) ^^^ tN (80 + R / 256 % 16) ^^^ tN (64 + R / 4096 % 16) ^^^ tN (48 + R / 65536 % 16) ^^^ tN (32 + R / 1048576 % 16) ^^^ tN (16 + R / 16777216 % 16) ^^^ tN (R / 268435456)
set_option maxRecDepth 100000 in
theorem xor32 {a b : Nat} (ha : a < 4294967296) (hb : b < 4294967296) : a ^^^ b < 4294967296 := Nat.xor_lt_two_pow (n := 32) ha hb
set_option maxRecDepth 100000 in
theorem tb_lt {R : Nat} (h : R < 4294967296) : tb R < 4294967296 := xor32 (xor32 (by omega) (tN_lt _)) (tN_lt _)
set_option maxRecDepth 100000 in
theorem sh_lt (R : Nat) : sh R < 4294967296 := xor32 (xor32 (xor32 (xor32 (xor32 (xor32 (xor32 (tN_lt _) (tN_lt _)) (tN_lt _)) (tN_lt _)) (tN_lt _)) (tN_lt _)) (tN_lt _)) (tN_lt _)
set_option maxRecDepth 100000 in
theorem and15 (a : Int) (h0 : 0 ≤ a) (h1 : a < 4294967296) : bits .and .u32 a 15 = a % 16 := by
  rw [u32_and _ _ (by omega) (by omega) (by omega) (by omega), show (15 : Int).toNat = 2 ^ 4 - 1 from rfl, Nat.and_two_pow_sub_one_eq_mod]
  omega
/-- The world holds the table. -/
def Tab (w : World) : Prop := ∀ i, i < 128 → w.cell? ⟨0, i, none⟩ = some (.int .u32 (tN i))
set_option maxRecDepth 100000 in
theorem Tab.on {w w' : World} (h : Tab w) {B : Nat} (hb : Below B w w') (hB : 0 < B) : Tab w' := fun i hi => (hb.cell (p := ⟨0, i, none⟩) hB).trans (h i hi)
set_option maxRecDepth 100000 in
theorem Tab.drewN {w : World} (h : Tab w) (q : Nat) : Tab (w.drewN q) := fun i hi => by simpa using h i hi

/-- What 'taken' comes to: four bytes at a time, then byte by byte. -/
def tk1 (r : Nat) (l : List Nat) : Nat := l.foldl (fun r c => tb (r ^^^ c)) r
def tk : List Nat → Nat → Nat
  | a :: b :: c :: d :: l, r => tk l (sh (r ^^^ (a ||| b * 256 ||| c * 65536 ||| d * 16777216)))
  | l, r => tk1 r l
end Go.Proofs.YtbnjojplfbibkaaGreatDoor
