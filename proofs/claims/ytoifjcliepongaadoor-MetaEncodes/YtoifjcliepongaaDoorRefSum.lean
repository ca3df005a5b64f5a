/- The document's check sum, and how many bytes there are. -/
import Derived.Test.YtoifjcliepongaaDoorCrcMath
import Derived.Test.YtoifjcliepongaaDoorSum
namespace Go.Proofs.YtoifjcliepongaaDoor
open Go.RowKit

set_option maxRecDepth 100000 in
theorem Sn_step (k y : Nat) (h : k < 8) : Sn (8 - k) y = Sn (8 - (k + 1)) (S y) := by
  rw [show 8 - k = (8 - (k + 1)) + 1 by omega]
  rfl
set_option maxRecDepth 100000 in
set_option maxHeartbeats 1000000 in
theorem step_any (r x : Nat) (w : World) (hr : r < 4294967296) (hx : x < 256) :
    Calls Tryd.prog 42 #[.int .u32 r, .int .u8 x] w fun e w' => e = .returned (.int .u32 (Sn 8 (r ^^^ x))) ∧ w' = w := by
  have hxr := u32_xor_nat r x hr (by omega)
  have hlt := xor32 hr (show x < 4294967296 by omega)
  generalize (r ^^^ x : Nat) = R at *
  generalize hF : Sn 8 R = F
  have HF := hidden hF
  clear hF
  go_enter Tryd.func42, Tryd.ntmps42
  go_wp2_with fail
  go_loop [5, 6] (fun v i => ∃ k y : Nat, k ≤ 8 ∧ y < 4294967296 ∧ i = .int .i64 k ∧ v = .int .u32 y ∧ Hid (Sn (8 - k) y = F)) (fun _ i => 8 - (intOf i).toNat)
  case atStart => exact ⟨0, R, by omega, hlt, rfl, rfl, HF⟩
  case round =>
    clear hxr hlt HF
    obtain ⟨k, y, hk, hy, rfl, rfl, HK⟩ := hrel
    by_cases hk8 : k < 8
    · have e := HK.out
      rw [Sn_step k y hk8] at e
      have hSl := S_lt hy
      clear HK
      obtain ⟨D, hD⟩ : ∃ D : Nat, y / 2 = D := ⟨_, rfl⟩
      have hD2 : (y : Int) / 2 = (D : Int) := by omega
      have hDl : D < 4294967296 := by omega
      by_cases hodd : y % 2 = 1
      · have hS : S y = D ^^^ 2197175160 := by unfold S; rw [if_pos hodd, hD]
        rw [hS] at e hSl
        have hz := u32_xor_nat D 2197175160 hDl (by omega)
        obtain ⟨Z, hZ⟩ : ∃ Z : Nat, D ^^^ 2197175160 = Z := ⟨_, rfl⟩
        rw [hZ] at e hz hSl
        have hz2 : bits .xor .u32 (D : Int) 2197175160 = (Z : Int) := hz
        have hb : ((y : Int) % 2 == 1) = true := by simp; omega
        have HE := hidden e
        clear e hS hz hZ hD hodd
        go_wp2
        go_round
        case rel => exact ⟨k + 1, Z, by omega, hSl, by go_num, rfl, HE⟩
        case measure => simp [intOf]; omega
      · have hS : S y = D := by unfold S; rw [if_neg hodd, hD]
        rw [hS] at e hSl
        have hb : ((y : Int) % 2 == 1) = false := by simp; omega
        have HE := hidden e
        clear e hS hD hodd
        go_wp2
        go_round
        case rel => exact ⟨k + 1, D, by omega, hSl, by go_num, rfl, HE⟩
        case measure => simp [intOf]; omega
    · have e : y = F := by rw [← HK.out, show 8 - k = 0 by omega]; rfl
      have HE := hidden e
      clear e HK
      go_wp2
      go_ret
      exact ⟨ret_int (by rw [HE.out]), rfl⟩

/-- How many bytes there are, one more for each list. -/
def tot (ls : List (List Int)) : Nat := (ls.map fun l => 1 + l.length).sum
set_option maxRecDepth 100000 in
theorem tot_snoc (ls : List (List Int)) (l : List Int) : tot (ls ++ [l]) = tot ls + (1 + l.length) := by simp [tot]
set_option maxRecDepth 100000 in
theorem take_snocS (ls : List (List Int)) (k : Nat) (h : k < ls.length) : ls.take (k + 1) = ls.take k ++ [ls.getD k []] := by
  rw [List.take_succ_eq_append_getElem h]
  simp [List.getD, List.getElem?_eq_getElem h]

/-- What Great answers: true, or false where there are few bytes. -/
def GreatSays (ls : List (List Int)) (e : Ending) : Prop := ∃ g, e = .returned (.bool g) ∧ (g = false → tot ls ≤ 1000000)
set_option maxRecDepth 100000 in
theorem GreatSays.mk {ls : List (List Int)} {g : Bool} (h : g = false → tot ls ≤ 1000000) : GreatSays ls (.returned (.bool g)) := ⟨g, rfl, h⟩

/-- The register behind all parts. -/
def crS (r : Nat) (ls : List (List Int)) : Nat := ls.foldl (fun r l => cr r (l.map Int.toNat)) r
set_option maxRecDepth 100000 in
theorem sumN_eq : ∀ (ls : List (List Int)) (r : Nat), r < 4294967296 → (∀ l ∈ ls, Wf l) → ls.foldl (fun r l => tk (l.map Int.toNat) r) r = crS r ls
  | [], _, _, _ => rfl
  | l :: ls, r, hr, hw => by
    have h1 := tk_eq (l.map Int.toNat) r hr (nat_lt l (hw l (by simp)))
    show ls.foldl _ (tk (l.map Int.toNat) r) = crS (cr r (l.map Int.toNat)) ls
    rw [h1]
    exact sumN_eq ls _ (cr_lt _ _ hr (nat_lt l (hw l (by simp)))) (fun x hx => hw x (by simp [hx]))
set_option maxRecDepth 100000 in
theorem crS_flat (r : Nat) (ls : List (List Int)) : crS r ls = cr r ((ls.flatMap id).map Int.toNat) := by
  induction ls generalizing r with
  | nil => rfl
  | cons l ls ih =>
    show crS (cr r (l.map Int.toNat)) ls = _
    rw [ih, List.flatMap_cons, List.map_append, cr_append]
    rfl

end Go.Proofs.YtoifjcliepongaaDoor
