/- The document's check sum, and how many bytes there are. -/
import Derived.Test.YtfofkgdhepdjeabDoorCrcMath
import Derived.Test.YtfofkgdhepdjeabDoorSum
namespace Go.Proofs.YtfofkgdhepdjeabDoor
open Go.RowKit

theorem Sn_step (k y : Nat) (h : k < 8) : Sn (8 - k) y = Sn (8 - (k + 1)) (S y) := by
  rw [show 8 - k = (8 - (k + 1)) + 1 by omega]
  rfl
set_option maxHeartbeats 1000000 in
theorem step_any (r x : Nat) (w : World) (hr : r < 4294967296) (hx : x < 256) :
    Calls Tryd.prog 34 #[.int .u32 r, .int .u8 x] w fun e w' => e = .returned (.int .u32 (Sn 8 (r ^^^ x))) ∧ w' = w := by
  have hxr := u32_xor_nat r x hr (by omega)
  have hlt := xor32 hr (show x < 4294967296 by omega)
  generalize (r ^^^ x : Nat) = R at *
  generalize hF : Sn 8 R = F
  have HF := hidden hF
  clear hF
  go_enter Tryd.func34, Tryd.ntmps34
  go_wp2_with fail
  go_loop [5, 6] (fun v i => ∃ k y : Nat, k ≤ 8 ∧ y < 4294967296 ∧ i = .int .i64 k ∧ v = .int .u32 y ∧ Hid (Sn (8 - k) y = F)) (fun _ i => 8 - (intOf i).toNat)
  case atStart => exact ⟨0, R, by omega, hlt, rfl, rfl, HF⟩
  case round =>
    clear hxr hlt HF
    obtain ⟨k, y, hk, hy, rfl, rfl, HK⟩ := hrel
    by_cases hk8 : k < 8
    · have e := HK.out
      rw [Sn_step k y hk8] at e
      have hSl := S_lt hy
      clear HK
      obtain ⟨D, hD⟩ : ∃ D : Nat, y / 2 = D := ⟨_, rfl⟩
      have hD2 : (y : Int) / 2 = (D : Int) := by omega
      have hDl : D < 4294967296 := by omega
      by_cases hodd : y % 2 = 1
      · have hS : S y = D ^^^ 2197175160 := by unfold S; rw [if_pos hodd, hD]
        rw [hS] at e hSl
        have hz := u32_xor_nat D 2197175160 hDl (by omega)
        obtain ⟨Z, hZ⟩ : ∃ Z : Nat, D ^^^ 2197175160 = Z := ⟨_, rfl⟩
        rw [hZ] at e hz hSl
        have hz2 : bits .xor .u32 (D : Int) 2197175160 = (Z : Int) := hz
        have hb : ((y : Int) % 2 == 1) = true := by simp; omega
        have HE := hidden e
        clear e hS hz hZ hD hodd
        go_wp2
        go_round
        case rel => exact ⟨k + 1, Z, by omega, hSl, by go_num, rfl, HE⟩
        case measure => simp [intOf]; omega
      · have hS : S y = D := by unfold S; rw [if_neg hodd, hD]
        rw [hS] at e hSl
        have hb : ((y : Int) % 2 == 1) = false := by simp; omega
        have HE := hidden e
        clear e hS hD hodd
        go_wp2
        go_round
        case rel => exact ⟨k + 1, D, by omega, hSl, by go_num, rfl, HE⟩
        case measure => simp [intOf]; omega
    · have e : y = F := by rw [← HK.out, show 8 - k = 0 by omega]; rfl
      have HE := hidden e
      clear e HK
      go_wp2
      go_ret
      exact ⟨ret_int (by rw [HE.out]), rfl⟩

/-- How many bytes there are, one more for each list. -/
def tot (ls : List (List Int)) : Nat := (ls.map fun l => 1 + l.length).sum
theorem tot_snoc (ls : List (List Int)) (l : List Int) : tot (ls ++ [l]) = tot ls + (1 + l.length) := by simp [tot]
theorem take_snocS (ls : List (List Int)) (k : Nat) (h : k < ls.length) : ls.take (k + 1) = ls.take k ++ [ls.getD k []] := by
  rw [List.take_succ_eq_append_getElem h]
  simp [List.getD, List.getElem?_eq_getElem h]

/-- What Great answers: true, or false where there are few bytes. -/
def GreatSays (ls : List (List Int)) (e : Ending) : Prop := ∃ g, e = .returned (.bool g) ∧ (g = false → tot ls ≤ 1000000)
theorem GreatSays.mk {ls : List (List Int)} {g : Bool} (h : g = false → tot ls ≤ 1000000) : GreatSays ls (.returned (.bool g)) := ⟨g, rfl, h⟩

set_option maxHeartbeats 1000000 in
theorem great_any (ao : Option Addr) (n cap : Nat) (ls : List (List Int)) (w : World) (hs : SlS w ao n cap ls) :
    Calls Tryd.prog 7 #[.slice ao n cap] w fun e w' => GreatSays ls e ∧ w' = w := by
  obtain ⟨hlen, hcap, hroom, hnil, hat⟩ := hs
  go_enter Tryd.func7, Tryd.ntmps7
  go_wp2_with fail
  go_loop [3, 4] (fun v i => ∃ k : Nat, k ≤ n ∧ i = .int .i64 k ∧ v = .int .i64 (tot (ls.take k)) ∧ tot (ls.take k) ≤ 140737489355329) (fun _ i => n - (intOf i).toNat)
  case atStart => exact ⟨0, by omega, rfl, by simp [tot], by simp [tot]⟩
  case round =>
    obtain ⟨k, hk, rfl, rfl, ht⟩ := hrel
    by_cases hkn : k < n
    · by_cases hle : tot (ls.take k) ≤ 1000000
      · rcases hat with h | ⟨b, off, rfl, hbb, hc⟩
        · omega
        obtain ⟨a, m, c, hck, hsl⟩ := hc k hkn
        have hm := hsl.hroom
        have hml := hsl.hlen
        have e : tot (ls.take (k + 1)) = tot (ls.take k) + (1 + m) := by rw [take_snocS ls k (by omega), tot_snoc, hml]
        have HE := hidden e
        clear hc hsl e hml
        generalize tot (ls.take k) = T at *
        go_wp2
        go_round
        case rel => exact ⟨k + 1, by omega, by go_num, by rw [HE.out]; go_num, by rw [HE.out]; omega⟩
        case measure => simp [intOf]; omega
      · generalize tot (ls.take k) = T at *
        have hgt : (1000000 : Int) < T := by omega
        go_wp2
        go_ret
        exact ⟨GreatSays.mk (g := true) (fun h => by cases h), rfl⟩
    · have e : ls.take k = ls := List.take_of_length_le (by omega)
      rw [e] at ht ⊢
      clear e
      go_wp2
      go_ret
      exact ⟨GreatSays.mk (g := decide (1000000 < (tot ls : Int))) (fun h => by simp at h; omega), rfl⟩

/-- The register behind all parts. -/
def crS (r : Nat) (ls : List (List Int)) : Nat := ls.foldl (fun r l => cr r (l.map Int.toNat)) r
theorem sumN_eq : ∀ (ls : List (List Int)) (r : Nat), r < 4294967296 → (∀ l ∈ ls, Wf l) → ls.foldl (fun r l => tk (l.map Int.toNat) r) r = crS r ls
  | [], _, _, _ => rfl
  | l :: ls, r, hr, hw => by
    have h1 := tk_eq (l.map Int.toNat) r hr (nat_lt l (hw l (by simp)))
    show ls.foldl _ (tk (l.map Int.toNat) r) = crS (cr r (l.map Int.toNat)) ls
    rw [h1]
    exact sumN_eq ls _ (cr_lt _ _ hr (nat_lt l (hw l (by simp)))) (fun x hx => hw x (by simp [hx]))
theorem crS_flat (r : Nat) (ls : List (List Int)) : crS r ls = cr r ((ls.flatMap id).map Int.toNat) := by
  induction ls generalizing r with
  | nil => rfl
  | cons l ls ih =>
    show crS (cr r (l.map Int.toNat)) ls = _
    rw [ih, List.flatMap_cons, List.map_append, cr_append]
    rfl

set_option maxHeartbeats 1000000 in
theorem refSum_any (ao : Option Addr) (n cap : Nat) (ls : List (List Int)) (w : World) (hs : SlS w ao n cap ls) :
    Calls Tryd.prog 24 #[.slice ao n cap] w fun e w' => e = .returned (.int .u32 ((crS 4294967295 ls ^^^ 4294967295 : Nat) : Int)) ∧ w' = w := by
  obtain ⟨hlen, hcap, hroom, hnil, hat⟩ := hs
  generalize hF : crS 4294967295 ls = F
  have HF := hidden hF
  clear hF
  go_enter Tryd.func24, Tryd.ntmps24
  go_wp2_with fail
  go_loop [3, 4] (fun v i => ∃ k y : Nat, k ≤ n ∧ y < 4294967296 ∧ i = .int .i64 k ∧ v = .int .u32 y ∧ Hid (crS y (ls.drop k) = F)) (fun _ i => n - (intOf i).toNat)
  case atStart => exact ⟨0, 4294967295, by omega, by omega, rfl, rfl, HF⟩
  case round =>
    clear HF
    obtain ⟨k, y, hk, hy, rfl, rfl, HK⟩ := hrel
    by_cases hkn : k < n
    · rcases hat with h | ⟨b, off, rfl, hbb, hc⟩
      · omega
      obtain ⟨a, m, c, hck, hsl⟩ := hc k hkn
      have hm := hsl.hroom
      have hml := hsl.hlen
      have e := HK.out
      rw [dropS ls k (by omega)] at e
      have HE : Hid (crS (cr y ((ls.getD k []).map Int.toNat)) (ls.drop (k + 1)) = F) := e
      have HSL := hidden hsl
      clear hc hsl e HK
      generalize ls.getD k [] = l at *
      go_wp2_with fail
      go_loop [3, 5] (fun v i => ∃ j z : Nat, j ≤ m ∧ z < 4294967296 ∧ i = .int .i64 j ∧ v = .int .u32 z ∧ Hid (cr z ((l.drop j).map Int.toNat) = cr y (l.map Int.toNat))) (fun _ i => m - (intOf i).toNat)
      case atStart => exact ⟨0, y, by omega, hy, rfl, rfl, rfl⟩
      case round =>
        obtain ⟨j, z, hj, hz, rfl, rfl, HJ⟩ := hrel
        by_cases hjm : j < m
        · rcases HSL.out.hat with h | ⟨b', off', rfl, hbb', hc'⟩
          · omega
          have hcj := hc' j hjm
          have hby := HSL.out.wf.getD j
          have ej := HJ.out
          rw [drop_cons l j (by omega)] at ej
          obtain ⟨C, hC⟩ := Int.eq_ofNat_of_zero_le hby.1
          rw [hC] at hcj hby ej
          have HEJ : Hid (cr (Sn 8 (z ^^^ C)) ((l.drop (j + 1)).map Int.toNat) = cr y (l.map Int.toNat)) := ej
          have hst := step_any z C w hz (by omega)
          have hzl := Sn_lt 8 (xor32 hz (show C < 4294967296 by omega))
          generalize Sn 8 (z ^^^ C) = Z at *
          have HST := hidden hst
          clear hc' ej HJ hC hst
          go_wp2_with fail
          refine same_call HST.out ?_
          go_wp2
          go_round
          case rel => exact ⟨j + 1, Z, by omega, hzl, by go_num, rfl, HEJ⟩
          case measure => simp [intOf]; omega
        · have ej : z = cr y (l.map Int.toNat) := by rw [← HJ.out, List.drop_eq_nil_of_le (by omega)]; rfl
          have HEJ := hidden ej
          clear ej HJ
          go_wp2
          go_round
          case rel => exact ⟨k + 1, z, by omega, hz, by go_num, rfl, by rw [HEJ.out]; exact HE.out⟩
          case measure => simp [intOf]; omega
    · have e : y = F := by rw [← HK.out, List.drop_eq_nil_of_le (by omega)]; rfl
      have HE := hidden e
      have hx := u32_xor_nat y 4294967295 hy (by omega)
      have hx2 : bits .xor .u32 (y : Int) 4294967295 = ((y ^^^ 4294967295 : Nat) : Int) := hx
      have HX := hidden hx2
      clear e HK hx hx2
      go_wp2
      go_ret
      exact ⟨ret_int (by rw [← HE.out]; exact HX.out), rfl⟩
end Go.Proofs.YtfofkgdhepdjeabDoor
