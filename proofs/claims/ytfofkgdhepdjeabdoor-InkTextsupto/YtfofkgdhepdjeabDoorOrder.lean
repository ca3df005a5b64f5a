/- Order tells how two texts stand; both lays bytes and more behind them into memory of its own. -/
import Derived.Test.YtfofkgdhepdjeabDoorBehind
import Derived.Test.YtfofkgdhepdjeabDoorSame
namespace Go.Proofs.YtfofkgdhepdjeabDoor
open Go.RowKit

/-- How two texts stand. -/
def ordL : List Int → List Int → Int
  | [], [] => 0
  | [], _ :: _ => -1
  | _ :: _, [] => 1
  | x :: a, y :: b => if x < y then -1 else if y < x then 1 else ordL a b
theorem ordL_self : ∀ (a : List Int), ordL a a = 0
  | [] => rfl
  | x :: a => by simp [ordL, ordL_self a]
theorem ordL_eq : ∀ (a b : List Int), ordL a b = 0 → a = b
  | [], [], _ => rfl
  | [], _ :: _, h => by simp [ordL] at h
  | _ :: _, [], h => by simp [ordL] at h
  | x :: a, y :: b, h => by
    simp only [ordL] at h
    split at h
    · simp at h
    · split at h
      · simp at h
      · rw [ordL_eq a b h, show x = y by omega]
theorem ordL_three (a b : List Int) : ordL a b = 0 ∨ ordL a b = -1 ∨ ordL a b = 1 := by
  induction a generalizing b with
  | nil => cases b <;> simp [ordL]
  | cons x a ih =>
    cases b with
    | nil => simp [ordL]
    | cons y b =>
      simp only [ordL]
      split
      · simp
      · split
        · simp
        · exact ih b
theorem ordL_pre (p u v : List Int) : ordL (p ++ u) (p ++ v) = ordL u v := by
  induction p with
  | nil => rfl
  | cons x p ih => simp [ordL, ih]

set_option maxHeartbeats 1000000 in
theorem order_any (ao bo : Option Addr) (n m c d : Nat) (la lb : List Int) (w : World) (ha : Sl w ao n c la) (hb : Sl w bo m d lb) :
    Calls Tryd.prog 21 #[.slice ao n c, .slice bo m d] w fun e w' => e = .returned (.int .i64 (ordL la lb)) ∧ ∃ q, w' = w.drewN q := by
  obtain ⟨hlen, hcap, hroom, hwf, hnil, hat⟩ := ha
  obtain ⟨hlen', hcap', hroom', hwf', hnil', hat'⟩ := hb
  generalize hF : ordL la lb = F
  have HF := hidden hF
  clear hF
  go_enter Tryd.func21, Tryd.ntmps21
  go_wp2_with fail
  go_loopw [5] (fun i wr => ∃ k q : Nat, k ≤ n ∧ k ≤ m ∧ i = .int .i64 k ∧ wr = w.drewN q ∧ Hid (ordL (la.drop k) (lb.drop k) = F)) (fun i _ => n - (intOf i).toNat)
  case atStart => exact ⟨0, 0, by omega, by omega, rfl, rfl, HF⟩
  case round =>
    obtain ⟨k, q, hk, hk', rfl, rfl, HK⟩ := hrel
    clear HF
    by_cases hkn : k < n
    · by_cases hkm : k < m
      · rcases hat with h | ⟨b, off, rfl, hbb, hc⟩
        · omega
        rcases hat' with h | ⟨b', off', rfl, hbb', hc'⟩
        · omega
        have hck := hc k hkn
        have hck' := hc' k hkm
        have e := HK.out
        rw [drop_cons la k (by omega), drop_cons lb k (by omega), ordL] at e
        clear hc hc' HK
        generalize la.getD k 0 = x at *
        generalize lb.getD k 0 = y at *
        by_cases hxy : x < y
        · rw [if_pos hxy] at e
          have HE := hidden e
          clear e
          go_wp2_with fail
          go_quiet (fail)
          go_wp2
          go_ret
          exact ⟨ret_int HE.out, _, World.drewN_drewN _ _ _⟩
        · rw [if_neg hxy] at e
          by_cases hyx : y < x
          · rw [if_pos hyx] at e
            have HE := hidden e
            clear e
            go_wp2_with fail
            go_quiet (fail)
            go_wp2_with fail
            go_quiet (fail)
            go_wp2
            go_ret
            exact ⟨ret_int HE.out, _, by simp only [World.drewN_drewN]; rfl⟩
          · rw [if_neg hyx] at e
            have HE := hidden e
            clear e
            go_wp2_with fail
            go_quiet (fail)
            go_wp2_with fail
            go_quiet (fail)
            go_wp2
            go_roundw
            case rel => exact ⟨k + 1, _, by omega, by omega, by go_num, rfl, HE⟩
            case measure => simp [intOf]; omega
      · have e := HK.out
        rw [List.drop_eq_nil_of_le (show lb.length ≤ k by omega), drop_cons la k (by omega), ordL] at e
        have HE := hidden e
        clear e HK
        have hmn : ¬ n < m := by omega
        have hmn' : m < n := by omega
        go_wp2
        go_ret
        exact ⟨ret_int HE.out, _, rfl⟩
    · have e := HK.out
      rw [List.drop_eq_nil_of_le (show la.length ≤ k by omega)] at e
      by_cases hkm : k < m
      · rw [drop_cons lb k (by omega), ordL] at e
        have HE := hidden e
        clear e HK
        have hmn' : n < m := by omega
        go_wp2
        go_ret
        exact ⟨ret_int HE.out, _, rfl⟩
      · rw [List.drop_eq_nil_of_le (show lb.length ≤ k by omega), ordL] at e
        have HE := hidden e
        clear e HK
        have hmn' : ¬ n < m := by omega
        have hmn : ¬ m < n := by omega
        go_wp2
        go_ret
        exact ⟨ret_int HE.out, _, rfl⟩

set_option maxHeartbeats 1000000 in
theorem both_any (ao bo : Option Addr) (n m c d : Nat) (la lb : List Int) (w : World) (ha : Sl w ao n c la) (hb : Sl w bo m d lb) (hbig : n + m ≤ 140737488355328) :
    Calls Tryd.prog 22 #[.slice ao n c, .slice bo m d] w fun e w' => ∃ v, e = .returned v ∧ OwnB w' w.heap.size v (la ++ lb) ∧ Below w.heap.size w w' := by
  obtain ⟨hlen, hcap, hroom, hwf, hnil, hat⟩ := ha
  obtain ⟨hlen', hcap', hroom', hwf', hnil', hat'⟩ := hb
  go_enter Tryd.func22, Tryd.ntmps22
  go_wp2_with fail
  go_loopw [5, 6] (fun v i wr => ∃ k : Nat, k ≤ n ∧ i = .int .i64 k ∧ OwnB wr w.heap.size v (la.take k) ∧ Below w.heap.size w wr) (fun _ i _ => n - (intOf i).toNat)
  case atStart => exact ⟨0, by omega, rfl, OwnB.nil _ _, Below.refl _ _⟩
  case round =>
    obtain ⟨k, hk, rfl, hown, hbl⟩ := hrel
    have hsz := hbl.size
    by_cases hlt : k < n
    · rcases hat with h | ⟨b, off, rfl, hbb, hc⟩
      · omega
      have hck : wr.cell? ⟨b, off + k, none⟩ = some (.int .u8 (la.getD k 0)) := (hbl.cell (p := ⟨b, off + k, none⟩) hbb).trans (hc k hlt)
      have htl : (la.take k).length ≤ k := by simp; omega
      have HT := hidden (take_snoc la k (by omega))
      clear hc
      generalize la.getD k 0 = x at *
      go_wp2_with (at_builtin; refine app_bytes _ rfl _ _ rfl w.heap.size (la.take k) _ rfl (hown.alloc _) _ 1 1 [x] rfl rfl (one_cell _ _) (by omega) (by simp; omega) ?_)
      intro v2 w2 hown2 hb2
      have R2 : Below w.heap.size w w2 := (hbl.alloc hsz _).trans hb2
      clear hb2 hown hck
      go_wp2
      go_roundw
      case rel => exact ⟨k + 1, by omega, by go_num, by rw [HT.out]; exact hown2, R2⟩
      case measure => simp [intOf]; omega
    · obtain rfl : k = n := by omega
      have e : la.take k = la := List.take_of_length_le (by omega)
      rw [e] at hown
      clear e hat
      go_wp2_with fail
      go_loopw [5, 7] (fun v i wr => ∃ j : Nat, j ≤ m ∧ i = .int .i64 j ∧ OwnB wr w.heap.size v (la ++ lb.take j) ∧ Below w.heap.size w wr) (fun _ i _ => m - (intOf i).toNat)
      case atStart => exact ⟨0, by omega, rfl, by simpa using hown, hbl⟩
      case round =>
        clear hown hbl hsz
        obtain ⟨j, hj, rfl, hown, hbl⟩ := hrel
        have hsz := hbl.size
        by_cases hlt2 : j < m
        · rcases hat' with h | ⟨b, off, rfl, hbb, hc⟩
          · omega
          have hck : wr.cell? ⟨b, off + j, none⟩ = some (.int .u8 (lb.getD j 0)) := (hbl.cell (p := ⟨b, off + j, none⟩) hbb).trans (hc j hlt2)
          have htl : (la ++ lb.take j).length ≤ k + j := by simp; omega
          have HT := hidden (take_snoc lb j (by omega))
          clear hc
          generalize lb.getD j 0 = x at *
          go_wp2_with (at_builtin; refine app_bytes _ rfl _ _ rfl w.heap.size (la ++ lb.take j) _ rfl (hown.alloc _) _ 1 1 [x] rfl rfl (one_cell _ _) (by omega) (by simp; omega) ?_)
          intro v2 w2 hown2 hb2
          have R2 : Below w.heap.size w w2 := (hbl.alloc hsz _).trans hb2
          clear hb2 hown hck
          go_wp2
          go_roundw
          case rel => exact ⟨j + 1, by omega, by go_num, by rw [HT.out]; exact hown2, R2⟩
          case measure => simp [intOf]; omega
        · have e : lb.take j = lb := List.take_of_length_le (by omega)
          rw [e] at hown
          clear e
          go_wp2
          go_ret
          exact ⟨_, rfl, hown, hbl⟩
end Go.Proofs.YtfofkgdhepdjeabDoor
