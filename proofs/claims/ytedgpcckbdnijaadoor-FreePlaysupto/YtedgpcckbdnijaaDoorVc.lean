/- refused, Encode. -/
import Derived.Test.YtedgpcckbdnijaaDoorVb
namespace Go.Proofs.YtedgpcckbdnijaaDoor
open Go.RowKit

set_option maxRecDepth 100000 in
/-- refused, from the k-th page on. -/
theorem rsE_step {l : List Int} {k : Nat} (hk : k < l.length) (a : Int) : rsE a (l.drop k) = if isPg (l.getD k 0) then (if l.getD k 0 ≤ a then 63 else rsE (l.getD k 0) (l.drop (k + 1))) else 30 := by
  rw [List.drop_eq_getElem_cons hk]
  have e : l.getD k 0 = l[k] := by rw [List.getD, List.getElem?_eq_getElem hk]; rfl
  rw [e]
  rfl
set_option maxRecDepth 100000 in
set_option maxHeartbeats 2000000 in
theorem refused_any (w : World) (n p : Int) (ao : Option Addr) (c cap : Nat) (l : List Int) (hs : SlZ w ao c cap l) :
    Calls Tryd.prog 48 #[.int .i64 n, .slice ao c cap, .int .i64 p] w fun e u => e = .returned (.int .i64 (frE n l p)) ∧ u = w := by
  have hz := isSize_any p w
  have hr := room_any p w
  have hi := isPage_any n w
  have HS := hidden hs
  have hln := hs.hlen
  have hbig := hs.hbig
  unfold frE
  cases hp : pwb p with
  | false =>
    rw [hp] at hz
    clear hr hi hln hs
    go_enter Tryd.func48, Tryd.ntmps48
    go_wp2_with (go_at_call 51; refine same_call hz ?_)
    go_ret
    exact ⟨rfl, rfl⟩
  | true =>
    rw [hp] at hz
    unfold roomN at hr
    rw [hp] at hr
    simp only [if_true] at hr ⊢
    have HLN := hidden hln
    have hnx : (n ≠ 0 ∧ ¬ isPg n) ∨ n = 0 ∨ (n ≠ 0 ∧ isPg n) := by omega
    rw [hln]
    clear hs hln
    obtain ⟨R, hR⟩ : ∃ R, (p - 12) / 4 = R := ⟨_, rfl⟩
    rw [hR] at hr ⊢
    clear hR
    rcases hnx with hnx | rfl | hnx
    · rw [if_pos hnx]
      have e1 : decide (2 ≤ n ∧ n < 65536) = false := by simpa using hnx.2
      rw [e1] at hi
      have e2 : (n == 0) = false := by simpa using hnx.1
      have hn0 := hnx.1
      clear hnx
      go_enter Tryd.func48, Tryd.ntmps48
      go_wp2_with (first
        | (go_at_call 51; refine same_call hz ?_)
        | (go_at_call 23; refine same_call hi ?_))
      go_ret
      exact ⟨rfl, rfl⟩
    · rw [if_neg (by simp)]
      clear hi
      by_cases hlong : R < (c : Int)
      · rw [if_pos hlong]
        go_enter Tryd.func48, Tryd.ntmps48
        go_wp2_with (first
          | (go_at_call 51; refine same_call hz ?_)
          | (go_at_call 22; refine same_call hr ?_))
        go_ret
        exact ⟨rfl, rfl⟩
      rw [if_neg hlong]
      go_enter Tryd.func48, Tryd.ntmps48
      go_wp2_with (first
        | (go_at_call 51; refine same_call hz ?_)
        | (go_at_call 22; refine same_call hr ?_))
      go_loopw [7, 9, 30] (fun a _ i wr => wr = w ∧ ∃ (k : Nat) (y : Int), k ≤ c ∧ a = .int .i64 y ∧ i = .int .i64 (k : Int) ∧ Hid (rsE y (l.drop k) = rsE 0 l)) (fun _ _ i _ => c - (RowKit.intOf i).toNat)
      case atStart => exact ⟨rfl, 0, 0, by omega, rfl, rfl, hidden rfl⟩
      case round =>
        obtain ⟨rfl, k, y, hk, rfl, rfl, HR⟩ := hrel
        by_cases hlt : k < c
        · have hltI : (k : Int) < (c : Int) := by omega
          obtain ⟨b0, off0, rfl, hc⟩ := HS.out.at hlt
          have HST := hidden (rsE_step (l := l) (k := k) (by rw [HLN.out]; exact hlt) y)
          generalize l.getD k 0 = x at *
          have hix := isPage_any x wr
          by_cases hx : isPg x
          · have e1 : decide (2 ≤ x ∧ x < 65536) = true := by simpa using hx
            rw [e1] at hix
            rw [if_pos hx] at HST
            by_cases hle : x ≤ y
            · rw [if_pos hle] at HST
              have HE : Hid (rsE 0 l = 63) := hidden (by rw [← HR.out, HST.out])
              clear HST HR
              go_wp2_with (go_at_call 23; refine same_call hix ?_)
              go_ret
              exact ⟨by rw [HE.out]; rfl, rfl⟩
            · rw [if_neg hle] at HST
              have HR2 : Hid (rsE x (l.drop (k + 1)) = rsE 0 l) := hidden (by rw [← HR.out, HST.out])
              clear HST HR
              go_wp2_with (go_at_call 23; refine same_call hix ?_)
              go_roundw
              case rel => exact ⟨trivial, k + 1, x, by omega, rfl, by go_num, HR2⟩
              case measure => simp [RowKit.intOf]; omega
          · have e1 : decide (2 ≤ x ∧ x < 65536) = false := by simpa using hx
            rw [e1] at hix
            rw [if_neg hx] at HST
            have HE : Hid (rsE 0 l = 30) := hidden (by rw [← HR.out, HST.out])
            clear HST HR
            go_wp2_with (go_at_call 23; refine same_call hix ?_)
            go_ret
            exact ⟨by rw [HE.out]; rfl, rfl⟩
        · obtain rfl : k = c := by omega
          have HE : Hid (rsE 0 l = 0) := hidden (by rw [← HR.out, List.drop_eq_nil_of_le (by rw [HLN.out]; exact Nat.le_refl _)]; rfl)
          clear HR
          go_wp2_with fail
          go_ret
          exact ⟨by rw [HE.out]; rfl, rfl⟩
    · rw [if_neg (fun h => h.2 hnx.2)]
      have e1 : decide (2 ≤ n ∧ n < 65536) = true := by simpa using hnx.2
      rw [e1] at hi
      have hn0 := hnx.1
      clear hnx
      by_cases hlong : R < (c : Int)
      · rw [if_pos hlong]
        go_enter Tryd.func48, Tryd.ntmps48
        go_wp2_with (first
          | (go_at_call 51; refine same_call hz ?_)
          | (go_at_call 23; refine same_call hi ?_)
          | (go_at_call 22; refine same_call hr ?_))
        go_ret
        exact ⟨rfl, rfl⟩
      rw [if_neg hlong]
      go_enter Tryd.func48, Tryd.ntmps48
      go_wp2_with (first
        | (go_at_call 51; refine same_call hz ?_)
        | (go_at_call 23; refine same_call hi ?_)
        | (go_at_call 22; refine same_call hr ?_))
      go_loopw [7, 9, 30] (fun a _ i wr => wr = w ∧ ∃ (k : Nat) (y : Int), k ≤ c ∧ a = .int .i64 y ∧ i = .int .i64 (k : Int) ∧ Hid (rsE y (l.drop k) = rsE 0 l)) (fun _ _ i _ => c - (RowKit.intOf i).toNat)
      case atStart => exact ⟨rfl, 0, 0, by omega, rfl, rfl, hidden rfl⟩
      case round =>
        obtain ⟨rfl, k, y, hk, rfl, rfl, HR⟩ := hrel
        by_cases hlt : k < c
        · have hltI : (k : Int) < (c : Int) := by omega
          obtain ⟨b0, off0, rfl, hc⟩ := HS.out.at hlt
          have HST := hidden (rsE_step (l := l) (k := k) (by rw [HLN.out]; exact hlt) y)
          generalize l.getD k 0 = x at *
          have hix := isPage_any x wr
          by_cases hx : isPg x
          · have e1 : decide (2 ≤ x ∧ x < 65536) = true := by simpa using hx
            rw [e1] at hix
            rw [if_pos hx] at HST
            by_cases hle : x ≤ y
            · rw [if_pos hle] at HST
              have HE : Hid (rsE 0 l = 63) := hidden (by rw [← HR.out, HST.out])
              clear HST HR
              go_wp2_with (go_at_call 23; refine same_call hix ?_)
              go_ret
              exact ⟨by rw [HE.out]; rfl, rfl⟩
            · rw [if_neg hle] at HST
              have HR2 : Hid (rsE x (l.drop (k + 1)) = rsE 0 l) := hidden (by rw [← HR.out, HST.out])
              clear HST HR
              go_wp2_with (go_at_call 23; refine same_call hix ?_)
              go_roundw
              case rel => exact ⟨trivial, k + 1, x, by omega, rfl, by go_num, HR2⟩
              case measure => simp [RowKit.intOf]; omega
          · have e1 : decide (2 ≤ x ∧ x < 65536) = false := by simpa using hx
            rw [e1] at hix
            rw [if_neg hx] at HST
            have HE : Hid (rsE 0 l = 30) := hidden (by rw [← HR.out, HST.out])
            clear HST HR
            go_wp2_with (go_at_call 23; refine same_call hix ?_)
            go_ret
            exact ⟨by rw [HE.out]; rfl, rfl⟩
        · obtain rfl : k = c := by omega
          have HE : Hid (rsE 0 l = 0) := hidden (by rw [← HR.out, List.drop_eq_nil_of_le (by rw [HLN.out]; exact Nat.le_refl _)]; rfl)
          clear HR
          go_wp2_with fail
          go_ret
          exact ⟨by rw [HE.out]; rfl, rfl⟩
end Go.Proofs.YtedgpcckbdnijaaDoor
