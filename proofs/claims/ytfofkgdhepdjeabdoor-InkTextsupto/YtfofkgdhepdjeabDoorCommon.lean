/- ink.Common, of any number of texts. -/
import Derived.Test.YtfofkgdhepdjeabDoorSum
namespace Go.Proofs.YtfofkgdhepdjeabDoor
open Go.RowKit

/-- What Common comes to. -/
def cmN : List (List Int) → Nat
  | [] => 0
  | t :: r => r.foldl (fun n x => lcp (t.take n) x) t.length

theorem common_nil (ao : Option Addr) (cap : Nat) (w : World) : Calls Tryd.prog 10 #[.slice ao 0 cap] w fun e w' => e = .returned (.int .i64 0) ∧ ∃ q, w' = w.drewN q := by
  go_enter Tryd.func10, Tryd.ntmps10
  go_wp2
  go_ret
  exact ⟨rfl, 0, rfl⟩

set_option maxHeartbeats 1000000 in
theorem common_any (ao : Option Addr) (n cap : Nat) (t : List Int) (ls : List (List Int)) (w : World) (hs : SlS w ao n cap (t :: ls)) :
    Calls Tryd.prog 10 #[.slice ao n cap] w fun e w' => e = .returned (.int .i64 (cmN (t :: ls))) ∧ ∃ q, w' = w.drewN q := by
  obtain ⟨hlen, hcap, hroom, hnil, hat⟩ := hs
  obtain ⟨N, rfl⟩ : ∃ N, n = N + 1 := ⟨n - 1, by simp at hlen; omega⟩
  have hlen' : ls.length = N := by simpa using hlen
  clear hlen
  rcases hat with h | ⟨b, off, rfl, hbb, hc⟩
  · omega
  obtain ⟨a0, m0, c0, hck0, hsl0⟩ := hc 0 (by omega)
  simp only [Nat.add_zero, List.getD_cons_zero] at hck0 hsl0
  have hm0 := hsl0.hlen
  have hr0 := hsl0.hroom
  have hcc0 := hsl0.hcap
  have HS0 := hidden hsl0
  have HC := hidden hc
  clear hsl0 hc
  show Calls Tryd.prog 10 #[.slice (some ⟨b, off, none⟩) (N + 1) cap] w fun e w' => e = .returned (.int .i64 ((ls.foldl (fun n x => lcp (t.take n) x) t.length : Nat) : Int)) ∧ ∃ q, w' = w.drewN q
  rw [hm0]
  generalize hF : ls.foldl (fun n x => lcp (t.take n) x) m0 = F
  have HF := hidden hF
  clear hF
  have hc1 : ((N : Int) + 1 == 0) = false := by simp; omega
  by_cases hcap1 : cap = 1
  · obtain rfl : N = 0 := by omega
    obtain rfl : ls = [] := List.eq_nil_of_length_eq_zero hlen'
    have e : m0 = F := HF.out
    subst e
    clear HF HC
    go_enter Tryd.func10, Tryd.ntmps10
    go_wp2_with fail
    refine wp_loop_rounds 1 ?_
    rw [rounds_succ]
    go_wp2
    go_ret
    exact ⟨rfl, 0, rfl⟩
  · go_enter Tryd.func10, Tryd.ntmps10
    go_wp2_with fail
    go_loopw [3, 16] (fun v i wr => ∃ (k q y : Nat), k ≤ N ∧ y ≤ m0 ∧ i = .int .i64 k ∧ v = .int .i64 y ∧ Hid ((ls.drop k).foldl (fun n x => lcp (t.take n) x) y = F) ∧ wr = w.drewN q) (fun _ i _ => N - (intOf i).toNat)
    case atStart => exact ⟨0, 0, m0, by omega, by omega, rfl, rfl, HF, rfl⟩
    case round =>
      obtain ⟨k, q, y, hk, hy, rfl, rfl, HK, rfl⟩ := hrel
      clear HF
      by_cases hlt : k < N
      · obtain ⟨a, m, c, hck, hsl⟩ := HC.out (k + 1) (by omega)
        have hck' : w.cell? ⟨b, off + 1 + k, none⟩ = some (.slice a m c) := by rw [show off + 1 + k = off + (k + 1) by omega]; exact hck
        rw [show (t :: ls).getD (k + 1) [] = ls.getD k [] by simp [List.getD]] at hsl
        have e := HK.out
        rw [dropS ls k (by omega), List.foldl_cons] at e
        have hle := (lcp_le (t.take y) (ls.getD k [])).1
        have hty : (t.take y).length ≤ y := by simp; omega
        have hal2 := alike_any a0 a y m c0 c (t.take y) (ls.getD k []) (w.drewN q) ((HS0.out.take y hy).drewN q) (hsl.drewN q)
        generalize lcp (t.take y) (ls.getD k []) = y2 at *
        have HE := hidden e
        have HA := hidden hal2
        clear hal2 e HK hck
        go_wp2_with fail
        refine quiet_call' HA.out ?_
        intro q2
        go_wp2
        go_roundw
        case rel => exact ⟨k + 1, _, y2, by omega, by omega, by go_num, rfl, HE, rfl⟩
        case measure => simp [intOf]; omega
      · have e : y = F := by rw [← HK.out, List.drop_eq_nil_of_le (by omega)]; rfl
        have HE := hidden e
        clear e HK
        go_wp2
        go_ret
        exact ⟨ret_int (by rw [HE.out]), _, rfl⟩

end Go.Proofs.YtfofkgdhepdjeabDoor
