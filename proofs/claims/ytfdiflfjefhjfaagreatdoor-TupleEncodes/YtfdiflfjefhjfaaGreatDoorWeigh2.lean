/- espalierref02.weigh, Great: the walks. -/
import Derived.Test.YtfdiflfjefhjfaaGreatDoorWeigh
import Derived.Handy
namespace Go.Proofs.YtfdiflfjefhjfaaGreatDoor
open Go.RowKit

set_option maxHeartbeats 1000000 in
set_option maxRecDepth 100000 in
theorem weigh_all : ∀ (N : Nat) (a : Its), a.sz < N → ∀ (ao : Option Addr) (n c : Nat) (x : Int) (w : World), SlI w Tp ao n c a → 0 ≤ x → x ≤ 140737488455330 →
    Calls Tryz.prog 22 #[.slice ao n c, .int .i64 x] w fun e w' => e = .returned (.int .i64 (wgh a x)) ∧ ∃ q, w' = w.drewN q
  | 0, a, h => by omega
  | N + 1, a, h => by
    intro ao n c x w ha hx0 hx1
    have Hih := hidden (weigh_all N)
    have hla := ha.hlen
    have hra := ha.hroom
    have hok := ha.ok
    have hT := wgh_top a x 140737488455330 hok hx0 hx1 (by omega)
    have Ha := hidden ha
    clear ha
    go_enter Tryz.func22, Tryz.ntmps22
    go_wp2_with fail
    go_loopw [1, 5] (fun v i wr => ∃ (k q : Nat) (y : Int), k ≤ n ∧ i = .int .i64 k ∧ v = .int .i64 y ∧ 0 ≤ y ∧ y ≤ 140737488455330 ∧ wr = w.drewN q ∧ wgh a x = wgh (a.drop k) y) (fun _ i _ => n - (intOf i).toNat)
    case atStart => exact ⟨0, 0, x, by omega, rfl, rfl, hx0, hx1, rfl, by simp [Its.drop]⟩
    case round =>
      obtain ⟨k, q, y, hk, rfl, rfl, hy0, hy1, hwr, he⟩ := hrel
      have Har : Hid (SlI wr Tp ao n c a) := (by rw [hwr]; exact Ha.out.drewN q)
      have Hwr := hidden hwr
      clear hwr Ha
      by_cases hlt : k < n
      · by_cases hy : y ≤ 100000
        · obtain ⟨ba, oa, ka, na, ta, sa, ra, xa, ma, ca, rfl, hba, e1, e2, a0, a1, a2, a3, hsa, p1, p2, p3⟩ := Har.out.item k hlt
          have HSa := hidden hsa
          have hsz := Its.sub_sz e1
          have hd : ((ta.size : Int)).tdiv 64 = ((ta.size / 64 : Nat) : Int) := by rw [Int.tdiv_eq_ediv_of_nonneg (by omega)]; omega
          have hd2 : (ta.size / 64 : Nat) ≤ 2199023255552 := by omega
          rw [e1, wgh, if_pos hy] at he
          have h5 := wgh_mono sa (y + 1 + ((ta.size / 64 : Nat) : Int))
          have h6 := wgh_top sa (y + 1 + ((ta.size / 64 : Nat) : Int)) 140737488455330 hsa.ok (by omega) (by omega) (by omega)
          have HE := hidden he
          have HR := hidden (fun w' h1 => Hih.out sa (by omega) xa ma ca (y + 1 + ((ta.size / 64 : Nat) : Int)) w' h1 (by omega) (by omega))
          generalize hz : wgh sa (y + 1 + ((ta.size / 64 : Nat) : Int)) = z at *
          clear hsa he p1 p2 Hih
          generalize hg : (ta.size / 64 : Nat) = g at *
          go_wp2_with fail
          go_quiet (first | (go_at_call 22; refine Calls.quiet_of (HR.out _ ?_); exact HSa.out.drewN _))
          go_wp2_with fail
          go_roundw
          case rel => exact ⟨k + 1, _, z, by omega, by go_num, rfl, by omega, by omega, by rw [Hwr.out, World.drewN_drewN], by rw [HE.out, e2]⟩
          case measure => simp [intOf]; omega
        · have e3 := he.trans (wgh_big _ y hy)
          have E3 := hidden e3
          clear he e3
          go_wp2_with fail
          go_ret
          exact ⟨by rw [E3.out]; rfl, q, Hwr.out⟩
      · obtain rfl : k = n := by omega
        have e3 : wgh a x = y := by rw [he, ← hla, Its.drop_all, wgh]
        have E3 := hidden e3
        clear he e3
        go_wp2_with fail
        go_ret
        exact ⟨by rw [E3.out]; rfl, q, Hwr.out⟩

set_option maxRecDepth 100000 in
/-- Great, of items that are few; else it says so. -/
theorem great_any (a : Its) (ao : Option Addr) (n c : Nat) (w : World) (ha : SlI w Tp ao n c a) :
    Calls Tryz.prog 6 #[.slice ao n c] w fun e w' => e = .returned (.bool (decide (100000 < wgh a 0))) ∧ ∃ q, w' = w.drewN q := by
  have HW := hidden (weigh_all (a.sz + 1) a (by omega) ao n c 0 w ha (by omega) (by omega))
  clear ha
  generalize wgh a 0 = z at *
  go_enter Tryz.func6, Tryz.ntmps6
  go_wp2_with fail
  refine HW.out.mono ?_
  rintro e w1 ⟨rfl, q, rfl⟩
  go_wp2
  go_ret
  exact ⟨rfl, q, rfl⟩
end Go.Proofs.YtfdiflfjefhjfaaGreatDoor
