/- isWidth and isPlace answer what their names say. -/
import Derived.Test.YtbnjojplfbibkaaGreatDoorBase
namespace Go.Proofs.YtbnjojplfbibkaaGreatDoor
open Go.RowKit

set_option maxRecDepth 100000 in
theorem isWidth_yes (x : Int) (w : World) (h1 : 1 ≤ x) (h2 : x ≤ 8) : Calls Tryz.prog 140 #[.int .i64 x] w fun e w' => e = .returned (.bool true) ∧ w' = w := by
  go_enter Tryz.func140, Tryz.ntmps140
  go_wp2
  go_ret
  exact ⟨rfl, rfl⟩
set_option maxRecDepth 100000 in
theorem isWidth_no (x : Int) (w : World) (h : x < 1 ∨ 8 < x) : Calls Tryz.prog 140 #[.int .i64 x] w fun e w' => e = .returned (.bool false) ∧ w' = w := by
  rcases h with h | h
  · go_enter Tryz.func140, Tryz.ntmps140
    go_wp2
    go_ret
    exact ⟨rfl, rfl⟩
  · have h' : 1 ≤ x := by omega
    have h8 : ¬ x ≤ 8 := by omega
    go_enter Tryz.func140, Tryz.ntmps140
    go_wp2
    go_ret
    exact ⟨rfl, rfl⟩
set_option maxRecDepth 100000 in
theorem isPlace_yes (ao : Option Addr) (n cap : Nat) (x : Int) (w : World) (h1 : 0 ≤ x) (h2 : x ≤ n) : Calls Tryz.prog 141 #[.slice ao n cap, .int .i64 x] w fun e w' => e = .returned (.bool true) ∧ w' = w := by
  go_enter Tryz.func141, Tryz.ntmps141
  go_wp2
  go_ret
  exact ⟨rfl, rfl⟩
set_option maxRecDepth 100000 in
theorem isPlace_no (ao : Option Addr) (n cap : Nat) (x : Int) (w : World) (h : x < 0 ∨ n < x) : Calls Tryz.prog 141 #[.slice ao n cap, .int .i64 x] w fun e w' => e = .returned (.bool false) ∧ w' = w := by
  rcases h with h | h
  · go_enter Tryz.func141, Tryz.ntmps141
    go_wp2
    go_ret
    exact ⟨rfl, rfl⟩
  · have h' : 0 ≤ x := by omega
    have hn : ¬ x ≤ (n : Int) := by omega
    go_enter Tryz.func141, Tryz.ntmps141
    go_wp2
    go_ret
    exact ⟨rfl, rfl⟩
end Go.Proofs.YtbnjojplfbibkaaGreatDoor
