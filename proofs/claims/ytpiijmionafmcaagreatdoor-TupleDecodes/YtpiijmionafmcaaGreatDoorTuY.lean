/- tuple.Decode, in general, what utf8.Valid answers being given. -/
import Derived.Test.YtpiijmionafmcaaGreatDoorTuX
namespace Go.Proofs.YtpiijmionafmcaaGreatDoor
open Go.RowKit

/-- What Decode answers of bytes: the items and the error. -/
def dcR (V : ByteArray → Bool) (l : List Int) : Its × Int := if 65536 < l.length then (.nil, 2) else ((rdL V l (2 * l.length + 3) 0 0 0).1, (rdL V l (2 * l.length + 3) 0 0 0).2.2)
def DcTo (x : Its × Int) (w : World) (e : Ending) (w' : World) : Prop := ∃ v F, e = .returned (.tuple #[v, .int .i64 x.2]) ∧ OwI w' w.heap.size v x.1 F ∧ Below w.heap.size w w'
set_option maxRecDepth 100000 in
theorem dcR_ok (V : ByteArray → Bool) (l : List Int) (hw : Wf l) (hl : l.length ≤ 140737488355328) : (dcR V l).1.Ok ∧ (dcR V l).1.len ≤ 64 := by
  unfold dcR
  split
  · exact ⟨trivial, Nat.zero_le _⟩
  · have h := (rdL_ok V l hw hl (2 * l.length + 3) 0 0 0 (by omega) (by omega) (by omega)).1
    exact ⟨h.1, h.2.1⟩
set_option maxRecDepth 100000 in
theorem tdecode_any {T : World → Prop} {V : ByteArray → Bool} (hV : ValidB T V) (hT : ∀ {w w' : World}, T w → Below w.heap.size w w' → T w') (ao : Option Addr) (n cap : Nat) (l : List Int) (w : World) (ht : T w) (hs : Sl w ao n cap l) :
    Calls Tryz.prog 5 #[.slice ao n cap] w (DcTo (dcR V l) w) := by
  have hlen := hs.hlen
  have hroom := hs.hroom
  by_cases h : 65536 < n
  · have e : dcR V l = (.nil, 2) := by unfold dcR; rw [if_pos (by omega)]
    rw [e]
    have hI : (65536 : Int) < (n : Int) := by omega
    clear e hs
    go_enter Tryz.func5, Tryz.ntmps5
    go_wp2
    go_ret2
    exact ⟨_, [], rfl, OwI.nil _ _, Below.refl _ _⟩
  · have e : dcR V l = ((rdL V l (2 * l.length + 3) 0 0 0).1, (rdL V l (2 * l.length + 3) 0 0 0).2.2) := by unfold dcR; rw [if_neg (by omega)]
    rw [e]
    have hI : ¬ (65536 : Int) < (n : Int) := by omega
    have HR := hidden (readItems_all hV hT ao n cap l (2 * l.length + 4) (2 * l.length + 3) (by omega) 0 0 w ht hs (by omega) (by omega) (by omega))
    generalize rdL V l (2 * l.length + 3) 0 0 0 = x at *
    clear e hs
    go_enter Tryz.func5, Tryz.ntmps5
    go_wp2_with (first | (go_at_call 17; refine HR.out.mono ?_; rintro e1 w1 ⟨v1, F, rfl, ho1, hb1⟩; obtain ⟨s1, m1, c1, rfl⟩ := ho1.form; have HO1 := hidden ho1; have HB1 := hidden hb1; clear ho1 hb1))
    go_ret2
    exact ⟨_, F, rfl, HO1.out, HB1.out⟩
end Go.Proofs.YtpiijmionafmcaaGreatDoor
