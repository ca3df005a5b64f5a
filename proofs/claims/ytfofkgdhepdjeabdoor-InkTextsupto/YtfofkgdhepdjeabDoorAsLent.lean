/- AsLent sees that what was lent stands as it was, and writes it over. -/
import Derived.Test.YtfofkgdhepdjeabDoorLent
import Derived.Test.YtfofkgdhepdjeabDoorSame
namespace Go.Proofs.YtfofkgdhepdjeabDoor
open Go.RowKit

/-- What is owned from its row's head on reads as the beginning of its bytes. -/
theorem own_head {w : World} {B g n cap m : Nat} {l : List Int} (h : OwnB w B (.slice (some ⟨g, 0, none⟩) n cap) l) (hw : Wf l) (hn : l.length = n) (hm : m ≤ n) (hr : n ≤ 140737488355328) (c : Nat) (hc : m ≤ c) : Sl w (some ⟨g, 0, none⟩) m c (l.take m) := by
  have hlt : g < w.heap.size := (World.ownsRow.lt h g rfl).2
  refine ⟨by simp; omega, hc, by omega, hw.take m, (by intro h; cases h), .inr ⟨g, 0, rfl, hlt, fun i hi => ?_⟩⟩
  rw [Nat.zero_add, own_cell h hn (by omega)]
  simp [List.getD, hi]

set_option maxHeartbeats 2000000 in
theorem asLent_any (g B n : Nat) (bo : Option Addr) (d : Nat) (l : List Int) (w : World) (ho : OwnB w B (.slice (some ⟨g, 0, none⟩) (n + 3) (n + 3)) (l ++ [71, 72, 73])) (hb : Sl w bo n d l) (hbig : n + 3 ≤ 140737488355328) :
    Calls Tryd.prog 12 #[.slice (some ⟨g, 0, none⟩) n (n + 3), .slice bo n d] w fun e w' => e = .returned (.bool true) ∧ w.grownBy w' (some g) := by
  have hl : (l ++ [71, 72, 73]).length = n + 3 := by simp [hb.hlen]
  have hroom := hb.hroom
  have hwf := hb.wf
  have hlen := hb.hlen
  have hW : Wf (l ++ [71, 72, 73]) := hwf.append (by unfold Wf; decide)
  have c0 : w.cell? ⟨g, n, none⟩ = some (.int .u8 71) := by
    rw [own_cell ho hl (show n < n + 3 by omega)]
    subst hlen
    simp [List.getD]
  have c1 : w.cell? ⟨g, n + 1, none⟩ = some (.int .u8 72) := by
    rw [own_cell ho hl (show n + 1 < n + 3 by omega)]
    subst hlen
    simp [List.getD]
  have c2 : w.cell? ⟨g, n + 2, none⟩ = some (.int .u8 73) := by
    rw [own_cell ho hl (show n + 2 < n + 3 by omega)]
    subst hlen
    simp [List.getD]
  have ht : (l ++ [71, 72, 73]).take n = l := by subst hlen; simp
  have k1 : ∀ q, (convert 23 9 (.slice (some ⟨g, 0, none⟩) n (n + 3))).run Tryd.prog (w.drewN q) = .ok (.string (strOfNums l)) (w.drewN q) := fun q => by
    have h := own_head ho hW hl (show n ≤ n + 3 by omega) hbig (n + 3) (by omega)
    rw [ht] at h
    exact conv_sl (h.drewN q)
  have k2 : ∀ q, (convert 23 9 (.slice bo n d)).run Tryd.prog (w.drewN q) = .ok (.string (strOfNums l)) (w.drewN q) := fun q => conv_sl (hb.drewN q)
  have HO := hidden ho
  have HLN := hidden hl
  clear ho hb hW hl hwf ht
  go_enter Tryd.func12, Tryd.ntmps12
  go_wp2_with fail
  go_quiet (fail)
  go_wp2_with fail
  clear c0 c1 c2 k1 k2
  go_loopw [8] (fun i wr => ∃ (k : Nat) (l' : List Int), k ≤ n + 3 ∧ i = .int .i64 k ∧ l'.length = n + 3 ∧ OwnB wr B (.slice (some ⟨g, 0, none⟩) (n + 3) (n + 3)) l' ∧ w.grownBy wr (some g)) (fun i _ => n + 3 - (intOf i).toNat)
  case atStart => exact ⟨0, l ++ [71, 72, 73], by omega, rfl, HLN.out, HO.out, ⟨rfl, rfl, rfl, Nat.le_refl _, fun _ _ _ => rfl⟩⟩
  case round =>
    obtain ⟨k, l', hk, rfl, hl', hown, hgr⟩ := hrel
    clear HO HLN
    by_cases hlt : k < n + 3
    · have hce := own_cell hown hl' hlt
      have hfr := own_free hown hl' k
      have ho2 := own_set (x := 97) hown hl' hlt
      have hst : wr.grownBy (wr.setCell ⟨g, k, none⟩ (.int .u8 97)) (some g) := by
        have h' : wr.ownsRow B 5 1 (.slice (some ⟨g, 0, none⟩) (n + 3) (n + 3)) (n + 3) (By l') := by have := hown; unfold OwnB at this; rw [hl'] at this; exact this
        exact (World.ownsRow.stored h' k (.int .u8 97)).2
      have hg2 := grown_trans hgr hst
      clear hst hgr hown
      go_wp2
      go_roundw
      case rel => exact ⟨k + 1, l'.set k 97, by omega, by go_num, by simp [hl'], ho2, hg2⟩
      case measure => simp [intOf]; omega
    · go_wp2
      go_ret
      exact ⟨rfl, hgr⟩
end Go.Proofs.YtfofkgdhepdjeabDoor
