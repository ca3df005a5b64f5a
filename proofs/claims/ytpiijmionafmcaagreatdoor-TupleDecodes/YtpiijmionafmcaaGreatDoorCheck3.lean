/- tuple.Check: the loop over items, and the whole. -/
import Derived.Test.YtpiijmionafmcaaGreatDoorCheck2
import Derived.Handy
namespace Go.Proofs.YtpiijmionafmcaaGreatDoor
open Go.RowKit

set_option maxRecDepth 100000 in
set_option maxHeartbeats 400000 in
theorem checkItems_all (G : World → Prop) (V : ByteArray → Bool) (hG : ∀ w w', G w → Below w.heap.size w w' → G w') : ∀ (N : Nat) (l : Its), l.sz < N → ∀ (d : Int) (ao : Option Addr) (n cap : Nat) (w : World), 0 ≤ d ∧ d ≤ 17 → G w → SlI w Tp ao n cap l → l.Tx (ValidAt G V) →
    Calls Tryz.prog 25 #[.slice ao n cap, .int .i64 d] w fun e w' => e = .returned (.int .i64 (chk V l d)) ∧ Below w.heap.size w w'
  | 0, l, h => by omega
  | N + 1, l, h => by
    intro d ao n cap w hd hw hs htx
    have ih := checkItems_all G V hG N
    have hlen := hs.hlen
    have hroom := hs.hroom
    by_cases hn : 64 < n
    · have e : chk V l d = 22 := by unfold chk; rw [if_pos (.inl (by omega))]
      rw [e]
      go_enter Tryz.func25, Tryz.ntmps25
      go_wp2
      go_ret
      exact ⟨rfl, Below.refl _ _⟩
    · by_cases hd16 : 16 < d
      · have e : chk V l d = 22 := by unfold chk; rw [if_pos (.inr hd16)]
        rw [e]
        go_enter Tryz.func25, Tryz.ntmps25
        go_wp2
        go_ret
        exact ⟨rfl, Below.refl _ _⟩
      · have e : chk V l d = chkL V l d := by unfold chk; rw [if_neg (by omega)]
        rw [e]
        clear e
        have Hih := hidden ih
        have Hs := hidden hs
        have Htx := hidden htx
        clear ih hs htx
        go_enter Tryz.func25, Tryz.ntmps25
        go_wp2
        go_loopw [17] (fun i wr => ∃ k : Nat, k ≤ n ∧ i = .int .i64 k ∧ Below w.heap.size w wr ∧ chkL V l d = chkL V (l.drop k) d) (fun i _ => n - (intOf i).toNat)
        case atStart => exact ⟨0, by omega, rfl, Below.refl _ _, by simp [Its.drop]⟩
        case round =>
          obtain ⟨k, hk, rfl, hb, he⟩ := hrel
          by_cases hlt : k < n
          · have S1 := Hs.out.on (Nat.le_refl _) hb
            obtain ⟨b, off, kk, nn, t, sub, r, so, m, c, rfl, hbb, e1, e2, c0, c1, c2, c3, hsub, o1, o2, o3⟩ := S1.item k hlt
            have HSub := hidden hsub
            have T1 := Htx.out.drop l k
            rw [e1] at T1 he
            have hsz := Its.sub_sz e1
            have HT := hidden T1
            have HE := hidden he
            have HB := hidden hb
            have Gr := hG _ _ hw hb
            have b1 : ∀ o, Below wr.heap.size wr (wr.alloc o) := fun o => (Below.refl _ _).alloc (Nat.le_refl _) o
            clear hsub T1 he S1
            by_cases hz : chk1 V kk nn t sub d = 0
            · go_wp2_with (go_at_call 38; refine (checkItem_of G V hG kk nn t so m c sub d _ (hG _ _ Gr (b1 _)) (HSub.out.on (Nat.le_refl _) (b1 _)) (by omega) (fun h7 w' hw' hs' => Hih.out sub (by omega) (d + 1) so m c w' (by omega) hw' hs' HT.out.2.1) HT.out.1).mono ?_; rintro e w1 ⟨rfl, hb1⟩; rw [hz])
              go_roundw
              case rel =>
                refine ⟨k + 1, by omega, by go_num, HB.out.trans (((b1 _).trans (hb1.mono (b1 _).size)).mono HB.out.size), ?_⟩
                rw [HE.out, e2, chkL, if_neg (by rw [hz]; simp)]
              case measure => simp [intOf]; omega
            · go_wp2_with (go_at_call 38; refine (checkItem_of G V hG kk nn t so m c sub d _ (hG _ _ Gr (b1 _)) (HSub.out.on (Nat.le_refl _) (b1 _)) (by omega) (fun h7 w' hw' hs' => Hih.out sub (by omega) (d + 1) so m c w' (by omega) hw' hs' HT.out.2.1) HT.out.1).mono ?_; rintro e w1 ⟨rfl, hb1⟩)
              go_ret
              refine ⟨?_, HB.out.trans (((b1 _).trans (hb1.mono (b1 _).size)).mono HB.out.size)⟩
              rw [HE.out, chkL, if_pos hz]
              rfl
          · obtain rfl : k = n := by omega
            go_wp2
            go_ret
            refine ⟨?_, hb⟩
            rw [he, ← hlen, Its.drop_all, chkL]
            rfl

set_option maxRecDepth 100000 in
theorem check_any (G : World → Prop) (V : ByteArray → Bool) (hG : ∀ w w', G w → Below w.heap.size w w' → G w') (l : Its) (ao : Option Addr) (n cap : Nat) (w : World) (hw : G w) (hs : SlI w Tp ao n cap l) (htx : l.Tx (ValidAt G V)) :
    Calls Tryz.prog 16 #[.slice ao n cap] w fun e w' => e = .returned (.int .i64 (chk V l 0)) ∧ Below w.heap.size w w' := by
  go_enter Tryz.func16, Tryz.ntmps16
  go_wp2_with (go_at_call 25; refine (checkItems_all G V hG (l.sz + 1) l (by omega) 0 ao n cap w (by omega) hw hs htx).mono ?_; rintro e w1 ⟨rfl, hb1⟩)
  go_ret
  exact ⟨rfl, hb1⟩
end Go.Proofs.YtpiijmionafmcaaGreatDoor
