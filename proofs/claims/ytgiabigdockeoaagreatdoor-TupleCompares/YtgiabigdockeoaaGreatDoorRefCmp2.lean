/- espalierref02.Compare: the loop, and the whole. -/
import Derived.Test.YtgiabigdockeoaaGreatDoorRefCmp
import Derived.Deep.RegionWith
namespace Go.Proofs.YtgiabigdockeoaaGreatDoor
open Go.RowKit

set_option maxHeartbeats 1000000 in
set_option maxRecDepth 100000 in
theorem refcompare_all : ∀ (N : Nat) (a : Its), a.sz < N → ∀ (b : Its) (ao bo : Option Addr) (n m c d : Nat) (w : World), SlI w Tp ao n c a → SlI w Tp bo m d b →
    Calls Tryz.prog 24 #[.slice ao n c, .slice bo m d] w fun e w' => e = .returned (.int .i64 (cmpL a b)) ∧ Below w.heap.size w w'
  | 0, a, h => by omega
  | N + 1, a, h => by
    intro b ao bo n m c d w ha hb
    have Hih := hidden (refcompare_all N)
    have hla := ha.hlen
    have hlb := hb.hlen
    have hra := ha.hroom
    have hrb := hb.hroom
    have Ha := hidden ha
    have Hb := hidden hb
    clear ha hb
    go_enter Tryz.func24, Tryz.ntmps24
    go_wp2_with fail
    go_loopw [5] (fun i wr => ∃ k : Nat, k ≤ n ∧ k ≤ m ∧ i = .int .i64 k ∧ Below w.heap.size w wr ∧ cmpL a b = cmpL (a.drop k) (b.drop k)) (fun i _ => n - (intOf i).toNat)
    case atStart => exact ⟨0, by omega, by omega, rfl, Below.refl _ _, by simp [Its.drop]⟩
    case round =>
      obtain ⟨k, hk, hkm, rfl, hbel, he⟩ := hrel
      have HB := hidden hbel
      by_cases hlt : k < n
      · obtain ⟨ba, oa, ka, na, ta, sa, ra, xa, ma, ca, rfl, hba, e1, e2, a0, a1, a2, a3, hsa, p1, p2, p3⟩ := (Ha.out.on (Nat.le_refl _) hbel).item k hlt
        have HSa := hidden hsa
        clear hsa
        by_cases hlm : k < m
        · obtain ⟨bb, ob, kb, nb, tb, sb, rb, xb, mb, cb, rfl, hbb, f1, f2, b0, b1, b2, b3, hsb, q1, q2, q3⟩ := (Hb.out.on (Nat.le_refl _) hbel).item k hlm
          have HSb := hidden hsb
          clear hsb
          have hsz := Its.sub_sz e1
          rw [e1, f1, cmpL_cons] at he
          have HE := hidden he
          clear he
          clear hbel
          have hbo : ∀ N', Hid (Below w.heap.size w wr) → Below wr.heap.size wr N' → Below w.heap.size w N' := fun N' h1 h2 => h1.out.trans (h2.mono h1.out.size)
          have hbD : ∀ q, Below wr.heap.size wr (wr.drewN q) := fun q => below_draws (Below.refl _ _) q
          have HC : Hid (∀ u, Below wr.heap.size wr u → Calls Tryz.prog 40 #[.agg #[.int .i64 ka, .int .i64 na, .string ta, .slice xa ma ca], .agg #[.int .i64 kb, .int .i64 nb, .string tb, .slice xb mb cb]] u fun e w' => e = .returned (.int .i64 (cmp1 ka na ta sa kb nb tb sb)) ∧ Below wr.heap.size wr w') := by
            apply hidden
            intro u hu
            refine (refcompare_of ka na ta xa ma ca sa kb nb tb xb mb cb sb u (HSa.out.on (Nat.le_refl _) hu) (HSb.out.on (Nat.le_refl _) hu) p2 q2 (fun _ w' h1 h2 => Hih.out sa (by omega) sb xa xb ma mb ca cb w' h1 h2)).mono ?_
            rintro e w1 ⟨rfl, hb1⟩
            exact ⟨rfl, hu.trans (hb1.mono hu.size)⟩
          clear HSa HSb Hih
          by_cases hz : cmp1 ka na ta sa kb nb tb sb = 0
          · rw [hz] at HC
            go_wp2_with fail
            go_region_with (first | (go_at_call 40; refine (HC.out _ ?_).mono ?_; (repeat (first | exact Below.refl _ _ | apply Below.drew | apply below_drewN)); rintro e w1 ⟨rfl, hb1⟩))
            all_goals
              go_wp2_with fail
              go_roundw
              case rel =>
                refine ⟨k + 1, by omega, by omega, by go_num, hbo _ HB (by first | exact hb1 | exact below_draws hb1 _ | exact hb1.drew), ?_⟩
                rw [HE.out, if_neg (by rw [hz]; simp), e2, f2]
              case measure => simp [intOf]; omega
          · have hzb : (cmp1 ka na ta sa kb nb tb sb != 0) = true := by simp [hz]
            go_wp2_with fail
            go_region_with (first | (go_at_call 40; refine (HC.out _ ?_).mono ?_; (repeat (first | exact Below.refl _ _ | apply Below.drew | apply below_drewN)); rintro e w1 ⟨rfl, hb1⟩))
            all_goals
              go_wp2_with fail
              go_ret
              refine ⟨?_, hbo _ HB (by first | exact hb1 | exact below_draws hb1 _ | exact hb1.drew)⟩
              rw [HE.out, if_pos hz]
              rfl
        · obtain rfl : k = m := by omega
          have e3 : cmpL a b = 1 := by rw [he, ← hlb, Its.drop_all, cmpL_nil_right _ (by rw [Its.drop_len]; omega)]
          have E3 := hidden e3
          clear he e3
          go_wp2_with (go_at_call 41; refine same_call (sign_any _ _ _) ?_)
          go_ret
          refine ⟨?_, HB.out⟩
          rw [E3.out]
          simp [sgB]
          try omega
      · obtain rfl : k = n := by omega
        by_cases hlm : k < m
        · have e3 : cmpL a b = -1 := by
            rw [he, show a.drop k = .nil from by rw [← hla]; exact a.drop_all, cmpL_nil_left _ (by rw [Its.drop_len]; omega)]
          have E3 := hidden e3
          clear he e3
          go_wp2_with (go_at_call 41; refine same_call (sign_any _ _ _) ?_)
          go_ret
          refine ⟨?_, HB.out⟩
          rw [E3.out]
          simp [sgB]
          try omega
        · obtain rfl : k = m := by omega
          have e3 : cmpL a b = 0 := by
            rw [he, show a.drop k = .nil from by rw [← hla]; exact a.drop_all, show b.drop k = .nil from by rw [← hlb]; exact b.drop_all, cmpL]
          have E3 := hidden e3
          clear he e3
          go_wp2_with (go_at_call 41; refine same_call (sign_any _ _ _) ?_)
          go_ret
          refine ⟨?_, HB.out⟩
          rw [E3.out]
          simp [sgB]

theorem refcompare_any (a b : Its) (ao bo : Option Addr) (n m c d : Nat) (w : World) (ha : SlI w Tp ao n c a) (hb : SlI w Tp bo m d b) :
    Calls Tryz.prog 24 #[.slice ao n c, .slice bo m d] w fun e w' => e = .returned (.int .i64 (cmpL a b)) ∧ Below w.heap.size w w' :=
  refcompare_all (a.sz + 1) a (by omega) b ao bo n m c d w ha hb

/-- The order turned round. -/
theorem sgn3_turn (a b : Int) : sgn3 b a = -sgn3 a b := by
  simp only [sgn3]; split <;> split <;> omega
end Go.Proofs.YtgiabigdockeoaaGreatDoor
