/- tuple.Compare: the loop over two rows of items, and the whole. -/
import Derived.Test.YtpiijmionafmcaaGreatDoorCmp2
namespace Go.Proofs.YtpiijmionafmcaaGreatDoor
open Go.RowKit

set_option maxRecDepth 100000 in
theorem cmpL_nil_left (b : Its) (h : 0 < b.len) : cmpL .nil b = -1 := by
  cases b with
  | nil => simp [Its.len] at h
  | cons => rw [cmpL]
set_option maxRecDepth 100000 in
theorem cmpL_nil_right (a : Its) (h : 0 < a.len) : cmpL a .nil = 1 := by
  cases a with
  | nil => simp [Its.len] at h
  | cons => rw [cmpL]

set_option maxHeartbeats 1000000 in
set_option maxRecDepth 100000 in
theorem compare_all : ∀ (N : Nat) (a : Its), a.sz < N → ∀ (b : Its) (ao bo : Option Addr) (n m c d : Nat) (w : World), SlI w Tp ao n c a → SlI w Tp bo m d b →
    Calls Tryz.prog 13 #[.slice ao n c, .slice bo m d] w fun e w' => e = .returned (.int .i64 (cmpL a b)) ∧ Below w.heap.size w w'
  | 0, a, h => by omega
  | N + 1, a, h => by
    intro b ao bo n m c d w ha hb
    have Hih := hidden (compare_all N)
    have hla := ha.hlen
    have hlb := hb.hlen
    have hra := ha.hroom
    have hrb := hb.hroom
    have Ha := hidden ha
    have Hb := hidden hb
    clear ha hb
    go_enter Tryz.func13, Tryz.ntmps13
    go_wp2_with fail
    suffices hf : Calls Tryz.prog 22 #[.slice ao n c, .slice bo m d, .func (.func 23) #[] #[]] w fun e w' => e = .returned (.int .i64 (cmpL a b)) ∧ Below w.heap.size w w' by
      refine hf.mono ?_
      rintro e w1 ⟨rfl, hb1⟩
      go_wp2
      go_ret
      exact ⟨rfl, hb1⟩
    go_enter Tryz.func22, Tryz.ntmps22
    go_wp2_with fail
    go_loopw [13] (fun i wr => ∃ k : Nat, k ≤ n ∧ k ≤ m ∧ i = .int .i64 k ∧ Below w.heap.size w wr ∧ cmpL a b = cmpL (a.drop k) (b.drop k)) (fun i _ => n - (intOf i).toNat)
    case atStart => exact ⟨0, by omega, by omega, rfl, Below.refl _ _, by simp [Its.drop]⟩
    case round =>
      obtain ⟨k, hk, hkm, rfl, hbel, he⟩ := hrel
      have HB := hidden hbel
      by_cases hlt : k < n
      · obtain ⟨ba, oa, ka, na, ta, sa, ra, xa, ma, ca, rfl, hba, e1, e2, a0, a1, a2, a3, hsa, p1, p2, p3⟩ := (Ha.out.on (Nat.le_refl _) hbel).item k hlt
        have HSa := hidden hsa
        clear hsa
        by_cases hlm : k < m
        · obtain ⟨bb, ob, kb, nb, tb, sb, rb, xb, mb, cb, rfl, hbb, f1, f2, b0, b1, b2, b3, hsb, q1, q2, q3⟩ := (Hb.out.on (Nat.le_refl _) hbel).item k hlm
          have HSb := hidden hsb
          clear hsb
          have hsz := Its.sub_sz e1
          rw [e1, f1, cmpL_cons] at he
          have HE := hidden he
          clear he
          have hbA : ∀ o, Below wr.heap.size wr (wr.alloc o) := fun o => (Below.refl _ _).alloc (Nat.le_refl _) o
          have hbB : ∀ o o', Below wr.heap.size wr ((wr.alloc o).alloc o') := fun o o' => (hbA o).alloc (by simp) o'
          clear hbel
          have hbo : ∀ N', Hid (Below w.heap.size w wr) → Below wr.heap.size wr N' → Below w.heap.size w N' := fun N' h1 h2 => h1.out.trans (h2.mono h1.out.size)
          by_cases hz : cmp1 ka na ta sa kb nb tb sb = 0
          · go_wp2_with (go_at_call 23; refine (compareItem_of ka na ta xa ma ca sa kb nb tb xb mb cb sb _ (HSa.out.on (Nat.le_refl _) (hbB _ _)) (HSb.out.on (Nat.le_refl _) (hbB _ _)) p2 q2 (fun _ w' h1 h2 => Hih.out sa (by omega) sb xa xb ma mb ca cb w' h1 h2)).mono ?_; rintro e w1 ⟨rfl, hb1⟩; rw [hz])
            go_roundw
            case rel =>
              refine ⟨k + 1, by omega, by omega, by go_num, hbo _ HB ((hbB _ _).trans (hb1.mono (hbB _ _).size)), ?_⟩
              rw [HE.out, if_neg (by rw [hz]; simp), e2, f2]
            case measure => simp [intOf]; omega
          · go_wp2_with (go_at_call 23; refine (compareItem_of ka na ta xa ma ca sa kb nb tb xb mb cb sb _ (HSa.out.on (Nat.le_refl _) (hbB _ _)) (HSb.out.on (Nat.le_refl _) (hbB _ _)) p2 q2 (fun _ w' h1 h2 => Hih.out sa (by omega) sb xa xb ma mb ca cb w' h1 h2)).mono ?_; rintro e w1 ⟨rfl, hb1⟩)
            go_ret
            refine ⟨?_, hbo _ HB ((hbB _ _).trans (hb1.mono (hbB _ _).size))⟩
            rw [HE.out, if_pos hz]
            rfl
        · obtain rfl : k = m := by omega
          have hbA : ∀ o, Below wr.heap.size wr (wr.alloc o) := fun o => (Below.refl _ _).alloc (Nat.le_refl _) o
          have e3 : cmpL a b = 1 := by rw [he, ← hlb, Its.drop_all, cmpL_nil_right _ (by rw [Its.drop_len]; omega)]
          have E3 := hidden e3
          clear he e3
          go_wp2_with fail
          go_ret
          exact ⟨by rw [E3.out]; rfl, HB.out.trans ((hbA _).mono HB.out.size)⟩
      · obtain rfl : k = n := by omega
        by_cases hlm : k < m
        · have e3 : cmpL a b = -1 := by
            rw [he, show a.drop k = .nil from by rw [← hla]; exact a.drop_all, cmpL_nil_left _ (by rw [Its.drop_len]; omega)]
          have E3 := hidden e3
          clear he e3
          go_wp2_with fail
          go_ret
          exact ⟨by rw [E3.out]; rfl, HB.out⟩
        · obtain rfl : k = m := by omega
          have e3 : cmpL a b = 0 := by
            rw [he, show a.drop k = .nil from by rw [← hla]; exact a.drop_all, show b.drop k = .nil from by rw [← hlb]; exact b.drop_all, cmpL]
          have E3 := hidden e3
          clear he e3
          go_wp2_with fail
          go_ret
          exact ⟨by rw [E3.out]; rfl, HB.out⟩

set_option maxRecDepth 100000 in
theorem compare_any (a b : Its) (ao bo : Option Addr) (n m c d : Nat) (w : World) (ha : SlI w Tp ao n c a) (hb : SlI w Tp bo m d b) :
    Calls Tryz.prog 13 #[.slice ao n c, .slice bo m d] w fun e w' => e = .returned (.int .i64 (cmpL a b)) ∧ Below w.heap.size w w' :=
  compare_all (a.sz + 1) a (by omega) b ao bo n m c d w ha hb
end Go.Proofs.YtpiijmionafmcaaGreatDoor
