/- espalierref02.Same: are two rows of items the same? -/
import Derived.Test.YtpiijmionafmcaaGreatDoorCheck
import Derived.Handy
import Derived.Test.YtpiijmionafmcaaGreatDoorTuY
namespace Go.Proofs.YtpiijmionafmcaaGreatDoor
open Go.RowKit

/-- Two rows of items, field by field. -/
def smI : Its → Its → Bool
  | .nil, .nil => true
  | .nil, .cons _ _ _ _ _ => false
  | .cons _ _ _ _ _, .nil => false
  | .cons k n t s r, .cons k' n' t' s' r' => if smI s s' = false ∨ k ≠ k' ∨ n ≠ n' ∨ t.toList ≠ t'.toList then false else smI r r'
set_option maxRecDepth 100000 in
theorem smI_len : ∀ a b : Its, smI a b = true → a.len = b.len
  | .nil, .nil, _ => rfl
  | .nil, .cons _ _ _ _ _, h => by rw [smI] at h; cases h
  | .cons _ _ _ _ _, .nil, h => by rw [smI] at h; cases h
  | .cons k n t s r, .cons k' n' t' s' r', h => by
    rw [smI] at h
    split at h
    · cases h
    · simp only [Its.len]; rw [smI_len r r' h]

set_option maxHeartbeats 1000000 in
set_option maxRecDepth 100000 in
theorem same_all : ∀ (N : Nat) (a : Its), a.sz < N → ∀ (b : Its) (ao bo : Option Addr) (n m c d : Nat) (w : World), SlI w Tp ao n c a → SlI w Tp bo m d b →
    Calls Tryz.prog 7 #[.slice ao n c, .slice bo m d] w fun e w' => e = .returned (.bool (smI a b)) ∧ ∃ q, w' = w.drewN q
  | 0, a, h => by omega
  | N + 1, a, h => by
    intro b ao bo n m c d w ha hb
    have Hih := hidden (same_all N)
    have hla := ha.hlen
    have hlb := hb.hlen
    have hra := ha.hroom
    have hrb := hb.hroom
    have Ha := hidden ha
    have Hb := hidden hb
    clear ha hb
    by_cases hnm : n = m
    · subst hnm
      go_enter Tryz.func7, Tryz.ntmps7
      go_wp2_with fail
      go_loopw [5] (fun i wr => ∃ k q : Nat, k ≤ n ∧ i = .int .i64 k ∧ wr = w.drewN q ∧ smI a b = smI (a.drop k) (b.drop k)) (fun i _ => n - (intOf i).toNat)
      case atStart => exact ⟨0, 0, by omega, rfl, rfl, by simp [Its.drop]⟩
      case round =>
        obtain ⟨k, q, hk, rfl, hwr, he⟩ := hrel
        have Har : Hid (SlI wr Tp ao n c a) := (by rw [hwr]; exact Ha.out.drewN q)
        have Hbr : Hid (SlI wr Tp bo n d b) := (by rw [hwr]; exact Hb.out.drewN q)
        have Hwr := hidden hwr
        clear hwr Ha Hb
        by_cases hlt : k < n
        · obtain ⟨ba, oa, ka, na, ta, sa, ra, xa, ma, ca, rfl, hba, e1, e2, a0, a1, a2, a3, hsa, p1, p2, p3⟩ := Har.out.item k hlt
          obtain ⟨bb, ob, kb, nb, tb, sb, rb, xb, mb, cb, rfl, hbb, f1, f2, b0, b1, b2, b3, hsb, q1, q2, q3⟩ := Hbr.out.item k hlt
          have HSa := hidden hsa
          have HSb := hidden hsb
          have hsz := Its.sub_sz e1
          rw [e1, f1, smI] at he
          have HE := hidden he
          have hi1 : (0 : Int) ≤ k := by omega
          have hi2 : (k : Int) < n := by omega
          have HR := hidden (fun w' h1 h2 => Hih.out sa (by omega) sb xa xb ma mb ca cb w' h1 h2)
          clear hsa hsb he p1 p3 q1 q3 Hih
          cases hs : smI sa sb with
          | false =>
            rw [hs] at HR
            go_wp2_with fail
            go_quiet (first | (go_at_call 7; refine Calls.quiet_of (HR.out _ ?_ ?_); exact HSa.out.drewN _; exact HSb.out.drewN _))
            go_wp2_with fail
            go_quiet (fail)
            go_wp2_with fail
            go_ret
            exact ⟨by rw [HE.out, if_pos (.inl hs)]; rfl, _, by rw [Hwr.out, World.drewN_drewN, World.drewN_drewN]⟩
          | true =>
            rw [hs] at HR
            by_cases hka : ka = kb
            · have hk0 : (ka != kb) = false := by simp [hka]
              by_cases hna : na = nb
              · have hn0 : (na != nb) = false := by simp [hna]
                by_cases hta : ta.toList = tb.toList
                · have ht0 : (ta.toList != tb.toList) = false := by simp [hta]
                  have ht1 : (ta.toList == tb.toList) = true := by simp [hta]
                  have HC := hidden (show ¬ (smI sa sb = false ∨ ka ≠ kb ∨ na ≠ nb ∨ ta.toList ≠ tb.toList) by simp [hs, hka, hna, hta])
                  clear hka hna hta
                  go_wp2_with fail
                  go_quiet (first | (go_at_call 7; refine Calls.quiet_of (HR.out _ ?_ ?_); exact HSa.out.drewN _; exact HSb.out.drewN _))
                  go_wp2_with fail
                  go_quiet (fail)
                  go_wp2_with fail
                  go_roundw
                  case rel => exact ⟨k + 1, _, by omega, by go_num, by rw [Hwr.out, World.drewN_drewN], by rw [HE.out, if_neg HC.out, e2, f2]⟩
                  case measure => simp [intOf]; omega
                · have ht0 : (ta.toList != tb.toList) = true := by simp [hta]
                  have ht1 : (ta.toList == tb.toList) = false := by simp [hta]
                  have HC := hidden (show smI sa sb = false ∨ ka ≠ kb ∨ na ≠ nb ∨ ta.toList ≠ tb.toList from .inr (.inr (.inr hta)))
                  clear hka hna hta
                  go_wp2_with fail
                  go_quiet (first | (go_at_call 7; refine Calls.quiet_of (HR.out _ ?_ ?_); exact HSa.out.drewN _; exact HSb.out.drewN _))
                  go_wp2_with fail
                  go_quiet (fail)
                  go_wp2_with fail
                  go_ret
                  exact ⟨by rw [HE.out, if_pos (HC.out)]; rfl, _, by rw [Hwr.out, World.drewN_drewN, World.drewN_drewN]⟩
              · have hn0 : (na != nb) = true := by simp [hna]
                have HC := hidden (show smI sa sb = false ∨ ka ≠ kb ∨ na ≠ nb ∨ ta.toList ≠ tb.toList from .inr (.inr (.inl hna)))
                clear hka hna
                go_wp2_with fail
                go_quiet (first | (go_at_call 7; refine Calls.quiet_of (HR.out _ ?_ ?_); exact HSa.out.drewN _; exact HSb.out.drewN _))
                go_wp2_with fail
                go_quiet (fail)
                go_wp2_with fail
                go_ret
                exact ⟨by rw [HE.out, if_pos (HC.out)]; rfl, _, by rw [Hwr.out, World.drewN_drewN, World.drewN_drewN]⟩
            · have hk0 : (ka != kb) = true := by simp [hka]
              have HC := hidden (show smI sa sb = false ∨ ka ≠ kb ∨ na ≠ nb ∨ ta.toList ≠ tb.toList from .inr (.inl hka))
              clear hka
              go_wp2_with fail
              go_quiet (first | (go_at_call 7; refine Calls.quiet_of (HR.out _ ?_ ?_); exact HSa.out.drewN _; exact HSb.out.drewN _))
              go_wp2_with fail
              go_quiet (fail)
              go_wp2_with fail
              go_ret
              exact ⟨by rw [HE.out, if_pos (HC.out)]; rfl, _, by rw [Hwr.out, World.drewN_drewN, World.drewN_drewN]⟩
        · obtain rfl : k = n := by omega
          have e3 : smI a b = true := by rw [he, ← hla, Its.drop_all, show b.drop a.len = .nil from by rw [hla, ← hlb]; exact b.drop_all, smI]
          have E3 := hidden e3
          clear he e3
          go_wp2_with fail
          go_ret
          exact ⟨by rw [E3.out]; rfl, q, Hwr.out⟩
    · have e : smI a b = false := by
        cases hs : smI a b with
        | false => rfl
        | true => have := smI_len a b hs; omega
      have hnb : ((n : Int) != (m : Int)) = true := by simp; omega
      rw [e]
      go_enter Tryz.func7, Tryz.ntmps7
      go_wp2_with fail
      go_ret
      exact ⟨rfl, 0, rfl⟩
end Go.Proofs.YtpiijmionafmcaaGreatDoor

/- Two rows of items that Decode answers of the same bytes are the same to espalierref02.Same. -/

namespace Go.Proofs.YtpiijmionafmcaaGreatDoor
open Go.RowKit

set_option maxRecDepth 100000 in
theorem smI_self : ∀ a : Its, smI a a = true
  | .nil => by rw [smI]
  | .cons k n t s r => by
    rw [smI, if_neg (by simp [smI_self s])]
    exact smI_self r
set_option maxRecDepth 100000 in
theorem same_self {w : World} {B C : Nat} {v u : Value} {l : Its} {F G : List Nat} (hv : OwI w B v l F) (hu : OwI w C u l G) (ho : l.Ok) (hl : l.len ≤ 64) :
    Calls Tryz.prog 7 #[v, u] w fun e w' => e = .returned (.bool true) ∧ ∃ q, w' = w.drewN q := by
  obtain ⟨ao, c, rfl, h1⟩ := hv.sl ho (by omega)
  obtain ⟨bo, d, rfl, h2⟩ := hu.sl ho (by omega)
  have := same_all (l.sz + 1) l (by omega) l ao bo l.len l.len c d w h1.any h2.any
  rwa [smI_self] at this
end Go.Proofs.YtpiijmionafmcaaGreatDoor
