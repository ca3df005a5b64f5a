/- tuple.Check: what it answers of items in memory (the walks). -/
import Derived.Test.YtpiijmionafmcaaGreatDoorCheck
namespace Go.Proofs.YtpiijmionafmcaaGreatDoor
open Go.RowKit

set_option maxRecDepth 100000 in
set_option maxHeartbeats 400000 in
theorem checkItem_of (G : World → Prop) (V : ByteArray → Bool) (hG : ∀ w w', G w → Below w.heap.size w w' → G w') (k n : Int) (t : ByteArray) (so : Option Addr) (m c : Nat) (sub : Its) (d : Int) (w : World) (hw : G w) (hs : SlI w Tp so m c sub) (hd : 0 ≤ d ∧ d ≤ 16)
    (hsub : k = 7 → ∀ w', G w' → SlI w' Tp so m c sub → Calls Tryz.prog 25 #[.slice so m c, .int .i64 (d + 1)] w' fun e w'' => e = .returned (.int .i64 (chk V sub (d + 1))) ∧ Below w'.heap.size w' w'')
    (htx : k = 6 → ValidAt G V t) :
    Calls Tryz.prog 38 #[.agg #[.int .i64 k, .int .i64 n, .string t, .slice so m c], .int .i64 d] w fun e w' => e = .returned (.int .i64 (chk1 V k n t sub d)) ∧ Below w.heap.size w w' := by
  have hm := hs.hlen
  have b0 : ∀ o, Below w.heap.size w (w.alloc o) := fun o => (Below.refl _ _).alloc (Nat.le_refl _) o
  have Hsub := hidden hsub
  have Htx := hidden htx
  have Hs := hidden hs
  clear hsub htx hs
  by_cases hk : 0 ≤ k ∧ k ≤ 7
  · cases hf : fld k n t m with
    | false =>
      have e : chk1 V k n t sub d = 20 := by unfold chk1; rw [if_pos (.inr (by rw [hm]; exact hf))]
      rw [e]
      go_enter Tryz.func38, Tryz.ntmps38
      go_wp2_with (first | (go_at_call 26; refine same_call (isKind_yes _ _ hk) ?_) | (go_at_call 59; refine (fields_eq false k n t so m c _ hf).mono ?_; rintro e w1 ⟨rfl, hb1⟩))
      go_ret
      exact ⟨rfl, (b0 _).trans (hb1.mono (b0 _).size)⟩
    | true =>
      by_cases h6 : k = 6
      · subst h6
        have hV := Htx.out rfl
        have e : chk1 V 6 n t sub d = if V t then 0 else 20 := by unfold chk1; rw [if_neg (by rw [hm, hf]; simp), if_pos rfl]
        rw [e]
        have HV := hidden hV
        clear hV
        have G0 := hG w _ hw (b0 (.cells #[.int .i64 6, .int .i64 n, .string t, .slice so m c] 36))
        cases hv : V t
        all_goals
          go_enter Tryz.func38, Tryz.ntmps38
          go_wp2_with (first | (go_at_call 26; refine same_call (isKind_yes _ _ hk) ?_) | (go_at_call 59; refine (fields_eq true 6 n t so m c _ hf).mono ?_; rintro e w1 ⟨rfl, hb1⟩; obtain ⟨c0, c1, c2, c3⟩ := cells4 hb1; have G1 := hG _ _ G0 hb1) | (go_at_call 60; refine (HV.out _ G1).mono ?_; rintro e w2 ⟨rfl, hb2⟩; rw [hv]))
          go_ret
          exact ⟨rfl, (b0 _).trans ((hb1.trans (hb2.mono hb1.size)).mono (b0 _).size)⟩
      · by_cases h7 : k = 7
        · subst h7
          have hS := Hsub.out rfl
          have e : chk1 V 7 n t sub d = chk V sub (d + 1) := by unfold chk1 chk; rw [if_neg (by rw [hm, hf]; simp), if_neg (by decide), if_pos rfl]
          rw [e]
          have HS := hidden hS
          clear hS
          have G0 := hG w _ hw (b0 (.cells #[.int .i64 7, .int .i64 n, .string t, .slice so m c] 36))
          have S0 := Hs.out.on (Nat.le_refl _) (b0 (.cells #[.int .i64 7, .int .i64 n, .string t, .slice so m c] 36))
          have HS0 := hidden S0
          clear S0
          go_enter Tryz.func38, Tryz.ntmps38
          go_wp2_with (first | (go_at_call 26; refine same_call (isKind_yes _ _ hk) ?_) | (go_at_call 59; refine (fields_eq true 7 n t so m c _ hf).mono ?_; rintro e w1 ⟨rfl, hb1⟩; obtain ⟨c0, c1, c2, c3⟩ := cells4 hb1; have G1 := hG _ _ G0 hb1; have S1 := hidden (HS0.out.on (Nat.le_refl _) hb1)) | (go_at_call 25; refine (HS.out _ G1 S1.out).mono ?_; rintro e w2 ⟨rfl, hb2⟩))
          go_ret
          exact ⟨rfl, (b0 _).trans ((hb1.trans (hb2.mono hb1.size)).mono (b0 _).size)⟩
        · have e : chk1 V k n t sub d = 0 := by unfold chk1; rw [if_neg (by rw [hm, hf]; simp; omega), if_neg h6, if_neg h7]
          rw [e]
          go_enter Tryz.func38, Tryz.ntmps38
          go_wp2_with (first | (go_at_call 26; refine same_call (isKind_yes _ _ hk) ?_) | (go_at_call 59; refine (fields_eq true k n t so m c _ hf).mono ?_; rintro e w1 ⟨rfl, hb1⟩; obtain ⟨c0, c1, c2, c3⟩ := cells4 hb1))
          go_ret
          exact ⟨rfl, (b0 _).trans (hb1.mono (b0 _).size)⟩
  · have e : chk1 V k n t sub d = 20 := by unfold chk1; rw [if_pos (.inl hk)]
    rw [e]
    go_enter Tryz.func38, Tryz.ntmps38
    go_wp2_with (first | (go_at_call 26; refine same_call (isKind_no _ _ hk) ?_))
    go_ret
    exact ⟨rfl, b0 _⟩
end Go.Proofs.YtpiijmionafmcaaGreatDoor
