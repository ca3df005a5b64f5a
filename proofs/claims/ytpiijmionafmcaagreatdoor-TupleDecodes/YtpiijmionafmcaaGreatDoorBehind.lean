/- ink.Between and ink.Behind. -/
import Derived.Test.YtpiijmionafmcaaGreatDoorAlike
import Derived.WalkSmall
namespace Go.Proofs.YtpiijmionafmcaaGreatDoor
open Go.RowKit

set_option maxRecDepth 100000 in
theorem Sl.take {w : World} {ao : Option Addr} {n cap : Nat} {l : List Int} (h : Sl w ao n cap l) (k : Nat) (hk : k ≤ n) : Sl w ao k cap (l.take k) := by
  obtain ⟨hlen, hcap, hroom, hwf, hnil, hat⟩ := h
  refine ⟨by simp; omega, by omega, by omega, hwf.take k, hnil, ?_⟩
  rcases hat with h0 | ⟨b, off, e, hlt, hc⟩
  · exact .inl (by omega)
  · refine .inr ⟨b, off, e, hlt, fun i hi => ?_⟩
    rw [hc i (by omega)]
    simp [List.getD, hi]
set_option maxRecDepth 100000 in
theorem Sl.drewN {w : World} {ao : Option Addr} {n cap : Nat} {l : List Int} (h : Sl w ao n cap l) (q : Nat) : Sl (w.drewN q) ao n cap l := by
  refine ⟨h.hlen, h.hcap, h.hroom, h.wf, h.hnil, ?_⟩
  rcases h.hat with h0 | ⟨b, off, e, hlt, hc⟩
  · exact .inl h0
  · exact .inr ⟨b, off, e, by simpa using hlt, fun i hi => by simpa using hc i hi⟩
set_option maxRecDepth 100000 in
theorem quiet_call {P : Program} {f : FuncId} {args : Array Value} {w : World} {v : Value} {Q : Ending → World → Prop} (h : Calls P f args w fun e w' => e = .returned v ∧ ∃ q, w' = w.drewN q) (hQ : ∀ q, Q (.returned v) (w.drewN q)) : Calls P f args w Q :=
  h.mono fun e w' ⟨he, q, hw⟩ => by subst he; rw [hw]; exact hQ q

set_option maxRecDepth 100000 in
set_option maxHeartbeats 1000000 in
theorem behind_some (ao : Option Addr) (n cap k : Nat) (l : List Int) (w : World) (hs : Sl w ao n cap l) (hk0 : 0 < k) (hkn : k ≤ n) (hne : l.getD (k - 1) 0 ≠ 255) (hall : ∀ i, k ≤ i → i < n → l.getD i 0 = 255) :
    Calls Tryz.prog 24 #[.slice ao n cap] w fun e w' => ∃ v, e = .returned (.tuple #[v, .bool true]) ∧ OwnB w' w.heap.size v ((l.take k).set (k - 1) (l.getD (k - 1) 0 + 1)) ∧ Below w.heap.size w w' := by
  have HT := hidden (hs.take k hkn)
  obtain ⟨hlen, hcap, hroom, hwf, hnil, hat⟩ := hs
  rcases hat with h | ⟨b, off, rfl, hbb, hc⟩
  · omega
  have hby := hwf.getD (k - 1)
  have HN := hidden hne
  clear hne
  go_enter Tryz.func24, Tryz.ntmps24
  go_wp2_with fail
  go_loop [4] (fun i => ∃ j : Nat, k ≤ j ∧ j ≤ n ∧ i = .int .i64 j) (fun i => (intOf i).toNat)
  case atStart => exact ⟨n, hkn, Nat.le_refl _, rfl⟩
  case round =>
    obtain ⟨j, hj1, hj2, rfl⟩ := hrel
    obtain ⟨i, rfl⟩ : ∃ i, j = i + 1 := ⟨j - 1, by omega⟩
    have hck := hc i (by omega)
    by_cases hjk : i + 1 = k
    · subst hjk
      have hck2 := hck
      have hnb : (l.getD i 0 == 255) = false := by
        have := HN.out
        simpa using this
      simp only [Nat.add_sub_cancel] at hby ⊢
      clear HN hall hc
      generalize hx : l.getD i 0 = x at *
      have HX := hidden hx
      clear hx hck2
      have hx254 : x ≤ 254 := by have : x ≠ 255 := by simpa using hnb
                                 omega
      have hl : (l.take (i + 1)).length = i + 1 := by simp; omega
      have hg : (l.take (i + 1)).getD i 0 = x := by rw [← HX.out]; simp [List.getD]
      have HL := hidden hl
      have HG := hidden hg
      clear hl hg
      go_wp2_with fail
      refine (cloned_any _ _ _ _ _ HT.out).mono ?_
      rintro e w2 ⟨rfl, ho, hb2⟩
      have hce := own_cell ho HL.out (show i < i + 1 by omega)
      rw [HG.out] at hce
      have hfr := own_free ho HL.out i
      have ho2 := own_set (x := x + 1) ho HL.out (show i < i + 1 by omega)
      have hb3 := hb2.setCell (p := ⟨w.heap.size, i, none⟩) (Nat.le_refl _) (.int .u8 (x + 1))
      clear ho hb2
      go_wp2
      go_ret2
      exact ⟨_, rfl, by simp only [Nat.add_sub_cancel]; rw [HX.out]; exact ho2, hb3⟩
    · have h255 := hall i (by omega) (by omega)
      rw [h255] at hck
      clear hall hc h255 HN
      go_wp2
      go_round
      case rel => exact ⟨i, by omega, by omega, by go_num⟩
      case measure => simp [intOf]
set_option maxRecDepth 100000 in
set_option maxHeartbeats 1000000 in
theorem behind_none (ao : Option Addr) (n cap : Nat) (l : List Int) (w : World) (hs : Sl w ao n cap l) (hall : ∀ i, i < n → l.getD i 0 = 255) :
    Calls Tryz.prog 24 #[.slice ao n cap] w fun e w' => e = .returned (.tuple #[.slice none 0 0, .bool false]) ∧ w' = w := by
  obtain ⟨hlen, hcap, hroom, hwf, hnil, hat⟩ := hs
  go_enter Tryz.func24, Tryz.ntmps24
  go_wp2_with fail
  go_loop [4] (fun i => ∃ j : Nat, j ≤ n ∧ i = .int .i64 j) (fun i => (intOf i).toNat)
  case atStart => exact ⟨n, Nat.le_refl _, rfl⟩
  case round =>
    obtain ⟨j, hj2, rfl⟩ := hrel
    by_cases hj0 : j = 0
    · subst hj0
      go_wp2
      go_ret2
      exact ⟨rfl, rfl⟩
    · obtain ⟨i, rfl⟩ : ∃ i, j = i + 1 := ⟨j - 1, by omega⟩
      rcases hat with h | ⟨b, off, rfl, hbb, hc⟩
      · omega
      have hck := hc i (by omega)
      rw [hall i (by omega)] at hck
      clear hall hc
      go_wp2
      go_round
      case rel => exact ⟨i, by omega, by go_num⟩
      case measure => simp [intOf]

end Go.Proofs.YtpiijmionafmcaaGreatDoor
