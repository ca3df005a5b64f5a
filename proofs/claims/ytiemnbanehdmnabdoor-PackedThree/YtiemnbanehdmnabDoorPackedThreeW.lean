/- The walk of the law PackedThree. -/
import Derived.Test.YtiemnbanehdmnabDoorJm
namespace Go.Proofs.YtiemnbanehdmnabDoor
open Go.RowKit

set_option maxRecDepth 100000 in
theorem uB_two (x : Int) (h0 : 0 ≤ x) (h : x < 16384) : (uB x).length ≤ 2 := by
  unfold uB
  rw [uBf]
  split
  · simp
  · rw [uBf, if_pos (by omega)]
    simp
set_option maxRecDepth 100000 in
theorem qtk_may {k : Int} {n : Nat} {c : Cl} (h : mayP k n c) (hn : pw n) : qtk 0 c ≤ 7 + n / 8 + 3 * (n / 16) := by
  have hp := pw_nat hn
  have hf := h.fit (by omega)
  unfold mayP at h
  have hk : c.key.length ≤ n / 8 := by omega
  have a1 := uB_two ((c.key.length : Nat) : Int) (by omega) (by omega)
  unfold qtk tL
  rw [Nat.sub_zero]
  by_cases e : c.kd = 1
  · rw [if_pos e]
    have hv : c.val.length ≤ 3 * (n / 16) := by omega
    have a2 := uB_two ((c.val.length : Nat) : Int) (by omega) (by omega)
    omega
  · rw [if_neg e]
    have a3 := (uB_length (c.pg % 18446744073709551616)).1
    have a4 := (uB_length (c.ct % 18446744073709551616)).1
    omega
set_option maxRecDepth 100000 in
theorem three_fitQ {k : Int} {n : Nat} {cs : List Cl} (h : chk k n none cs = 0) (hn : pw n) (hl : cs.length ≤ 3) : szQ k (shP k cs).length cs ≤ n := by
  have hp := pw_nat hn
  have hb : Beg k [] cs := fun c _ => by simp
  have h1 := szQ_less hb
  have hq : ∀ c ∈ cs, qtk 0 c ≤ 7 + n / 8 + 3 * (n / 16) := fun c hc => qtk_may (chk_may h c hc) hn
  have h2 : szQ k ([] : List Int).length cs ≤ n := by
    have hz : ∀ (f : Bool) (l : List Cl), qsm 0 f l = (l.map (qtk 0)).sum := by
      intro f l
      induction l generalizing f with
      | nil => rfl
      | cons c r ih => simp [qsm, ih]
    unfold szQ
    rw [List.length_nil, hz]
    match cs, hl, hq with
    | [], _, _ => simp; omega
    | [a], _, hq =>
      have h3 := hq a (by simp)
      simp
      omega
    | [a, b], _, hq =>
      have h3 := hq a (by simp)
      have h4 := hq b (by simp)
      simp
      omega
    | [a, b, c], _, hq =>
      have h3 := hq a (by simp)
      have h4 := hq b (by simp)
      have h5 := hq c (by simp)
      simp
      omega
  omega
set_option maxRecDepth 100000 in
theorem chk_not {k p : Int} : ∀ {pr : Option (List Int)} {cs : List Cl}, chk k p pr cs ≠ 61
  | _, [] => by simp [chk]
  | pr, c :: r => by
    unfold chk
    split
    · split
      · exact chk_not
      · decide
    · decide

set_option maxRecDepth 100000 in
set_option maxHeartbeats 4000000 in
theorem walk_PackedThree (kd : Int) (co : Option Addr) (cn cc : Nat) (cs : List Cl) (pg : Int) (w : World) (ht : Tab w) (h0 : 1 < w.heap.size) (hs : SlC w co cn cc cs) :
    Calls Tryd.prog 3 #[.int .i64 kd, .slice co cn cc, .int .i64 pg] w fun e w' => e = .returned (.bool true) ∧ Below w.heap.size w w' := by
  have HS := hidden hs
  have HT := hidden ht
  have HLEN := hidden hs.hlen
  have HG := hidden (greatQ_any co cn cc cs w hs)
  clear hs ht
  go_enter Tryd.func3, Tryd.ntmps3
  go_wp2_with (first | (go_at_call 4; refine HG.out.mono ?_; rintro e w1 ⟨b, rfl, HB1, HGQ⟩; refine Hid.out ?_))
  apply hidden
  have HAW := hidden (live_any w1 (HT.out.on HB1.out h0) (Nat.lt_of_lt_of_le h0 HB1.out.size))
  clear HG
  go_wp2_with (first | (go_at_call 5; refine HAW.out.mono ?_; rintro e w2 ⟨rfl, hb2⟩; have HB2 := hidden hb2; clear hb2; refine Hid.out ?_))
  apply hidden
  have HW2 : Hid (Below w.heap.size w w2) := hidden (bl_go HB1.out (Nat.le_refl _) HB2.out)
  clear HAW HB1 HB2
  cases b with
  | true =>
    go_wp2
    go_ret
    exact ⟨rfl, HW2.out⟩
  | false =>
    obtain ⟨hcn, hgs⟩ := HGQ.out rfl
    have hzb : szQ kd (shP kd cs).length cs ≤ 1099511627776 := by have := szQ_gS kd cs; omega
    have hcI : (cn : Int) ≤ 300000 := by omega
    have HE := hidden (encodeQ_any kd pg co cn cc cs w2 (HS.out.on HW2.out) hzb (HT.out.on HW2.out h0) (Nat.lt_of_lt_of_le h0 HW2.out.size))
    clear HGQ hgs hzb
    go_wp2_with (first | (go_at_call 6; refine HE.out.mono ?_; rintro e w3 ⟨eo, em, ecp, ece, rfl, HB3, HEQ⟩; refine Hid.out ?_))
    apply hidden
    have HW3 : Hid (Below w.heap.size w w3) := hidden (bl_go HW2.out (Nat.le_refl _) HB3.out)
    by_cases h3 : cn ≤ 3
    · have h3I : (cn : Int) ≤ 3 := by omega
      have hne : ece ≠ 61 := by
        rw [HEQ.out.1]
        unfold encQ
        split
        · next h1 =>
          have hp := pw_le h1.2
          obtain ⟨N, hN⟩ := Int.eq_ofNat_of_zero_le (show 0 ≤ pg by omega)
          split
          · next h2 =>
            rw [hN] at h2 h1 ⊢
            have := three_fitQ h2 h1.2 (by rw [HLEN.out]; exact h3)
            rw [if_neg (by omega)]
            decide
          · exact chk_not
        · decide
      have hb1 : (ece != 61) = true := by simpa using hne
      clear HE HEQ HB3 HW2 hne
      go_wp2
      go_ret
      exact ⟨rfl, HW3.out⟩
    · have h3I : ¬ (cn : Int) ≤ 3 := by omega
      clear HE HEQ HB3 HW2
      go_wp2
      go_ret
      exact ⟨rfl, HW3.out⟩
end Go.Proofs.YtiemnbanehdmnabDoor
