/- spill.Decode. -/
import Derived.Test.YtllcbilhpijjhaaDoorLd
namespace Go.Proofs.YtllcbilhpijjhaaDoor
open Go.RowKit

set_option maxRecDepth 100000 in
/-- What Encode comes to, the answer's shape first. -/
theorem EncS.shape {n : Int} {d : List Int} {p : Int} {w w' : World} {e : Ending} (h : EncS n d p w e w') : ∃ ao sn k, e = .returned (.tuple #[.slice ao sn sn, .int .i64 k]) ∧ Hid (Below w.heap.size w w') ∧
    Hid ((spE n d p = 0 ∧ k = 0 ∧ ∃ g, ao = some ⟨g, 0, none⟩ ∧ sn = p.toNat ∧ w.heap.size ≤ g ∧ Bk w' g (spB n d p.toNat)) ∨ (spE n d p = k ∧ k ≠ 0 ∧ ao = none ∧ sn = 0)) := by
  obtain ⟨hb, ⟨hz, g, rfl, hg, hk⟩ | ⟨hz, rfl⟩⟩ := h
  · exact ⟨_, _, _, rfl, hidden hb, hidden (.inl ⟨hz, rfl, g, rfl, rfl, hg, hk⟩)⟩
  · exact ⟨_, _, _, rfl, hidden hb, hidden (.inr ⟨rfl, hz, rfl, rfl⟩)⟩
/-- What Decode comes to. -/
def DecS (l : List Int) (w : World) (e : Ending) (w' : World) : Prop :=
  ∃ n ao dn c k, e = .returned (.tuple #[.int .i64 n, .slice ao dn c, .int .i64 k]) ∧ Hid (Below w.heap.size w w') ∧ Hid ((spD l = none ∧ n = 0 ∧ ao = none ∧ dn = 0 ∧ c = 0 ∧ k = 60) ∨
    ∃ d, spD l = some (n, d) ∧ k = 0 ∧ dn = d.length ∧ ∃ g, ao = some ⟨g, 0, none⟩ ∧ w.heap.size ≤ g ∧ OwnB w' w.heap.size (.slice ao dn c) d)
set_option maxRecDepth 100000 in
theorem DecS.no {l : List Int} {w w' : World} (h : ¬ spIs l) (hb : Below w.heap.size w w') : DecS l w (.returned (.tuple #[.int .i64 0, .slice none 0 0, .int .i64 60])) w' :=
  ⟨_, _, _, _, _, rfl, hidden hb, hidden (.inl ⟨by unfold spD; rw [if_neg h], rfl, rfl, rfl, rfl, rfl⟩)⟩
set_option maxRecDepth 100000 in
theorem spD_no {l : List Int} (h : ¬ spIs l) : spD l = none := by unfold spD; rw [if_neg h]
set_option maxRecDepth 100000 in
theorem spD_yes {l : List Int} (h : spIs l) : spD l = some (rdN l 4 4, spT l) := by unfold spD; rw [if_pos h]
set_option maxRecDepth 100000 in
theorem Sl.cut9 {w : World} {b off n cap : Nat} {l : List Int} (h : Sl w (some ⟨b, off, none⟩) n cap l) (k c : Nat) (hk : k + c ≤ n) : Sl w (some ⟨b, off + k, none⟩) c (cap - k) ((l.drop k).take c) := by
  have h1 := h.hlen
  have h2 := h.hcap
  have h3 := h.hroom
  refine ⟨by rw [List.length_take, List.length_drop]; omega, by omega, by omega, (h.wf.drop _).take _, (by intro h; cases h), ?_⟩
  rcases h.hat with h0 | ⟨b', o', e, hlt, hc⟩
  · left; omega
  · cases e
    refine .inr ⟨b, off + k, rfl, hlt, fun i hi => ?_⟩
    rw [Nat.add_assoc, hc (k + i) (by omega)]
    simp [List.getD, hi]
set_option maxRecDepth 100000 in
set_option maxHeartbeats 2000000 in
theorem decS_any (ao : Option Addr) (n cap : Nat) (l : List Int) (w : World) (hs : Sl w ao n cap l) (ht : Tab w) (h0 : 0 < w.heap.size) :
    Calls Tryd.prog 15 #[.slice ao n cap] w fun e w' => DecS l w e w' := by
  have hl := hs.hlen
  have hr := hs.hroom
  have HI := fun u => isSize_any (n : Int) u
  by_cases hp : pw (n : Int)
  · have e1 : decide (pw (n : Int)) = true := by simpa using hp
    have hpl := pw_le hp
    rcases hs.hat with h | ⟨b, off, rfl, hlt, hc⟩
    · omega
    have HN4 : Hid (Calls Tryd.prog 38 #[.slice (some ⟨b, off, none⟩) n cap, .int .i64 4] w fun e w' => e = .returned (.int .i64 (rdN l 4 4)) ∧ w' = w) := hidden (numberAt_any _ n cap l 4 w hs (by omega))
    have HN8 : Hid (Calls Tryd.prog 38 #[.slice (some ⟨b, off, none⟩) n cap, .int .i64 8] w fun e w' => e = .returned (.int .i64 (rdN l 8 4)) ∧ w' = w) := hidden (numberAt_any _ n cap l 8 w hs (by omega))
    have r4 := rdN_bound l hs.wf 4 4
    have r8 := rdN_bound l hs.wf 8 4
    simp only [Int.reducePow] at r4 r8
    have HH := fun u => hold_any (n : Int) u (by omega) (by omega)
    obtain ⟨cnt, hcnt⟩ : ∃ cnt : Nat, rdN l 8 4 = (cnt : Int) := ⟨(rdN l 8 4).toNat, by omega⟩
    have HS := hidden hs
    have HT := hidden ht
    have hcap := hs.hcap
    have HPW : Hid (pw (l.length : Int)) := hidden (by rw [hl]; exact hp)
    have HL := hidden hl
    have HCN := hidden hcnt
    obtain ⟨nx, hnx⟩ : ∃ nx, rdN l 4 4 = nx := ⟨_, rfl⟩
    have HNX := hidden hnx
    rw [hnx] at HN4 r4
    rw [hcnt] at HN8 r8
    have hcI : (n : Int) ≤ 65536 := by omega
    have hnI : 512 ≤ (n : Int) := by omega
    have hc2 : ¬ cap = 12 := by omega
    have hc3 : (12 : Int) ≤ (cap : Int) := by omega
    clear hs ht hp hc hl hcnt hnx hpl
    by_cases hq : (n : Int) - 16 < (cnt : Int)
    · have HNO : Hid (¬ spIs l) := hidden (by
        rintro ⟨_, h2, _⟩
        rw [HCN.out, HL.out] at h2
        omega)
      go_enter Tryd.func15, Tryd.ntmps15
      go_wp2_with (first
        | (go_at_call 31; refine same_call (HI _) ?_; rw [e1])
        | (go_at_call 38; refine same_call HN4.out ?_; refine Hid.out ?_))
      apply hidden
      go_wp2_with (first
        | (go_at_call 38; refine same_call HN8.out ?_)
        | (go_at_call 33; refine same_call (HH _) ?_))
      go_returns
      exact DecS.no HNO.out (Below.refl _ _)
    · have hq2 : (cnt : Int) ≤ (n : Int) - 16 := by omega
      have hq3 : 12 + cnt ≤ n := by omega
      have HD : Hid (Sl w (some ⟨b, off + 12, none⟩) cnt (cap - 12) (spT l)) := hidden (by
        have := HS.out.cut9 12 cnt hq3
        unfold spT
        rw [HCN.out, Int.toNat_natCast]
        exact this)
      have HE := hidden (encS_any nx (n : Int) _ cnt (cap - 12) (spT l) w HD.out HT.out h0)
      obtain ⟨z, hz⟩ : ∃ z, 12 + cnt = z := ⟨_, rfl⟩
      have hzI : 12 + (cnt : Int) = (z : Int) := by omega
      have z1 : (z : Int) ≤ (cap : Int) := by omega
      have z2 : (12 : Int) ≤ (z : Int) := by omega
      have z3 : z - 12 = cnt := by omega
      have z4 : z ≤ cap := by omega
      have z5 : 12 ≤ z := by omega
      clear hz
      go_enter Tryd.func15, Tryd.ntmps15
      go_wp2_with (first
        | (go_at_call 31; refine same_call (HI _) ?_; rw [e1])
        | (go_at_call 38; refine same_call HN4.out ?_; refine Hid.out ?_))
      apply hidden
      go_wp2_with (first
        | (go_at_call 38; refine same_call HN8.out ?_)
        | (go_at_call 33; refine same_call (HH _) ?_)
        | (go_at_call 10; refine HE.out.mono ?_; intro e w1 hE9; obtain ⟨eo, en, ek, rfl, HB1, HK⟩ := hE9.shape; clear hE9; refine Hid.out ?_))
      apply hidden
      clear HE HN4 HN8 HI HH e1
      rcases HK.out with ⟨hz, rfl, g, rfl, hen, hg, hk⟩ | ⟨hz, hk0, rfl, rfl⟩
      · rw [Int.toNat_natCast] at hk hen
        rw [hen]
        clear hen
        have hd16 : (spT l).length + 16 ≤ n := by
          have := HD.out.hlen
          omega
        have HSP : Hid (Sl w1 (some ⟨g, 0, none⟩) n n (spB nx (spT l) n)) := hidden (hk.sl (spB_length _ _ _ hd16) (spB_wf n HD.out.wf) hr)
        have HS1 : Hid (Sl w1 (some ⟨b, off, none⟩) n cap l) := hidden (HS.out.on (Nat.le_refl _) HB1.out)
        have HD1 : Hid (Sl w1 (some ⟨b, off + 12, none⟩) cnt (cap - 12) (spT l)) := hidden (HD.out.on (Nat.le_refl _) HB1.out)
        have HEQ := hidden (equal6 _ _ n n n cap _ l w1 HSP.out HS1.out)
        have HCL := hidden (clone_any ⟨b, off + 12, none⟩ cnt (cap - 12) (spT l) w1 HD1.out)
        have HIS : Hid (spIs l ↔ spB nx (spT l) n = l) := hidden (by
          unfold spIs
          rw [HNX.out, HCN.out, HL.out]
          exact ⟨fun h => h.2.2.2, fun h => ⟨by have := HPW.out; rwa [HL.out] at this, by omega, hz, h⟩⟩)
        have HLT : Hid ((spT l).length = cnt) := hidden HD.out.hlen
        clear hk hd16 HK hz
        cases hq5 : decide (spB nx (spT l) n = l) with
        | false =>
          rw [hq5] at HEQ
          have HNO : Hid (¬ spIs l) := hidden (by rw [HIS.out]; simpa using hq5)
          clear hq5 HCL HIS HSP HS1 HD1 HD
          go_wp2_with (first
            | (go_at_call 39; refine same_call HEQ.out ?_))
          go_returns
          exact DecS.no HNO.out HB1.out
        | true =>
          rw [hq5] at HEQ
          have HYE : Hid (spIs l) := hidden (by rw [HIS.out]; simpa using hq5)
          clear hq5 HIS HSP HS1 HD1 HD
          go_wp2_with (first
            | (go_at_call 39; refine same_call HEQ.out ?_)
            | (go_at_call 40; refine HCL.out.mono ?_; rintro e w2 ⟨g2, c2, rfl, HO, HB2⟩))
          go_returns
          refine ⟨_, _, _, _, _, rfl, hidden (bl_go HB1.out (Nat.le_refl _) HB2.out), hidden (.inr ⟨spT l, ?_, rfl, HLT.out.symm, g2, rfl, Nat.le_trans HB1.out.size HO.out.2.1, HO.out.1.low HB1.out.size⟩)⟩
          rw [spD_yes HYE.out, HNX.out]
      · have HNO : Hid (¬ spIs l) := hidden (by
          rintro ⟨_, _, h3, _⟩
          rw [HNX.out, HL.out, hz] at h3
          exact hk0 h3)
        have hz2 : (ek == 0) = false := by rw [beq_eq_false_iff_ne]; exact hk0
        clear HD HK hz
        go_wp2
        go_returns
        exact DecS.no HNO.out HB1.out
  · have e1 : decide (pw (n : Int)) = false := by simpa using hp
    have HNO : Hid (¬ spIs l) := hidden (by
      rintro ⟨h1, _⟩
      rw [hl] at h1
      exact hp h1)
    clear hs ht hp
    go_enter Tryd.func15, Tryd.ntmps15
    go_wp2_with (first
      | (go_at_call 31; refine same_call (HI _) ?_; rw [e1]))
    go_returns
    exact DecS.no HNO.out (Below.refl _ _)
end Go.Proofs.YtllcbilhpijjhaaDoor
