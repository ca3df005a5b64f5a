/- The walk of the law FreeMakes. -/
import Derived.Test.YtbbljldnaiiemaaDoorJb
namespace Go.Proofs.YtbbljldnaiiemaaDoor
open Go.RowKit

set_option maxRecDepth 100000 in
theorem KL_pgs {l : List Int} (h : ∀ x ∈ l, isPg x) : Pgs (KL l) := by
  intro k f hk
  unfold KL at hk
  by_cases e : k ∈ l
  · exact h k e
  · rw [if_neg e] at hk; cases hk
set_option maxRecDepth 100000 in
theorem newE_zero {l : List Int} (h : newE l = 0) : (∀ x ∈ l, isPg x) ∧ l.Nodup := by
  unfold newE at h
  by_cases h1 : ∀ x ∈ l, isPg x
  · rw [if_pos h1] at h
    by_cases h2 : l.Nodup
    · exact ⟨h1, h2⟩
    · rw [if_neg h2] at h; cases h
  · rw [if_neg h1] at h; cases h
set_option maxRecDepth 100000 in
theorem told_small {l : List Int} (h : newE l = 0) : (toldF (enE l)).length ≤ 65536 ∧ ∀ x ∈ toldF (enE l), -9223372036854775808 ≤ x ∧ x ≤ 9223372036854775807 := by
  obtain ⟨h1, h2⟩ := newE_zero h
  have h3 := enE_len l h2 h1
  constructor
  · unfold toldF
    rw [List.length_map]
    have := List.length_filter_le (fun x : Int × Int => x.2 == 0) (enE l)
    omega
  · intro x hx
    unfold toldF at hx
    obtain ⟨y, hy, rfl⟩ := List.mem_map.1 hx
    have := h1 _ ((enE_mem l y).1 (List.mem_filter.1 hy).1).2
    omega
set_option maxRecDepth 100000 in
theorem none_waits (l : List Int) (h : newE l = 0) : kL (KL l) (fun s => decide (0 < s)) = [] := by
  refine kL_eq (KL_pgs (newE_zero h).1) _ List.Pairwise.nil (fun x => ?_)
  constructor
  · intro h; cases h
  · rintro ⟨s, h1, h2⟩
    unfold KL at h1
    by_cases e : x ∈ l
    · rw [if_pos e] at h1; cases h1; simp at h2
    · rw [if_neg e] at h1; cases h1
set_option maxRecDepth 100000 in
set_option maxHeartbeats 8000000 in
theorem walk_FreeMakes (ao : Option Addr) (n cap : Nat) (l : List Int) (w : World) (ht : Tab w) (hz : Tz w) (h0 : 1 < w.heap.size) (hs : SlZ w ao n cap l) (h8 : n ≤ 17592186044416) :
    Calls Tryd.prog 4 #[.slice ao n cap] w fun e u => e = .returned (.bool true) ∧ Below w.heap.size w u := by
  have HLV := hidden (live_any w ht hz h0)
  have HS := hidden hs
  have HLE := hidden hs.hlen
  have hbig := hs.hbig
  have HWF := hidden hs.wf
  clear hs ht hz
  go_enter Tryd.func4, Tryd.ntmps4
  go_wp2_with (go_at_call 9; refine HLV.out.mono ?_; rintro e w1 ⟨rfl, HB1⟩; refine Hid.out ?_)
  apply hidden
  have HLN := hidden (lentZ_any ao n cap l w1 (HS.out.on (Nat.le_refl _) HB1.out) h8)
  obtain ⟨g, hg⟩ : ∃ g, w1.heap.size = g := ⟨_, rfl⟩
  rw [hg] at HLN
  clear HLV
  go_wp2_with (go_at_call 10; refine HLN.out.mono ?_; rintro e w2 ⟨rfl, HK2, HBa⟩; refine Hid.out ?_)
  apply hidden
  rw [← hg] at HBa
  have HG : Hid (w.heap.size ≤ g) := hidden (by rw [← hg]; exact HB1.out.size)
  have HB2 := hidden (bl_go HB1.out (Nat.le_refl _) HBa.out)
  have HG2 : Hid (g < w2.heap.size) := hidden (lt_some HK2.out)
  have HN1 := hidden (new_any w2 _ n (n + 2) l (HK2.out.slz2 HLE.out hbig HWF.out (n + 2) (by omega)))
  clear HLN HBa HB1 hg
  obtain ⟨K, hK⟩ : ∃ K, newE l = K := ⟨_, rfl⟩
  rw [hK] at HN1
  have HKK := hidden hK
  go_wp2_with (go_at_call 11; refine HN1.out.mono ?_; rintro e w3 ⟨p, rfl, HQ⟩; refine Hid.out ?_)
  apply hidden
  have HB3 := hidden (bl_go HB2.out (Nat.le_refl _) HQ.out.1)
  have HK3 : Hid (Bj w3 g (l ++ [-71, -72])) := hidden (HK2.out.on HQ.out.1)
  have HR1 := hidden (rnew_any w3 ao n cap l (HS.out.on (Nat.le_refl _) HB3.out))
  rw [hK] at HR1
  have HS23 : Hid (w2.heap.size ≤ w3.heap.size) := hidden HQ.out.1.size
  have HQ2 : Hid ((K = 0 ∧ ∃ b m, p = some ⟨b, 0, none⟩ ∧ w2.heap.size ≤ b ∧ w2.heap.size ≤ m ∧ Fl w3 b m (.slice none 0 0) 0 (KL l) []) ∨ (K ≠ 0 ∧ p = none)) := hidden HQ.out.2
  clear HN1 HK2 HB2 HQ hK
  go_wp2_with (go_at_call 12; refine HR1.out.mono ?_; rintro e w4 ⟨p2, rfl, HBb, HQ3⟩; refine Hid.out ?_)
  apply hidden
  have HB4 := hidden (bl_go HB3.out (Nat.le_refl _) HBb.out)
  have HK4 : Hid (Bj w4 g (l ++ [-71, -72])) := hidden (HK3.out.on HBb.out)
  have HAS := hidden (asLentZ_any g n ao cap l w4 HK4.out (HS.out.on (Nat.le_refl _) HB4.out))
  clear HR1 HK3 HB3
  go_wp2_with (go_at_call 13; refine HAS.out.mono ?_; rintro e w5 ⟨rfl, HC5⟩; refine Hid.out ?_)
  apply hidden
  have HB5 : Hid (Below w.heap.size w w5) := hidden (HB4.out.trans (HC5.out.below HB4.out.size (fun k hk e => by have := HG.out; omega)))
  clear HAS HK4 HB4
  have eK : (K == K) = true := by simp
  rcases HQ2.out with ⟨hk0, b, m, rfl, hb1, hm1, hfl⟩ | ⟨hk0, rfl⟩
  · rcases HQ3.out with ⟨_, b2, v2, rfl, hb2, hrl⟩ | ⟨hk1, _⟩
    · have HE0 : Hid (newE l = 0) := hidden (by rw [HKK.out]; exact hk0)
      have HFS : Hid (Fs w5 b m (.slice none 0 0) 0 (KL l)) := hidden ((hfl.fs.on HBb.out).cf HC5.out (by have := HG2.out; omega) (by have := HG2.out; omega))
      have HRL : Hid (Rl w5 w3.heap.size b2 v2 (.slice none 0 0) 0 (enE l)) := hidden ⟨(HC5.out.block b2 (lt_some hrl.box) (by have := HG2.out; have := HS23.out; omega)).trans hrl.box, hrl.own.cf HC5.out (fun k hk e => by have := hrl.own.lt hk; have := HG2.out; have := HS23.out; omega), hrl.len⟩
      have HFR := hidden (free_any HFS.out)
      rw [told_new l (newE_zero HE0.out).2 (KL_pgs (newE_zero HE0.out).1)] at HFR
      subst hk0
      clear hfl hrl HQ2 HQ3 HBb HC5
      go_wp2_with (go_at_call 14; refine HFR.out.mono ?_; rintro e w6 ⟨a1, rfl, HO1, HBc⟩; refine Hid.out ?_)
      apply hidden
      have HB6 := hidden (bl_go HB5.out (Nat.le_refl _) HBc.out)
      have HRL6 : Hid (Rl w6 w3.heap.size b2 v2 (.slice none 0 0) 0 (enE l)) := hidden ⟨(HBc.out.block b2 (lt_some HRL.out.box)).trans HRL.out.box, HRL.out.own.below HBc.out, HRL.out.len⟩
      have HRF := hidden (rfree_any w6 _ _ _ _ _ _ HRL6.out)
      obtain ⟨o1, c1, rfl, hs1⟩ := HO1.out.slz (told_small HE0.out).1 (told_small HE0.out).2
      have HS1 := hidden hs1
      clear hs1 HFR HO1
      go_wp2_with (go_at_call 15; refine HRF.out.mono ?_; rintro e w7 ⟨a2, rfl, HO2, HBd⟩; refine Hid.out ?_)
      apply hidden
      have HB7 := hidden (bl_go HB6.out (Nat.le_refl _) HBd.out)
      obtain ⟨o2, c2, rfl, hs2⟩ := HO2.out.slz (told_small HE0.out).1 (told_small HE0.out).2
      have HS2 := hidden hs2
      have HS1b := hidden (HS1.out.on (Nat.le_refl _) HBd.out)
      have HWT := hidden (waiting_any ((HFS.out.on HBc.out).on HBd.out))
      rw [none_waits l HE0.out] at HWT
      clear hs2 HRF HO2 HS1 HB6 HRL HRL6 HFS HBc HBd
      go_wp2_with (go_at_call 16; refine HWT.out.mono ?_; rintro e w8 ⟨a3, rfl, HO3, HBe⟩; refine Hid.out ?_)
      apply hidden
      have HB8 := hidden (bl_go HB7.out (Nat.le_refl _) HBe.out)
      obtain ⟨o3, c3, rfl, _⟩ := HO3.out.sl
      have HSM := hidden (sameZ_any _ _ _ _ _ _ _ _ w8 (HS1b.out.on (Nat.le_refl _) HBe.out) (HS2.out.on (Nat.le_refl _) HBe.out))
      have hdd : decide (toldF (enE l) = toldF (enE l)) = true := by simp
      rw [hdd] at HSM
      clear hdd HWT HO3 HB7 HS1b HS2 HBe
      go_wp2_with (go_at_call 17; refine HSM.out.mono ?_; rintro e w9 ⟨rfl, hq⟩; refine Hid.out ?_)
      apply hidden
      obtain ⟨q, rfl⟩ := hq
      have HB9 : Hid (Below w.heap.size w (w8.drewN q)) := hidden (bl_dr HB8.out q)
      clear HSM
      go_wp2_with fail
      go_ret
      exact ⟨rfl, HB9.out⟩
    · exact absurd hk0 hk1
  · rcases HQ3.out with ⟨hk1, _⟩ | ⟨_, rfl⟩
    · exact absurd hk1 hk0
    · clear HQ2 HQ3 HBb HC5
      go_wp2_with fail
      go_ret
      exact ⟨rfl, HB5.out⟩
end Go.Proofs.YtbbljldnaiiemaaDoor
