/- Encode. -/
import Derived.Test.YtedgpcckbdnijaaDoorVc
namespace Go.Proofs.YtedgpcckbdnijaaDoor
open Go.RowKit

set_option maxRecDepth 100000 in
theorem made_bkF {w w1 : World} {P : Nat} (hown1 : w1.ownsRow w.heap.size 5 1 (.slice (some ⟨w.heap.size, 0, none⟩) P P) P (madeCells #[.int .u8 0] P).toList) : Bk w1 w.heap.size (zs P) := by
  rcases hown1.2 with ⟨h, _⟩ | ⟨g, c, cur, h, _, hh, _, _, hs, hx⟩
  · cases h
  · cases h
    unfold Bk
    rw [hh]
    congr 2
    apply Array.toList_inj.1
    rw [toList_madeCells_one] at hx
    simp only [Nat.mul_one] at hs hx
    rw [List.take_of_length_le (by simp [hs])] at hx
    simpa [By, zs] using hx
set_option maxRecDepth 100000 in
set_option maxHeartbeats 2000000 in
theorem encF_yes (n : Int) (P : Nat) (ao : Option Addr) (c cap : Nat) (l : List Int) (w : World) (hs : SlZ w ao c cap l) (hE : frE n l P = 0) (ht : Tab w) (h0 : 1 < w.heap.size) :
    Calls Tryd.prog 20 #[.int .i64 n, .slice ao c cap, .int .i64 (P : Int)] w fun e w' => e = .returned (.tuple #[.slice (some ⟨w.heap.size, 0, none⟩) P P, .int .i64 0]) ∧ Hid (Bk w' w.heap.size (frB n l P)) ∧ Hid (Below w.heap.size w w') := by
  obtain ⟨i0, hi, hz0, hz1, hz2⟩ := info_parts info5
  obtain ⟨h1, h2, h3, h4⟩ := frE_zero hE
  have hpp := pwb_le h1
  have hP0 : 512 ≤ P ∧ P ≤ 65536 := by omega
  have HRF := hidden (refused_any w n P ao c cap l hs)
  rw [hE] at HRF
  have hlc : l.length = c := hs.hlen
  have hfit : 12 + 4 * l.length ≤ P := by omega
  have hn0 : 0 ≤ n ∧ n < 65536 := by omega
  have HPG := hidden (rsE_zero l 0 h4)
  have HS := hidden hs
  have HT := hidden ht
  have HLC := hidden hlc
  have HFIT := hidden hfit
  have hcP : 12 + 4 * c ≤ P := by omega
  have q5 : (P : Int) ≤ 65536 := by omega
  have q6 : 512 ≤ (P : Int) := by omega
  have q7 : (c : Int) ≤ 16384 := by omega
  have HZ := hidden hP0.1
  clear hs ht h1 h2 h3 h4 hE hpp hfit hlc
  go_enter Tryd.func20, Tryd.ntmps20
  go_wp2_with (first
    | (go_at_call 48; refine same_call HRF.out ?_)
    | (at_make; refine wpList_make_full _ rfl _ _ 50 rfl w.heap.size 5 i0 (.int .u8 0) 1 Tryd.underlying50 hi hz0 hz1 .i64 .i64 P P P rfl rfl rfl rfl (by rw [hz2]; omega) (by unfold maxLen; omega) (by simp) ?_; refine Hid.out ?_))
  apply hidden
  intro w1 hown1 hg1
  have hb1 : Below w.heap.size w w1 := (Below.refl _ _).grown hg1 (Nat.le_refl _) (fun k hk => by cases hk)
  have hrow : Bk w1 w.heap.size (zs P) := made_bkF hown1
  clear hown1 hg1 HRF
  obtain ⟨g, hg⟩ : ∃ g, w.heap.size = g := ⟨_, rfl⟩
  have HGW := hidden hg
  rw [hg] at hrow ⊢
  clear hg
  have hc0 := hrow.cell 0 (by rw [zs_length]; omega)
  have hf0 := hrow.free 0
  obtain ⟨y0, hc0⟩ : ∃ y, w1.cell? ⟨g, 0, none⟩ = some y := ⟨_, hc0⟩
  obtain ⟨x, hx⟩ : ∃ x, w1.setCell ⟨g, 0, none⟩ (.int .u8 5) = x := ⟨_, rfl⟩
  have HK1 : Hid (Bk x g (lyA P)) := hidden (by
    unfold Bk
    rw [← hx, set_row hrow, ← lyA_of P HZ.out]
    simp [By, List.map_set])
  have HB1 : Hid (Below w.heap.size w x) := hidden (by rw [← hx]; exact hb1.setCell (p := ⟨g, 0, none⟩) (by rw [← HGW.out]; exact Nat.le_refl _) _)
  clear hrow hb1
  have HG : Hid (∀ k, k < w.heap.size → ¬ k = g) := hidden (fun k hk => by rw [← HGW.out]; omega)
  have HP1 := hidden (put_any HK1.out P 2 2 (lyA_len P HZ.out) (by omega) (c : Int) (by omega) (by decide) (by decide) (by omega))
  rw [← HLC.out, lyB_of l P, HLC.out] at HP1
  go_wp2_with (go_at_call 49; refine HP1.out.mono ?_; rintro e x2 ⟨rfl, HU2⟩; refine Hid.out ?_)
  apply hidden
  have HB2 : Hid (Below w.heap.size w x2) := hidden (HB1.out.trans (HU2.out.2.below HB1.out.size HG.out))
  have HP2 := hidden (put_any HU2.out.1 P 4 4 (lyB_len l P HZ.out) (by omega) n (by omega) (by decide) (by decide) (by omega))
  rw [lyF_zero n l P] at HP2
  clear HP1 HB1 HK1 hx hc0 hf0
  go_wp2_with (go_at_call 49; refine HP2.out.mono ?_; rintro e x3 ⟨rfl, HU3⟩; refine Hid.out ?_)
  apply hidden
  have HB3 : Hid (Below w.heap.size w x3) := hidden (HB2.out.trans (HU3.out.2.below HB2.out.size HG.out))
  have HK3 := hidden HU3.out.1
  clear HP2 HB2 HU2 HU3
  go_wp2_with fail
  go_loopw [10, 11, 33] (fun _ _ i wr => ∃ k : Nat, k ≤ c ∧ i = .int .i64 (k : Int) ∧ Hid (Bk wr g (lyF n l P k)) ∧ Hid (Below w.heap.size w wr)) (fun _ _ i _ => c - (RowKit.intOf i).toNat)
  case atStart => exact ⟨0, by omega, rfl, HK3, HB3⟩
  case round =>
    obtain ⟨k, hk, rfl, HK, HB⟩ := hrel
    by_cases hlt : k < c
    · have hltI : (k : Int) < (c : Int) := by omega
      have HSW := hidden (HS.out.on (Nat.le_refl _) HB.out)
      obtain ⟨b0, off0, rfl, hc⟩ := HSW.out.at hlt
      have hkl : k < l.length := by rw [HLC.out]; exact hlt
      have hp := HPG.out _ (getD_mem l k hkl)
      have HST := hidden (lyF_succ n l P k hkl HFIT.out)
      have HPT := hidden (put_any HK.out P (8 + 4 * k) 4 (lyF_len n l P k (by omega) HFIT.out) (by omega) (l.getD k 0) (by omega) (by decide) (by decide) (by omega))
      rw [HST.out] at HPT
      generalize l.getD k 0 = y at *
      have e8 : ((8 + 4 * k : Nat) : Int) = 8 + (k : Int) * 4 := by omega
      rw [e8] at HPT
      clear hp hkl HST HSW
      go_wp2_with (go_at_call 49; refine HPT.out.mono ?_; rintro e u2 ⟨rfl, HU⟩)
      go_roundw
      case rel => exact ⟨k + 1, by omega, by go_num, hidden HU.out.1, hidden (HB.out.trans (HU.out.2.below HB.out.size HG.out))⟩
      case measure => simp [RowKit.intOf]; omega
    · obtain rfl : k = c := by omega
      obtain ⟨Q, hQ⟩ : ∃ Q, P - 4 = Q := ⟨_, rfl⟩
      have hQI : (P : Int) - 4 = (Q : Int) := by omega
      have c1 : (Q : Int) ≤ (P : Int) := by omega
      have c2 : Q ≤ P := by omega
      have HQ := hidden hQ
      clear hQ
      obtain ⟨L, hL⟩ : ∃ L, lyF n l P l.length = L := ⟨_, rfl⟩
      rw [← HLC.out, hL] at HK
      have HLEN : Hid (L.length = P) := hidden (by rw [← hL]; exact lyF_len n l P _ (Nat.le_refl _) HFIT.out)
      obtain ⟨H, hH⟩ : ∃ H, frH n l P = H := ⟨_, rfl⟩
      have HBD : Hid (L.take Q = H) := hidden (by rw [← hL, ← HQ.out, ← hH]; exact lyF_body n l P HFIT.out)
      have HPGE : Hid (splice L Q (fB 4 (sumN [H])) = frB n l P) := hidden (by rw [← hL, ← HQ.out, ← hH]; exact lyF_page n l P HFIT.out)
      have HHW : Hid (Wf H) := hidden (by rw [← hH]; exact frH_wf n l P)
      clear hL hH hc0 HK3 HB3
      have HSL : Hid (Sl wr (some ⟨g, 0, none⟩) Q P H) := hidden (by
        refine ⟨by rw [← HBD.out, List.length_take, HLEN.out]; omega, by omega, by omega, HHW.out, (by intro h; cases h), .inr ⟨g, 0, rfl, lt_some HK.out, fun i hi => ?_⟩⟩
        rw [Nat.zero_add, HK.out.cell i (by rw [HLEN.out]; omega), ← HBD.out]
        simp [List.getD, hi])
      have hs32 := sumN_lt H HHW.out
      obtain ⟨SN, hS⟩ : ∃ SN, sumN [H] = SN := ⟨_, rfl⟩
      rw [hS] at hs32 HPGE
      have HSS := hidden hS
      have hws : IntKind.i64.wrap ((SN : Nat) : Int) = (SN : Int) := by rw [IntKind.wrap_i64]; omega
      have HTR : Hid (Tab wr) := HT.out.on HB.out h0
      have h0r : 1 < wr.heap.size := Nat.lt_of_lt_of_le h0 HB.out.size
      have HSUM : Hid (Calls Tryd.prog 50 #[.slice (some ⟨wr.heap.size, 0, none⟩) 1 1] (wr.alloc (.cells #[.slice (some ⟨g, 0, none⟩) Q P] 50)) fun e v2 => e = .returned (.int .u32 (SN : Int)) ∧ Hid (Bk v2 g L) ∧ Hid (Below w.heap.size w v2)) := by
        have hss : SlS (wr.alloc (.cells #[.slice (some ⟨g, 0, none⟩) Q P] 50)) (some ⟨wr.heap.size, 0, none⟩) 1 1 [H] := sls_one5 wr _ _ _ _ HSL.out _ rfl
        refine hidden ((sum_any _ _ _ _ _ hss (HTR.out.on ((Below.refl _ _).alloc (Nat.le_refl _) _) h0r)).mono ?_)
        rintro e v2 ⟨rfl, q, rfl⟩
        rw [HSS.out]
        exact ⟨rfl, (Below.heap_alloc _ _ _ (lt_some HK.out)).trans HK.out, bl_dr (bl_al HB.out (Nat.le_refl _) _) q⟩
      have HF : Hid (∀ v, Hid (Bk v g L) → Hid (Below w.heap.size w v) → Calls Tryd.prog 49 #[.slice (some ⟨g, 0, none⟩) P P, .int .i64 (Q : Int), .int .i64 (SN : Int), .int .i64 4] v fun e v2 => e = .returned (.tuple #[]) ∧ Hid (Bk v2 g (frB n l P)) ∧ Hid (Below w.heap.size w v2)) := hidden (fun v hk hv => by
        refine (put_any hk.out P Q 4 HLEN.out (by omega) (SN : Int) (by omega) (by decide) (by decide) (by have := HQ.out; omega)).mono ?_
        rintro e v2 ⟨rfl, HU⟩
        have h1 := HU.out.1
        rw [HPGE.out] at h1
        exact ⟨rfl, h1, hv.out.trans (HU.out.2.below hv.out.size HG.out)⟩)
      clear hs32 hS HLEN
      go_wp2_with (first
        | (go_at_call 50; refine HSUM.out.mono ?_; rintro e v2 ⟨rfl, HK6, HB6⟩)
        | (go_at_call 49; refine (HF.out _ HK6 HB6).mono ?_; rintro e v3 ⟨rfl, HK7, HB7⟩))
      go_ret2
      exact ⟨by rw [HGW.out]; rfl, by rw [HGW.out]; exact HK7, HB7⟩
set_option maxRecDepth 100000 in
theorem encF_any (n p : Int) (ao : Option Addr) (c cap : Nat) (l : List Int) (w : World) (hs : SlZ w ao c cap l) (ht : Tab w) (h0 : 1 < w.heap.size) :
    Calls Tryd.prog 20 #[.int .i64 n, .slice ao c cap, .int .i64 p] w fun e w' => ∃ eo en, e = .returned (.tuple #[.slice eo en en, .int .i64 (frE n l p)]) ∧ Hid (OwnB w' w.heap.size (.slice eo en en) (frL n l p)) ∧ Hid (Below w.heap.size w w') := by
  by_cases hE : frE n l p = 0
  · obtain ⟨h1, _, h3, _⟩ := frE_zero hE
    have hp := pwb_le h1
    obtain ⟨P, rfl⟩ : ∃ P : Nat, p = (P : Int) := ⟨p.toNat, by omega⟩
    refine (encF_yes n P ao c cap l w hs hE ht h0).mono ?_
    rintro e w' ⟨rfl, hk, hb⟩
    refine ⟨_, _, by rw [hE], ?_, hb⟩
    have hl := frB_length n l P (by omega)
    have := own_of_heap (l := frB n l P) (B := w.heap.size) hk.out (Nat.le_refl _) (by rw [hl]; unfold maxLen; omega)
    rw [hl] at this
    unfold frL
    rw [if_pos hE, Int.toNat_natCast]
    exact this
  · have HRF := hidden (refused_any w n p ao c cap l hs)
    have hne : (frE n l p == 0) = false := by rw [beq_eq_false_iff_ne]; exact hE
    have HL : Hid (frL n l p = []) := hidden (by unfold frL; rw [if_neg hE])
    rw [HL.out]
    clear hs HL
    generalize frE n l p = E at *
    go_enter Tryd.func20, Tryd.ntmps20
    go_wp2_with (go_at_call 48; refine same_call HRF.out ?_)
    go_ret2
    exact ⟨none, 0, rfl, OwnB.nil _ _, Below.refl _ _⟩
end Go.Proofs.YtedgpcckbdnijaaDoor
