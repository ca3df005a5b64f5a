/- espalierlaw02.kept: the walk. -/
import Derived.Test.YtfdiflfjefhjfaaGreatDoorKeptI
import Derived.Deep.RegionWith
namespace Go.Proofs.YtfdiflfjefhjfaaGreatDoor
open Go.RowKit

set_option maxHeartbeats 1000000 in
set_option maxRecDepth 100000 in
theorem kept_all : ∀ (N : Nat) (a : Its), a.sz < N → N ≤ 200000 → ∀ (b hi : Nat) (yo : Option Addr) (n cy : Nat) (w : World), LentS w a b hi → hi ≤ w.heap.size → SlI w (fun k => k < b ∨ hi ≤ k) yo n cy a →
    Calls Tryz.prog 12 #[.slice (some ⟨b, 0, none⟩) n (n + 2), .slice yo n cy] w fun e w' => e = .returned (.bool true) ∧ Outs b hi w w'
  | 0, a, h, _ => by omega
  | N + 1, a, h, hN => by
    intro b hi yo n cy w hL hhi hy
    have Hih := hidden (kept_all N)
    have hla := hy.hlen
    have hn : n ≤ 200000 := by have := Its.len_sz a; omega
    have HY := hidden hy
    have H0 : Hid (∃ lo, KeptR w w (a.drop 0) n b hi 0 lo) := by
      obtain ⟨h0, h1, h2, h3, h4⟩ := hL
      rw [hla] at h1 h3 h4
      refine hidden ⟨b + 1, Outs.refl _ _ _, h1, by simpa [Its.drop] using h2, by omega, fun j x1 x2 x3 => ?_⟩
      by_cases hj : j = n
      · subst hj; exact h3
      · obtain rfl : j = n + 1 := by omega
        exact h4
    clear hy hL
    go_enter Tryz.func12, Tryz.ntmps12
    go_wp2_with fail
    obtain ⟨M, hM⟩ : ∃ M, M = n + 2 := ⟨_, rfl⟩
    rw [← hM]
    go_loopw [7, 8] (fun g i wr => ∃ k : Nat, k ≤ n + 2 ∧ g = .bool true ∧ i = .int .i64 k ∧ Hid (∃ lo, KeptR w wr (a.drop k) n b hi k lo)) (fun _ i _ => n + 2 - (intOf i).toNat)
    case atStart => exact ⟨0, by omega, rfl, rfl, H0⟩
    case round =>
      obtain ⟨k, hk, rfl, rfl, HK⟩ := hrel
      obtain ⟨lo, hK⟩ := HK.out
      have hYr := hK.ho.slI HY.out
      have hsz : w.heap.size ≤ wr.heap.size := hK.ho.size
      by_cases hkn : k < n
      · obtain ⟨ba, oa, ka, na, ta, sa, ra, xa, ma, ca, rfl, hba, e1, e2, a0, a1, a2, a3, hsa, p1, p2, p3⟩ := hYr.item k hkn
        have hpb : ba < b ∨ hi ≤ ba := by
          rcases hYr.hat with h0 | ⟨b1, o1, h1, _, h2, _⟩
          · omega
          · cases h1; exact h2
        have hKl := hK.hl
        rw [e1] at hKl
        obtain ⟨c0, c1, c2, b', mid, c3, l1, l2, l3, l4, l5, l6, l7⟩ := hKl
        have hmid := Its.Ln.le _ _ _ _ _ l7
        have hlo := hK.hlo
        have hszs := Its.sub_sz e1
        rw [hsa.hlen] at c3
        rw [Nat.mul_comm 4 k] at c0 c1 c2 c3
        have hLs : LentS wr sa b' mid := ⟨l2, l3, l4, l5, l6⟩
        have HC : Hid (∀ u, Below wr.heap.size wr u → Calls Tryz.prog 12 #[.slice (some ⟨b', 0, none⟩) ma (ma + 2), .slice xa ma ca] u fun e w' => e = .returned (.bool true) ∧ Outs b' mid wr w') := by
          refine hidden fun u hu => ?_
          refine (Hih.out sa (by omega) (by omega) b' mid xa ma ca u (hLs.keep fun i _ _ => hu.block i (by omega)) (by have := hu.size; omega) ((hsa.on (Nat.le_refl _) hu).mono (Nat.le_refl _) (fun _ _ _ => rfl) (fun i x _ => by omega))).mono ?_
          rintro e w1 ⟨rfl, h1⟩
          exact ⟨rfl, (Outs.of_below hu).trans h1⟩
        have hbr := hK.hr.lt
        have hi1 : (0 : Int) ≤ k := by omega
        have hi2 : (k : Int) < n := by omega
        have hi3 : (k : Int) < (M : Int) := by omega
        have HM := hidden hM
        clear hM
        have HSt : Hid (∀ w2 v, Outs b' mid wr w2 → Hid (v = w2.setCells b (k * 4) [.int .i64 (-9), .int .i64 0, .string ⟨#[]⟩, .slice none 0 0]) → KeptR w v (a.drop (k + 1)) n b hi (k + 1) mid) := by
          refine hidden fun w2 v h1 h2 => ?_
          rw [e2]
          exact kept_step hK.ho hK.hr l7 hK.hs (by omega) (by omega) (by omega) h1 h2.out
        have HRw : Hid (∀ w2, Outs b' mid wr w2 → RowB w2 b (n + 2)) := hidden fun w2 h1 => hK.hr.same (h1.block b (by omega) (by omega))
        have HCb : Hid (∀ w2, Outs b' mid wr w2 → ∀ j, w2.cell? ⟨b, j, none⟩ = wr.cell? ⟨b, j, none⟩) := hidden fun w2 h1 j => cell_of_heap (h1.block b (by omega) (by omega))
        have HCa : Hid (∀ w2, Outs b' mid wr w2 → ∀ j, w2.cell? ⟨ba, j, none⟩ = wr.cell? ⟨ba, j, none⟩) := hidden fun w2 h1 j => cell_of_heap (h1.block ba (by omega) (by omega))
        have Hc := hidden (And.intro c0 (And.intro c1 (And.intro c2 (And.intro a0 (And.intro a1 a2)))))
        clear Hih hsa hLs l3 l4 l5 l6 l7 hK hYr HK H0 c0 c1 c2 a0 a1 a2 p1 p2 p3 e1 e2 hszs
        go_wp2_with fail
        go_region_with (first | (go_at_call 12; refine (HC.out _ ?_).mono ?_; (repeat (first | exact Below.refl _ _ | apply Below.drew | apply below_drewN)); rintro e w2 ⟨rfl, hO2⟩))
        all_goals
          have HO2 := hidden hO2
          obtain ⟨c0, c1, c2, a0, a1, a2⟩ := Hc.out
          have d0 := (HCb.out _ hO2 _).trans c0
          have d1 := (HCb.out _ hO2 _).trans c1
          have d2 := (HCb.out _ hO2 _).trans c2
          have g0 := (HCa.out _ hO2 _).trans a0
          have g1 := (HCa.out _ hO2 _).trans a1
          have g2 := (HCa.out _ hO2 _).trans a2
          clear c0 c1 c2 a0 a1 a2 hO2 c3 a3 HC HCb HCa Hc
          obtain ⟨kb, ek⟩ : ∃ x, x = ka := ⟨_, rfl⟩
          obtain ⟨nb, en⟩ : ∃ x, x = na := ⟨_, rfl⟩
          obtain ⟨tb, et⟩ : ∃ x, x = ta := ⟨_, rfl⟩
          rw [← ek] at g0
          rw [← en] at g1
          rw [← et] at g2
          have hk0 : (ka == kb) = true := by simp [ek]
          have hn0 : (na == nb) = true := by simp [en]
          have ht0 : (ta.toList == tb.toList) = true := by simp [et]
          clear ek en et
          have HAr := hidden (And.intro hk (And.intro hkn (And.intro HM.out hn)))
          have hi4 : k < n := HAr.out.2.1
          have hi5 : k < M := by have := HAr.out; omega
          clear h hN hla hn hk hkn hpb hmid hlo hbr hsz hhi l1 l2 hba HY HM
          go_wp2_with fail
        all_goals
          go_quiet (fail)
          have HO3 := hidden (HO2.out.trans (Outs.drewN b' mid w2 nq))
          have HT0 := hidden ht0
          clear d0 d1 d2 g0 g1 g2 hk0 hn0 ht0 HO2
          generalize w2.drewN nq = w3 at *
          clear w2
          go_wp2_with (refine put_item (by rfl) _ _ (by rfl) b (k * 4) (n + 2) (-9) 0 ⟨#[]⟩ none 0 0 (HRw.out _ HO3.out) (by rfl) (by rfl) (by have := HAr.out; omega) ?_; intro v HV; refine Hid.out ?_)
          apply hidden
          have HN : Hid (∃ lo, KeptR w v (a.drop (k + 1)) n b hi (k + 1) lo) := hidden ⟨mid, HSt.out _ _ HO3.out HV⟩
          clear HV HSt HRw HO3
          have hkb : (k : Int) ≤ 200000 := by have := HAr.out; omega
          go_wp2
          go_roundw
          case rel => exact ⟨k + 1, by have := HAr.out; omega, (by first | rw [HT0.out] | rfl), by go_num, HN⟩
          case measure => have := HAr.out; simp [intOf]; omega
      · by_cases hkm : k < n + 2
        · have hi1 : (0 : Int) ≤ k := by omega
          have hi2 : ¬ (k : Int) < n := by omega
          have hi3 : (k : Int) < (M : Int) := by omega
          have HM := hidden hM
          clear hM
          have hbr := hK.hr.lt
          have hhb := hK.hlo
          have hle := Its.Ln.le _ _ _ _ _ hK.hl
          have c0 := hK.hs k (by omega) (by omega) (Nat.le_refl _)
          rw [Nat.mul_comm 4 k] at c0
          have hdn : ∀ j, n ≤ j → a.drop j = .nil := by
            intro j hj
            have := Its.drop_len a j
            cases hd : a.drop j with
            | nil => rfl
            | cons => rw [hd] at this; simp only [Its.len] at this; omega
          have HSt : Hid (∀ w2 v, Outs hi hi wr w2 → Hid (v = w2.setCells b (k * 4) [.int .i64 (-9), .int .i64 0, .string ⟨#[]⟩, .slice none 0 0]) → KeptR w v (a.drop (k + 1)) n b hi (k + 1) hi) := by
            refine hidden fun w2 v h1 h2 => ?_
            rw [hdn _ (by omega)]
            exact kept_step (ra := .nil) (b' := hi) (mid := hi) hK.ho hK.hr (Nat.le_refl _) hK.hs (by omega) (Nat.le_refl _) (by omega) h1 h2.out
          have HRw : Hid (∀ w2, Outs hi hi wr w2 → RowB w2 b (n + 2)) := hidden fun w2 h1 => hK.hr.same (h1.block b (by omega) (by omega))
          clear hK hYr HK H0 Hih hdn
          go_wp2_with (refine put_item (by rfl) _ _ (by rfl) b (k * 4) (n + 2) (-9) 0 ⟨#[]⟩ none 0 0 (HRw.out _ (by first | exact Outs.refl _ _ _ | exact Outs.drewN _ _ _ _)) (by rfl) (by rfl) (by have := HM.out; omega) ?_; intro v HV; refine Hid.out ?_)
          apply hidden
          have HN : Hid (∃ lo, KeptR w v (a.drop (k + 1)) n b hi (k + 1) lo) := hidden ⟨hi, HSt.out _ _ (by first | exact Outs.refl _ _ _ | exact Outs.drewN _ _ _ _) HV⟩
          clear HV HSt HRw c0
          go_wp2
          go_roundw
          case rel => exact ⟨k + 1, by omega, rfl, by go_num, HN⟩
          case measure => simp [intOf]; omega
        · obtain rfl : k = M := by omega
          have HO := hidden hK.ho
          clear hK hYr HK H0 Hih
          go_wp2_with fail
          go_ret
          exact ⟨rfl, HO.out⟩

set_option maxRecDepth 100000 in
/-- kept: it was kept; what was lent is written over, and nothing else. -/
theorem kept_any (a : Its) (b hi : Nat) (yo : Option Addr) (n cy : Nat) (w : World) (hL : LentS w a b hi) (hh : hi ≤ w.heap.size) (hy : SlI w (fun k => k < b ∨ hi ≤ k) yo n cy a) (hs : a.sz ≤ 100000) :
    Calls Tryz.prog 12 #[.slice (some ⟨b, 0, none⟩) n (n + 2), .slice yo n cy] w fun e w' => e = .returned (.bool true) ∧ Outs b hi w w' :=
  kept_all (a.sz + 1) a (by omega) (by omega) b hi yo n cy w hL hh hy
end Go.Proofs.YtfdiflfjefhjfaaGreatDoor
