/- Layer 7: the law's apart. -/
import Derived.Test.YtobfkcepjnjfpaaGreatDoorJ41
namespace Go.Proofs.YtobfkcepjnjfpaaGreatDoor
open Go.RowKit

/-- A list of cells, its first j written. -/
def Fi7 (w : World) (C g : Nat) (ao : Option Addr) (n ac j : Nat) (x : Int) : Prop := (ao = none ∧ n = 0 ∧ ac = 0) ∨ (ao = some ⟨g, 0, none⟩ ∧ A7 w C g n ac j x)
set_option maxRecDepth 100000 in
theorem Fi7.cf {F : Nat → Prop} {w u : World} {C g n ac j : Nat} {ao : Option Addr} {x : Int} (h : Fi7 w C g ao n ac j x) (hc : Cf F w u) (hg : ¬ F g) : Fi7 u C g ao n ac j x := h.imp id fun h => ⟨h.1, h.2.cf hc hg⟩
set_option maxRecDepth 100000 in
theorem Fi7.own {w : World} {C g n ac : Nat} {ao : Option Addr} {x : Int} (h : Fi7 w C g ao n ac n x) : w.ownsRow C 37 5 (.slice ao n ac) n (rz7 x n) := by
  rcases h with ⟨rfl, rfl, rfl⟩ | ⟨rfl, h⟩
  · exact World.ownsRow_nil _ _ _ _
  · exact h.own
set_option maxRecDepth 100000 in
theorem Fi7.re {w : World} {C g n ac : Nat} {ao : Option Addr} {x : Int} (h : Fi7 w C g ao n ac n x) : Re7 w g n x := by
  rcases h with ⟨rfl, rfl, rfl⟩ | ⟨rfl, h⟩
  · intro i hi; omega
  · intro i hi
    exact h.2.2.2.2 i hi 1 _ rfl
set_option maxRecDepth 100000 in
theorem Fi7.blk {w : World} {C g n ac j : Nat} {ao : Option Addr} {x : Int} (h : Fi7 w C g ao n ac j x) : (Value.slice ao n ac).ownBlock = none ∨ (Value.slice ao n ac).ownBlock = some g := by
  rcases h with ⟨rfl, _⟩ | ⟨rfl, _⟩
  · exact .inl rfl
  · exact .inr rfl
set_option maxRecDepth 100000 in
theorem Fi7.two {w : World} {C ga gb n m ac bc : Nat} {ao bo : Option Addr} {x y : Int} (h : Fi7 w C ga ao n ac n x) (k : Fi7 w C gb bo m bc m y) (hab : ga ≠ gb) : Ap7 w C (.slice ao n ac) (.slice bo m bc) n m n m ga gb x y :=
  ⟨h.own, k.own, h.re, k.re, by
    rcases h.blk with e | e
    · exact .inl e
    · right
      rw [e]
      rcases k.blk with q | q
      · rw [q]; simp
      · rw [q]; intro z; injection z with z; exact hab z, by
    right
    rcases h.blk with e | e
    · rw [e]; simp
    · rw [e]; intro z; injection z with z; exact hab z, by
    right
    rcases k.blk with e | e
    · rw [e]; simp
    · rw [e]; intro z; injection z with z; exact hab z.symm, Nat.le_refl _, Nat.le_refl _⟩
set_option maxRecDepth 100000 in
set_option maxHeartbeats 8000000 in
theorem apart7 (w : World) (ao bo : Option Addr) (n ac m bc C ga gb : Nat) (hC : C ≤ w.heap.size) (ha : Fi7 w C ga ao n ac 0 (-5)) (hb : Fi7 w C gb bo m bc 0 (-6)) (hab : ga ≠ gb) (hn : n ≤ 200000) (hm : m ≤ 200000) :
    Calls Tryz.prog 16 #[.slice ao n ac, .slice bo m bc] w fun e w' => e = .returned (.bool true) ∧ Below C w w' := by
  have HC := hidden hC
  have HW0 : Hid (Below C w w) := hidden (Below.refl _ _)
  have HA := hidden ha
  have HB := hidden hb
  have hnI : (n : Int) ≤ 200000 := by omega
  have hmI : (m : Int) ≤ 200000 := by omega
  have HAB := hidden hab
  clear ha hb hab hC
  go_enter Tryz.func16, Tryz.ntmps16
  go_wp2_with fail
  go_loopw [5] (fun i wr => ∃ j : Nat, i = .int .i64 (j : Int) ∧ j ≤ n ∧ Hid (Fi7 wr C ga ao n ac j (-5)) ∧ Hid (Fi7 wr C gb bo m bc 0 (-6)) ∧ Hid (Below C w wr)) (fun i _ => n - (RowKit.intOf i).toNat)
  case atStart => exact ⟨0, rfl, by omega, HA, HB, HW0⟩
  case round =>
    clear HA HB HW0
    obtain ⟨j, rfl, hj, HA, HB, HW0⟩ := hrel
    have bj : (j : Int) ≤ 200000 := by omega
    by_cases hlt : j < n
    · have hltI : (j : Int) < (n : Int) := by omega
      obtain ⟨rfl, hA⟩ : ao = some ⟨ga, 0, none⟩ ∧ A7 wr C ga n ac j (-5) := by
        rcases HA.out with h | h
        · omega
        · exact h
      have HRC := hidden hA.2.2.2.1
      have HAA := hidden hA
      have hac := hA.2.1
      have HCG := hidden hA.1
      clear hA
      go_wp2_with (refine put_cell (by rfl) _ _ (by rfl) ga (j * 5) ac none none 0 0 0 0 (-5) 0 0 HRC.out (by rfl) (by rfl) (by omega) ?_; intro u HU; refine Hid.out ?_)
      apply hidden
      have HA2 : Hid (Fi7 u C ga (some ⟨ga, 0, none⟩) n ac (j + 1) (-5)) := hidden (.inr ⟨rfl, by rw [HU.out]; exact HAA.out.set hlt⟩)
      have HB2 : Hid (Fi7 u C gb bo m bc 0 (-6)) := hidden (HB.out.cf (F := (· = ga)) (by rw [HU.out]; exact Cf.sets7 _ _ _) (fun e => HAB.out e.symm))
      have HW2 : Hid (Below C w u) := hidden (HW0.out.trans (by rw [HU.out]; exact (Cf.sets7 _ _ _).below (Nat.le_trans HC.out HW0.out.size) (fun k hk e => by have := HCG.out; omega)))
      clear HU HRC hac
      go_wp2
      go_roundw
      case rel => exact ⟨j + 1, by go_num, by omega, HA2, HB2, HW2⟩
      case measure => simp [RowKit.intOf]; omega
    · obtain rfl : j = n := by omega
      have hltI : ¬ (j : Int) < (j : Int) := by omega
      go_wp2_with fail
      clear hltI hlt
      go_loopw [6] (fun i wr => ∃ q : Nat, i = .int .i64 (q : Int) ∧ q ≤ m ∧ Hid (Fi7 wr C ga ao j ac j (-5)) ∧ Hid (Fi7 wr C gb bo m bc q (-6)) ∧ Hid (Below C w wr)) (fun i _ => m - (RowKit.intOf i).toNat)
      case atStart => exact ⟨0, rfl, by omega, HA, HB, HW0⟩
      case round =>
        clear HA HB HW0
        obtain ⟨q, rfl, hq, HA, HB, HW0⟩ := hrel
        have bq : (q : Int) ≤ 200000 := by omega
        by_cases hlt : q < m
        · have hltI : (q : Int) < (m : Int) := by omega
          obtain ⟨rfl, hA⟩ : bo = some ⟨gb, 0, none⟩ ∧ A7 wr C gb m bc q (-6) := by
            rcases HB.out with h | h
            · omega
            · exact h
          have HRC := hidden hA.2.2.2.1
          have HAA := hidden hA
          have hac := hA.2.1
          have HCG := hidden hA.1
          clear hA
          go_wp2_with (refine put_cell (by rfl) _ _ (by rfl) gb (q * 5) bc none none 0 0 0 0 (-6) 0 0 HRC.out (by rfl) (by rfl) (by omega) ?_; intro u HU; refine Hid.out ?_)
          apply hidden
          have HB2 : Hid (Fi7 u C gb (some ⟨gb, 0, none⟩) m bc (q + 1) (-6)) := hidden (.inr ⟨rfl, by rw [HU.out]; exact HAA.out.set hlt⟩)
          have HA2 : Hid (Fi7 u C ga ao j ac j (-5)) := hidden (HA.out.cf (F := (· = gb)) (by rw [HU.out]; exact Cf.sets7 _ _ _) HAB.out)
          have HW2 : Hid (Below C w u) := hidden (HW0.out.trans (by rw [HU.out]; exact (Cf.sets7 _ _ _).below (Nat.le_trans HC.out HW0.out.size) (fun k hk e => by have := HCG.out; omega)))
          clear HU HRC hac
          go_wp2
          go_roundw
          case rel => exact ⟨q + 1, by go_num, by omega, HA2, HB2, HW2⟩
          case measure => simp [RowKit.intOf]; omega
        · obtain rfl : q = m := by omega
          have hltI : ¬ (q : Int) < (q : Int) := by omega
          have HAP : Hid (Ap7 wr C (.slice ao j ac) (.slice bo q bc) j q j q ga gb (-5) (-6)) := hidden (HA.out.two HB.out HAB.out)
          have HAO : Hid (0 < j → ao = some ⟨ga, 0, none⟩) := hidden (fun h0 => by
            rcases HA.out with h | h
            · omega
            · exact h.1)
          have HBO : Hid (0 < q → bo = some ⟨gb, 0, none⟩) := hidden (fun h0 => by
            rcases HB.out with h | h
            · omega
            · exact h.1)
          go_wp2_with fail
          clear hltI hlt
          go_loopw [7, 8, 9] (fun c d i wr => ∃ (vc vd : Value) (k : Nat), vc = c ∧ vd = d ∧ i = .int .i64 (k : Int) ∧ k ≤ 9 ∧ Hid (Ap7 wr C vc vd (j + k) (q + k) j q ga gb (-5) (-6)) ∧ Hid (Below C w wr)) (fun _ _ i _ => 9 - (RowKit.intOf i).toNat)
          case atStart => exact ⟨_, _, 0, rfl, rfl, rfl, by omega, HAP, HW0⟩
          case round =>
            clear HW0
            obtain ⟨vc, vd, k, hvc, hvd, rfl, hk, HP, HW0⟩ := hrel
            subst hvc
            subst hvd
            by_cases hlt : k < 9
            · have hltI : (k : Int) < 9 := by omega
              obtain ⟨y, hy⟩ : ∃ y, wr.alloc (.cells #[.slice none 0 0, .int .i64 (-5), .slice none 0 0, .int .i64 0, .int .i64 0] 37) = y := ⟨_, rfl⟩
              have hby : Below wr.heap.size wr y := by rw [← hy]; exact bl_al (Below.refl _ _) (Nat.le_refl _) _
              have HPY := hidden (HP.out.on hby)
              have HCY : Hid (∀ t u, (cz7 (-5))[t]? = some u → y.cell? ⟨wr.heap.size, 0 + t, none⟩ = some u) := hidden (by
                obtain ⟨f0, f1, f2, f3, f4⟩ := (C5.box wr (.slice none 0 0) (.int .i64 (-5)) (.slice none 0 0) (.int .i64 0) (.int .i64 0)).cells
                rw [hy] at f0 f1 f2 f3 f4
                intro i u hu
                have hj5 : i < 5 := (List.getElem?_eq_some_iff.1 hu).1
                have hj' : i = 0 ∨ i = 1 ∨ i = 2 ∨ i = 3 ∨ i = 4 := by omega
                rcases hj' with rfl | rfl | rfl | rfl | rfl <;> (simp only [cz7, List.getElem?_cons_zero, List.getElem?_cons_succ, Option.some.injEq] at hu; subst hu; assumption))
              have HWY : Hid (Below C w y) := hidden (HW0.out.trans (hby.mono (Nat.le_trans HC.out HW0.out.size)))
              clear hby HP
              go_wp2_with (at_builtin; refine app_cz7 _ rfl _ _ rfl C (j + k) (-5) vc wr.heap.size rfl rfl HPY.out.c HCY.out (by omega) (Nat.le_trans HC.out HWY.out.size) ?_; intro v1 u1 HO1 HM1; refine Hid.out ?_)
              apply hidden
              have HP1 : Hid (Ap7 u1 C v1 vd (j + (k + 1)) (q + k) j q ga gb (-5) (-6)) := hidden (HPY.out.step HO1.out HM1.out)
              have HW1 : Hid (Below C w u1) := hidden (HWY.out.trans (HM1.out.below HPY.out.c (Nat.le_trans HC.out HWY.out.size)))
              clear HPY HCY HO1 HM1 hy HWY
              obtain ⟨y2, hy⟩ : ∃ y, u1.alloc (.cells #[.slice none 0 0, .int .i64 (-6), .slice none 0 0, .int .i64 0, .int .i64 0] 37) = y := ⟨_, rfl⟩
              have hby : Below u1.heap.size u1 y2 := by rw [← hy]; exact bl_al (Below.refl _ _) (Nat.le_refl _) _
              have HPY := hidden (HP1.out.on hby)
              have HCY : Hid (∀ t u, (cz7 (-6))[t]? = some u → y2.cell? ⟨u1.heap.size, 0 + t, none⟩ = some u) := hidden (by
                obtain ⟨f0, f1, f2, f3, f4⟩ := (C5.box u1 (.slice none 0 0) (.int .i64 (-6)) (.slice none 0 0) (.int .i64 0) (.int .i64 0)).cells
                rw [hy] at f0 f1 f2 f3 f4
                intro i u hu
                have hj5 : i < 5 := (List.getElem?_eq_some_iff.1 hu).1
                have hj' : i = 0 ∨ i = 1 ∨ i = 2 ∨ i = 3 ∨ i = 4 := by omega
                rcases hj' with rfl | rfl | rfl | rfl | rfl <;> (simp only [cz7, List.getElem?_cons_zero, List.getElem?_cons_succ, Option.some.injEq] at hu; subst hu; assumption))
              have HWY : Hid (Below C w y2) := hidden (HW1.out.trans (hby.mono (Nat.le_trans HC.out HW1.out.size)))
              clear hby HP1
              go_wp2_with (at_builtin; refine app_cz7 _ rfl _ _ rfl C (q + k) (-6) vd u1.heap.size rfl rfl HPY.out.d HCY.out (by omega) (Nat.le_trans HC.out HWY.out.size) ?_; intro v2 u2 HO2 HM2; refine Hid.out ?_)
              apply hidden
              have HP2 : Hid (Ap7 u2 C v1 v2 (j + (k + 1)) (q + (k + 1)) j q ga gb (-5) (-6)) := hidden ((HPY.out.swap.step HO2.out HM2.out).swap)
              have HW2 : Hid (Below C w u2) := hidden (HWY.out.trans (HM2.out.below HPY.out.d (Nat.le_trans HC.out HWY.out.size)))
              clear HPY HCY HO2 HM2 hy HWY
              go_wp2
              go_roundw
              case rel => exact ⟨_, _, k + 1, rfl, rfl, by go_num, by omega, HP2, HW2⟩
              case measure => simp [RowKit.intOf]; omega
            · obtain rfl : k = 9 := by omega
              have hltI : ¬ (9 : Int) < 9 := by omega
              obtain ⟨gc, cc, hvc, rc⟩ : ∃ gc cc, vc = .slice (some ⟨gc, 0, none⟩) (j + 9) cc ∧ Re7 wr gc (j + 9) (-5) := by
                have h := HP.out.c
                rcases h.2 with ⟨_, h0⟩ | ⟨g, cap, cur, e, _⟩
                · omega
                · exact ⟨g, cap, e, Re7.of_own h (by rw [e]; rfl) (Nat.le_refl _)⟩
              obtain ⟨gd, dc, hvd, rd⟩ : ∃ gd dc, vd = .slice (some ⟨gd, 0, none⟩) (q + 9) dc ∧ Re7 wr gd (q + 9) (-6) := by
                have h := HP.out.d
                rcases h.2 with ⟨_, h0⟩ | ⟨g, cap, cur, e, _⟩
                · omega
                · exact ⟨g, cap, e, Re7.of_own h (by rw [e]; rfl) (Nat.le_refl _)⟩
              subst hvc
              subst hvd
              have RC := hidden rc
              have RD := hidden rd
              have RA := hidden HP.out.ra
              have RB := hidden HP.out.rb
              obtain ⟨L, hL⟩ : ∃ L, j + 9 = L := ⟨_, rfl⟩
              obtain ⟨K, hK⟩ : ∃ K, q + 9 = K := ⟨_, rfl⟩
              rw [hL] at RC ⊢
              rw [hK] at RD ⊢
              have HLL := hidden hL
              have HKK := hidden hK
              have hLb : (L : Int) ≤ 200009 := by omega
              have hKb : (K : Int) ≤ 200009 := by omega
              clear rc rd HP hL hK
              go_wp2_with fail
              clear hltI hlt
              go_loopw [10] (fun i w' => ∃ t : Nat, i = .int .i64 (t : Int) ∧ t ≤ L ∧ Hid (Re7 w' gc L (-5)) ∧ Hid (Re7 w' ga j (-5)) ∧ Hid (Re7 w' gd K (-6)) ∧ Hid (Re7 w' gb q (-6)) ∧ Hid (Below C w w')) (fun i _ => L - (RowKit.intOf i).toNat)
              case atStart => exact ⟨0, rfl, by omega, RC, RA, RD, RB, HW0⟩
              case round =>
                clear RC RA RD RB HW0
                obtain ⟨t, rfl, ht, RC, RA, RD, RB, HW0⟩ := hrel
                have bt : (t : Int) ≤ 200009 := by omega
                by_cases hlt : t < L
                · have hltI : (t : Int) < (L : Int) := by omega
                  have c0 := RC.out t hlt
                  by_cases hta : t < j
                  · have htI : (t : Int) < (j : Int) := by omega
                    have c1 := RA.out t hta
                    have hao := HAO.out (by omega)
                    subst hao
                    go_wp2
                    go_roundw
                    case rel => exact ⟨t + 1, by go_num, by omega, RC, RA, RD, RB, HW0⟩
                    case measure => simp [RowKit.intOf]; omega
                  · have htI : ¬ (t : Int) < (j : Int) := by omega
                    go_wp2
                    go_roundw
                    case rel => exact ⟨t + 1, by go_num, by omega, RC, RA, RD, RB, HW0⟩
                    case measure => simp [RowKit.intOf]; omega
                · obtain rfl : t = L := by omega
                  have hltI : ¬ (t : Int) < (t : Int) := by omega
                  go_wp2_with fail
                  clear hltI hlt
                  go_loopw [11] (fun i w2 => ∃ s : Nat, i = .int .i64 (s : Int) ∧ s ≤ K ∧ Hid (Re7 w2 gd K (-6)) ∧ Hid (Re7 w2 gb q (-6)) ∧ Hid (Below C w w2)) (fun i _ => K - (RowKit.intOf i).toNat)
                  case atStart => exact ⟨0, rfl, by omega, RD, RB, HW0⟩
                  case round =>
                    clear RC RA RD RB HW0
                    obtain ⟨s, rfl, hs, RD, RB, HW0⟩ := hrel
                    have bs : (s : Int) ≤ 200009 := by omega
                    by_cases hlt : s < K
                    · have hltI : (s : Int) < (K : Int) := by omega
                      have c0 := RD.out s hlt
                      by_cases hta : s < q
                      · have htI : (s : Int) < (q : Int) := by omega
                        have c1 := RB.out s hta
                        have hbo := HBO.out (by omega)
                        subst hbo
                        go_wp2
                        go_roundw
                        case rel => exact ⟨s + 1, by go_num, by omega, RD, RB, HW0⟩
                        case measure => simp [RowKit.intOf]; omega
                      · have htI : ¬ (s : Int) < (q : Int) := by omega
                        go_wp2
                        go_roundw
                        case rel => exact ⟨s + 1, by go_num, by omega, RD, RB, HW0⟩
                        case measure => simp [RowKit.intOf]; omega
                    · obtain rfl : s = K := by omega
                      have hltI : ¬ (s : Int) < (s : Int) := by omega
                      go_wp2
                      go_ret
                      exact ⟨rfl, HW0.out⟩
end Go.Proofs.YtobfkcepjnjfpaaGreatDoor
