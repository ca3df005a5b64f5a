/- The document's Load, Pages. -/
import Derived.Test.YtikpfcapnpppdaaPm4
import Derived.Test.YtikpfcapnpppdaaPm1
namespace Go.Proofs.Ytikpfcapnpppdaa
open Go.RowKit

set_option maxRecDepth 100000 in
theorem Rl.copy {w u : World} {B a page n q : Nat} {l' : List Int} {vL : Value} {qs : List Nat} (ha : w.heap[a]? = some (.cells (rrow page vL).toArray 59 (0, 0))) (ho : w.ownsRow B 35 1 vL n (qs.map fun q => Value.slice (some ⟨q, 0, none⟩) page page)) (hl : qs.length = n)
    (hq : ∀ q ∈ qs, B ≤ q ∧ q ≠ a ∧ vL.ownBlock ≠ some q ∧ ∃ l : List Int, l.length = page ∧ w.heap[q]? = some (.cells (By l).toArray 5 (0, 0))) (hg : ∀ g, vL.ownBlock = some g → g ≠ a) (hB : B ≤ a) (hm : q ∈ qs) (hl' : l'.length = page) (hu : u = w.setRow q (By l').toArray) : Rl u B a page n := by
  subst hu
  obtain ⟨b1, b2, b3, l0, b4, b5⟩ := hq q hm
  refine ⟨vL, qs, ?_, ⟨ho.1, ?_⟩, hl, ?_, hg, hB⟩
  · rw [setRow_other _ _ _ _ (Ne.symm b2)]; exact ha
  · rcases ho.2 with h0 | ⟨g, cap, cur, rfl, g1, g2, g3⟩
    · exact .inl h0
    · refine .inr ⟨g, cap, cur, rfl, g1, ?_, g3⟩
      rw [setRow_other _ _ _ _ (fun e => b3 (by rw [← e]; rfl))]
      exact g2
  · intro q' hq'
    obtain ⟨c1, c2, c3, l1, c4, c5⟩ := hq q' hq'
    refine ⟨c1, c2, c3, ?_⟩
    by_cases e : q' = q
    · subst e
      exact ⟨l', hl', setRow_heap _ _ _ _ _ _ b5⟩
    · exact ⟨l1, c4, by rw [setRow_other _ _ _ _ e]; exact c5⟩

set_option maxRecDepth 100000 in
theorem rPages_any (w : World) (B a page n : Nat) (h : Rl w B a page n) : Calls Try.prog 14 #[.pointer (some ⟨a, 0, none⟩)] w fun e w' => e = .returned (.int .i64 n) ∧ w' = w := by
  obtain ⟨vL, qs, ha, ho, hl, hq, hg, hB⟩ := h
  obtain ⟨ao, c, hv⟩ : ∃ ao c, vL = .slice ao n c := by
    rcases ho.2 with ⟨rfl, h0⟩ | ⟨g, cap, cur, rfl, _⟩
    · exact ⟨none, 0, by rw [h0]⟩
    · exact ⟨_, cap, rfl⟩
  have c1 : w.cell? ⟨a, 1, none⟩ = some (.slice ao n c) := by rw [← hv]; exact cell_of_row ha
  clear ha ho hl hq hg hB hv
  go_enter Try.func14, Try.ntmps14
  go_wp2
  go_ret
  exact ⟨rfl, rfl⟩

set_option maxRecDepth 100000 in
theorem rLoad_page (w : World) (ao : Option Addr) (n c : Nat) (x : Int) (h : pgs x = false) : Calls Try.prog 58 #[.slice ao n c, .int .i64 x] w fun e w' => e = .returned (.tuple #[.pointer none, .int .i64 32]) ∧ w' = w := by
  have hp := IsPage_any x w
  rw [h] at hp
  go_enter Try.func58, Try.ntmps58
  go_wp2_with (go_at_call 50; refine same_call hp ?_)
  go_ret2
  exact ⟨rfl, rfl⟩
set_option maxRecDepth 100000 in
theorem rLoad_rest (w : World) (ao : Option Addr) (n c : Nat) (x : Nat) (hn : n ≤ 140737488355328) (h : pgs x = true) (hm : n % x ≠ 0) : Calls Try.prog 58 #[.slice ao n c, .int .i64 (x : Int)] w fun e w' => e = .returned (.tuple #[.pointer none, .int .i64 32]) ∧ w' = w := by
  have hp := IsPage_any x w
  rw [h] at hp
  simp only [pgs, decide_eq_true_eq] at h
  have h1 : (512 : Int) ≤ x := by omega
  have h2 : (x : Int) ≤ 65536 := by omega
  have hmi : ¬ ((n : Int) % (x : Int) = 0) := by omega
  clear h hm
  go_enter Try.func58, Try.ntmps58
  go_wp2_with (go_at_call 50; refine same_call hp ?_)
  go_ret2
  exact ⟨rfl, rfl⟩
set_option maxRecDepth 100000 in
theorem rLoad_dev (w : World) (ao : Option Addr) (n c : Nat) (x y : Nat) (hn : n ≤ 140737488355328) (h : pgs x = true) (hm : n = x * y) (hd : dev x y = false) : Calls Try.prog 58 #[.slice ao n c, .int .i64 (x : Int)] w fun e w' => e = .returned (.tuple #[.pointer none, .int .i64 32]) ∧ w' = w := by
  have hp := IsPage_any x w
  rw [h] at hp
  have hN := rNew_no x y w hd
  simp only [pgs, decide_eq_true_eq] at h
  have h1 : (512 : Int) ≤ x := by omega
  have h2 : (x : Int) ≤ 65536 := by omega
  have hm0 : (n : Int) % (x : Int) = 0 := by rw [hm]; simp
  have hq : (n : Int) / (x : Int) = (y : Int) := by rw [hm, Int.natCast_mul]; exact Int.mul_ediv_cancel_left _ (by omega)
  have hyb : (y : Int) ≤ 140737488355328 := by
    have : y ≤ x * y := Nat.le_mul_of_pos_left _ (by omega)
    omega
  clear h hm
  go_enter Try.func58, Try.ntmps58
  go_wp2_with (first | (go_at_call 50; refine same_call hp ?_) | (go_at_call 7; refine same_call hN ?_))
  go_ret2
  exact ⟨rfl, rfl⟩

set_option maxRecDepth 100000 in
set_option maxHeartbeats 2000000 in
theorem rLoad_yes (w : World) (ao : Option Addr) (n c : Nat) (l : List Int) (x y : Nat) (hs : Sl w ao n c l) (hm : n = x * y) (hd : dev x y = true) : Calls Try.prog 58 #[.slice ao n c, .int .i64 (x : Int)] w fun e w' => ∃ a, e = .returned (.tuple #[.pointer (some ⟨a, 0, none⟩), .int .i64 0]) ∧ Rl w' w.heap.size a x y ∧ Below w.heap.size w w' := by
  obtain ⟨i0, hi, hz0, hz1, hz2⟩ := info_parts info5
  have hsz : (Try.prog.info? 5).map (·.size) = some 1 := by rw [hi]; simp [hz1]
  have h : pgs x = true := by simp only [dev, decide_eq_true_eq] at hd; exact hd.1
  have hp := IsPage_any x w
  rw [h] at hp
  have hN := rNew_yes x y w hd
  have hroom := hs.hroom
  have h4 : 4 ≤ y ∧ y ≤ 65536 := by simp only [dev, decide_eq_true_eq] at hd; omega
  obtain ⟨h4, h5⟩ := h4
  simp only [pgs, decide_eq_true_eq] at h
  have h1 : (512 : Int) ≤ x := by omega
  have h2 : (x : Int) ≤ 65536 := by omega
  have hm0 : (n : Int) % (x : Int) = 0 := by rw [hm]; simp
  have hq : (n : Int) / (x : Int) = (y : Int) := by rw [hm, Int.natCast_mul]; exact Int.mul_ediv_cancel_left _ (by omega)
  have hn0 : 0 < n := by rw [hm]; exact Nat.mul_pos (by omega) (by omega)
  have HLEN := hidden hs.hlen
  obtain ⟨b, off, rfl, hbl, hsrc⟩ := sl_src hs hn0
  have hcap := hs.hcap
  have HSR := hidden hsrc
  have HM := hidden hm
  clear h hm hs hsrc hi hz0 hz1 hz2 hd
  go_enter Try.func58, Try.ntmps58
  go_wp2_with (first | (go_at_call 50; refine same_call hp ?_) | (go_at_call 7; refine hN.mono ?_; rintro e w1 ⟨a, rfl, hD, hb⟩; have HD := hidden hD; have HB := hidden hb; clear hD hb; refine Hid.out ?_))
  apply hidden
  clear hN hp hm0 hq
  go_wp2_with fail
  go_loopw [8] (fun i wr => ∃ k : Nat, k ≤ y ∧ i = .int .i64 k ∧ Hid (Rl wr w.heap.size a x y) ∧ Hid (Below w.heap.size w wr)) (fun i _ => y - (intOf i).toNat)
  case atStart => exact ⟨0, by omega, rfl, HD, HB⟩
  case round =>
    obtain ⟨k, hk, rfl, HRL, HBR⟩ := hrel
    obtain ⟨vL, qs, ha, ho, hl, hqs, hg, hB⟩ := HRL.out
    obtain ⟨gL, cL, hv⟩ : ∃ g c, vL = .slice (some ⟨g, 0, none⟩) y c := by
      rcases ho.2 with ⟨rfl, h0⟩ | ⟨g, cap, cur, rfl, _⟩
      · omega
      · exact ⟨g, cap, rfl⟩
    subst hv
    have c1 : wr.cell? ⟨a, 1, none⟩ = some (.slice (some ⟨gL, 0, none⟩) y cL) := cell_of_row ha
    by_cases hlt : k < y
    · have hlt' : (k : Int) < (y : Int) := by omega
      obtain ⟨q, hqk⟩ : ∃ q, qs[k]? = some q := ⟨_, List.getElem?_eq_getElem (by omega)⟩
      have hmem : q ∈ qs := List.mem_of_getElem? hqk
      obtain ⟨q1, q2, q3, l0, q4, q5⟩ := hqs q hmem
      have ck : wr.cell? ⟨gL, k, none⟩ = some (.slice (some ⟨q, 0, none⟩) x x) := by
        rw [World.ownsRow.cellAt ho k (by omega), List.getElem?_map, hqk]; rfl
      obtain ⟨z, hz⟩ : ∃ z, k * x = z := ⟨_, rfl⟩
      have hzi : (k : Int) * (x : Int) = (z : Int) := by rw [← hz]; simp
      have hzn : z + x ≤ n := by rw [← hz, HM.out, Nat.mul_comm x y]; exact mul_far hlt
      have hzn' : (z : Int) ≤ (n : Int) := by omega
      have hzc : (z : Int) ≤ (c : Int) := by omega
      have hzc' : ¬ (c = z) := by omega
      have hnb : (n : Int) ≤ 140737488355328 := by omega
      have hzb : (z : Int) ≤ 140737488355328 := by omega
      have hzw : IntKind.i64.wrap (z : Int) = (z : Int) := by rw [IntKind.wrap_i64]; omega
      have HCP := hidden (fun u (l' : List Int) (hl' : l'.length = x) (hu : u = wr.drew.setRow q (By l').toArray) => Rl.copy (w := wr.drew) ha ho hl hqs hg hB hmem hl' hu)
      have HQ5 := hidden q5
      have HQ1 := hidden q1
      have HSRC : Hid (∀ j v, (By (pgOf x l k))[j]? = some v → wr.drew.cell? ((⟨b, off + z, none⟩ : Addr).add j) = some v) := hidden fun j v hv => by
        obtain ⟨h1, rfl⟩ := getElem?_By _ j v hv
        have h1' : j < x := by
          have : (pgOf x l k).length ≤ x := by unfold pgOf; rw [List.length_take]; omega
          omega
        have hg : (pgOf x l k).getD j 0 = l.getD (z + j) 0 := by
          simp only [List.getD]
          rw [pgOf_get, if_pos h1', hz]
        have h2 := HSR.out (z + j) (.int .u8 (l.getD (z + j) 0)) (getD_By _ _ (by rw [HLEN.out]; omega))
        rw [Addr.add_lit] at h2 ⊢
        rw [hg, Nat.add_assoc]
        exact (HBR.out.cell (p := ⟨b, off + (z + j), none⟩) hbl).trans h2
      have HPL : Hid ((pgOf x l k).length = x) := hidden (by
        unfold pgOf
        rw [List.length_take, List.length_drop, HLEN.out, hz]
        omega)
      have HMN : Hid ((By (pgOf x l k)).length = Nat.min (n - z) x) := hidden (by rw [By_length, HPL.out]; exact (Nat.min_eq_right (by omega)).symm)
      have HF5 : Hid (0 + (By (pgOf x l k)).length ≤ (By l0).length) := hidden (by rw [By_length, By_length, HPL.out, q4]; omega)
      have HL0 := hidden q4
      clear ha ho hl hqs hg hB q1 q2 q3 q4 q5 hqk hmem hz hzn HRL
      generalize pgOf x l k = P at *
      go_wp2_with fail
      go_region_law (refine step_copy_row rfl _ _ 35 35 rfl 5 Try.underlying35 hsz q 0 x x ⟨b, off + z, none⟩ (n - z) (c - z) rfl rfl (By l0) 5 HQ5.out (By P) HMN.out HSRC.out HF5.out (By_one _) ?_; intro u3 HU)
      all_goals
        have hu : u3 = wr.drew.setRow q (By P).toArray := by rw [HU.out, splice_all _ _ (by rw [By_length, By_length, HPL.out, HL0.out])]
        have HN : Hid (Rl u3 w.heap.size a x y) := hidden (HCP.out _ P HPL.out hu)
        have HBN : Hid (Below w.heap.size w u3) := hidden (by rw [hu]; exact below_setRow HBR.out.drew HQ1.out _)
        clear hu HU HCP HQ5 HSRC HMN HF5
        go_wp2
        go_roundw
        case rel => exact ⟨k + 1, by omega, by go_num, HN, HBN⟩
        case measure => simp [intOf]; omega
    · have hge : ¬ ((k : Int) < (y : Int)) := by omega
      clear ha ho hl hqs hg hB
      go_wp2
      go_ret2
      exact ⟨_, rfl, HRL.out, HBR.out⟩
end Go.Proofs.Ytikpfcapnpppdaa
