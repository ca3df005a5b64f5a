/- The device's Image, with loose writes; its pages. -/
import Derived.Test.YtikpfcapnpppdaaPm1
namespace Go.Proofs.Ytikpfcapnpppdaa
open Go.RowKit

/-- The pages as the first k of them are read. -/
def imD (d : D) : Nat → List Int
  | 0 => d.safe
  | k + 1 => if 0 < d.last.getD k 0 then splice (imD d k) (k * d.page) (rd d k) else imD d k
set_option maxRecDepth 100000 in
theorem imD_succ (d : D) (k : Nat) : imD d (k + 1) = if 0 < d.last.getD k 0 then splice (imD d k) (k * d.page) (rd d k) else imD d k := rfl
set_option maxRecDepth 100000 in
theorem imD_len (d : D) (hs : d.safe.length = d.page * d.pages) (hr : ∀ k, k < d.pages → (rd d k).length = d.page) : ∀ k, k ≤ d.pages → (imD d k).length = d.page * d.pages
  | 0, _ => hs
  | k + 1, hk => by
    have h1 := imD_len d hs hr k (by omega)
    have hx := mul_far (p := d.page) (show k < d.pages by omega)
    unfold imD
    split
    · rw [length_splice _ _ _ (by rw [h1, hr k (by omega), Nat.mul_comm d.page d.pages]; exact hx), h1]
    · exact h1

set_option maxRecDepth 100000 in
set_option maxHeartbeats 2000000 in
theorem Image_any (w : World) (F : Nat → Prop) (a : Nat) (d : D) (h : Dv w F a d) : Calls Try.prog 33 #[.pointer (some ⟨a, 0, none⟩)] w fun e w' => e = .returned (.slice (some ⟨w.heap.size, 0, none⟩) (d.page * d.pages) (d.page * d.pages)) ∧ w'.heap[w.heap.size]? = some (.cells (By (imD d d.pages)).toArray 5 (0, 0)) ∧ Below w.heap.size w w' := by
  obtain ⟨i0, hi, hz0, hz1, hz2⟩ := info_parts info5
  have hsz : (Try.prog.info? 5).map (·.size) = some 1 := by rw [hi]; simp [hz1]
  obtain ⟨bs, bl, vL, vK, hc, hf, hr, ha⟩ := h.c
  have hal := lt_of_some ha
  have c4 : w.cell? ⟨a, 4, none⟩ = some (.slice (some ⟨bl, 0, none⟩) d.pages d.pages) := hc 4
  have c0 : w.cell? ⟨a, 0, none⟩ = some (.int .i64 d.page) := hc 0
  have HLS : Hid (∀ k, k < d.pages → w.cell? ⟨bl, k, none⟩ = some (.int .i64 (d.last.getD k 0))) := hidden fun k hk => (cell_of_row hr.hl).trans (getD_In _ _ (by rw [hr.nl]; exact hk))
  have hbl := lt_of_some hr.hl
  have hq2 := hr.q2
  have hq3 := hr.q3
  have hp1 := hr.p1
  have hp2 := hr.p2
  have HRD : Hid (∀ k, k < d.pages → (rd d k).length = d.page) := hidden fun k hk => (hr.rdlen hk).1
  have HIL := hidden (imD_len d hr.ns HRD.out)
  have hS := Safe_any w F a d h
  have H := hidden h
  obtain ⟨N, hN⟩ : ∃ N, d.page * d.pages = N := ⟨_, rfl⟩
  have HN := hidden hN
  rw [hN] at hS hq3 ⊢
  clear hc hf hr ha h hN hi hz0 hz1 hz2
  go_enter Try.func33, Try.ntmps33
  go_wp2_with (go_at_call 34; refine hS.mono ?_; rintro e w1 ⟨rfl, hr1, hb1⟩; have HR1 := hidden hr1; have HB1 := hidden hb1; clear hr1 hb1; refine Hid.out ?_)
  apply hidden
  have c4' : w1.cell? ⟨a, 4, none⟩ = some (.slice (some ⟨bl, 0, none⟩) d.pages d.pages) := (HB1.out.cell (p := ⟨a, 4, none⟩) hal).trans c4
  clear hS
  go_wp2_with fail
  clear c4'
  go_loopw [12] (fun i wr => ∃ k : Nat, k ≤ d.pages ∧ i = .int .i64 k ∧ Hid (Below w.heap.size w wr) ∧ Hid (wr.heap[w.heap.size]? = some (.cells (By (imD d k)).toArray 5 (0, 0)))) (fun i _ => d.pages - (intOf i).toNat)
  case atStart => exact ⟨0, by omega, rfl, HB1, HR1⟩
  case round =>
    obtain ⟨k, hk, rfl, HB, HW⟩ := hrel
    by_cases hlt : k < d.pages
    · have hlt' : (k : Int) < (d.pages : Int) := by omega
      have a4 : wr.cell? ⟨a, 4, none⟩ = some (.slice (some ⟨bl, 0, none⟩) d.pages d.pages) := (HB.out.cell (p := ⟨a, 4, none⟩) hal).trans c4
      have a0 : wr.cell? ⟨a, 0, none⟩ = some (.int .i64 d.page) := (HB.out.cell (p := ⟨a, 0, none⟩) hal).trans c0
      have ck : wr.cell? ⟨bl, k, none⟩ = some (.int .i64 (d.last.getD k 0)) := (HB.out.cell (p := ⟨bl, k, none⟩) hbl).trans (HLS.out k hlt)
      by_cases hg : 0 < d.last.getD k 0
      · obtain ⟨y, hy⟩ : ∃ y, d.last.getD k 0 = y := ⟨_, rfl⟩
        have HY := hidden hg
        rw [hy] at ck hg
        clear hy
        obtain ⟨z, hz⟩ : ∃ z, k * d.page = z := ⟨_, rfl⟩
        have hzi : (k : Int) * (d.page : Int) = (z : Int) := by rw [← hz]; simp
        have hzn : z + d.page ≤ N := by rw [← hz, ← HN.out, Nat.mul_comm d.page d.pages]; exact mul_far hlt
        have hzn' : (z : Int) ≤ (N : Int) := by omega
        have hzb : (z : Int) ≤ 140737488355328 := by omega
        have hzw : IntKind.i64.wrap (z : Int) = (z : Int) := by rw [IntKind.wrap_i64]; omega
        have hzc' : ¬ (N = z) := by omega
        have HZ := hidden hz
        have HSE := hidden (seen_any wr.drew F a d k (H.out.on (Nat.le_refl _) HB.out).dr hlt)
        obtain ⟨l, hl⟩ : ∃ l, rd d k = l := ⟨_, rfl⟩
        have HLL := hidden hl
        have hll : l.length = d.page := by rw [← hl]; exact HRD.out k hlt
        rw [hl] at HSE
        have HLEN := hidden hll
        have HMIN : Hid ((By l).length = Nat.min d.page (N - z)) := hidden (by rw [By_length, hll]; exact (Nat.min_eq_left (by omega)).symm)
        have HFIT : Hid (z + (By l).length ≤ (By (imD d k)).length) := hidden (by rw [By_length, By_length, HIL.out k (by omega), hll, HN.out]; exact hzn)
        clear hl hll hz
        go_wp2_with fail
        go_region_law (first | (go_simp; go_at_call 45; refine HSE.out.mono ?_; rintro e w2 ⟨q, off, c, rfl, hc1, hcc, hq, r, rfl⟩; have HCC : Hid (∀ j v, (By l)[j]? = some v → (wr.drew.drewN r).cell? ((⟨q, off, none⟩ : Addr).add j) = some v) := (hidden fun j v hv => by { obtain ⟨h1, rfl⟩ := getElem?_By _ j v hv; rw [Addr.add_lit]; exact hcc j (by rw [← HLEN.out]; exact h1) }); clear hcc) | (refine step_copy_row rfl _ _ 35 35 rfl 5 Try.underlying35 hsz w.heap.size z (N - z) (N - z) ⟨q, off, none⟩ d.page c rfl rfl (By (imD d k)) 5 HW.out (By l) HMIN.out HCC.out HFIT.out (By_one _) ?_; intro u3 HU))
        all_goals
          have HC3 : Hid (Below w.heap.size w u3) := hidden (by rw [HU.out]; exact below_setRow (HB.out.trans ((Ch.drew (fun _ => False) wr (1 + r)).below HB.out.size fun _ _ e => e)) (Nat.le_refl _) _)
          have HW3 : Hid (u3.heap[w.heap.size]? = some (.cells (By (imD d (k + 1))).toArray 5 (0, 0))) := hidden (by
            rw [HU.out, setRow_heap _ _ _ _ _ _ (show (wr.drewN (1 + r)).heap[w.heap.size]? = _ from HW.out), By_splice]
            rw [imD_succ, if_pos HY.out, HZ.out, HLL.out])
          clear HU HMIN HFIT HSE HW HB
          go_wp2
          go_roundw
          case rel => exact ⟨k + 1, by omega, by go_num, HC3, HW3⟩
          case measure => simp [intOf]; omega
      · have HW3 : Hid (wr.heap[w.heap.size]? = some (.cells (By (imD d (k + 1))).toArray 5 (0, 0))) := hidden (by
          rw [imD_succ, if_neg hg]
          exact HW.out)
        obtain ⟨y, hy⟩ : ∃ y, d.last.getD k 0 = y := ⟨_, rfl⟩
        rw [hy] at ck hg
        clear hy
        go_wp2
        go_roundw
        case rel => exact ⟨k + 1, by omega, by go_num, HB, HW3⟩
        case measure => simp [intOf]; omega
    · have hge : ¬ ((k : Int) < (d.pages : Int)) := by omega
      obtain rfl : k = d.pages := by omega
      go_wp2
      go_ret
      exact ⟨rfl, HW.out, HB.out⟩
set_option maxRecDepth 100000 in
/-- Each page of it. -/
theorem imD_page (d : D) (hs : d.safe.length = d.page * d.pages) (hr : ∀ k, k < d.pages → (rd d k).length = d.page) (hp : 0 < d.page) : ∀ k, k ≤ d.pages → ∀ i, i < d.pages → pgOf d.page (imD d k) i = if i < k then rd d i else pgOf d.page d.safe i
  | 0, _, i, _ => by simp [imD]
  | k + 1, hk, i, hi => by
    have h0 := imD_page d hs hr hp k (by omega) i hi
    have h1 := imD_len d hs hr k (by omega)
    have hk' : k < d.pages := by omega
    rw [imD_succ]
    by_cases hg : 0 < d.last.getD k 0
    · rw [if_pos hg]
      by_cases e : k = i
      · subst e
        rw [pgOf_same h1 hk' (by rw [hr k hk']; exact Nat.le_refl _), if_pos (by omega), hr k hk']
        rw [List.drop_of_length_le (by unfold pgOf; rw [List.length_take]; omega), List.append_nil]
      · rw [pgOf_other h1 hk' (by rw [hr k hk']; exact Nat.le_refl _) e, h0]
        by_cases e2 : i < k
        · rw [if_pos e2, if_pos (by omega)]
        · rw [if_neg e2, if_neg (by omega)]
    · rw [if_neg hg, h0]
      by_cases e : k = i
      · subst e
        rw [if_neg (by omega), if_pos (by omega)]
        unfold rd
        rw [if_neg hg]
        rfl
      · by_cases e2 : i < k
        · rw [if_pos e2, if_pos (by omega)]
        · rw [if_neg e2, if_neg (by omega)]
end Go.Proofs.Ytikpfcapnpppdaa
