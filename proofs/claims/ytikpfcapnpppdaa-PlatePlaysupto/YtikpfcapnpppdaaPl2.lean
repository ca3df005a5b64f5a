/- Where a page's safe bytes lie; a page as it is read; bytes all alike. -/
import Derived.Test.YtikpfcapnpppdaaPl1
namespace Go.Proofs.Ytikpfcapnpppdaa
open Go.RowKit

set_option maxRecDepth 100000 in
set_option maxHeartbeats 1000000 in
theorem ground_any (w : World) (a bs page N n x : Nat) (c0 : w.cell? ⟨a, 0, none⟩ = some (.int .i64 page)) (c2 : w.cell? ⟨a, 2, none⟩ = some (.slice (some ⟨bs, 0, none⟩) N N)) (hx : n * page = x) (h1 : x + page ≤ N) (h2 : 0 < page) (h3 : N ≤ 67108864) (h4 : n ≤ 65536) :
    Calls Try.prog 46 #[.pointer (some ⟨a, 0, none⟩), .int .i64 (n : Int)] w fun e w' => e = .returned (.slice (some ⟨bs, x, none⟩) page (N - x)) ∧ ∃ q, w' = w.drewN q := by
  have e1 : (n : Int) * (page : Int) = (x : Int) := by rw [← hx]; simp
  have e2 : ((n : Int) + 1) * (page : Int) = (x : Int) + (page : Int) := by rw [Int.add_mul, e1, Int.one_mul]
  have b1 : (x : Int) + (page : Int) ≤ (N : Int) := by omega
  have b2 : (x : Int) < (N : Int) := by omega
  have b3 : (N : Int) ≤ 67108864 := by omega
  have b4 : ¬ (N = x) := by omega
  have b5 : (x : Int) ≤ (x : Int) + (page : Int) := by omega
  clear hx
  go_enter Try.func46, Try.ntmps46
  go_wp2_with fail
  go_quiet (fail)
  go_wp2
  go_ret
  refine ⟨?_, _, rfl⟩
  show Ending.returned (.slice (some ⟨bs, x, none⟩) (x + page - x) (N - x)) = _
  rw [show x + page - x = page by omega]

/-- A page as it is read. -/
def rd (d : D) (n : Nat) : List Int := if 0 < d.last.getD n 0 then (d.loose.getD ((d.last.getD n 0).toNat - 1) (0, [])).2 else (d.safe.drop (n * d.page)).take d.page

set_option maxRecDepth 100000 in
theorem getD_In (l : List Int) (n : Nat) (h : n < l.length) : (In l)[n]? = some (.int .i64 (l.getD n 0)) := by
  simp [In, List.getD, List.getElem?_eq_getElem h]
set_option maxRecDepth 100000 in
theorem getD_By (l : List Int) (n : Nat) (h : n < l.length) : (By l)[n]? = some (.int .u8 (l.getD n 0)) := by
  simp [By, List.getD, List.getElem?_eq_getElem h]
set_option maxRecDepth 100000 in
theorem getD_memP {l : List Int} {n : Nat} (h : n < l.length) : l.getD n 0 ∈ l := by
  simp [List.getD, List.getElem?_eq_getElem h]

set_option maxRecDepth 100000 in
/-- The cells of the k-th loose write. -/
theorem Lo.item {w : World} {F : Nat → Prop} {a bs bl page pages : Nat} {vL : Value} {l : List (Nat × List Int)} (h : Lo w F a bs bl page pages vL l) {k : Nat} (hk : k < l.length) :
    ∃ g c q, vL = .slice (some ⟨g, 0, none⟩) l.length c ∧ l.length ≤ c ∧ w.cell? ⟨g, k * 2, none⟩ = some (.int .i64 ((l.getD k (0, [])).1 : Int)) ∧ w.cell? ⟨g, k * 2 + 1, none⟩ = some (.slice (some ⟨q, 0, none⟩) page page) ∧ F g ∧ F q ∧ q ≠ a ∧ q ≠ bs ∧ q ≠ bl ∧ g ≠ a ∧ g ≠ bs ∧ g ≠ bl ∧ q ≠ g ∧ g < w.heap.size ∧ w.heap[q]? = some (.cells (By (l.getD k (0, [])).2).toArray 5 (0, 0)) ∧ (l.getD k (0, [])).1 < pages ∧ (l.getD k (0, [])).2.length = page ∧ Wf (l.getD k (0, [])).2 := by
  obtain ⟨⟨xs, ho, hk'⟩, hown, hall⟩ := h
  have e : l[k]? = some (l.getD k (0, [])) := by simp [List.getD, List.getElem?_eq_getElem hk]
  obtain ⟨h1, q, h2, h3, h4, h5, h6, h7, h8⟩ := hk' k _ e
  rcases ho.2 with ⟨rfl, h0⟩ | ⟨g, cap, cur, rfl, _, hg, hc, _⟩
  · omega
  · obtain ⟨f1, f2, f3, f4⟩ := hown g rfl
    have hm : l.getD k (0, []) ∈ l := List.mem_of_getElem? e
    obtain ⟨m1, m2, m3⟩ := hall _ hm
    refine ⟨g, cap, q, rfl, hc, ?_, ?_, f1, h3, h4, h5, h6, f2, f3, f4, fun e => h7 (by rw [e]; rfl), lt_of_some hg, h8, m1, m2, m3⟩
    · rw [World.ownsRow.cellAt ho (k * 2) (by omega), show k * 2 = 2 * k by omega]; exact h1
    · rw [World.ownsRow.cellAt ho (k * 2 + 1) (by omega), show k * 2 + 1 = 2 * k + 1 by omega]; exact h2

set_option maxRecDepth 100000 in
set_option maxHeartbeats 1000000 in
theorem seen_any (w : World) (F : Nat → Prop) (a : Nat) (d : D) (n : Nat) (h : Dv w F a d) (hn : n < d.pages) :
    Calls Try.prog 45 #[.pointer (some ⟨a, 0, none⟩), .int .i64 (n : Int)] w fun e w' => ∃ q off c, e = .returned (.slice (some ⟨q, off, none⟩) d.page c) ∧ d.page ≤ c ∧ (∀ i, i < d.page → w.cell? ⟨q, off + i, none⟩ = some (.int .u8 ((rd d n).getD i 0))) ∧ q < w.heap.size ∧ ∃ r, w' = w.drewN r := by
  obtain ⟨bs, bl, vL, vK, hc, hf, hr, ha⟩ := h.c
  have c0 : w.cell? ⟨a, 0, none⟩ = some (.int .i64 d.page) := hc 0
  have c2 : w.cell? ⟨a, 2, none⟩ = some (.slice (some ⟨bs, 0, none⟩) (d.page * d.pages) (d.page * d.pages)) := hc 2
  have c3 : w.cell? ⟨a, 3, none⟩ = some vL := hc 3
  have c4 : w.cell? ⟨a, 4, none⟩ = some (.slice (some ⟨bl, 0, none⟩) d.pages d.pages) := hc 4
  have hnl := hr.nl
  have hl : w.cell? ⟨bl, n, none⟩ = some (.int .i64 (d.last.getD n 0)) := by
    rw [cell_of_row hr.hl]; exact getD_In _ _ (by omega)
  have hb := hr.lst n hn
  have hni : (n : Int) < (d.pages : Int) := by omega
  by_cases h0 : d.last.getD n 0 = 0
  · have hrd : rd d n = (d.safe.drop (n * d.page)).take d.page := by simp only [rd, h0]; rfl
    rw [h0] at hl
    have hp := hr.p1
    have hq := hr.q3
    have hq2 := hr.q2
    have hx : n * d.page + d.page ≤ d.page * d.pages := by
      rw [Nat.mul_comm d.page d.pages, ← Nat.succ_mul]; exact Nat.mul_le_mul_right _ hn
    have HX := hidden hx
    have HG := hidden (fun u r (e : u = w.drewN r) => ground_any u a bs d.page (d.page * d.pages) n (n * d.page) (by subst e; exact c0) (by subst e; exact c2) rfl hx (by omega) hq (by omega))
    have HE : Hid (∀ i, i < d.page → w.cell? ⟨bs, n * d.page + i, none⟩ = some (.int .u8 ((rd d n).getD i 0))) := by
      refine hidden fun i hi => ?_
      rw [cell_of_row hr.hs, getD_By _ _ (by rw [hr.ns]; omega), hrd]
      congr 2
      simp [List.getD, List.getElem?_drop, hi]
    have hlt := lt_of_some hr.hs
    generalize hP : d.page = pg at *
    generalize hQ : d.pages = ps at *
    clear hrd hx hb h0 hr ha hc hf h hP hQ hq hnl
    go_enter Try.func45, Try.ntmps45
    go_wp2_with (go_at_call 46; refine (HG.out w 0 rfl).mono ?_; rintro e w' ⟨rfl, r, rfl⟩)
    go_ret
    exact ⟨bs, n * pg, _, rfl, by have := HX.out; omega, HE.out, hlt, r, rfl⟩
  · obtain ⟨k, hk⟩ : ∃ k : Nat, d.last.getD n 0 = (k : Int) + 1 := ⟨(d.last.getD n 0).toNat - 1, by have := hb.1; omega⟩
    have hkl : k < d.loose.length := by have := hb.2.1; omega
    obtain ⟨g, c, q, e, h1, h2, h3, _, _, _, _, _, _, _, _, _, _, h4, h5, h6, _⟩ := hr.lo.item hkl
    have hrd : rd d n = (d.loose.getD k (0, [])).2 := by
      simp only [rd, hk]
      rw [if_pos (by omega), show ((k : Int) + 1).toNat - 1 = k by omega]
    rw [hk] at hl
    rw [e] at c3
    have HE : Hid (∀ i, i < d.page → w.cell? ⟨q, 0 + i, none⟩ = some (.int .u8 ((rd d n).getD i 0))) := by
      refine hidden fun i hi => ?_
      rw [cell_of_row h4, Nat.zero_add, getD_By _ _ (by omega), hrd]
    have hlt := lt_of_some h4
    have hki : (k : Int) < (d.loose.length : Int) := by omega
    have hkb : (k : Int) ≤ 4398046511103 := by have := hr.few; omega
    generalize d.loose.length = L at *
    generalize hP : d.page = pg at *
    generalize hQ : d.pages = ps at *
    clear hrd hb h0 hr ha hc hf h hP hQ hk c2 c0 h2 h4 h5 h6 hnl
    go_enter Try.func45, Try.ntmps45
    go_wp2
    go_ret
    exact ⟨q, 0, pg, rfl, Nat.le_refl _, HE.out, hlt, 0, rfl⟩
end Go.Proofs.Ytikpfcapnpppdaa
