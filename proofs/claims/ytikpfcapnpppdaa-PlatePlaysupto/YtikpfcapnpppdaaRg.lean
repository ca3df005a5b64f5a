/- The document's device: a page as it is read; Read; fails. -/
import Derived.Test.YtikpfcapnpppdaaRf
namespace Go.Proofs.Ytikpfcapnpppdaa
open Go.RowKit

set_option maxRecDepth 100000 in
theorem RRest.item {w : World} {F : Nat → Prop} {a page : Nat} {L : List (List Int)} {wild : List (Nat × List Int)} {keep : List Int} {vL vW vK : Value} {qs : List Nat} (h : RRest w F a page L wild keep vL vW vK qs) {k : Nat} (hk : k < wild.length) :
    ∃ g c q cq, vW = .slice (some ⟨g, 0, none⟩) wild.length c ∧ wild.length ≤ c ∧ w.cell? ⟨g, k * 2, none⟩ = some (.int .i64 ((wild.getD k (0, [])).1 : Int)) ∧ w.cell? ⟨g, k * 2 + 1, none⟩ = some (.slice (some ⟨q, 0, none⟩) page cq) ∧ page ≤ cq ∧ F g ∧ g ≠ a ∧ g < w.heap.size ∧ F q ∧ q ≠ a ∧ q ∉ qs ∧ q ≠ g ∧ q < w.heap.size ∧ (∀ i, i < page → w.cell? ⟨q, i, none⟩ = some (.int .u8 ((wild.getD k (0, [])).2.getD i 0))) ∧ (wild.getD k (0, [])).1 < L.length ∧ (wild.getD k (0, [])).2.length = page ∧ Wf (wild.getD k (0, [])).2 ∧ vL.ownBlock ≠ some q := by
  obtain ⟨xs, ho, hx⟩ := h.hx
  have e : wild[k]? = some (wild.getD k (0, [])) := by simp [List.getD, List.getElem?_eq_getElem hk]
  obtain ⟨c1, q, cq, c2, c3, c4, c5, c6, c7, c8, c9, c10⟩ := hx k _ e
  rcases ho.2 with ⟨rfl, h0⟩ | ⟨g, cap, cur, rfl, _, hg, hc, _⟩
  · omega
  · obtain ⟨f1, f2⟩ := h.bW g rfl
    obtain ⟨m1, m2, m3⟩ := h.all _ (List.mem_of_getElem? e)
    refine ⟨g, cap, q, cq, rfl, hc, ?_, ?_, c3, f1, f2, lt_of_some hg, c4, c5, c6, fun e => c8 (by rw [e]; rfl), c9, c10, m1, m2, m3, c7⟩
    · rw [World.ownsRow.cellAt ho (k * 2) (by omega), show k * 2 = 2 * k by omega]; exact c1
    · rw [World.ownsRow.cellAt ho (k * 2 + 1) (by omega), show k * 2 + 1 = 2 * k + 1 by omega]; exact c2
set_option maxRecDepth 100000 in
theorem RRest.rowi {w : World} {F : Nat → Prop} {a page : Nat} {L : List (List Int)} {wild : List (Nat × List Int)} {keep : List Int} {vL vW vK : Value} {qs : List Nat} (h : RRest w F a page L wild keep vL vW vK qs) {n : Nat} (hn : n < L.length) :
    ∃ g c q, vL = .slice (some ⟨g, 0, none⟩) L.length c ∧ L.length ≤ c ∧ w.cell? ⟨g, n, none⟩ = some (.slice (some ⟨q, 0, none⟩) page page) ∧ qs[n]? = some q ∧ F g ∧ g ≠ a ∧ g < w.heap.size ∧ F q ∧ q ≠ a ∧ q ≠ g ∧ vW.ownBlock ≠ some q ∧ w.heap[q]? = some (.cells (By (L.getD n [])).toArray 5 (0, 0)) ∧ (L.getD n []).length = page ∧ Wf (L.getD n []) ∧ vW.ownBlock ≠ some g := by
  have hq : qs[n]? = some (qs[n]'(by rw [h.nq]; exact hn)) := List.getElem?_eq_getElem _
  generalize qs[n]'(by rw [h.nq]; exact hn) = q at hq
  obtain ⟨b1, b2, b3, b4, b5, b6, b7⟩ := h.hq n q hq
  have ho := h.oL
  rcases ho.2 with ⟨rfl, h0⟩ | ⟨g, cap, cur, rfl, _, hg, hc, _⟩
  · omega
  · obtain ⟨f1, f2, f3⟩ := h.bL g rfl
    refine ⟨g, cap, q, rfl, hc, ?_, hq, f1, f2, lt_of_some hg, b1, b2, fun e => b3 (by rw [e]; rfl), b4, b5, b6, b7, f3⟩
    rw [World.ownsRow.cellAt ho n (by omega), List.getElem?_map, hq]; rfl

/-- A page behind the first k loose writes. -/
def rdW (base : List Int) (wild : List (Nat × List Int)) (n : Nat) : Nat → List Int
  | 0 => base
  | k + 1 => if (wild.getD k (0, [])).1 = n then (wild.getD k (0, [])).2 else rdW base wild n k
set_option maxRecDepth 100000 in
theorem RRest.rdw {w : World} {F : Nat → Prop} {a page : Nat} {L : List (List Int)} {wild : List (Nat × List Int)} {keep : List Int} {vL vW vK : Value} {qs : List Nat} (h : RRest w F a page L wild keep vL vW vK qs) {n : Nat} (hn : n < L.length) : ∀ k, k ≤ wild.length → (rdW (L.getD n []) wild n k).length = page ∧ Wf (rdW (L.getD n []) wild n k)
  | 0, _ => by
    obtain ⟨_, _, _, _, _, _, _, _, _, _, _, _, _, _, _, h1, h2, _⟩ := h.rowi hn
    exact ⟨h1, h2⟩
  | k + 1, hk => by
    obtain ⟨_, _, _, _, _, _, _, _, _, _, _, _, _, _, _, _, _, _, _, h1, h2, _⟩ := h.item (k := k) (by omega)
    unfold rdW
    split
    · exact ⟨h1, h2⟩
    · exact h.rdw hn k (by omega)
def rdR (r : R) (n : Nat) : List Int := rdW (r.L.getD n []) r.wild n r.wild.length

set_option maxRecDepth 100000 in
set_option maxHeartbeats 1000000 in
theorem Reading_any (w : World) (F : Nat → Prop) (a : Nat) (r : R) (n : Nat) (h : Rv w F a r) (hn : n < r.L.length) :
    Calls Try.prog 51 #[.pointer (some ⟨a, 0, none⟩), .int .i64 (n : Int)] w fun e w' => ∃ ao c, e = .returned (.slice ao r.page c) ∧ Sl w' ao r.page c (rdR r n) ∧ Below w.heap.size w w' := by
  obtain ⟨vL, vW, vK, qs, hc, hf, hr, ha⟩ := h.c
  obtain ⟨gL, cL, q, eL, hLc, cg, hq, _, _, hgl, _, _, _, _, hrow, hlen, hwf, _⟩ := hr.rowi hn
  have c1 : w.cell? ⟨a, 1, none⟩ = some (.slice (some ⟨gL, 0, none⟩) r.L.length cL) := by rw [← eL]; exact hc 1
  obtain ⟨xs, hx, _⟩ := hr.hx
  obtain ⟨aW, cW, eW, _⟩ := own_val hx
  obtain ⟨m, hm⟩ : ∃ m, r.wild.length = m := ⟨_, rfl⟩
  have c2 : w.cell? ⟨a, 2, none⟩ = some (.slice aW m cW) := by rw [← hm, ← eW]; exact hc 2
  have hp2 := hr.p2
  have hfew : m ≤ 4398046511103 := by rw [← hm]; exact hr.few
  have hal := lt_of_some ha
  have hni : (n : Int) < (r.L.length : Int) := by omega
  have HRD := hidden (hr.rdw hn r.wild.length (Nat.le_refl _))
  have HRR : Hid (rdR r n = rdW (r.L.getD n []) r.wild n r.wild.length) := hidden rfl
  have HR := hidden hr
  have HM := hidden hm
  have HEW := hidden eW
  have HL := hidden hlen
  have HWF := hidden hwf
  have HQC := hidden (row_cells hrow)
  clear hc hf hr ha h hx eL hrow hlen hwf hm eW
  generalize r.page = pg at *
  generalize hB0 : r.L.getD n [] = B0 at *
  clear hB0
  generalize hLL : r.L.length = LL at *
  go_enter Try.func51, Try.ntmps51
  go_wp2_with (refine app_bytes _ rfl _ _ rfl w.heap.size [] (.slice none 0 0) rfl (OwnB.nil _ _) ⟨q, 0, none⟩ pg pg B0 rfl HL.out (fun j hj => HQC.out j _ (getD_By _ _ (by rw [HL.out]; exact hj))) (by simp; omega) (Nat.le_refl _) ?_)
  intro v1 w1 o1 b1
  have O1 : Hid (OwnB w1 w.heap.size v1 (rdW B0 r.wild n 0)) := hidden (by simpa [rdW] using o1)
  have B1 := hidden b1
  clear o1 b1
  go_wp2_with fail
  go_loopw [5, 6] (fun v i wr => ∃ k : Nat, k ≤ m ∧ i = .int .i64 k ∧ Hid (OwnB wr w.heap.size v (rdW B0 r.wild n k)) ∧ Hid (Below w.heap.size w wr)) (fun _ i _ => m - (intOf i).toNat)
  case atStart => exact ⟨0, by omega, rfl, O1, B1⟩
  case round =>
    obtain ⟨k, hk, rfl, OK, BK⟩ := hrel
    have x2 : wr.cell? ⟨a, 2, none⟩ = some (.slice aW m cW) := (BK.out.cell (p := ⟨a, 2, none⟩) hal).trans c2
    by_cases hlt : k < m
    · have hlt' : (k : Int) < (m : Int) := by omega
      obtain ⟨g, c, q', cq, e1, _, g0, g1, hcq, _, _, hgl', _, _, _, _, hql, hdat, hpn, hdl, hdw, _⟩ := HR.out.item (k := k) (by rw [HM.out]; exact hlt)
      rw [HEW.out, HM.out] at e1
      have hao : aW = some ⟨g, 0, none⟩ := by injection e1
      subst hao
      have y0 := (BK.out.cell (p := ⟨g, k * 2, none⟩) hgl').trans g0
      have y1 := (BK.out.cell (p := ⟨g, k * 2 + 1, none⟩) hgl').trans g1
      obtain ⟨p, hP⟩ : ∃ p, (r.wild.getD k (0, [])).1 = p := ⟨_, rfl⟩
      obtain ⟨l, hLl⟩ : ∃ l, (r.wild.getD k (0, [])).2 = l := ⟨_, rfl⟩
      rw [hP] at y0
      rw [hLl] at hdat hdl
      have HST : Hid (rdW B0 r.wild n (k + 1) = if p = n then l else rdW B0 r.wild n k) := hidden (by
        show (if (r.wild.getD k (0, [])).1 = n then (r.wild.getD k (0, [])).2 else _) = _
        rw [hP, hLl])
      have HDC : Hid (∀ j, j < pg → wr.cell? ((⟨q', 0, none⟩ : Addr).add j) = some (.int .u8 (l.getD j 0))) := hidden fun j hj => by
        rw [Addr.add_lit, Nat.zero_add]
        exact (BK.out.cell (p := ⟨q', j, none⟩) hql).trans (hdat j hj)
      have HDL := hidden hdl
      have hbs : w.heap.size ≤ wr.heap.size := BK.out.size
      clear g0 g1 hdat hpn hdw hP hLl hdl e1
      by_cases hpn : p = n
      · have hpe : ((p : Int) == (n : Int)) = true := by simp [hpn]
        have HPN := hidden hpn
        clear hpn
        go_wp2_with (refine app_bytes _ rfl _ _ rfl w.heap.size [] (.slice none 0 0) rfl (OwnB.nil _ _) ⟨q', 0, none⟩ pg cq l rfl HDL.out HDC.out (by simp; omega) hbs ?_)
        intro v2 w2 o2 b2
        have O2 : Hid (OwnB w2 w.heap.size v2 (rdW B0 r.wild n (k + 1))) := hidden (by rw [HST.out, if_pos HPN.out]; simpa using o2)
        have B2 := hidden (BK.out.trans b2)
        clear o2 b2 HDC
        go_wp2
        go_roundw
        case rel => exact ⟨k + 1, by omega, by go_num, O2, B2⟩
        case measure => simp [intOf]; omega
      · have hpe : ((p : Int) == (n : Int)) = false := by simp; omega
        have O2 : Hid (OwnB wr w.heap.size u5 (rdW B0 r.wild n (k + 1))) := hidden (by rw [HST.out, if_neg hpn]; exact OK.out)
        clear hpn HDC
        go_wp2
        go_roundw
        case rel => exact ⟨k + 1, by omega, by go_num, O2, BK⟩
        case measure => simp [intOf]; omega
    · have hge : ¬ ((k : Int) < (m : Int)) := by omega
      obtain rfl : k = m := by omega
      rw [HM.out] at HRD HRR
      obtain ⟨ao, cap, hu5, hsl, _⟩ := OK.out.sl HRD.out.2 (by rw [HRD.out.1]; omega)
      rw [HRD.out.1] at hu5 hsl
      subst hu5
      have HSL := hidden hsl
      clear hsl OK
      go_wp2
      go_ret
      exact ⟨ao, cap, rfl, by rw [HRR.out]; exact HSL.out, BK.out⟩
end Go.Proofs.Ytikpfcapnpppdaa
