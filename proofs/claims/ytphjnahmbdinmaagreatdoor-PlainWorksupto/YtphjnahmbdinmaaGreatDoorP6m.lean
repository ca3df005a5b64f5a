/- Layer 6: the law's owned. -/
import Derived.Test.YtphjnahmbdinmaaGreatDoorP6k
namespace Go.Proofs.YtphjnahmbdinmaaGreatDoor
open Go.RowKit

set_option maxRecDepth 100000 in
/-- A row of values in memory. -/
theorem row_cells {w : World} {B : Nat} {ty : TypeId} {z : Nat} {v : Value} {n : Nat} {xs : List Value} (h : w.ownsRow B ty z v n xs) : ∃ ao cap, v = .slice ao n cap ∧ (n = 0 ∨ ∃ g, ao = some ⟨g, 0, none⟩ ∧ n ≤ cap ∧ g < w.heap.size ∧ ∀ (t : Nat) (u : Value), xs[t]? = some u → w.cell? ⟨g, t, none⟩ = some u) := by
  have hl := h.1
  rcases h.2 with ⟨rfl, h0⟩ | ⟨g, cap, cur, rfl, hg, hh, hnc, rest⟩
  · exact ⟨none, 0, by rw [h0], .inl h0⟩
  · refine ⟨_, cap, rfl, .inr ⟨g, rfl, hnc, lt_some hh, fun t u hu => ?_⟩⟩
    have hlt := (List.getElem?_eq_some_iff.1 hu).1
    have := World.ownsRow.cellAt h t (by omega)
    rw [this]
    exact hu
set_option maxRecDepth 100000 in
/-- The book that was filled with all that came. -/
theorem St6.book {w wr : World} {B X a r : Nat} {k : Int} {n : Nat} {K M : Nat → Prop} {cp cd : List Cl} {L : Ls6} {vb vs vl v1 v2 v3 v4 v : Value} {us ps : List Value} {C bk : Nat} (h : St6 w B X a r k n K M cp cd L vb vs vl v1 v2 v3 v4 us ps) (hb : Below w.heap.size w wr) (hj : Bj wr C bk v (kvs us ++ ps)) :
    ∃ D, Six.Bo9 wr 0 bk (.slice none 0 0) v (kvs us ++ ps) D := by
  have hs := h.on hb
  have hall : ∀ (t : Nat) (u : Value), (kvs us ++ ps)[t]? = some u → ∃ l, OwnB wr 0 u l ∧ Wf l ∧ l.length ≤ 65536 := by
    intro t u hu
    have hm := List.mem_of_getElem? hu
    simp only [List.mem_append] at hm
    rcases hm with hm | hm
    · obtain ⟨l, h1, h2⟩ := hs.cm.cb.kvs_own hs.cm.cok u hm
      exact ⟨l, h1.low (Nat.zero_le _), h2⟩
    · obtain ⟨i, hi⟩ := List.mem_iff_getElem?.1 hm
      have hl : ps.length = L.pcs.length := by
        have := hs.cm.pc.1
        simpa using this
      have hlt := (List.getElem?_eq_some_iff.1 hi).1
      obtain ⟨l, hl2⟩ : ∃ l, L.pcs[i]? = some l := ⟨_, List.getElem?_eq_getElem (by omega)⟩
      exact ⟨l, (hs.cm.pb i u l hi hl2).low (Nat.zero_le _), hs.cm.pok l (List.mem_of_getElem? hl2)⟩
  have hdif : (kvs us ++ ps).Pairwise Ap2 := hs.cm.dif.sublist (hs.cm.cb.kvs_sub.append (List.Sublist.refl _))
  have hpick : ∀ t : Nat, ∃ l : List Int, ∀ u : Value, (kvs us ++ ps)[t]? = some u → OwnB wr 0 u l ∧ Wf l ∧ l.length ≤ 65536 := by
    intro t
    cases e : (kvs us ++ ps)[t]? with
    | none => exact ⟨[], fun u hu => by cases hu⟩
    | some u =>
      obtain ⟨l, hl⟩ := hall t u e
      exact ⟨l, fun u' hu => by cases hu; exact hl⟩
  refine ⟨fun t => Classical.choose (hpick t), hj.box, ?_, fun t u hu => Classical.choose_spec (hpick t) u hu, ?_⟩
  · rcases hj.row.2 with h2 | ⟨g, cap, cur, e, hg, rest⟩
    · exact ⟨hj.row.1, .inl h2⟩
    · exact ⟨hj.row.1, .inr ⟨g, cap, cur, e, Nat.zero_le _, rest⟩⟩
  · intro t t' u u' ht ht' hne
    have hap : Ap2 u u' := by
      obtain ⟨l1, e1⟩ := List.getElem?_eq_some_iff.1 ht
      obtain ⟨l2, e2⟩ := List.getElem?_eq_some_iff.1 ht'
      have := List.pairwise_iff_getElem.1 hdif
      rcases Nat.lt_or_gt_of_ne hne with hlt | hlt
      · have h1 := this t t' l1 l2 hlt
        rw [e1, e2] at h1
        exact h1
      · have h1 := this t' t l2 l1 hlt
        rw [e1, e2] at h1
        exact h1.symm
    cases e : u.ownBlock with
    | none => exact .inl rfl
    | some z => exact .inr fun e2 => hap z e e2.symm
set_option maxRecDepth 100000 in
/-- Both pages stand where what came was written over. -/
theorem St6.over {w u : World} {B X a r : Nat} {k : Int} {n : Nat} {K M : Nat → Prop} {cp cd : List Cl} {L : Ls6} {vb vs vl v1 v2 v3 v4 : Value} {us ps : List Value} (h : St6 w B X a r k n K M cp cd L vb vs vl v1 v2 v3 v4 us ps) (hc : Cf (fun z => ∃ y ∈ kvs us ++ ps, y.ownBlock = some z) w u) : PX u X a r v1 v2 v3 v4 ∧ Po u B a k n vb vs cp ∧ Dp u B K r k n vl cd := by
  have hF : ∀ z, (∃ y ∈ kvs us ++ ps, y.ownBlock = some z) → M z ∧ ∃ cur fz, w.heap[z]? = some (.cells cur 5 fz) := by
    rintro z ⟨y, hy, hz⟩
    simp only [List.mem_append] at hy
    rcases hy with hy | hy
    · obtain ⟨l, h1, _⟩ := h.cm.cb.kvs_own h.cm.cok y hy
      exact ⟨h.cm.mu y (h.cm.cb.kvs_sub.subset hy) z hz, row_ty h1 hz⟩
    · obtain ⟨i, hi⟩ := List.mem_iff_getElem?.1 hy
      have hl : ps.length = L.pcs.length := by
        have := h.cm.pc.1
        simpa using this
      have hlt := (List.getElem?_eq_some_iff.1 hi).1
      obtain ⟨l, hl2⟩ : ∃ l, L.pcs[i]? = some l := ⟨_, List.getElem?_eq_getElem (by omega)⟩
      exact ⟨h.cm.mp y hy z hz, row_ty (h.cm.pb i y l hi hl2) hz⟩
  have hno : ∀ {z : Nat} {cur : Array Value} {t : TypeId} {fz : Nat × Nat}, w.heap[z]? = some (.cells cur t fz) → t ≠ 5 → ¬ ∃ y ∈ kvs us ++ ps, y.ownBlock = some z := by
    intro z cur t fz hh ht hf
    obtain ⟨_, cur', fz', hh'⟩ := hF z hf
    rw [hh] at hh'
    injection hh' with hh'
    injection hh' with _ e2 _
    exact ht e2
  have hrow : ∀ {e : TypeId} {s m : Nat} {v : Value} {xs : List Value}, w.ownsRow B e s v m xs → e ≠ 5 → ∀ z, v.ownBlock = some z → ¬ ∃ y ∈ kvs us ++ ps, y.ownBlock = some z := by
    intro e s m v xs hr h1 z hz
    obtain ⟨cur, fz, hh⟩ := row_ty hr hz
    exact hno hh h1
  obtain ⟨ls, hl1, hl2, hl3⟩ := h.dp.cells
  refine ⟨(hc.block X (lt_some h.px) (hno h.px (by decide))).trans h.px, ⟨h.po.row.cf hc (hno h.po.row (by decide)), row_cf h.po.body hc (fun z hz hf => (h.bb z hz).2 (hF z hf).1), row_cf h.po.starts hc (hrow h.po.starts (by decide))⟩, ⟨h.dp.row.cf hc (hno h.dp.row (by decide)), h.dp.cells.cfT hc (hrow hl1 (by decide)) (fun z _ _ hz _ hf => (h.mz z (hF z hf).1).1 hz)⟩⟩
set_option maxRecDepth 100000 in
set_option maxHeartbeats 8000000 in
theorem owned6_go (w : World) (B X r : Nat) (k : Int) (n t : Nat) (h : PaE w B X r k n t) (ht : Tab w) (h0 : 1 < w.heap.size) (hBG : 1 < B) (htt : t ≤ 1200000) :
    Calls Tryz.prog 14 #[.pointer (some ⟨X, 0, none⟩)] w fun e w' => e = .returned (.bool true) ∧ Hid (Below B w w') := by
  obtain ⟨L, hL, cs, a, K, M, vb, vs, vl, v1, v2, v3, v4, us, ps, g, hs⟩ := h
  obtain ⟨N, hN⟩ : ∃ N, L.ces.length = N := ⟨_, rfl⟩
  obtain ⟨Q, hQ⟩ : ∃ Q, L.pcs.length = Q := ⟨_, rfl⟩
  have hNt : N ≤ 1200000 := by have := hL.2.2.1; omega
  have hQt : Q ≤ 1200000 := by have := hL.2.2.2; omega
  obtain ⟨ws, hw1, hw2, hw3⟩ := hs.cm.wt
  rw [hL.1] at hw1 hw2
  have hhs := hs.cm.hs
  rw [hL.2.1] at hhs
  obtain ⟨oC, cC, eC, hC⟩ := row_cells hs.cm.cm
  obtain ⟨oW, cW, eW, hW⟩ := row_cells hw1
  obtain ⟨oP, cP, eP, hP⟩ := row_cells hs.cm.pc
  obtain ⟨oH, cH, eH, hH⟩ := row_cells hhs
  rw [hN] at eC hC eW hW
  rw [hQ] at eP hP eH hH
  subst eC eW eP eH
  have HX : Hid (∀ wr, Below w.heap.size w wr → wr.cell? ⟨X, 0, none⟩ = some (.pointer (some ⟨a, 0, none⟩)) ∧ wr.cell? ⟨X, 1, none⟩ = some (.pointer (some ⟨r, 0, none⟩)) ∧ wr.cell? ⟨X, 2, none⟩ = some (.slice oC N cC) ∧ wr.cell? ⟨X, 3, none⟩ = some (.slice oW N cW) ∧ wr.cell? ⟨X, 4, none⟩ = some (.slice oP Q cP) ∧ wr.cell? ⟨X, 5, none⟩ = some (.slice oH Q cH)) := hidden fun wr hb => (hs.px.on hb).cells
  have HI : Hid (∀ i, i < N → ∃ (c : Cl) (ka : Option Addr) (kc : Nat) (va : Option Addr) (vc : Nat) (kb : Option Addr) (kc2 : Nat) (vb2 : Option Addr) (vc2 : Nat) (gC gW : Nat), oC = some ⟨gC, 0, none⟩ ∧ oW = some ⟨gW, 0, none⟩ ∧ N ≤ cC ∧ N ≤ cW ∧ (kvs us)[2 * i]? = some (.slice ka c.key.length kc) ∧ (kvs us)[2 * i + 1]? = some (.slice va c.val.length vc) ∧ ∀ wr, Below w.heap.size w wr → (wr.cell? ⟨gC, i * 5, none⟩ = some (.slice ka c.key.length kc) ∧ wr.cell? ⟨gC, i * 5 + 1, none⟩ = some (.int .i64 c.kd) ∧ wr.cell? ⟨gC, i * 5 + 2, none⟩ = some (.slice va c.val.length vc) ∧ wr.cell? ⟨gC, i * 5 + 3, none⟩ = some (.int .i64 c.pg) ∧ wr.cell? ⟨gC, i * 5 + 4, none⟩ = some (.int .i64 c.ct)) ∧ (wr.cell? ⟨gW, i * 5, none⟩ = some (.slice kb c.key.length kc2) ∧ wr.cell? ⟨gW, i * 5 + 1, none⟩ = some (.int .i64 c.kd) ∧ wr.cell? ⟨gW, i * 5 + 2, none⟩ = some (.slice vb2 c.val.length vc2) ∧ wr.cell? ⟨gW, i * 5 + 3, none⟩ = some (.int .i64 c.pg) ∧ wr.cell? ⟨gW, i * 5 + 4, none⟩ = some (.int .i64 c.ct)) ∧ Calls Tryz.prog 29 #[.agg #[.slice ka c.key.length kc, .int .i64 c.kd, .slice va c.val.length vc, .int .i64 c.pg, .int .i64 c.ct], .agg #[.slice kb c.key.length kc2, .int .i64 c.kd, .slice vb2 c.val.length vc2, .int .i64 c.pg, .int .i64 c.ct]] wr fun e w' => e = .returned (.bool true) ∧ Below wr.heap.size wr w') := hidden (by
    intro i hi
    obtain ⟨c, hc⟩ : ∃ c, L.ces[i]? = some c := ⟨_, List.getElem?_eq_getElem (by omega)⟩
    obtain ⟨ka, kc, va, vc, g0, g1, g2, g3, g4, g5, g6, g7, g8⟩ := hs.cm.cb.at i c hc
    obtain ⟨kb, kc2, vb2, vc2, f0, f1, f2, f3, f4, f5, f6, _, _⟩ := hw2.at i c hc
    rcases hC with h0 | ⟨gC, rfl, hc1, lC, hC⟩
    · omega
    rcases hW with h0 | ⟨gW, rfl, hc2, lW, hW⟩
    · omega
    have hok := hs.cm.cok c (List.mem_of_getElem? hc)
    refine ⟨c, ka, kc, va, vc, kb, kc2, vb2, vc2, gC, gW, rfl, rfl, hc1, hc2, g7, g8, fun wr hb => ⟨⟨?_, ?_, ?_, ?_, ?_⟩, ⟨?_, ?_, ?_, ?_, ?_⟩, ?_⟩⟩
    · exact (hb.cell (p := ⟨gC, i * 5, none⟩) lC).trans (hC _ _ g0)
    · exact (hb.cell (p := ⟨gC, i * 5 + 1, none⟩) lC).trans (hC _ _ g1)
    · exact (hb.cell (p := ⟨gC, i * 5 + 2, none⟩) lC).trans (hC _ _ g2)
    · exact (hb.cell (p := ⟨gC, i * 5 + 3, none⟩) lC).trans (hC _ _ g3)
    · exact (hb.cell (p := ⟨gC, i * 5 + 4, none⟩) lC).trans (hC _ _ g4)
    · exact (hb.cell (p := ⟨gW, i * 5, none⟩) lW).trans (hW _ _ f0)
    · exact (hb.cell (p := ⟨gW, i * 5 + 1, none⟩) lW).trans (hW _ _ f1)
    · exact (hb.cell (p := ⟨gW, i * 5 + 2, none⟩) lW).trans (hW _ _ f2)
    · exact (hb.cell (p := ⟨gW, i * 5 + 3, none⟩) lW).trans (hW _ _ f3)
    · exact (hb.cell (p := ⟨gW, i * 5 + 4, none⟩) lW).trans (hW _ _ f4)
    · exact sameCell_self c ka kb va vb2 kc kc2 vc vc2 wr ((g5.on (Nat.le_refl _) hb).sl2 hok.1.1 (by have := hok.2.1; omega)) ((f5.on (Nat.le_refl _) hb).sl2 hok.1.1 (by have := hok.2.1; omega)) ((g6.on (Nat.le_refl _) hb).sl2 hok.1.2 (by have := hok.2.2; omega)) ((f6.on (Nat.le_refl _) hb).sl2 hok.1.2 (by have := hok.2.2; omega)))
  have HPI : Hid (∀ i, i < Q → ∃ (ao : Option Addr) (m c : Nat) (S : ByteArray) (gP gH : Nat), oP = some ⟨gP, 0, none⟩ ∧ oH = some ⟨gH, 0, none⟩ ∧ Q ≤ cP ∧ Q ≤ cH ∧ ps[i]? = some (.slice ao m c) ∧ ∀ wr, Below w.heap.size w wr → wr.cell? ⟨gP, i, none⟩ = some (.slice ao m c) ∧ wr.cell? ⟨gH, i, none⟩ = some (.string S) ∧ ∀ q, (convert 38 9 (.slice ao m c)).run Tryz.prog (wr.drewN q) = .ok (.string S) (wr.drewN q)) := hidden (by
    intro i hi
    obtain ⟨l, hl⟩ : ∃ l, L.pcs[i]? = some l := ⟨_, List.getElem?_eq_getElem (by omega)⟩
    have hpl : ps.length = L.pcs.length := by
      have := hs.cm.pc.1
      simpa using this
    obtain ⟨u, hu⟩ : ∃ u, ps[i]? = some u := ⟨_, List.getElem?_eq_getElem (by omega)⟩
    have hob := hs.cm.pb i u l hu hl
    obtain ⟨ao, c, rfl⟩ := hob.slice
    have hok := hs.cm.pok l (List.mem_of_getElem? hl)
    rcases hP with h0 | ⟨gP, rfl, hc1, lP, hP⟩
    · omega
    rcases hH with h0 | ⟨gH, rfl, hc2, lH, hH⟩
    · omega
    refine ⟨ao, l.length, c, strOfNums l, gP, gH, rfl, rfl, hc1, hc2, hu, fun wr hb => ⟨?_, ?_, fun q => ?_⟩⟩
    · exact (hb.cell (p := ⟨gP, i, none⟩) lP).trans (hP _ _ hu)
    · exact (hb.cell (p := ⟨gH, i, none⟩) lH).trans (hH i _ (by rw [List.getElem?_map, hl]; rfl))
    · exact conv_sl ((hob.on (Nat.le_refl _) (bl_dr hb q)).sl2 hok.1 (by have := hok.2; omega)))
  have HKL : Hid ((kvs us).length = 2 * N) := hidden (by rw [hs.cm.cb.kvs_len, hN])
  have HPL : Hid (ps.length = Q) := hidden (by
    have := hs.cm.pc.1
    rw [← hQ]
    simpa using this)
  have HS := hidden hs
  have HG := hidden g
  have HT := hidden ht
  have HH0 := hidden h0
  have hNI : (N : Int) ≤ 1200000 := by omega
  have hQI : (Q : Int) ≤ 1200000 := by omega
  obtain ⟨C, hCC⟩ : ∃ C, w.heap.size = C := ⟨_, rfl⟩
  obtain ⟨w1, hw1'⟩ : ∃ w1, w.alloc (.cells #[.slice none 0 0, .slice none 0 0] 73) = w1 := ⟨_, rfl⟩
  have HB0 : Hid (Bj w1 C C (.slice none 0 0) []) := hidden ⟨by rw [← hw1', ← hCC]; exact heap_alloc_last w _, World.ownsRow_nil _ _ _ _, Nat.le_refl _⟩
  have HBe : Hid (Below w.heap.size w w1) := hidden (by rw [← hw1']; exact bl_al (Below.refl _ _) (Nat.le_refl _) _)
  have HCC := hidden hCC
  clear hs g ht h0 hL hN hQ hw1 hw2 hw3 hhs hC hW hP hH htt
  go_enter Tryz.func14, Tryz.ntmps14
  go_wp2_with fail
  clear hw1'
  go_loopw [4] (fun y wr => ∃ (i : Nat) (v : Value), i ≤ N ∧ y = .int .i64 (i : Int) ∧ Hid (Bj wr C C v ((kvs us).take (2 * i))) ∧ Hid (Below w.heap.size w wr)) (fun y _ => N - (RowKit.intOf y).toNat)
  case atStart => exact ⟨0, _, by omega, rfl, by simpa using HB0, HBe⟩
  case round =>
    obtain ⟨i, v, hi, rfl, HB, HW⟩ := hrel
    clear HB0 HBe
    obtain ⟨x0, x1, x2, x3, x4, x5⟩ := HX.out wr HW.out
    by_cases hlt : i < N
    · have hltI : (i : Int) < (N : Int) := by omega
      obtain ⟨⟨key, kd, val, pg, ct⟩, ka, kc, va, vc, kb, kc2, vb2, vc2, gC, gW, rfl, rfl, hcC, hcW, m1, m2, hwr⟩ := HI.out i hlt
      simp only at m1 m2 hwr
      obtain ⟨⟨d0, d1, d2, d3, d4⟩, ⟨b0, b1, b2, b3, b4⟩, _⟩ := hwr wr HW.out
      have HSC : Hid (∀ u, Below wr.heap.size wr u → Calls Tryz.prog 29 #[.agg #[.slice ka key.length kc, .int .i64 kd, .slice va val.length vc, .int .i64 pg, .int .i64 ct], .agg #[.slice kb key.length kc2, .int .i64 kd, .slice vb2 val.length vc2, .int .i64 pg, .int .i64 ct]] u fun e w' => e = .returned (.bool true) ∧ Hid (Below wr.heap.size wr w')) := hidden fun u hu => ((hwr u (bl_go HW.out (Nat.le_refl _) hu)).2.2).mono fun e w' h => ⟨h.1, hidden (bl_go hu (Nat.le_refl _) h.2)⟩
      have HT6 : Hid (∀ u, Below wr.heap.size wr u → Calls Tryz.prog 37 #[.pointer (some ⟨C, 0, none⟩), .agg #[.slice ka key.length kc, .int .i64 kd, .slice va val.length vc, .int .i64 pg, .int .i64 ct]] u fun e w' => e = .returned (.tuple #[]) ∧ Hid (∃ v', Bj w' C C v' ((kvs us).take (2 * (i + 1)))) ∧ Hid (Below w.heap.size w w')) := hidden (by
        intro u hu
        refine (take6j u C C v ((kvs us).take (2 * i)) ka va key.length kc val.length vc kd pg ct (HB.out.on hu) (by rw [List.length_take]; omega)).mono ?_
        rw [take_two m1 m2]
        rintro e w' ⟨rfl, h1, h2⟩
        refine ⟨rfl, h1, hidden ((bl_go HW.out (Nat.le_refl _) hu).trans ?_)⟩
        rw [HCC.out]
        exact h2.out)
      have HCL : Hid (∀ u, Below wr.heap.size wr u → (u.cell? ⟨gC, i * 5, none⟩ = some (.slice ka key.length kc) ∧ u.cell? ⟨gC, i * 5 + 1, none⟩ = some (.int .i64 kd) ∧ u.cell? ⟨gC, i * 5 + 2, none⟩ = some (.slice va val.length vc) ∧ u.cell? ⟨gC, i * 5 + 3, none⟩ = some (.int .i64 pg) ∧ u.cell? ⟨gC, i * 5 + 4, none⟩ = some (.int .i64 ct)) ∧ u.cell? ⟨X, 2, none⟩ = some (.slice (some ⟨gC, 0, none⟩) N cC)) := hidden fun u hu => ⟨(hwr u (bl_go HW.out (Nat.le_refl _) hu)).1, (HX.out u (bl_go HW.out (Nat.le_refl _) hu)).2.2.1⟩
      clear hwr m1 m2 HB
      go_wp2_with fail
      go_region_with (first | (go_at_call 29; refine (HSC.out _ (by first | with_reducible exact Below.refl _ _ | with_reducible exact (Below.refl _ _).drew | with_reducible exact bl_dr (Below.refl _ _) _)).mono ?_; rintro e u1 ⟨rfl, HU1⟩))
      all_goals
        clear d0 d1 d2 d3 d4 b0 b1 b2 b3 b4 x0 x1 x2 x3 x4 x5
        obtain ⟨⟨d0, d1, d2, d3, d4⟩, x2⟩ := HCL.out u1 HU1.out
        go_wp2_with (first | (go_at_call 37; refine (HT6.out _ HU1.out).mono ?_; rintro e u2 ⟨rfl, HU2, HU3⟩))
        obtain ⟨v', hB'⟩ := HU2.out
        have HB' := hidden hB'
        clear hB' HU2
        go_roundw
        case rel => exact ⟨i + 1, v', by omega, by go_num, HB', HU3⟩
        case measure => simp [RowKit.intOf]; omega
    · obtain rfl : i = N := by omega
      have hge : ¬ (i : Int) < (i : Int) := by omega
      have HBk : Hid (Bj wr C C v (kvs us ++ ps.take 0)) := hidden (by
        have := HB.out
        rw [List.take_of_length_le (by rw [HKL.out]; omega)] at this
        simpa using this)
      clear HB HI x0 x1 x2 x3 x4 x5
      obtain ⟨wo, hwo⟩ : ∃ wo, wo = wr := ⟨_, rfl⟩
      subst hwo
      obtain ⟨x0, x1, x2, x3, x4, x5⟩ := HX.out wo HW.out
      go_wp2_with fail
      clear x0 x1 x2 x3 x4 x5
      go_loopw [5] (fun y wr => ∃ (j : Nat) (v : Value), j ≤ Q ∧ y = .int .i64 (j : Int) ∧ Hid (Bj wr C C v (kvs us ++ ps.take j)) ∧ Hid (Below w.heap.size w wr)) (fun y _ => Q - (RowKit.intOf y).toNat)
      case atStart => exact ⟨0, v, by omega, rfl, HBk, HW⟩
      case round =>
        obtain ⟨j, vj, hj, rfl, HB2, HW2⟩ := hrel
        clear HBk HW
        obtain ⟨x0, x1, x2, x3, x4, x5⟩ := HX.out wr HW2.out
        by_cases hlt2 : j < Q
        · have hltI : (j : Int) < (Q : Int) := by omega
          obtain ⟨ao, m, c, S, gP, gH, rfl, rfl, hcP, hcH, m1, hwr⟩ := HPI.out j hlt2
          obtain ⟨d0, d1, d2⟩ := hwr wr HW2.out
          have d20 := d2 0
          have d21 : (convert 38 9 (.slice ao m c)).run Tryz.prog wr.drew = .ok (.string S) wr.drew := d2 1
          have HT3 : Hid (∀ u, Below wr.heap.size wr u → Calls Tryz.prog 38 #[.pointer (some ⟨C, 0, none⟩), .slice ao m c] u fun e w' => e = .returned (.tuple #[]) ∧ Hid (∃ v', Bj w' C C v' (kvs us ++ ps.take (j + 1))) ∧ Hid (Below w.heap.size w w')) := hidden (by
            intro u hu
            refine (take3j u C C vj (kvs us ++ ps.take j) ao m c (HB2.out.on hu) (by rw [List.length_append, List.length_take, HKL.out]; omega)).mono ?_
            rintro e w' ⟨rfl, h1, h2, _⟩
            refine ⟨rfl, ?_, hidden ((bl_go HW2.out (Nat.le_refl _) hu).trans ?_)⟩
            · rw [show ps.take (j + 1) = ps.take j ++ [.slice ao m c] from by rw [List.take_add_one, m1]; rfl, ← List.append_assoc]
              exact h1
            · rw [HCC.out]
              exact h2.out)
          have eS : (S.toList == S.toList) = true := by simp
          clear hwr m1 HB2
          go_wp2_with fail
          go_quiet (fail)
          clear eS d20 d21 d2
          go_wp2_with fail
          go_region_with (first | (go_at_call 38; refine (HT3.out _ (by first | with_reducible exact Below.refl _ _ | with_reducible exact (Below.refl _ _).drew | with_reducible exact bl_dr (Below.refl _ _) _ | with_reducible exact (bl_dr (Below.refl _ _) _).drew)).mono ?_; rintro e u2 ⟨rfl, HU2, HU3⟩))
          all_goals
            obtain ⟨v', hB'⟩ := HU2.out
            have HB' := hidden hB'
            clear hB' HU2
            go_wp2_with fail
            go_roundw
            case rel => exact ⟨j + 1, v', by omega, by go_num, HB', HU3⟩
            case measure => simp [RowKit.intOf]; omega
        · obtain rfl : j = Q := by omega
          have hge2 : ¬ (j : Int) < (j : Int) := by omega
          have hbj := HB2.out
          rw [List.take_of_length_le (by rw [HPL.out]; omega)] at hbj
          obtain ⟨D, hbo⟩ := HS.out.book HW2.out hbj
          have hsr := HS.out.on HW2.out
          have hFB : ∀ z, (∃ y ∈ kvs us ++ ps, y.ownBlock = some z) → B ≤ z ∧ M z := by
            rintro z ⟨y, hy, hz⟩
            simp only [List.mem_append] at hy
            rcases hy with hy | hy
            · obtain ⟨l, h1, _⟩ := hsr.cm.cb.kvs_own hsr.cm.cok y hy
              exact ⟨(World.ownsRow.lt h1 z hz).1, hsr.cm.mu y (hsr.cm.cb.kvs_sub.subset hy) z hz⟩
            · obtain ⟨i, hi⟩ := List.mem_iff_getElem?.1 hy
              have hl : ps.length = L.pcs.length := by
                have := hsr.cm.pc.1
                simpa using this
              have hlt := (List.getElem?_eq_some_iff.1 hi).1
              obtain ⟨l, hl2⟩ : ∃ l, L.pcs[i]? = some l := ⟨_, List.getElem?_eq_getElem (by omega)⟩
              exact ⟨(World.ownsRow.lt (hsr.cm.pb i y l hi hl2) z hz).1, hsr.cm.mp y hy z hz⟩
          have HO := hidden (owned6N (fun z => ∃ y ∈ kvs us ++ ps, y.ownBlock = some z) wr C vj (kvs us ++ ps) D hbo (fun t u hu z hz => .inl ⟨u, List.mem_of_getElem? hu, hz⟩) (fun hf => by
            have := (HS.out.mz C (hFB C hf).2).2
            have := HCC.out
            omega) (by rw [List.length_append, HKL.out, HPL.out]; omega))
          have HFB := hidden hFB
          have HSR := hidden hsr
          have HTR : Hid (Tab wr ∧ 1 < wr.heap.size) := hidden ⟨HT.out.on HW2.out HH0.out, by have := HW2.out.size; have := HH0.out; omega⟩
          clear hbj hbo hsr hFB HB2 HPI
          go_wp2_with (first | (go_at_call 39; refine HO.out.mono ?_; rintro e u ⟨rfl, HCF⟩; refine Hid.out ?_))
          apply hidden
          obtain ⟨hpx, hpo, hdp⟩ := HSR.out.over HCF.out
          have hbu : Below B wr u := HCF.out.below HSR.out.size (fun q hq hf => by have := (HFB.out q hf).1; omega)
          have htu : Tab u := HTR.out.1.on hbu hBG
          have h0u : 1 < u.heap.size := by have := hbu.size; have := HTR.out.2; omega
          have H1 := hidden (bytesO_any u B a k n vb vs cs hpo HG.out htu h0u)
          have HRB : Hid (∀ v, Below u.heap.size u v → Calls Tryz.prog 36 #[.pointer (some ⟨r, 0, none⟩)] v fun e w' => ∃ ao m cap, e = .returned (.slice ao m cap) ∧ Hid (OwnB w' v.heap.size (.slice ao m cap) (en6 k n cs)) ∧ Hid (Below v.heap.size v w')) := hidden fun v hv => rbytes_any v B K r k n vl cs (hdp.on hv) HG.out.rooms (by have := HG.out.len; omega) (by have := HG.out.size; have := (pw_nat HG.out.sz).2; omega)
          have HPX := hidden hpx
          have HBU : Hid (Below B w u) := hidden ((bl_low HW2.out HS.out.size).trans hbu)
          have HBUS : Hid (B ≤ u.heap.size) := hidden (Nat.le_trans HSR.out.size hbu.size)
          obtain ⟨l, hl⟩ : ∃ l, en6 k n cs = l := ⟨_, rfl⟩
          have hlw : Wf l ∧ l.length ≤ 65536 := by rw [← hl]; exact ⟨en6_wf HG.out.wf, en6_len⟩
          rw [hl] at H1 HRB
          have HLW := hidden hlw
          clear x0 x1 x2 x3 x4 x5
          obtain ⟨x0, x1, x2, x3, x4, x5⟩ := hpx.cells
          clear hpx hpo hdp hbu htu h0u hl hlw HO HCF HFB HTR
          go_wp2_with (first | (go_at_call 33; refine H1.out.mono ?_; rintro e u1 ⟨ao, m, c, rfl, HO1, HU1⟩; refine Hid.out ?_))
          apply hidden
          clear x0 x1 x2 x3 x4 x5
          obtain ⟨x0, x1, x2, x3, x4, x5⟩ := (HPX.out.on HU1.out).cells
          obtain ⟨S, hS⟩ : ∃ S, strOfNums l = S := ⟨_, rfl⟩
          have kA : ∀ v, Below u1.heap.size u1 v → (convert 38 9 (.slice ao m c)).run Tryz.prog v = .ok (.string S) v := by
            intro v hv
            rw [← hS]
            exact conv_sl ((HO1.out.on (Nat.le_refl _) hv).sl2 HLW.out.1 (by have := HLW.out.2; omega))
          have k1 := kA u1 (Below.refl _ _)
          have k2 := kA u1.drew (Below.refl _ _).drew
          have KA := hidden kA
          have HRB1 : Hid (∀ v, Below u1.heap.size u1 v → Calls Tryz.prog 36 #[.pointer (some ⟨r, 0, none⟩)] v fun e w' => ∃ bo m2 c2, e = .returned (.slice bo m2 c2) ∧ (convert 38 9 (.slice bo m2 c2)).run Tryz.prog w' = .ok (.string S) w' ∧ (convert 38 9 (.slice ao m c)).run Tryz.prog w' = .ok (.string S) w' ∧ Hid (Below B w w')) := hidden (by
            intro v hv
            refine (HRB.out v (bl_go HU1.out (Nat.le_refl _) hv)).mono ?_
            rintro e w' ⟨bo, m2, c2, rfl, h1, h2⟩
            refine ⟨bo, m2, c2, rfl, ?_, KA.out w' (bl_go hv (Nat.le_refl _) h2.out), hidden (HBU.out.trans (bl_low (bl_go HU1.out (Nat.le_refl _) (bl_go hv (Nat.le_refl _) h2.out)) HBUS.out))⟩
            rw [← hS]
            exact conv_sl (h1.out.sl2 HLW.out.1 (by have := HLW.out.2; omega)))
          have eS : (S.toList == S.toList) = true := by simp
          clear kA hS HRB H1
          go_wp2_with fail
          go_region_law (first
            | (go_simp; go_at_call 36; refine (HRB1.out _ (by first | with_reducible exact Below.refl _ _ | with_reducible exact (Below.refl _ _).drew | with_reducible exact bl_dr (Below.refl _ _) _)).mono ?_; rintro e u2 ⟨bo, m2, c2, rfl, kB, kC, HEN⟩))
          all_goals (try go_wp2)
          all_goals go_ret
          all_goals exact ⟨rfl, HEN⟩
end Go.Proofs.YtphjnahmbdinmaaGreatDoor
