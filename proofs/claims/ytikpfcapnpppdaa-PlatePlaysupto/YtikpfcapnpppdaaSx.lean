/- pair.fall: how the power fails, lent. -/
import Derived.Test.YtikpfcapnpppdaaSv
import Derived.Test.YtikpfcapnpppdaaSm
import Derived.Test.YtikpfcapnpppdaaPm3
namespace Go.Proofs.Ytikpfcapnpppdaa
open Go.RowKit

set_option maxRecDepth 100000 in
/-- Both devices act, the one behind the other. -/
theorem Ps.two {W : World} {B x t pa ra : Nat} {P F G M : Nat → Prop} {its : List (Option Nat × List Int)} {d : D} {r : R} {vC vW : Value} (h : Ps W B P x t its d r pa ra F G M vC vW) {f1 f2 : Nat} {a1 a2 : Array Value} {d' : D} {r' : R} (htw : Tw d' r') (m2 : d'.loose.length ≤ t) (m3 : d'.cr = d.cr) (m4 : d'.cw = d.cw) (m5 : d'.cs = d.cs) (m6 : d'.armed = true → 0 ≤ d'.left ∧ d'.left ≤ 9223372036854775807)
    (h1 : Calls Try.prog f1 a1 W.drew fun e u => e = .returned (.tuple #[]) ∧ Dv u (Fn F W.drew u) pa d' ∧ Ch F W.drew u)
    (h2 : ∀ u, Ch F W u → Rv u.drew G ra r → (∀ k, G k → k < u.drew.heap.size) → Calls Try.prog f2 a2 u.drew fun e v => e = .returned (.tuple #[]) ∧ Rv v (Fn G u.drew v) ra r' ∧ Ch G u.drew v) :
    Calls Try.prog f1 a1 W.drew fun e u => e = .returned (.tuple #[]) ∧ Ch P W u ∧ u.cell? ⟨x, 1, none⟩ = some (.pointer (some ⟨ra, 0, none⟩)) ∧ Hid (Calls Try.prog f2 a2 u.drew fun e v => e = .returned (.tuple #[]) ∧ Hid (Pp v B (Pg P W v) x t ∧ Ch P W v)) := by
  refine h1.mono ?_
  rintro e u ⟨rfl, hD, hC⟩
  have hC' : Ch F W u := (Ch.dr F W).trans hC fun _ _ h => h
  refine ⟨rfl, hC'.mono fun k _ hk => (h.hF k hk).1, h.cell1 hC' h.nF, hidden ?_⟩
  refine (h2 u hC' ((h.rv.ch hC' fun k _ hg hf => (h.hG k hg).2.2 hf).ch (Ch.dr (fun _ => False) u) fun _ _ _ h => h) fun k hk => Nat.lt_of_lt_of_le (h.hG k hk).2.1 hC'.size).mono ?_
  rintro e v ⟨rfl, hR, hC2⟩
  have hq := h.both (t' := t) (hD.ch (Ch.dr (fun _ => False) u) fun _ _ _ h => h) (hC'.trans (Ch.dr F u) fun _ _ h => h) (fun k hk => hk) hR hC2 (fun k hk => hk) htw h.n1 m2 (m3 ▸ h.n3) (m4 ▸ h.n4) (m5 ▸ h.n5) m6
  exact ⟨rfl, hidden ⟨⟨_, _, _, _, _, _, _, _, _, _, hq.1⟩, hq.2⟩⟩

set_option maxRecDepth 100000 in
set_option maxHeartbeats 4000000 in
theorem pfall (w : World) (B x t pa ra : Nat) (P F G M : Nat → Prop) (its : List (Option Nat × List Int)) (d : D) (r : R) (vC vW : Value) (h : Ps w B P x t its d r pa ra F G M vC vW) (kind on n by_ : Int) (hn : n ≤ 9223372036854775807) (da ka : Option Addr) (dn dc kn kc : Nat) (tn ta : Int) (ks : List Int) (hk : Pl_ w P ka kn kc ks) (hPl : ∀ k, P k → k < w.heap.size) :
    Calls Try.prog 31 #[.pointer (some ⟨x, 0, none⟩), opV kind on n by_ da dn dc ka kn kc tn ta] w fun e w' => e = .returned (.bool true) ∧ Pp w' B (Pg P w w') x t ∧ Ch P w w' := by
  obtain ⟨i0, hi, hz0, hz1, hz2⟩ := info_parts infoI
  have hsz : (Try.prog.info? 3).map (·.size) = some 1 := by rw [hi]; simp [hz1]
  have hxl := lt_of_some h.pc.row
  have hxn : ¬ x = w.heap.size := by omega
  unfold opV
  have HH := hidden h
  have HK := hidden hk
  have HPL := hidden hPl
  have hroom := hk.le
  have HLEN : Hid (ks.length = kn) := hidden hk.ks.hlen
  clear h hk hPl
  go_enter Try.func31, Try.ntmps31
  go_wp2_with (at_make; refine wpList_make_full _ rfl _ _ 36 rfl 0 3 i0 (.int .i64 0) 1 Try.underlying36 hi hz0 hz1 .i64 .i64 (kn + 2) (kn + 2) (kn + 2) rfl rfl rfl rfl (by rw [hz2]; omega) (by unfold maxLen; omega) (Nat.zero_le _) ?_)
  intro w1 hown1 hg1
  obtain ⟨s, hs⟩ : ∃ s, w.heap.size + 1 = s := ⟨_, rfl⟩
  have hr1 : w1.heap[s]? = some (.cells (In (List.replicate (kn + 2) 0)).toArray 3 (0, 0)) := by rw [← hs]; simpa [In] using made_row hown1
  have hB1 : Below w.heap.size w w1 := ((Below.refl _ _).alloc (Nat.le_refl _) _).trans ((Below.refl _ _).grown hg1 (by simp) (fun k hk => by cases hk))
  have HX : Hid (∀ i v, (w.alloc (.cells #[.int .i64 kind, .int .i64 on, .int .i64 n, .int .u8 by_, .slice da dn dc, .slice ka kn kc, .int .i64 tn, .int .i64 ta] 40 (0, 0))).cell? ⟨w.heap.size, i, none⟩ = some v → w1.cell? ⟨w.heap.size, i, none⟩ = some v) := hidden fun i v hv => (World.cell?_of_block (a := ⟨w.heap.size, i, none⟩) (hg1.block w.heap.size (by simp) (by simp))).trans hv
  have x0 : w1.cell? ⟨w.heap.size, 0, none⟩ = some (.int .i64 kind) := HX.out _ _ (by simp)
  have x2 : w1.cell? ⟨w.heap.size, 2, none⟩ = some (.int .i64 n) := HX.out _ _ (by simp)
  have x5 : w1.cell? ⟨w.heap.size, 5, none⟩ = some (.slice ka kn kc) := HX.out _ _ (by simp)
  have x6 : w1.cell? ⟨w.heap.size, 6, none⟩ = some (.int .i64 tn) := HX.out _ _ (by simp)
  have x7 : w1.cell? ⟨w.heap.size, 7, none⟩ = some (.int .i64 ta) := HX.out _ _ (by simp)
  have hw1 : s < w1.heap.size := lt_of_some hr1
  have HR1 := hidden hr1
  have HB1 := hidden hB1
  clear hown1 hg1 hr1 hB1 HX hi hz0 hz1 hz2
  have HP : Hid (0 < (In ks).length → some (⟨s, 0, none⟩ : Addr) = some ⟨s, 0, none⟩ ∧ ∃ ad, ka = some ad ∧ ∀ j v, (In ks)[j]? = some v → w1.cell? (ad.add j) = some v) := by
    refine hidden fun h => ?_
    rw [In_length] at h
    rcases HK.out.ks.hat with h0 | ⟨b, off, rfl, hbb, hc⟩
    · rw [HLEN.out] at h; omega
    · refine ⟨rfl, _, rfl, fun j v hv => ?_⟩
      obtain ⟨h1, rfl⟩ := getElem?_In ks j v hv
      rw [Addr.add_lit]
      exact (HB1.out.cell (p := ⟨b, off + j, none⟩) hbb).trans (hc j (by rw [← HLEN.out]; exact h1))
  obtain ⟨cur, hcur⟩ : ∃ cur, In (List.replicate (kn + 2) 0) = cur := ⟨_, rfl⟩
  rw [hcur] at HR1
  have HCL : Hid (cur.length = kn + 2) := hidden (by rw [← hcur]; simp [In])
  have HCUR := hidden hcur
  clear hcur
  rw [hs]
  go_wp2_with (refine wpList_copy_splice rfl _ _ 36 36 rfl 3 Try.underlying36 hsz _ _ (kn + 2) (kn + 2) kn kc rfl rfl s 0 cur 3 HR1.out (In ks) (by rw [In_length, HLEN.out]; exact (Nat.min_eq_left (by omega)).symm) HP.out (by rw [In_length, HLEN.out, HCL.out]; omega) (In_one ks) s w1 (Below.refl _ _) (Nat.le_refl _) ?_)
  intro w2 hh hb2
  have HR2 : Hid (w2.heap[s]? = some (.cells (In (ks ++ [0, 0])).toArray 3 (0, 0))) := hidden (by
    rw [hh.out, ← HCUR.out]
    simp only [splice, In_length, HLEN.out, List.take_zero, List.nil_append, Nat.zero_add]
    simp only [In, List.map_append, List.map_replicate, List.drop_replicate, show kn + 2 - kn = 2 by omega]
    rfl)
  have HB2 : Hid (Below s w1 w2) := hidden hb2
  have HY : Hid (∀ i v, w1.cell? ⟨w.heap.size, i, none⟩ = some v → w2.cell? ⟨w.heap.size, i, none⟩ = some v) := hidden fun i v hv => (hb2.cell (p := ⟨w.heap.size, i, none⟩) (by show w.heap.size < s; omega)).trans hv
  have y0 := HY.out _ _ x0
  have y2 := HY.out _ _ x2
  have y5 := HY.out _ _ x5
  have y6 := HY.out _ _ x6
  have y7 := HY.out _ _ x7
  have hw2 : s < w2.heap.size := lt_of_some HR2.out
  clear hh hb2 HP HCUR HCL HR1 HY x0 x2 x5 x6 x7 hw1
  have hne : ¬ s = w.heap.size := by omega
  have hne' : ¬ w.heap.size = s := by omega
  have hne2 : ¬ s = w2.heap.size := by omega
  have hlt3 : w.heap.size < w2.heap.size := by omega
  have hne3 : ¬ w.heap.size = w2.heap.size := by omega
  have hne4 : ¬ w2.heap.size = w.heap.size := by omega
  have f0 := free_of_row (i := kn) HR2.out
  have f1 := free_of_row (i := kn + 1) HR2.out
  obtain ⟨z0, cz0⟩ : ∃ y, w2.cell? ⟨s, kn, none⟩ = some y := ⟨_, (cell_of_row HR2.out).trans (getD_In _ _ (by simp [HLEN.out]))⟩
  obtain ⟨z1, cz1⟩ : ∃ y, w2.cell? ⟨s, kn + 1, none⟩ = some y := ⟨_, (cell_of_row HR2.out).trans (getD_In _ _ (by simp [HLEN.out]))⟩
  go_upto_if 43 with fail
  obtain ⟨W, hW⟩ : ∃ W, W = ((w2.setCell ⟨s, kn, none⟩ (.int .i64 (-5))).setCell ⟨s, kn + 1, none⟩ (.int .i64 (-5))).alloc (.cells #[.slice (some ⟨s, 0, none⟩) kn (kn + 2), .int .i64 tn, .int .i64 ta] 38 (0, 0)) := ⟨_, rfl⟩
  rw [← hW]
  obtain ⟨X, hX⟩ : ∃ X, ks ++ [-5, -5] = X := ⟨_, rfl⟩
  have hRW : W.heap[s]? = some (.cells (In X).toArray 3 (0, 0)) := by
    rw [hW, Below.heap_alloc _ _ _ (by simp [World.setCell]; exact hw2)]
    rw [heap_setCell_self (heap_setCell_self HR2.out), In_set, In_set, ← hX]
    congr 3
    rw [← HLEN.out]
    simp
  have hBs : Below s w2 W := by
    rw [hW]
    exact (((Below.refl s w2).setCell (by exact Nat.le_refl _) _).setCell (by exact Nat.le_refl _) _).alloc (by simp [World.setCell]; omega) _
  have hBW : Below w.heap.size w W := (HB1.out.trans (HB2.out.mono (by omega))).trans (hBs.mono (by omega))
  obtain ⟨fb, hfb⟩ : ∃ fb, fb = w2.heap.size := ⟨_, rfl⟩
  have g0 : W.cell? ⟨fb, 0, none⟩ = some (.slice (some ⟨s, 0, none⟩) kn (kn + 2)) := by rw [hW, hfb]; exact (World.cell?_alloc_at _ _ _ _ (by simp [World.setCell])).trans rfl
  have g1 : W.cell? ⟨fb, 1, none⟩ = some (.int .i64 tn) := by rw [hW, hfb]; exact (World.cell?_alloc_at _ _ _ _ (by simp [World.setCell])).trans rfl
  have g2 : W.cell? ⟨fb, 2, none⟩ = some (.int .i64 ta) := by rw [hW, hfb]; exact (World.cell?_alloc_at _ _ _ _ (by simp [World.setCell])).trans rfl
  rw [← hfb]
  have HY : Hid (∀ i v, w2.cell? ⟨w.heap.size, i, none⟩ = some v → W.cell? ⟨w.heap.size, i, none⟩ = some v) := hidden fun i v hv => (hBs.cell (p := ⟨w.heap.size, i, none⟩) (by show w.heap.size < s; omega)).trans hv
  have b0 := HY.out _ _ y0
  have b2 := HY.out _ _ y2
  have b5 := HY.out _ _ y5
  have b6 := HY.out _ _ y6
  have b7 := HY.out _ _ y7
  have HRW := hidden hRW
  have HBW := hidden hBW
  have HXL : Hid (X.length = kn + 2) := hidden (by rw [← hX]; simp [HLEN.out])
  have HXK : Hid (∀ i, i < kn → X.getD i 0 = ks.getD i 0) := hidden fun i hi => by
    rw [← hX]
    simp only [List.getD]
    rw [List.getElem?_append_left (by rw [HLEN.out]; exact hi)]
  have HXM : Hid (∀ i, kn ≤ i → i < kn + 2 → X.getD i 0 = -5) := hidden fun i h1 h2 => by
    rw [← hX]
    simp only [List.getD]
    rw [List.getElem?_append_right (by rw [HLEN.out]; exact h1), HLEN.out]
    rcases (show i - kn = 0 ∨ i - kn = 1 by omega) with e | e <;> rw [e] <;> rfl
  have HWZ : Hid (fb < W.heap.size ∧ s < W.heap.size ∧ w.heap.size < W.heap.size) := hidden ⟨by rw [hW, hfb]; simp [World.setCell], lt_of_some hRW, by have := lt_of_some hRW; omega⟩
  clear hRW hBs hBW HY y0 y2 y5 y6 y7 hW hX HR2 HB1 HB2 f0 f1 z0 cz0 z1 cz1 hne2 hlt3 hne3 hne4 hw2 hfb
  have HKG : Hid (∀ u, Ch P w u → Pl_ u P ka kn kc ks) := hidden fun u hu => ⟨⟨HLEN.out, by omega, HK.out.ks.hat.imp (fun h => h) fun ⟨b, off, e, hb, hc⟩ => ⟨b, off, e, Nat.lt_of_lt_of_le hb hu.size, fun i hi => by
    rcases HK.out.out with h0 | h0
    · omega
    · exact (World.cell?_of_block (w := w) (a := ⟨b, off + i, none⟩) (hu.block b hb (h0 _ e))).trans (hc i hi)⟩⟩, HK.out.le, HK.out.nil, HK.out.out⟩
  have HNP : Hid (¬ P s ∧ ¬ P w.heap.size) := hidden ⟨fun hk => by have := HPL.out _ hk; omega, fun hk => by have := HPL.out _ hk; omega⟩
  have HCW : Hid (Ch P w W) := hidden (Ch.of_below HBW.out)
  go_cut [4] (fun v u => v = .bool false ∧ Hid (Pp u B (Pg P W u) x t ∧ Ch P W u))
  case first =>
    have hP0 : Ps W B P x t its d r pa ra F G M vC vW := HH.out.ch (Ch.of_below (F := fun _ => False) HBW.out) (fun _ _ h => h)
    have k0 : W.cell? ⟨x, 0, none⟩ = some (.pointer (some ⟨pa, 0, none⟩)) := cell_of_row hP0.pc.row
    have hFs : ∀ k, F k → k < w.heap.size := fun k hk => HPL.out _ (hP0.hF k hk).1
    have hPL : Pl_ W.drew F (some ⟨s, 0, none⟩) kn (kn + 2) ks := ⟨⟨HLEN.out, by omega, .inr ⟨s, 0, rfl, HWZ.out.2.1, fun i hi => by
      rw [Nat.zero_add, show W.drew.cell? ⟨s, i, none⟩ = W.cell? ⟨s, i, none⟩ from rfl, cell_of_row HRW.out, getD_In _ _ (by rw [HXL.out]; omega), HXK.out i hi]⟩⟩, hroom, (by intro h; cases h), .inr fun g hg e => by
        injection hg with hg
        subst hg
        have := hFs _ e
        replace this : s < w.heap.size := this
        omega⟩
    have hPG : ∀ u, Ch F W u → Pl_ u.drew G ka kn kc ks := fun u hu => by
      have q := HKG.out u.drew ((HCW.out.trans hu fun k _ hk => (hP0.hF k hk).1).trans (Ch.dr P u) fun _ _ h => h)
      exact ⟨q.ks, q.le, q.nil, q.out.imp (fun h => h) fun h g e hg => h g e (hP0.hG _ hg).1⟩
    have HCB : Hid (∀ u, Ch P W u → ∀ i v, W.cell? ⟨w.heap.size, i, none⟩ = some v → u.cell? ⟨w.heap.size, i, none⟩ = some v) := hidden fun u hu i v hv => (World.cell?_of_block (w := W) (a := ⟨w.heap.size, i, none⟩) (hu.block _ HWZ.out.2.2 HNP.out.2)).trans hv
    by_cases hk4 : kind = 4
    · subst hk4
      obtain ⟨d', r', htw, m2, m3, m4, m5, m6, hS1, hS2⟩ := arm_both F G pa ra t n hn ks tn ta hP0.tw hP0.n2 hP0.n6
      have hA := hP0.two htw m2 m3 m4 m5 m6 (hS1 W.drew (some ⟨s, 0, none⟩) kn (kn + 2) hP0.dr.dv (fun k hk => (hP0.hF k hk).2) hPL) (fun u hu h1 h2 => hS2 u.drew ka kn kc h1 h2 (hPG u hu))
      have HA := hidden hA
      clear hA hS1 hS2 htw m2 m3 m4 m5 m6 hP0 hFs hPL hPG
      go_wp2_with fail
      go_region_with (go_at_call 54; refine HA.out.mono ?_; rintro e u1 ⟨rfl, hC1, k1, HA2⟩; have c2 := HCB.out u1 hC1 _ _ b2; have c5 := HCB.out u1 hC1 _ _ b5; have c6 := HCB.out u1 hC1 _ _ b6; have c7 := HCB.out u1 hC1 _ _ b7; clear hC1)
      all_goals
        go_wp2_with fail
        go_region_with (go_at_call 55; refine HA2.out.mono ?_; rintro e u2 ⟨rfl, HQ⟩)
      all_goals
        go_wp2
        go_meet
        case rel => exact ⟨rfl, HQ⟩
    · obtain ⟨d', r', htw, m2, m3, m4, m5, m6, hS1, hS2⟩ := crash_both F G pa ra t ks tn ta hP0.tw hP0.n2 hP0.n6
      have hA := hP0.two htw m2 m3 m4 m5 m6 (hS1 W.drew (some ⟨s, 0, none⟩) kn (kn + 2) hP0.dr.dv (fun k hk => (hP0.hF k hk).2) hPL) (fun u hu h1 h2 => hS2 u.drew ka kn kc h1 h2 (hPG u hu))
      have HA := hidden hA
      clear hA hS1 hS2 htw m2 m3 m4 m5 m6 hP0 hFs hPL hPG
      go_wp2_with fail
      go_region_with (go_at_call 21; refine HA.out.mono ?_; rintro e u1 ⟨rfl, hC1, k1, HA2⟩; have c5 := HCB.out u1 hC1 _ _ b5; have c6 := HCB.out u1 hC1 _ _ b6; have c7 := HCB.out u1 hC1 _ _ b7; clear hC1)
      all_goals
        go_wp2_with fail
        go_region_with (go_at_call 56; refine HA2.out.mono ?_; rintro e u2 ⟨rfl, HQ⟩)
      all_goals
        go_wp2
        go_meet
        case rel => exact ⟨rfl, HQ⟩
  case rest =>
    obtain ⟨rfl, HQ⟩ := hcut
    have hCC : Ch P w wc := HCW.out.trans HQ.out.2 fun _ _ h => h
    have hRS : wc.heap[s]? = some (.cells (In X).toArray 3 (0, 0)) := (HQ.out.2.block s HWZ.out.2.1 HNP.out.1).trans HRW.out
    have hO5 : wc.cell? ⟨w.heap.size, 5, none⟩ = some (.slice ka kn kc) := (World.cell?_of_block (w := W) (a := ⟨w.heap.size, 5, none⟩) (HQ.out.2.block _ HWZ.out.2.2 HNP.out.2)).trans b5
    have HRS := hidden hRS
    have HCC := hidden hCC
    have HO5 := hidden hO5
    have hsz2 : w.heap.size < wc.heap.size := by have := lt_of_some hRS; omega
    clear b0 b2 b5 b6 b7 g0 g1 g2 hCC hRS hO5
    go_wp2_with fail
    go_loopw [7] (fun i wr => ∃ k : Nat, ∃ A : List Int, k ≤ kn + 2 ∧ i = .int .i64 k ∧ A.length = k ∧ Hid (Ch (fun j => j = s) wc wr) ∧ Hid (wr.heap[s]? = some (.cells (In (A ++ X.drop k)).toArray 3 (0, 0)))) (fun i _ => kn + 2 - (intOf i).toNat)
    case atStart => exact ⟨0, [], by omega, rfl, rfl, hidden (Ch.refl _ _), HRS⟩
    case round =>
      obtain ⟨k, A, hk, rfl, hA, HB, HW⟩ := hrel
      by_cases hlt : k < kn + 2
      · have hlt' : (k : Int) < (kn : Int) + 2 := by omega
        have f := free_of_row (i := k) HW.out
        have hXl := HXL.out
        have o5 : wr.cell? ⟨w.heap.size, 5, none⟩ = some (.slice ka kn kc) := (World.cell?_of_block (w := wc) (a := ⟨w.heap.size, 5, none⟩) (HB.out.block _ hsz2 hne')).trans HO5.out
        have hcell : wr.cell? ⟨s, k, none⟩ = some (.int .i64 (X.getD k 0)) := (cell_of_row HW.out).trans ((getD_In _ _ (by simp; omega)).trans (by
          simp only [List.getD]
          rw [List.getElem?_append_right (by omega), List.getElem?_drop, hA, Nat.sub_self, Nat.add_zero]))
        have HST : Hid (∀ q v, ((wr.drewN q).setCell ⟨s, k, none⟩ (.int .i64 v)).heap[s]? = some (.cells (In ((A ++ [v]) ++ X.drop (k + 1))).toArray 3 (0, 0))) := hidden fun q v => by
          rw [heap_setCell_self (w := wr.drewN q) HW.out, In_set, List.set_append_right _ _ (by omega), hA, Nat.sub_self, List.drop_eq_getElem_cons (by omega), List.set_cons_zero, List.append_assoc]
          rfl
        have HAL : Hid (∀ v : Int, (A ++ [v]).length = k + 1) := hidden fun v => by simp [hA]
        clear hXl hA
        by_cases hkn : k < kn
        · have hkn' : (k : Int) < (kn : Int) := by omega
          have hkn2 : ¬ ((kn : Int) ≤ (k : Int)) := by omega
          have hd : decide ((kn : Int) ≤ (k : Int)) = false := by simpa using hkn
          have hkn3 : ¬ (kn ≤ k) := by omega
          have hd3 : decide (kn ≤ k) = false := by simpa using hkn
          obtain ⟨b, off, rfl, hbl, hc⟩ := HK.out.ks.hat.resolve_left (by omega)
          have hbP := HK.out.out.resolve_left (by omega) _ rfl
          have hsrc : wr.cell? ⟨b, off + k, none⟩ = some (.int .i64 (ks.getD k 0)) := (World.cell?_of_block (w := wc) (a := ⟨b, off + k, none⟩) (HB.out.block _ (Nat.lt_of_lt_of_le hbl HCC.out.size) (by show ¬ b = s; omega))).trans ((World.cell?_of_block (w := w) (a := ⟨b, off + k, none⟩) (HCC.out.block _ hbl hbP)).trans (hc k hkn))
          rw [HXK.out k hkn] at hcell
          generalize ks.getD k 0 = v at *
          have hvv : (v != v) = false := by simp
          clear hc hbP
          go_wp2_with fail
          go_quiet (fail)
          go_wp2
          go_roundw
          case rel => exact ⟨k + 1, _, by omega, by go_num, HAL.out _, hidden (HB.out.trans ((Ch.drew (fun j => j = s) wr _).trans (Ch.setCell _ (F := fun j => j = s) rfl _) fun _ _ h => h) fun _ _ h => h), hidden (HST.out _ _)⟩
          case measure => simp [intOf]; omega
        · have hkn' : ¬ ((k : Int) < (kn : Int)) := by omega
          have hkn2 : ((kn : Int) ≤ (k : Int)) := by omega
          rw [HXM.out k (by omega) hlt] at hcell
          go_wp2_with fail
          go_quiet (fail)
          go_wp2
          go_roundw
          case rel => exact ⟨k + 1, _, by omega, by go_num, HAL.out _, hidden (HB.out.trans ((Ch.drew (fun j => j = s) wr _).trans (Ch.setCell _ (F := fun j => j = s) rfl _) fun _ _ h => h) fun _ _ h => h), hidden (HST.out _ _)⟩
          case measure => simp [intOf]; omega
      · have hge : ¬ ((k : Int) < (kn : Int) + 2) := by omega
        go_wp2
        go_ret
        refine ⟨rfl, ?_, ?_⟩
        · obtain ⟨its', d', r', pa', ra', F', G', M', vC', vW', hp⟩ := HQ.out.1.ch HB.out (fun k hk e => by
            subst e
            rcases hk with e | e
            · exact HNP.out.1 e
            · have := HWZ.out.2.1; omega)
          refine ⟨_, _, _, _, _, _, _, _, _, _, hp.weak (fun k hk => ?_) (Nat.le_refl _)⟩
          rcases hk with e | e
          · exact .inl e
          · exact .inr ⟨Nat.le_trans HCW.out.size e.1, Nat.lt_of_lt_of_le e.2 HB.out.size⟩
        · exact HCC.out.trans HB.out fun k hk e => by
            replace e : k = s := e
            omega
end Go.Proofs.Ytikpfcapnpppdaa
