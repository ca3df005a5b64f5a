/- The pair's play: Sync. -/
import Derived.Test.YtikpfcapnpppdaaSf
namespace Go.Proofs.Ytikpfcapnpppdaa
open Go.RowKit

set_option maxRecDepth 100000 in
/-- A call of the program's device as the first of a step: what stands behind it. -/
theorem Ps.first {w : World} {B x t pa ra : Nat} {P F G M : Nat → Prop} {its : List (Option Nat × List Int)} {d : D} {r : R} {vC vW : Value} (h : Ps w B P x t its d r pa ra F G M vC vW) {f : Nat} {ar : Array Value} {R1 : Ending → World → World → Prop} (hf : ∀ w1, Ps w1 B P x t its d r pa ra F G M vC vW → Calls Try.prog f ar w1 fun e u => R1 e w1 u) :
    ∀ o, Calls Try.prog f ar (w.alloc o) fun e u => ∃ w1, Ps w1 B P x t its d r pa ra F G M vC vW ∧ w.heap.size ≤ w1.heap.size ∧ Ch P w w1 ∧ R1 e w1 u := fun o => (hf _ (h.box o)).mono (by
    intro e u h1
    exact ⟨w.alloc o, h.box o, by simp, Ch.alloc P w o, h1⟩)
set_option maxRecDepth 100000 in
theorem Ps.cell1 {w u : World} {B x t pa ra : Nat} {P F G M Q : Nat → Prop} {its : List (Option Nat × List Int)} {d : D} {r : R} {vC vW : Value} (h : Ps w B P x t its d r pa ra F G M vC vW) (hc : Ch Q w u) (hq : ¬ Q x) : u.cell? ⟨x, 1, none⟩ = some (.pointer (some ⟨ra, 0, none⟩)) :=
  (World.cell?_of_block (a := ⟨x, 1, none⟩) (hc.block x (lt_of_some h.pc.row) hq)).trans (cell_of_row h.pc.row)
set_option maxRecDepth 100000 in
theorem Ps.nF {w : World} {B x t pa ra : Nat} {P F G M : Nat → Prop} {its : List (Option Nat × List Int)} {d : D} {r : R} {vC vW : Value} (h : Ps w B P x t its d r pa ra F G M vC vW) : ¬ F x := (h.hP x (.inl rfl)).2.2.1

set_option maxRecDepth 100000 in
set_option maxHeartbeats 2000000 in
theorem play_sync (w : World) (B x t pa ra : Nat) (P F G M : Nat → Prop) (its : List (Option Nat × List Int)) (d : D) (r : R) (vC vW : Value) (h : Ps w B P x t its d r pa ra F G M vC vW) (ht : t < 4398046511103) (on n by_ : Int) (da ka : Option Addr) (dn dc kn kc : Nat) (tn ta : Int) :
    Calls Try.prog 8 #[.pointer (some ⟨x, 0, none⟩), opV 3 on n by_ da dn dc ka kn kc tn ta] w fun e w' => e = .returned (.bool true) ∧ Pp w' B (Pg P w w') x (t + 1) ∧ Ch P w w' := by
  have hxl := lt_of_some h.pc.row
  have hxn : ¬ x = w.heap.size := by omega
  unfold opV
  have k0 : w.cell? ⟨x, 0, none⟩ = some (.pointer (some ⟨pa, 0, none⟩)) := cell_of_row h.pc.row
  obtain ⟨ec, d', r', htw, m2, m3, m4, m5, m6, hS1, hS2⟩ := sync_both F G pa ra t h.tw ht h.n2 h.n5 h.n6
  have HS := hidden (h.first (R1 := fun e w1 u => e = .returned (.int .i64 ec) ∧ Dv u F pa d' ∧ Ch F w1 u) fun w1 h1 => hS1 w1 h1.dv fun k hk => (h1.hF k hk).2)
  have HS2 := hidden hS2
  have HT := hidden htw
  have HM : Hid (d'.loose.length ≤ t + 1 ∧ (0 ≤ d'.cr ∧ d'.cr ≤ (t + 1 : Nat)) ∧ (0 ≤ d'.cw ∧ d'.cw ≤ (t + 1 : Nat)) ∧ (0 ≤ d'.cs ∧ d'.cs ≤ (t + 1 : Nat)) ∧ (d'.armed = true → 0 ≤ d'.left ∧ d'.left ≤ 9223372036854775807) ∧ its.length ≤ 2 * (t + 1)) := hidden (by
    have a1 := h.n1
    have a3 := h.n3
    have a4 := h.n4
    have a5 := h.n5
    refine ⟨by omega, ⟨by omega, by omega⟩, ⟨by omega, by omega⟩, ⟨by omega, by omega⟩, m6, by omega⟩)
  clear h hS1 hS2 htw m2 m3 m4 m5 m6
  go_enter Try.func8, Try.ntmps8
  go_wp2_with (go_at_call 20; refine (HS.out _).mono ?_; rintro e u ⟨w1, hP, hz, hW, rfl, hD, hC⟩; have HD := hidden hD; have HC := hidden hC; have HP := hidden hP; have HW := hidden hW; clear hD hC hP hW; refine Hid.out ?_)
  apply hidden
  clear HS
  have k1 := HP.out.cell1 HC.out HP.out.nF
  have hS2 := HS2.out u (HP.out.rv.ch HC.out fun k _ hg hf => (HP.out.hG k hg).2.2 hf) fun k hk => Nat.lt_of_lt_of_le (HP.out.hG k hk).2.1 HC.out.size
  clear k0 HS2
  go_wp2_with (go_at_call 30; refine hS2.mono ?_; rintro e u2 ⟨rfl, hD, hC⟩; have HD2 := hidden hD; have HC2 := hidden hC; clear hD hC; refine Hid.out ?_)
  apply hidden
  clear hS2 k1
  obtain ⟨q1, q2, q3, q4, q5, q6⟩ := HM.out
  have hQ := HP.out.both (t' := t + 1) HD.out HC.out (fun k hk => .inl hk) HD2.out HC2.out (fun k hk => .inl hk) HT.out q6 q1 q2 q3 q4 q5
  have HQ := hidden hQ
  clear hQ q1 q2 q3 q4 q5 q6
  go_wp2
  go_ret
  refine ⟨by first | rfl | simp, ⟨_, _, _, _, _, _, _, _, _, _, HQ.out.1.weak (fun k hk => ?_) (Nat.le_refl _)⟩, HW.out.trans HQ.out.2 fun _ _ h => h⟩
  rcases hk with e | e
  · exact .inl e
  · exact .inr ⟨Nat.le_trans hz e.1, e.2⟩
end Go.Proofs.Ytikpfcapnpppdaa

/- The pair's play: a kind that is none. -/

namespace Go.Proofs.Ytikpfcapnpppdaa
open Go.RowKit

set_option maxRecDepth 100000 in
set_option maxHeartbeats 2000000 in
theorem play_none (w : World) (B x t pa ra : Nat) (P F G M : Nat → Prop) (its : List (Option Nat × List Int)) (d : D) (r : R) (vC vW : Value) (h : Ps w B P x t its d r pa ra F G M vC vW) (kind on n by_ : Int) (hk : kind < 1 ∨ 9 < kind) (da ka : Option Addr) (dn dc kn kc : Nat) (tn ta : Int) :
    Calls Try.prog 8 #[.pointer (some ⟨x, 0, none⟩), opV kind on n by_ da dn dc ka kn kc tn ta] w fun e w' => e = .returned (.bool true) ∧ Ps w' B P x t its d r pa ra F G M vC vW ∧ Ch P w w' := by
  unfold opV
  have n1 : ¬ kind = 1 := by omega
  have n2 : ¬ kind = 2 := by omega
  have n3 : ¬ kind = 3 := by omega
  have n4 : ¬ kind = 4 := by omega
  have n5 : ¬ kind = 5 := by omega
  have n6 : ¬ kind = 6 := by omega
  have n7 : ¬ kind = 7 := by omega
  have n8 : ¬ kind = 8 := by omega
  have n9 : ¬ kind = 9 := by omega
  have H := hidden h
  clear h hk
  go_enter Try.func8, Try.ntmps8
  go_wp2
  go_ret
  exact ⟨rfl, H.out.box _, Ch.alloc P w _⟩
end Go.Proofs.Ytikpfcapnpppdaa

/- The document's Read: what it answers lies in memory of its own. -/

namespace Go.Proofs.Ytikpfcapnpppdaa
open Go.RowKit

set_option maxRecDepth 100000 in
set_option maxHeartbeats 1000000 in
theorem Reading_new (w : World) (F : Nat → Prop) (a : Nat) (r : R) (n : Nat) (h : Rv w F a r) (hn : n < r.L.length) :
    Calls Try.prog 51 #[.pointer (some ⟨a, 0, none⟩), .int .i64 (n : Int)] w fun e w' => ∃ ao c, e = .returned (.slice ao r.page c) ∧ Sl w' ao r.page c (rdR r n) ∧ Below w.heap.size w w' ∧ (∀ g, ao = some g → w.heap.size ≤ g.block) := by
  obtain ⟨vL, vW, vK, qs, hc, hf, hr, ha⟩ := h.c
  obtain ⟨gL, cL, q, eL, hLc, cg, hq, _, _, hgl, _, _, _, _, hrow, hlen, hwf, _⟩ := hr.rowi hn
  have c1 : w.cell? ⟨a, 1, none⟩ = some (.slice (some ⟨gL, 0, none⟩) r.L.length cL) := by rw [← eL]; exact hc 1
  obtain ⟨xs, hx, _⟩ := hr.hx
  obtain ⟨aW, cW, eW, _⟩ := own_val hx
  obtain ⟨m, hm⟩ : ∃ m, r.wild.length = m := ⟨_, rfl⟩
  have c2 : w.cell? ⟨a, 2, none⟩ = some (.slice aW m cW) := by rw [← hm, ← eW]; exact hc 2
  have hp2 := hr.p2
  have hfew : m ≤ 4398046511103 := by rw [← hm]; exact hr.few
  have hal := lt_of_some ha
  have hni : (n : Int) < (r.L.length : Int) := by omega
  have HRD := hidden (hr.rdw hn r.wild.length (Nat.le_refl _))
  have HRR : Hid (rdR r n = rdW (r.L.getD n []) r.wild n r.wild.length) := hidden rfl
  have HR := hidden hr
  have HM := hidden hm
  have HEW := hidden eW
  have HL := hidden hlen
  have HWF := hidden hwf
  have HQC := hidden (row_cells hrow)
  clear hc hf hr ha h hx eL hrow hlen hwf hm eW
  generalize r.page = pg at *
  generalize hB0 : r.L.getD n [] = B0 at *
  clear hB0
  generalize hLL : r.L.length = LL at *
  go_enter Try.func51, Try.ntmps51
  go_wp2_with (refine app_bytes _ rfl _ _ rfl w.heap.size [] (.slice none 0 0) rfl (OwnB.nil _ _) ⟨q, 0, none⟩ pg pg B0 rfl HL.out (fun j hj => HQC.out j _ (getD_By _ _ (by rw [HL.out]; exact hj))) (by simp; omega) (Nat.le_refl _) ?_)
  intro v1 w1 o1 b1
  have O1 : Hid (OwnB w1 w.heap.size v1 (rdW B0 r.wild n 0)) := hidden (by simpa [rdW] using o1)
  have B1 := hidden b1
  clear o1 b1
  go_wp2_with fail
  go_loopw [5, 6] (fun v i wr => ∃ k : Nat, k ≤ m ∧ i = .int .i64 k ∧ Hid (OwnB wr w.heap.size v (rdW B0 r.wild n k)) ∧ Hid (Below w.heap.size w wr)) (fun _ i _ => m - (intOf i).toNat)
  case atStart => exact ⟨0, by omega, rfl, O1, B1⟩
  case round =>
    obtain ⟨k, hk, rfl, OK, BK⟩ := hrel
    have x2 : wr.cell? ⟨a, 2, none⟩ = some (.slice aW m cW) := (BK.out.cell (p := ⟨a, 2, none⟩) hal).trans c2
    by_cases hlt : k < m
    · have hlt' : (k : Int) < (m : Int) := by omega
      obtain ⟨g, c, q', cq, e1, _, g0, g1, hcq, _, _, hgl', _, _, _, _, hql, hdat, hpn, hdl, hdw, _⟩ := HR.out.item (k := k) (by rw [HM.out]; exact hlt)
      rw [HEW.out, HM.out] at e1
      have hao : aW = some ⟨g, 0, none⟩ := by injection e1
      subst hao
      have y0 := (BK.out.cell (p := ⟨g, k * 2, none⟩) hgl').trans g0
      have y1 := (BK.out.cell (p := ⟨g, k * 2 + 1, none⟩) hgl').trans g1
      obtain ⟨p, hP⟩ : ∃ p, (r.wild.getD k (0, [])).1 = p := ⟨_, rfl⟩
      obtain ⟨l, hLl⟩ : ∃ l, (r.wild.getD k (0, [])).2 = l := ⟨_, rfl⟩
      rw [hP] at y0
      rw [hLl] at hdat hdl
      have HST : Hid (rdW B0 r.wild n (k + 1) = if p = n then l else rdW B0 r.wild n k) := hidden (by
        show (if (r.wild.getD k (0, [])).1 = n then (r.wild.getD k (0, [])).2 else _) = _
        rw [hP, hLl])
      have HDC : Hid (∀ j, j < pg → wr.cell? ((⟨q', 0, none⟩ : Addr).add j) = some (.int .u8 (l.getD j 0))) := hidden fun j hj => by
        rw [Addr.add_lit, Nat.zero_add]
        exact (BK.out.cell (p := ⟨q', j, none⟩) hql).trans (hdat j hj)
      have HDL := hidden hdl
      have hbs : w.heap.size ≤ wr.heap.size := BK.out.size
      clear g0 g1 hdat hpn hdw hP hLl hdl e1
      by_cases hpn : p = n
      · have hpe : ((p : Int) == (n : Int)) = true := by simp [hpn]
        have HPN := hidden hpn
        clear hpn
        go_wp2_with (refine app_bytes _ rfl _ _ rfl w.heap.size [] (.slice none 0 0) rfl (OwnB.nil _ _) ⟨q', 0, none⟩ pg cq l rfl HDL.out HDC.out (by simp; omega) hbs ?_)
        intro v2 w2 o2 b2
        have O2 : Hid (OwnB w2 w.heap.size v2 (rdW B0 r.wild n (k + 1))) := hidden (by rw [HST.out, if_pos HPN.out]; simpa using o2)
        have B2 := hidden (BK.out.trans b2)
        clear o2 b2 HDC
        go_wp2
        go_roundw
        case rel => exact ⟨k + 1, by omega, by go_num, O2, B2⟩
        case measure => simp [intOf]; omega
      · have hpe : ((p : Int) == (n : Int)) = false := by simp; omega
        have O2 : Hid (OwnB wr w.heap.size u5 (rdW B0 r.wild n (k + 1))) := hidden (by rw [HST.out, if_neg hpn]; exact OK.out)
        clear hpn HDC
        go_wp2
        go_roundw
        case rel => exact ⟨k + 1, by omega, by go_num, O2, BK⟩
        case measure => simp [intOf]; omega
    · have hge : ¬ ((k : Int) < (m : Int)) := by omega
      obtain rfl : k = m := by omega
      rw [HM.out] at HRD HRR
      obtain ⟨ao, cap, hu5, hsl, hfr⟩ := OK.out.sl HRD.out.2 (by rw [HRD.out.1]; omega)
      rw [HRD.out.1] at hu5 hsl
      subst hu5
      have HSL := hidden hsl
      have HFR := hidden hfr
      clear hsl OK hfr
      go_wp2
      go_ret
      exact ⟨ao, cap, rfl, by rw [HRR.out]; exact HSL.out, BK.out, HFR.out⟩

set_option maxRecDepth 100000 in
set_option maxHeartbeats 1000000 in
theorem rRead_new (w : World) (F : Nat → Prop) (a : Nat) (r : R) (n : Nat) (h : Rv w F a r) (hd : r.down = false) (hn : n < r.L.length) (h1 : 0 ≤ r.cr) (h2 : r.cr < 4611686018427387904) : Calls Try.prog 25 #[.pointer (some ⟨a, 0, none⟩), .int .i64 (n : Int)] w fun e' w' => ∃ ao c, e' = .returned (.tuple #[.slice ao r.page c, .int .i64 0]) ∧ Sl w' ao r.page c (rdR r n) ∧ Rv w' F a { r with cr := r.cr + 1 } ∧ Ch F w w' ∧ (∀ g, ao = some g → w.heap.size ≤ g.block) := by
  have H := hidden h
  obtain ⟨vL, vW, vK, qs, hc, hf, hr, ha⟩ := h.c
  obtain ⟨ao, c, hv, _⟩ := own_val hr.oL
  have c3 : w.cell? ⟨a, 3, none⟩ = some (.bool r.down) := hc 3
  rw [hd] at c3
  have c1 : w.cell? ⟨a, 1, none⟩ = some (.slice ao r.L.length c) := by rw [← hv]; exact hc 1
  have c9 : w.cell? ⟨a, 9, none⟩ = some (.int .i64 r.cr) := hc 9
  have f9 := hf 9
  have hni : ¬ ((n : Int) < 0) := by omega
  have hnl : ¬ ((r.L.length : Int) ≤ (n : Int)) := by omega
  have HN := hidden hn
  clear hc hf hr ha h hv hn
  go_enter Try.func25, Try.ntmps25
  have cR : Calls Try.prog 51 #[.pointer (some ⟨a, 0, none⟩), .int .i64 (n : Int)] (w.setCell ⟨a, 9, none⟩ (.int .i64 (r.cr + 1))) fun e w' => ∃ ao c, e = .returned (.slice ao r.page c) ∧ Sl w' ao r.page c (rdR r n) ∧ Below (w.setCell ⟨a, 9, none⟩ (.int .i64 (r.cr + 1))).heap.size (w.setCell ⟨a, 9, none⟩ (.int .i64 (r.cr + 1))) w' ∧ (∀ g, ao = some g → (w.setCell ⟨a, 9, none⟩ (.int .i64 (r.cr + 1))).heap.size ≤ g.block) := Reading_new _ F a { r with cr := r.cr + 1 } n (H.out.set9 _) HN.out
  go_wp2_with (go_at_call 51; refine cR.mono ?_; rintro e w2 ⟨ao', c', rfl, hs, hb, hfr⟩; have HS := hidden hs; have HB := hidden hb; have HFR := hidden hfr; clear hs hb hfr; refine Hid.out ?_)
  apply hidden
  clear cR
  go_wp2
  go_ret2
  exact ⟨ao', c', rfl, HS.out, (H.out.set9 _).on HB.out, (Ch.setCell w H.out.fa _).trans (Ch.of_below (F := F) HB.out) fun _ _ h => h, fun g hg => by have := HFR.out g hg; simpa [World.setCell] using this⟩
end Go.Proofs.Ytikpfcapnpppdaa

/- Read of both. -/

namespace Go.Proofs.Ytikpfcapnpppdaa
open Go.RowKit

set_option maxRecDepth 100000 in
theorem Tw.refu {d : D} {r : R} (h : Tw d r) (n : Int) : refR r n = refu d n := by
  unfold refR Go.Proofs.Ytikpfcapnpppdaa.refu
  rw [h.down, h.pages]

set_option maxRecDepth 100000 in
theorem read_both {d : D} {r : R} (F G : Nat → Prop) (pa ra t : Nat) (n : Int) (h : Tw d r) (ht : t < 4398046511103) (n3 : 0 ≤ d.cr ∧ d.cr ≤ t) :
    ∃ (ec : Int) (l : List Int) (d' : D) (r' : R), Tw d' r' ∧ d'.loose = d.loose ∧ (0 ≤ d'.cr ∧ d'.cr ≤ d.cr + 1) ∧ d'.cw = d.cw ∧ d'.cs = d.cs ∧ d'.armed = d.armed ∧ d'.left = d.left
      ∧ (∀ w, Dv w F pa d → (∀ k, F k → k < w.heap.size) → Calls Try.prog 18 #[.pointer (some ⟨pa, 0, none⟩), .int .i64 n] w fun e u => ∃ y : Option Nat × List Int, y.2 = l ∧ e = .returned (.tuple #[cv y, .int .i64 ec]) ∧ ((y.1 = none ∧ l = []) ∨ ∃ g, y.1 = some g ∧ w.heap.size ≤ g ∧ u.heap[g]? = some (.cells (By l).toArray 5 (0, 0)) ∧ Wf l ∧ l.length ≤ 67108864) ∧ Dv u F pa d' ∧ Ch F w u)
      ∧ (∀ w, Rv w G ra r → Calls Try.prog 25 #[.pointer (some ⟨ra, 0, none⟩), .int .i64 n] w fun e u => ∃ ao c, e = .returned (.tuple #[.slice ao l.length c, .int .i64 ec]) ∧ Sl u ao l.length c l ∧ (∀ g, ao = some g → w.heap.size ≤ g.block) ∧ Rv u G ra r' ∧ Ch G w u) := by
  by_cases he : refu d n = 0
  · have hdn : d.down = false := by
      unfold refu at he
      cases hd : d.down
      · rfl
      · rw [hd] at he; simp at he
    have hn : 0 ≤ n ∧ n < d.pages := by
      unfold refu at he
      rw [hdn] at he
      simp only [Bool.false_eq_true, if_false] at he
      split at he
      · cases he
      · omega
    obtain ⟨m, rfl⟩ : ∃ m : Nat, n = (m : Int) := ⟨n.toNat, by omega⟩
    have hm : m < d.pages := by omega
    refine ⟨0, Go.Proofs.Ytikpfcapnpppdaa.rd d m, { d with cr := d.cr + 1 }, { r with cr := r.cr + 1 }, h.read, rfl, ⟨by show 0 ≤ d.cr + 1; omega, Int.le_refl _⟩, rfl, rfl, rfl, rfl, fun w hD hF => ?_, fun w hR => ?_⟩
    · obtain ⟨bs, bl, vL, vK, _, _, hr, _⟩ := hD.c
      have hl := hr.rdlen hm
      have hp := hr.p2
      refine (Read_yes w F pa d m hD he hm n3.1 (by omega) hF).mono ?_
      rintro e u ⟨g, rfl, g1, g2, g3, g4⟩
      exact ⟨(some g, Go.Proofs.Ytikpfcapnpppdaa.rd d m), rfl, by simp only [cv]; rw [hl.1], .inr ⟨g, rfl, g1, g2, hl.2, by rw [hl.1]; omega⟩, g3, g4⟩
    · have hl : (rdR r m).length = r.page := by
        obtain ⟨vL, vW, vK, qs, _, _, hr, _⟩ := hR.c
        exact (hr.rdw (n := m) (by rw [h.pages]; exact hm) r.wild.length (Nat.le_refl _)).1
      refine (rRead_new w G ra r m hR (h.down.trans hdn) (by rw [h.pages]; exact hm) (by rw [h.cr]; exact n3.1) (by rw [h.cr]; omega)).mono ?_
      rintro e u ⟨ao, c, rfl, g1, g2, g3, g4⟩
      rw [h.rd hm, hl]
      exact ⟨ao, c, rfl, g1, g4, g2, g3⟩
  · refine ⟨refu d n, [], d, r, h, rfl, ⟨n3.1, by omega⟩, rfl, rfl, rfl, rfl, fun w hD _ => ?_, fun w hR => ?_⟩
    · refine (Read_no w F pa d n hD _ rfl he).mono ?_
      rintro e u ⟨rfl, rfl⟩
      exact ⟨(none, []), rfl, rfl, .inl ⟨rfl, rfl⟩, hD, Ch.refl _ _⟩
    · refine (rRead_no w G ra r n hR _ (h.refu n) he).mono ?_
      rintro e u ⟨rfl, rfl⟩
      exact ⟨none, 0, rfl, ⟨rfl, Nat.le_refl _, by simp, Wf.nil, (fun _ => rfl), .inl rfl⟩, (by intro g h; cases h), hR, Ch.refl _ _⟩
end Go.Proofs.Ytikpfcapnpppdaa

/- The pair's play: Read. -/

namespace Go.Proofs.Ytikpfcapnpppdaa
open Go.RowKit

set_option maxRecDepth 100000 in
theorem Ps.dr {w : World} {B x t pa ra : Nat} {P F G M : Nat → Prop} {its : List (Option Nat × List Int)} {d : D} {r : R} {vC vW : Value} (h : Ps w B P x t its d r pa ra F G M vC vW) : Ps w.drew B P x t its d r pa ra F G M vC vW := h.ch (Ch.dr (fun _ => False) w) (fun _ _ e => e)
set_option maxRecDepth 100000 in
/-- A call of the program's device in a region that draws, as the first of a step. -/
theorem Ps.firstd {w : World} {B x t pa ra : Nat} {P F G M : Nat → Prop} {its : List (Option Nat × List Int)} {d : D} {r : R} {vC vW : Value} (h : Ps w B P x t its d r pa ra F G M vC vW) {f : Nat} {ar : Array Value} {R1 : Ending → World → World → Prop} (hf : ∀ w1, Ps w1 B P x t its d r pa ra F G M vC vW → Calls Try.prog f ar w1 fun e u => R1 e w1 u) :
    ∀ o, Calls Try.prog f ar (w.alloc o).drew fun e u => ∃ w1, Ps w1 B P x t its d r pa ra F G M vC vW ∧ w.heap.size < w1.heap.size ∧ Ch P w w1 ∧ w1.cell? ⟨w.heap.size, 2, none⟩ = (w.alloc o).cell? ⟨w.heap.size, 2, none⟩ ∧ R1 e w1 u := fun o => (hf _ (h.box o).dr).mono (by
    intro e u h1
    exact ⟨(w.alloc o).drew, (h.box o).dr, by simp, (Ch.alloc P w o).trans (Ch.dr P _) fun _ _ h => h, rfl, h1⟩)
set_option maxRecDepth 100000 in
/-- What came lies as a slice. -/
theorem cv_sl {w : World} {y : Option Nat × List Int} (h : (y.1 = none ∧ y.2 = []) ∨ ∃ g, y.1 = some g ∧ w.heap[g]? = some (.cells (By y.2).toArray 5 (0, 0)) ∧ Wf y.2 ∧ y.2.length ≤ 67108864) : ∃ ao c, cv y = .slice ao y.2.length c ∧ Sl w ao y.2.length c y.2 ∧ ∀ g, ao = some g → y.1 = some g.block := by
  obtain ⟨y1, l⟩ := y
  rcases h with ⟨h1, h2⟩ | ⟨g, h1, hr, hw, hl⟩
  · simp only at h1 h2
    subst h1 h2
    exact ⟨none, 0, rfl, ⟨rfl, Nat.le_refl _, by simp, Wf.nil, (fun _ => rfl), .inl rfl⟩, by intro g h; cases h⟩
  · simp only at h1 hr hw hl
    subst h1
    refine ⟨some ⟨g, 0, none⟩, l.length, rfl, ⟨rfl, Nat.le_refl _, by show l.length ≤ _; omega, hw, (by intro h; cases h), .inr ⟨g, 0, rfl, lt_of_some hr, fun i hi => ?_⟩⟩, by intro a h; injection h with h; rw [← h]⟩
    rw [Nat.zero_add, cell_of_row hr]
    exact getD_By _ _ hi
set_option maxRecDepth 100000 in
/-- Behind told: a list more came. -/
theorem Ps.tell {w u : World} {B x t pa ra : Nat} {P F G M : Nat → Prop} {its : List (Option Nat × List Int)} {d : D} {r : R} {vC vW vC' vW' : Value} (h : Ps w B P x t its d r pa ra F G M vC vW) (y : Option Nat × List Int)
    (hy : (y.1 = none ∧ y.2 = []) ∨ ∃ g, y.1 = some g ∧ P g ∧ ¬ F g ∧ ¬ G g ∧ ¬ M g ∧ ¬ Pb x vC vW g ∧ w.heap[g]? = some (.cells (By y.2).toArray 5 (0, 0)) ∧ Wf y.2 ∧ y.2.length ≤ 67108864)
    (hp : Pc u B x (.pointer (some ⟨pa, 0, none⟩)) (.pointer (some ⟨ra, 0, none⟩)) (its.length + 1) (its.map cv ++ [cv y]) (its.map ct ++ [ct y]) vC' vW') (hc : Ch (Pb x vC vW) w u) (hb : ∀ k, Pb x vC' vW' k → Pb x vC vW k ∨ w.heap.size ≤ k) (n1 : its.length + 1 ≤ 2 * t) :
    ∃ N, Ps u B (Pg P w u) x t (its ++ [y]) d r pa ra F G N vC' vW' ∧ Ch P w u := by
  have hlt : ∀ k, Pb x vC' vW' k → k < u.heap.size := by
    rintro k (rfl | e | e)
    · exact lt_of_some hp.row
    · exact (hp.oC.lt k e).2
    · exact (hp.oW.lt k e).2
  refine ⟨fun k => M k ∨ y.1 = some k, h.told y hp hc (fun k hk => (hb k hk).imp (fun h => h) fun e => ⟨e, hlt k hk⟩) _ (fun k hk => hk) (fun k hk => ?_) ?_ n1⟩
  · rcases hy with ⟨e, _⟩ | ⟨g, e, h1, h2, h3, h4, h5, h6, _⟩
    · rw [e] at hk; cases hk
    · rw [e] at hk
      injection hk with hk
      subst hk
      exact ⟨h1, lt_of_some h6, h2, h3, h5⟩
  · have hcm := h.cm.ch hc fun k hk e => (h.hP k e).2.2.2.2 hk
    obtain ⟨y1, l⟩ := y
    rcases hy with ⟨e, e2⟩ | ⟨g, e, h1, h2, h3, h4, h5, h6, h7, h8⟩
    · simp only at e e2
      subst e e2
      exact ⟨fun z hz => (hcm.none.ok z hz).imp (fun h => h) fun ⟨g, a1, a2, a3⟩ => ⟨g, a1, .inl a2, a3⟩, hcm.none.nd⟩
    · simp only at e h6 h7 h8
      subst e
      exact hcm.more (fun k hk => .inl hk) h4 (.inr rfl) ((hc.block g (lt_of_some h6) h5).trans h6) h7 h8
end Go.Proofs.Ytikpfcapnpppdaa
