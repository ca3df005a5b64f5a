/- The document's device: Arm; the counts of the program's device. -/
import Derived.Test.YtikpfcapnpppdaaRk
import Derived.Laws.AppendOwnNone
namespace Go.Proofs.Ytikpfcapnpppdaa
open Go.RowKit

set_option maxRecDepth 100000 in
theorem RRest.unplan {w : World} {F : Nat → Prop} {a page : Nat} {L : List (List Int)} {wild : List (Nat × List Int)} {keep keep' : List Int} {vL vW vK vK' : Value} {qs : List Nat} (h : RRest w F a page L wild keep vL vW vK qs) (hk : ∃ ao n c, vK' = .slice ao n c ∧ keep'.length = n ∧ n ≤ 17592186044416 ∧ (n = 0 ∨ ∃ g off, ao = some ⟨g, off, none⟩ ∧ F g ∧ g ≠ a ∧ g ∉ qs ∧ vL.ownBlock ≠ some g ∧ vW.ownBlock ≠ some g ∧ g < w.heap.size ∧ ∀ i, i < n → w.cell? ⟨g, off + i, none⟩ = some (.int .i64 (keep'.getD i 0)))) : RRest w F a page L wild keep' vL vW vK' qs :=
  ⟨h.fa, h.oL, h.nq, h.nd, h.hq, h.bL, h.bW, h.hx, h.all, hk, h.p1, h.p2, h.q1, h.q2, h.q3, h.few⟩

set_option maxRecDepth 100000 in
theorem rArm_down (w : World) (F : Nat → Prop) (a : Nat) (r : R) (acts : Int) (ao : Option Addr) (kn kc : Nat) (tn ta : Int) (h : Rv w F a r) (hd : r.down = true) : Calls Try.prog 55 #[.pointer (some ⟨a, 0, none⟩), .int .i64 acts, .agg #[.slice ao kn kc, .int .i64 tn, .int .i64 ta]] w fun e w' => e = .returned (.tuple #[]) ∧ Below w.heap.size w w' := by
  obtain ⟨vL, vW, vK, qs, hc, hf, hr, ha⟩ := h.c
  have c3 : w.cell? ⟨a, 3, none⟩ = some (.bool r.down) := hc 3
  rw [hd] at c3
  have hal := lt_of_some ha
  have hane : ¬ a = w.heap.size := by omega
  clear hc hf hr ha h
  go_enter Try.func55, Try.ntmps55
  go_wp2
  exact bodyPost_ret (v := .tuple #[]) (by simp [results, Try.results55, go_sem]) rfl ⟨rfl, (Below.refl _ _).alloc (Nat.le_refl _) _⟩

def R.arm (r : R) (acts : Int) (ks : List Int) (tn ta : Int) : R := { r with armed := decide (0 ≤ acts), acts := acts, keep := ks, torn := tn, tat := ta }

set_option maxRecDepth 100000 in
set_option maxHeartbeats 2000000 in
theorem rArm_up (w : World) (F : Nat → Prop) (a : Nat) (r : R) (acts : Int) (ao : Option Addr) (kn kc : Nat) (ks : List Int) (tn ta : Int) (h : Rv w F a r) (hF : ∀ k, F k → k < w.heap.size) (hd : r.down = false) (hk : Ks w ao kn ks) (hn : kn ≤ 17592186044416) (hnil : ao = none → kn = 0 ∧ kc = 0) (hkF : kn = 0 ∨ ∀ g, ao = some g → ¬ F g.block) :
    Calls Try.prog 55 #[.pointer (some ⟨a, 0, none⟩), .int .i64 acts, .agg #[.slice ao kn kc, .int .i64 tn, .int .i64 ta]] w fun e u => e = .returned (.tuple #[]) ∧ Rv u (fun k => F k ∨ (w.heap.size ≤ k ∧ k < u.heap.size)) a (r.arm acts ks tn ta) ∧ Ch F w u := by
  obtain ⟨vL, vW, vK, qs, hc, hf, hr, ha⟩ := h.c
  have c3 : w.cell? ⟨a, 3, none⟩ = some (.bool r.down) := hc 3
  rw [hd] at c3
  have hal := lt_of_some ha
  have hane : ¬ a = w.heap.size := by omega
  obtain ⟨y4, c4⟩ : ∃ y, w.cell? ⟨a, 4, none⟩ = some y := ⟨_, hc 4⟩
  obtain ⟨y5, c5⟩ : ∃ y, w.cell? ⟨a, 5, none⟩ = some y := ⟨_, hc 5⟩
  obtain ⟨y6, c6⟩ : ∃ y, w.cell? ⟨a, 6, none⟩ = some y := ⟨_, hc 6⟩
  obtain ⟨y7, c7⟩ : ∃ y, w.cell? ⟨a, 7, none⟩ = some y := ⟨_, hc 7⟩
  obtain ⟨y8, c8⟩ : ∃ y, w.cell? ⟨a, 8, none⟩ = some y := ⟨_, hc 8⟩
  have f4 := hf 4
  have f5 := hf 5
  have f6 := hf 6
  have f7 := hf 7
  have f8 := hf 8
  have HR := hidden hr
  have HA := hidden ha
  have HF := hidden hF
  have HK := hidden hk
  have HKF := hidden hkF
  clear hc hf hr ha h hF hk hkF
  go_enter Try.func55, Try.ntmps55
  go_upto_region 5 with fail
  have hA3 := heap_setCell_self (i := 8) (u := .int .i64 ta) (heap_setCell_self (i := 7) (u := .int .i64 tn) (heap_setCell_self (i := 6) (u := .slice ao kn kc) (heap_setCell_self (i := 5) (u := .int .i64 acts) (heap_setCell_self (i := 4) (u := .bool (decide (0 ≤ acts))) HA.out))))
  have hR3 := ((((HR.out.self hal 4 (.bool (decide (0 ≤ acts)))).self (by simpa [World.setCell] using hal) 5 (.int .i64 acts)).self (by simpa [World.setCell] using hal) 6 (.slice ao kn kc)).self (by simpa [World.setCell] using hal) 7 (.int .i64 tn)).self (by simpa [World.setCell] using hal) 8 (.int .i64 ta)
  have hC3 : Ch F w (((((w.setCell ⟨a, 4, none⟩ (.bool (decide (0 ≤ acts)))).setCell ⟨a, 5, none⟩ (.int .i64 acts)).setCell ⟨a, 6, none⟩ (.slice ao kn kc)).setCell ⟨a, 7, none⟩ (.int .i64 tn)).setCell ⟨a, 8, none⟩ (.int .i64 ta)) := ((((Ch.setCell w HR.out.fa _).trans (Ch.setCell (F := F) _ HR.out.fa _) fun _ _ h => h).trans (Ch.setCell (F := F) _ HR.out.fa _) fun _ _ h => h).trans (Ch.setCell (F := F) _ HR.out.fa _) fun _ _ h => h).trans (Ch.setCell (F := F) _ HR.out.fa _) fun _ _ h => h
  have hz3 : (((((w.setCell ⟨a, 4, none⟩ (.bool (decide (0 ≤ acts)))).setCell ⟨a, 5, none⟩ (.int .i64 acts)).setCell ⟨a, 6, none⟩ (.slice ao kn kc)).setCell ⟨a, 7, none⟩ (.int .i64 tn)).setCell ⟨a, 8, none⟩ (.int .i64 ta)).heap.size = w.heap.size := by simp [World.setCell]
  generalize ((((w.setCell ⟨a, 4, none⟩ (.bool (decide (0 ≤ acts)))).setCell ⟨a, 5, none⟩ (.int .i64 acts)).setCell ⟨a, 6, none⟩ (.slice ao kn kc)).setCell ⟨a, 7, none⟩ (.int .i64 tn)).setCell ⟨a, 8, none⟩ (.int .i64 ta) = w3 at hA3 hR3 hC3 hz3 ⊢
  replace hA3 : w3.heap[a]? = some (.cells (rcells { r with armed := decide (0 ≤ acts), acts := acts, torn := tn, tat := ta } vL vW (.slice ao kn kc)).toArray 59 (0, 0)) := hA3
  have hBX : (w3.alloc (.cells #[.slice ao kn kc, .int .i64 tn, .int .i64 ta] 38 (0, 0))).heap[w.heap.size]? = some (.cells #[.slice ao kn kc, .int .i64 tn, .int .i64 ta] 38 (0, 0)) := by rw [← hz3]; exact alloc_row _ _
  have hK3 : Ks w3 ao kn ks := by
    refine ⟨HK.out.hlen, HK.out.hroom, ?_⟩
    rcases HKF.out with h0 | hkF
    · exact .inl h0
    rcases HK.out.hat with h0 | ⟨b, off, e, hlt, hc⟩
    · exact .inl h0
    · refine .inr ⟨b, off, e, by omega, fun i hi => ?_⟩
      rw [← hc i hi]
      exact World.cell?_of_block (w := w) (a := ⟨b, off + i, none⟩) (hC3.block b hlt (hkF _ e))
  obtain ⟨w4, hw4⟩ : ∃ w4, w3.alloc (.cells #[.slice ao kn kc, .int .i64 tn, .int .i64 ta] 38 (0, 0)) = w4 := ⟨_, rfl⟩
  have hB4 : Below w3.heap.size w3 w4 := by rw [← hw4]; exact (Below.refl _ _).alloc (Nat.le_refl _) _
  have hz4 : w4.heap.size = w.heap.size + 1 := by rw [← hw4, ← hz3]; simp
  rw [hw4] at hBX ⊢
  have hA4 := (hB4.block a (by omega)).trans hA3
  have hR4 := hR3.keep_ (w' := w4) (G := F) (fun _ f _ => f) (by omega) hB4.size (fun k _ _ hk => hB4.block k hk)
  have hC4 : Ch F w w4 := hC3.trans (Ch.of_below (F := F) hB4) fun _ _ h => h
  have hK4 := hK3.on hB4
  have b0 : w4.cell? ⟨w.heap.size, 0, none⟩ = some (.slice ao kn kc) := by simp [World.cell?, hBX]
  have z6 : w4.cell? ⟨a, 6, none⟩ = some (.slice ao kn kc) := cell_of_row hA4
  have e6 := free_of_row (i := 6) hA4
  have HA4 := hidden hA4
  have HR4 := hidden hR4
  have HC4 := hidden hC4
  have HK4 := hidden hK4
  obtain ⟨i0, hi, hq0, hq1, hq2⟩ := info_parts infoI
  clear hA3 hR3 hC3 hK3 hBX hw4 hB4 hA4 hR4 hC4 hK4 HR HA HK c3 c4 c5 c6 c7 c8 f4 f5 f6 f7 f8 hz3
  cases ao with
  | none =>
    obtain ⟨rfl, rfl⟩ := hnil rfl
    go_wp2_with (refine wpList_append_own_none rfl _ _ 36 rfl 0 3 i0 1 Try.underlying36 hi (.slice none 0 0) 0 [] rfl (World.ownsRow_nil _ _ _ _) rfl ?_)
    go_end0
    have hks : ks = [] := List.eq_nil_of_length_eq_zero HK4.out.hlen
    have hz : (w4.setCell ⟨a, 6, none⟩ (.slice none 0 0)).heap.size = w4.heap.size := by simp [World.setCell]
    refine ⟨rfl, ⟨vL, vW, .slice none 0 0, qs, heap_setCell_self HA4.out, ?_⟩, HC4.out.trans (Ch.setCell (F := F) w4 HR4.out.fa _) fun _ _ h => h⟩
    have := (HR4.out.self (by omega) 6 (.slice none 0 0)).keep_ (G := fun k => F k ∨ (w.heap.size ≤ k ∧ k < (w4.setCell ⟨a, 6, none⟩ (.slice none 0 0)).heap.size)) (fun _ f _ => .inl f) (by omega) (Nat.le_refl _) (fun _ _ _ _ => rfl)
    exact this.unplan ⟨none, 0, 0, rfl, by rw [hks]; rfl, by omega, .inl rfl⟩
  | some ad =>
    have HSRC : Hid (∀ j u, (In ks)[j]? = some u → w4.cell? (ad.add j) = some u) := hidden fun j u hu => by
      obtain ⟨h1, rfl⟩ := getElem?_In ks j u hu
      rcases HK4.out.hat with h0 | ⟨b, off, e, hb, hc⟩
      · have := HK4.out.hlen; omega
      · injection e with e
        subst e
        rw [Addr.add_lit]
        exact hc j (by have := HK4.out.hlen; omega)
    have HL := hidden HK4.out.hlen
    go_wp2_with (refine wpList_append_own _ rfl _ _ 36 rfl w4.heap.size 3 i0 (.int .i64 0) 1 8 Try.underlying36 hi hq0 hq1 hq2 rfl (by decide) (.slice none 0 0) 0 [] rfl (World.ownsRow_nil _ _ _ _) ad kn kc (In ks) rfl (by rw [In_length, HL.out, Nat.mul_one]) HSRC.out (In_one ks) (by unfold maxLen; omega) (by omega) (Nat.le_refl _) ?_)
    intro v' w5 h1 h2 _
    replace h1 : w5.ownsRow w4.heap.size 3 1 v' kn (In ks) := by rw [hz4]; simpa using h1
    obtain ⟨av, cv, hv, hkk⟩ : ∃ av cv, v' = .slice av kn cv ∧ (kn = 0 ∨ ∃ g off, av = some ⟨g, off, none⟩ ∧ w4.heap.size ≤ g ∧ g < w5.heap.size ∧ ∀ i, i < kn → w5.cell? ⟨g, off + i, none⟩ = some (.int .i64 (ks.getD i 0))) := by
      rcases h1.2 with ⟨hv, h0⟩ | ⟨g, cap, cur, hv, g1, g2, g3, _⟩
      · exact ⟨none, 0, by rw [hv, h0], .inl h0⟩
      · refine ⟨some ⟨g, 0, none⟩, cap, hv, .inr ⟨g, 0, rfl, g1, lt_of_some g2, fun i hi => ?_⟩⟩
        subst hv
        rw [Nat.zero_add, World.ownsRow.cellAt h1 i (by omega)]
        exact getD_In _ _ (by rw [HL.out]; exact hi)
    subst hv
    have hz5 := h2.size
    have hA5 := (h2.block a (by omega) (fun e => by cases e)).trans HA4.out
    have hR5 := HR4.out.keep_ (w' := w5) (G := F) (fun _ f _ => f) (by omega) hz5 (fun k _ _ hk => h2.block k hk (fun e => by cases e))
    have e6' := free_of_row (i := 6) hA5
    have z6' : w5.cell? ⟨a, 6, none⟩ = some (.slice (some ad) kn kc) := cell_of_row hA5
    have HC5 : Hid (Ch F w w5) := hidden (HC4.out.trans (Ch.grown (F := F) h2 (fun k e => by cases e)) fun _ _ h => h)
    have HA5 := hidden hA5
    have HR5 := hidden hR5
    have HKK := hidden hkk
    have HL5 : Hid (∀ g, vW.ownBlock = some g → g < w4.heap.size) := hidden fun g e => by
      obtain ⟨xs, hx, _⟩ := HR4.out.hx
      exact (hx.lt g e).2
    have HL6 : Hid (∀ g, vL.ownBlock = some g → g < w4.heap.size) := hidden fun g e => (HR4.out.oL.lt g e).2
    have HL7 : Hid (∀ g, g ∈ qs → g < w4.heap.size) := hidden fun g e => by
      obtain ⟨i, hi⟩ := List.getElem?_of_mem e
      exact lt_of_some (HR4.out.hq i g hi).2.2.2.2.1
    clear h1 h2 hA5 hR5 hkk HA4 HR4 HC4 HSRC b0 z6 e6
    go_wp2
    go_end0
    have hz : (w5.setCell ⟨a, 6, none⟩ (.slice av kn cv)).heap.size = w5.heap.size := by simp [World.setCell]
    refine ⟨rfl, ⟨vL, vW, .slice av kn cv, qs, heap_setCell_self HA5.out, ?_⟩, HC5.out.trans (Ch.setCell (F := F) w5 HR5.out.fa _) fun _ _ h => h⟩
    have := (HR5.out.self (by omega) 6 (.slice av kn cv)).keep_ (G := fun k => F k ∨ (w.heap.size ≤ k ∧ k < (w5.setCell ⟨a, 6, none⟩ (.slice av kn cv)).heap.size)) (fun _ f _ => .inl f) (by omega) (Nat.le_refl _) (fun _ _ _ _ => rfl)
    refine this.unplan ⟨av, kn, cv, rfl, HL.out, hn, ?_⟩
    rcases HKK.out with h0 | ⟨g, off, e, g1, g2, g3⟩
    · exact .inl h0
    · refine .inr ⟨g, off, e, .inr ⟨by omega, by omega⟩, by omega, fun h => by have := HL7.out g h; omega, fun h => by have := HL6.out g h; omega, fun h => by have := HL5.out g h; omega, by omega, fun i hi => ?_⟩
      rw [World.cell?_of_block (w := w5) (a := ⟨g, off + i, none⟩) (Below.heap_setCell _ _ _ _ (show g ≠ a by omega))]
      exact g3 i hi

set_option maxRecDepth 100000 in
theorem Counts_any (w : World) (F : Nat → Prop) (a : Nat) (d : D) (h : Dv w F a d) : Calls Try.prog 38 #[.pointer (some ⟨a, 0, none⟩)] w fun e w' => e = .returned (.agg #[.int .i64 d.cr, .int .i64 d.cw, .int .i64 d.cs]) ∧ Below w.heap.size w w' := by
  obtain ⟨bs, bl, vL, vK, hc, hf, hr, ha⟩ := h.c
  have c5 : w.cell? ⟨a, 5, none⟩ = some (.int .i64 d.cr) := hc 5
  have c6 : w.cell? ⟨a, 6, none⟩ = some (.int .i64 d.cw) := hc 6
  have c7 : w.cell? ⟨a, 7, none⟩ = some (.int .i64 d.cs) := hc 7
  have hal := lt_of_some ha
  have hane : ¬ a = w.heap.size := by omega
  clear hc hf hr ha h
  go_enter Try.func38, Try.ntmps38
  go_wp2_with fail
  go_region_held3 (fun u => u.cell? ⟨a, 5, none⟩ = some (.int .i64 d.cr) ∧ u.cell? ⟨a, 6, none⟩ = some (.int .i64 d.cw) ∧ u.cell? ⟨a, 7, none⟩ = some (.int .i64 d.cs)) (go_keep) (fail)
  all_goals
    go_wp2
    exact bodyPost_ret (v := .agg #[.int .i64 d.cr, .int .i64 d.cw, .int .i64 d.cs]) (by simp [results, Try.results38, go_sem]) rfl ⟨rfl, ((Below.refl _ _).alloc (Nat.le_refl _) _).drew⟩
end Go.Proofs.Ytikpfcapnpppdaa
