/- disarm, forget. -/
import Derived.Test.YtikpfcapnpppdaaPl4
namespace Go.Proofs.Ytikpfcapnpppdaa
open Go.RowKit

set_option maxRecDepth 100000 in
theorem Rest.unplan {w : World} {F : Nat → Prop} {a page pages : Nat} {safe : List Int} {loose : List (Nat × List Int)} {last keep : List Int} {bs bl : Nat} {vL vK : Value} (h : Rest w F a page pages safe loose last keep bs bl vL vK) : Rest w F a page pages safe loose last [] bs bl vL (.slice none 0 0) :=
  ⟨h.fa, h.fs, h.fl, h.n1, h.n2, h.n3, h.hs, h.hl, h.ns, h.nl, h.ws, h.p1, h.p2, h.q1, h.q2, h.q3, h.lo, ⟨none, 0, 0, rfl, rfl, Nat.le_refl _, by omega, fun _ => rfl, .inl rfl⟩, h.lst, h.few⟩

set_option maxRecDepth 100000 in
theorem disarm_any (w : World) (F : Nat → Prop) (a : Nat) (d : D) (h : Dv w F a d) : Calls Try.prog 60 #[.pointer (some ⟨a, 0, none⟩)] w fun e w' => e = .returned (.tuple #[]) ∧ Dv w' F a { d with armed := false, left := 0, torn := 0, tat := 0, keep := [] } ∧ Ch F w w' ∧ w'.heap.size = w.heap.size := by
  obtain ⟨bs, bl, vL, vK, hc, hf, hr, ha⟩ := h.c
  have f9 := hf 9
  have f10 := hf 10
  have f11 := hf 11
  have f12 := hf 12
  have f13 := hf 13
  have c9 : w.cell? ⟨a, 9, none⟩ = some (.bool d.armed) := hc 9
  have c10 : w.cell? ⟨a, 10, none⟩ = some (.int .i64 d.left) := hc 10
  have c11 : w.cell? ⟨a, 11, none⟩ = some vK := hc 11
  have c12 : w.cell? ⟨a, 12, none⟩ = some (.int .i64 d.torn) := hc 12
  have c13 : w.cell? ⟨a, 13, none⟩ = some (.int .i64 d.tat) := hc 13
  have HR := hidden hr
  have HA := hidden ha
  clear hc hf hr ha h
  go_enter Try.func60, Try.ntmps60
  go_wp2
  go_end0
  have ha := HA.out
  have h5 := heap_setCell_self (i := 13) (u := .int .i64 0) (heap_setCell_self (i := 12) (u := .int .i64 0) (heap_setCell_self (i := 11) (u := .slice none 0 0) (heap_setCell_self (i := 10) (u := .int .i64 0) (heap_setCell_self (i := 9) (u := .bool false) ha))))
  have hl := lt_of_some ha
  have fa := HR.out.fa
  refine ⟨rfl, ⟨bs, bl, vL, .slice none 0 0, h5, ((((HR.out.self hl 9 _).self (by simpa [World.setCell] using hl) 10 _).self (by simpa [World.setCell] using hl) 11 _).self (by simpa [World.setCell] using hl) 12 _).self (by simpa [World.setCell] using hl) 13 _ |>.unplan⟩, ?_, by simp [World.setCell]⟩
  exact ((((Ch.setCell w fa _).trans (Ch.setCell (F := F) _ fa _) fun _ _ h => h).trans (Ch.setCell (F := F) _ fa _) fun _ _ h => h).trans (Ch.setCell (F := F) _ fa _) fun _ _ h => h).trans (Ch.setCell (F := F) _ fa _) fun _ _ h => h

set_option maxRecDepth 100000 in
theorem Ch.dr (F : Nat → Prop) (w : World) : Ch F w w.drew := ⟨rfl, rfl, rfl, Nat.le_refl _, fun _ _ _ => rfl⟩
set_option maxRecDepth 100000 in
theorem Rest.forgot {w w' : World} {F : Nat → Prop} {a page pages : Nat} {safe : List Int} {loose : List (Nat × List Int)} {last keep : List Int} {bs bl : Nat} {vL vK : Value} (h : Rest w F a page pages safe loose last keep bs bl vL vK) (hc : Ch (fun j => j = bl ∨ j = a) w w')
    (hl : w'.heap[bl]? = some (.cells (In (List.replicate pages 0)).toArray 3 (0, 0))) : Rest w' F a page pages safe [] (List.replicate pages 0) keep bs bl (.slice none 0 0) vK := by
  refine ⟨h.fa, h.fs, h.fl, h.n1, h.n2, h.n3, (hc.block bs (lt_of_some h.hs) ?_).trans h.hs, hl, h.ns, by simp, h.ws, h.p1, h.p2, h.q1, h.q2, h.q3, ⟨⟨[], World.ownsRow_nil _ _ _ _, fun k z hz => by simp at hz⟩, fun g hg => by simp [Value.ownBlock] at hg, fun z hz => by simp at hz⟩,
    h.ke.keep (fun _ f _ => f) hc.size (fun g _ _ => by simp [Value.ownBlock]) fun k _ f2 _ f4 _ f5 => hc.block k f5 ?_, ?_, by simp⟩
  · rintro (e | e)
    · exact h.n3 e.symm
    · exact h.n1 e
  · rintro (e | e)
    · exact f4 e
    · exact f2 e
  · intro n hn
    have e : (List.replicate pages (0 : Int)).getD n 0 = 0 := by
      simp only [List.getD, List.getElem?_replicate]
      split <;> rfl
    rw [e]
    exact ⟨by omega, by simp, fun h => by omega⟩

/-- What forget does, round by round. -/
def clr (last : List Int) (loose : List (Nat × List Int)) : Nat → List Int
  | 0 => last
  | k + 1 => (clr last loose k).set (loose.getD k (0, [])).1 0
set_option maxRecDepth 100000 in
theorem clr_len (last : List Int) (loose : List (Nat × List Int)) : ∀ k, (clr last loose k).length = last.length
  | 0 => rfl
  | k + 1 => by simp [clr, clr_len last loose k]
set_option maxRecDepth 100000 in
theorem clr_zero (last : List Int) (loose : List (Nat × List Int)) (n : Nat) (h : last.getD n 0 = 0) : ∀ k, (clr last loose k).getD n 0 = 0
  | 0 => h
  | k + 1 => by
    have := clr_zero last loose n h k
    simp only [clr, List.getD, List.getElem?_set] at *
    split <;> first | (split <;> rfl) | exact this
set_option maxRecDepth 100000 in
theorem clr_hit (last : List Int) (loose : List (Nat × List Int)) (n j : Nat) (h : (loose.getD j (0, [])).1 = n) : ∀ k, j < k → (clr last loose k).getD n 0 = 0
  | 0, hk => by omega
  | k + 1, hk => by
    by_cases e : j = k
    · subst e
      show ((clr last loose j).set (loose.getD j (0, [])).1 0).getD n 0 = 0
      rw [h]
      simp [List.getD, List.getElem?_set]
      split <;> rfl
    · have := clr_hit last loose n j h k (by omega)
      simp only [clr, List.getD, List.getElem?_set] at *
      split <;> first | (split <;> rfl) | exact this
set_option maxRecDepth 100000 in
theorem clr_all {last : List Int} {loose : List (Nat × List Int)} {pages : Nat} (hl : last.length = pages) (h : ∀ n, n < pages → 0 ≤ last.getD n 0 ∧ last.getD n 0 ≤ loose.length ∧ (0 < last.getD n 0 → (loose.getD ((last.getD n 0).toNat - 1) (0, [])).1 = n)) : clr last loose loose.length = List.replicate pages 0 := by
  apply List.ext_getElem
  · simp [clr_len, hl]
  · intro n h1 h2
    have hn : n < pages := by simpa using h2
    have e : (clr last loose loose.length).getD n 0 = 0 := by
      obtain ⟨a, b, c⟩ := h n hn
      by_cases hz : last.getD n 0 = 0
      · exact clr_zero _ _ _ hz _
      · exact clr_hit _ _ n _ (c (by omega)) _ (by omega)
    simp only [List.getD, List.getElem?_eq_getElem h1, Option.getD_some] at e
    simp [e]

set_option maxRecDepth 100000 in
set_option maxHeartbeats 1000000 in
theorem forget_any (w : World) (F : Nat → Prop) (a : Nat) (d : D) (h : Dv w F a d) : Calls Try.prog 47 #[.pointer (some ⟨a, 0, none⟩)] w fun e w' => e = .returned (.tuple #[]) ∧ Dv w' F a { d with loose := [], last := List.replicate d.pages 0 } ∧ Ch F w w' := by
  obtain ⟨bs, bl, vL, vK, hc, hf, hr, ha⟩ := h.c
  obtain ⟨ao, c, eL, hLc⟩ := hr.lo.val
  obtain ⟨L, hL⟩ : ∃ L, d.loose.length = L := ⟨_, rfl⟩
  have c3 : w.cell? ⟨a, 3, none⟩ = some (.slice ao L c) := by rw [← hL, ← eL]; exact hc 3
  have hfew := hr.few
  rw [hL] at hfew hLc
  have HR := hidden hr
  have HA := hidden ha
  have HL := hidden hL
  have HC := hidden hc
  have HF := hidden hf
  have HE := hidden eL
  clear hc hf hr ha h hL eL
  go_enter Try.func47, Try.ntmps47
  go_wp2_with fail
  go_loopw [9] (fun i wr => ∃ k : Nat, k ≤ L ∧ i = .int .i64 k ∧ Hid (Ch (fun j => j = bl) w wr) ∧ Hid (wr.heap[bl]? = some (.cells (In (clr d.last d.loose k)).toArray 3 (0, 0)))) (fun i _ => L - (intOf i).toNat)
  case atStart => exact ⟨0, by omega, rfl, hidden (Ch.refl _ _), hidden HR.out.hl⟩
  case round =>
    obtain ⟨k, hk, rfl, HB, HW⟩ := hrel
    have hr := HR.out
    by_cases hlt : k < L
    · have hlt' : (k : Int) < (L : Int) := by omega
      obtain ⟨g, c', q, e, h1, g0, g1, fg, fq, n1, n2, n3, n4, n5, n6, n7, n8, h4, h5, h6, h7⟩ := hr.lo.item (k := k) (by rw [HL.out]; exact hlt)
      rw [HE.out] at e
      have hao : ao = some ⟨g, 0, none⟩ := by injection e
      subst hao
      have hal := lt_of_some HA.out
      have hB := HB.out
      have b0 := (World.cell?_of_block (a := ⟨g, k * 2, none⟩) (hB.block g n8 n6)).trans g0
      have b1 := (World.cell?_of_block (a := ⟨g, k * 2 + 1, none⟩) (hB.block g n8 n6)).trans g1
      have a4 : wr.cell? ⟨a, 4, none⟩ = some (.slice (some ⟨bl, 0, none⟩) d.pages d.pages) := (World.cell?_of_block (a := ⟨a, 4, none⟩) (hB.block a hal (Ne.symm hr.n2))).trans (HC.out 4)
      have hbl := lt_of_some HW.out
      have hal' : a < wr.heap.size := Nat.lt_of_lt_of_le hal hB.size
      have hgl' : g < wr.heap.size := Nat.lt_of_lt_of_le n8 hB.size
      generalize hP : (d.loose.getD k (0, [])).1 = p at *
      have HP := hidden hP
      clear hP
      have f := free_of_row (i := p) HW.out
      obtain ⟨y, cy⟩ : ∃ y, wr.cell? ⟨bl, p, none⟩ = some y := ⟨_, (cell_of_row HW.out).trans (getD_In _ _ (by rw [clr_len, hr.nl]; exact h5))⟩
      have hpp : (p : Int) < (d.pages : Int) := by omega
      generalize hPS : d.pages = ps at *
      have HPS := hidden hPS
      have hne1 : ¬ bl = wr.heap.size := by omega
      have hne2 : ¬ a = wr.heap.size := by omega
      clear hPS g0 g1 h4 h6 h7 hr hB e HC n1 n2 n3 n4 n5 n6 n7 n8 fg fq
      go_wp2_with fail
      go_region
      go_wp2
      go_roundw
      case rel =>
        refine ⟨k + 1, by omega, by go_num, hidden (((HB.out.trans (Ch.setCell wr (F := fun j => j = bl) rfl _) fun _ _ h => h).trans (Ch.alloc (fun j => j = bl) _ _) fun _ _ h => h).trans (Ch.dr (fun j => j = bl) _) fun _ _ h => h), hidden ?_⟩
        show ((wr.setCell ⟨bl, p, none⟩ (.int .i64 0)).alloc _).heap[bl]? = _
        rw [Below.heap_alloc _ _ _ (by simpa [World.setCell] using hbl), heap_setCell_self HW.out, In_set, ← HP.out]
        rfl
      case measure => simp [intOf]; omega
    · have hge : ¬ ((k : Int) < (L : Int)) := by omega
      obtain rfl : k = L := by omega
      have hal := lt_of_some HA.out
      have hB := HB.out
      have hA' : wr.heap[a]? = some (.cells (row d bs bl vL vK).toArray 54 (0, 0)) := (hB.block a hal (Ne.symm hr.n2)).trans HA.out
      have f := free_of_row (i := 3) hA'
      have cy : wr.cell? ⟨a, 3, none⟩ = some vL := cell_of_row hA'
      have HA' := hidden hA'
      clear hA' hr hB HC
      go_wp2
      go_end0
      have hr := HR.out
      have hB := HB.out
      have h1 : Ch (fun j => j = bl ∨ j = a) w (wr.setCell ⟨a, 3, none⟩ (.slice none 0 0)) := (hB.mono fun _ _ h => .inl h).trans (Ch.setCell wr (F := fun j => j = bl ∨ j = a) (.inr rfl) _) fun _ _ h => h
      refine ⟨rfl, ⟨bs, bl, .slice none 0 0, vK, heap_setCell_self HA'.out, hr.forgot h1 ?_⟩, h1.mono ?_⟩
      · rw [Below.heap_setCell _ _ _ _ (show bl ≠ a from hr.n2), ← clr_all hr.nl hr.lst, HL.out]
        exact HW.out
      · rintro j _ (rfl | rfl)
        · exact hr.fl
        · exact hr.fa
end Go.Proofs.Ytikpfcapnpppdaa
