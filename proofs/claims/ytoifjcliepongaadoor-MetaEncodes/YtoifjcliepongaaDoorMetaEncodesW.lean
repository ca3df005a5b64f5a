/- The walk of the law MetaEncodes. -/
import Derived.Test.YtoifjcliepongaaDoorNe
namespace Go.Proofs.YtoifjcliepongaaDoor
open Go.RowKit

/-- What is asked. -/
def askM (m n : Mt) (i : Nat) : Mt := [m, n, m, m].getD i m
def asC (m n : Mt) : Array Value := #[.int .i64 m.en, .int .i64 m.pg, .int .i64 m.tx, .int .i64 m.ro, .int .i64 m.co, .int .i64 m.fr, .int .i64 m.li, .int .i64 m.hi, .int .i64 n.en, .int .i64 n.pg, .int .i64 n.tx, .int .i64 n.ro, .int .i64 n.co, .int .i64 n.fr, .int .i64 n.li, .int .i64 n.hi, .int .i64 m.en, .int .i64 m.pg, .int .i64 m.tx, .int .i64 m.ro, .int .i64 m.co, .int .i64 m.fr, .int .i64 m.li, .int .i64 m.hi, .int .i64 m.en, .int .i64 m.pg, .int .i64 m.tx, .int .i64 m.ro, .int .i64 m.co, .int .i64 m.fr, .int .i64 m.li, .int .i64 m.hi]
set_option maxRecDepth 100000 in
set_option maxHeartbeats 4000000 in
theorem asC_at (m n : Mt) (i j : Nat) (hi : i < 4) (hj : j < 8) : (asC m n)[i * 8 + j]? = some (.int .i64 ((askM m n i).nth j)) := by
  have h4 : i = 0 ∨ i = 1 ∨ i = 2 ∨ i = 3 := by omega
  rcases h4 with rfl | rfl | rfl | rfl <;> rcases eight hj with rfl | rfl | rfl | rfl | rfl | rfl | rfl | rfl <;> rfl
/-- The answer to a question. -/
def Ans5 (a : Mt) (x : Option (Nat × List Int)) : Prop := (a.ok ∧ ∃ g, x = some (g, pageB a)) ∨ (¬ a.ok ∧ x = none)
/-- All answers so far. -/
def All5 (m n : Mt) (G : List (Option (Nat × List Int))) : Prop := ∀ t x, G[t]? = some x → Ans5 (askM m n t) x

set_option maxRecDepth 100000 in
/-- Check and Encode of one question, as the law asks them. -/
theorem check_one (a : Mt) (w : World) : ∃ c, (c = 0 ∧ a.ok ∨ c = 1 ∧ ¬ a.ok) ∧ Calls Tryd.prog 8 #[mtV a] w (fun e w' => e = .returned (.int .i64 c) ∧ Below w.heap.size w w') := by
  by_cases h : a.ok
  · refine ⟨0, .inl ⟨rfl, h⟩, (check_any a w).mono ?_⟩
    rintro e w' ⟨k, rfl, hk, hb⟩
    rcases hk with ⟨_, rfl⟩ | ⟨hn, _⟩
    · exact ⟨rfl, hb⟩
    · exact absurd h hn
  · refine ⟨1, .inr ⟨rfl, h⟩, (check_any a w).mono ?_⟩
    rintro e w' ⟨k, rfl, hk, hb⟩
    rcases hk with ⟨hn, _⟩ | ⟨_, rfl⟩
    · exact absurd hn h
    · exact ⟨rfl, hb⟩
set_option maxRecDepth 100000 in
theorem enc_one (a : Mt) (w : World) (ht : Tab w) (h0 : 0 < w.heap.size) : Calls Tryd.prog 9 #[mtV a] w fun e w' => ∃ x c, e = .returned (.tuple #[gV x, .int .i64 c]) ∧ (c = 0 ∧ a.ok ∨ c = 1 ∧ ¬ a.ok) ∧ Hid (Ans5 a x) ∧ Hid (∀ g l, x = some (g, l) → w.heap.size ≤ g ∧ Bk w' g l ∧ Wf l ∧ l.length ≤ 65536) ∧ Hid (Below w.heap.size w w') := by
  by_cases h : a.ok
  · refine (encode_yes a w ht h0 h).mono ?_
    rintro e w' ⟨g, rfl, hg, hk, hb⟩
    have hp := pw_le h.pg
    have hl := pageB_length a h
    refine ⟨some (g, pageB a), 0, by simp only [gV, hl], .inl ⟨rfl, h⟩, .inl ⟨h, g, rfl⟩, fun g' l' e => ?_, hb⟩
    injection e with e
    injection e with e1 e2
    subst e1 e2
    exact ⟨hg, hk, pageB_wf a, by omega⟩
  · refine (encode_no a w ht h0 h).mono ?_
    rintro e w' ⟨rfl, hb⟩
    exact ⟨none, 1, rfl, .inr ⟨rfl, h⟩, .inr ⟨h, rfl⟩, (hidden fun g l e => by cases e), hb⟩
set_option maxRecDepth 100000 in
theorem rCheck_one (a : Mt) (w : World) : Calls Tryd.prog 10 #[mtV a] w fun e w' => ∃ c, e = .returned (.int .i64 c) ∧ (c = 0 ∧ a.ok ∨ c = 1 ∧ ¬ a.ok) ∧ Hid (Below w.heap.size w w') := by
  refine (rCheck_any a w).mono ?_
  rintro e w' ⟨k, rfl, hk, hb⟩
  refine ⟨k, rfl, ?_, hb⟩
  rcases hk with ⟨h1, h2⟩ | ⟨h1, h2⟩
  · exact .inl ⟨h2, h1⟩
  · exact .inr ⟨h2, h1⟩
set_option maxRecDepth 100000 in
theorem str_self5 (s : ByteArray) : (s.toList == s.toList) = true := by simp
set_option maxRecDepth 100000 in
theorem codes_eq {a : Mt} {c c' : Int} (h : c = 0 ∧ a.ok ∨ c = 1 ∧ ¬ a.ok) (k : c' = 0 ∧ a.ok ∨ c' = 1 ∧ ¬ a.ok) : c' = c := by
  rcases h with ⟨h1, h2⟩ | ⟨h1, h2⟩ <;> rcases k with ⟨k1, k2⟩ | ⟨k1, k2⟩
  · omega
  · exact absurd h2 k2
  · exact absurd k2 h2
  · omega

/-- A meta's cells from a place of a block on. -/
structure Row8o (w : World) (g o : Nat) (m : Mt) : Prop where
  c0 : w.cell? ⟨g, o, none⟩ = some (.int .i64 m.en)
  c1 : w.cell? ⟨g, o + 1, none⟩ = some (.int .i64 m.pg)
  c2 : w.cell? ⟨g, o + 2, none⟩ = some (.int .i64 m.tx)
  c3 : w.cell? ⟨g, o + 3, none⟩ = some (.int .i64 m.ro)
  c4 : w.cell? ⟨g, o + 4, none⟩ = some (.int .i64 m.co)
  c5 : w.cell? ⟨g, o + 5, none⟩ = some (.int .i64 m.fr)
  c6 : w.cell? ⟨g, o + 6, none⟩ = some (.int .i64 m.li)
  c7 : w.cell? ⟨g, o + 7, none⟩ = some (.int .i64 m.hi)
set_option maxRecDepth 100000 in
theorem row8o {w : World} {g : Nat} {m n : Mt} {t : TypeId} (h : w.heap[g]? = some (.cells (asC m n) t (0, 0))) (j : Nat) (hj : j < 4) {a : Mt} (ha : askM m n j = a) : Row8o w g (j * 8) a := by
  subst ha
  have hc : ∀ k, k < 8 → w.cell? ⟨g, j * 8 + k, none⟩ = some (.int .i64 ((askM m n j).nth k)) := fun k hk => by rw [cell_of_row _ _ _ _ _ _ h, asC_at m n j k hj hk]
  exact ⟨hc 0 (by omega), hc 1 (by omega), hc 2 (by omega), hc 3 (by omega), hc 4 (by omega), hc 5 (by omega), hc 6 (by omega), hc 7 (by omega)⟩
set_option maxRecDepth 100000 in
theorem Gt.grown {w w' : World} {B : Nat} {v : Value} {G G' : List (Option (Nat × List Int))} (h : Gt w B G) (ho : OwnS w B v G') (hg : w.grownBy w' v.ownBlock) : Gt w' B G :=
  ⟨fun t g l e => ⟨(hg.block g (lt_some (h.rows t g l e).1) (ownS_ne ho (h.rows t g l e).1 u8_neS)).trans (h.rows t g l e).1, (h.rows t g l e).2⟩, h.ne⟩
set_option maxRecDepth 100000 in
theorem All5.snoc {m n : Mt} {G : List (Option (Nat × List Int))} (h : All5 m n G) {x : Option (Nat × List Int)} (hx : Ans5 (askM m n G.length) x) : All5 m n (G ++ [x]) := by
  intro t y e
  by_cases ht : t < G.length
  · rw [List.getElem?_append_left ht] at e; exact h t y e
  · rw [List.getElem?_append_right (by omega)] at e
    by_cases ht2 : t - G.length = 0
    · rw [ht2] at e
      simp at e
      subst e
      rwa [show t = G.length by omega]
    · rw [List.getElem?_eq_none (by simp; omega)] at e
      cases e
set_option maxRecDepth 100000 in
theorem gV_shape (x : Option (Nat × List Int)) : ∃ xo xn xc, gV x = .slice xo xn xc := by
  cases x with
  | none => exact ⟨none, 0, 0, rfl⟩
  | some p => exact ⟨some ⟨p.1, 0, none⟩, p.2.length, p.2.length, rfl⟩
set_option maxRecDepth 100000 in
theorem ask_run (m n : Mt) (w : World) : (Instr.buildSlice 25 4 #[(0, mtV m), (1, mtV n), (2, mtV m), (3, mtV m)]).run Tryd.prog w = .ok (.slice (some ⟨w.heap.size, 0, none⟩) 4 4) (w.alloc (.cells (asC m n) 24)) := by kernel_rfl
set_option maxRecDepth 100000 in
theorem bs_run {ops : Array Oper} {rest : List Oper} {o : Oper} {a : Act} {w : World} {Q : Exit → Act → World → Prop} (hg : o.guard = none) (t : TypeId) (len : Nat) (parts : Array (Nat × Operand)) (ho : o.op = .buildSlice t len parts) (ps : Array (Nat × Value)) (hp : (parts.map fun (i, x) => (i, a.eval x)) = ps)
    {v : Value} {w' : World} (hr : (Instr.buildSlice t len ps).run Tryd.prog w = .ok v w') (h : wpList Tryd.prog ops Q rest (a.put o.dst v) w') : wpList Tryd.prog ops Q (o :: rest) a w := by
  refine wpList_plain hg fun K hK => ?_
  unfold Oper.wp execOp
  simp only [ho, hp, Sem.run_bind, hr, Result.andThen_ok]
  exact hK _ _ h

set_option maxRecDepth 100000 in
theorem Inv.drew {m n : Mt} {w u : World} {v : Value} {gA : Nat} {G : List (Option (Nat × List Int))} (h : Hid (G.length = 4 ∧ All5 m n G ∧ OwnS u w.heap.size v G ∧ Gt u w.heap.size G ∧ u.heap[gA]? = some (.cells (asC m n) 24 (0, 0)) ∧ Below w.heap.size w u)) :
    Hid (G.length = 4 ∧ All5 m n G ∧ OwnS u.drew w.heap.size v G ∧ Gt u.drew w.heap.size G ∧ u.drew.heap[gA]? = some (.cells (asC m n) 24 (0, 0)) ∧ Below w.heap.size w u.drew) :=
  hidden ⟨h.out.1, h.out.2.1, h.out.2.2.1.go (Below.refl _ _).drew, h.out.2.2.2.1.on (Below.refl _ _).drew, h.out.2.2.2.2.1, h.out.2.2.2.2.2.drew⟩
set_option maxRecDepth 100000 in
set_option maxHeartbeats 8000000 in
theorem walk_MetaEncodes (m n : Mt) (w : World) (ht : Tab w) (h0 : 0 < w.heap.size) :
    Calls Tryd.prog 4 #[mtV m, mtV n] w fun e w' => e = .returned (.bool true) ∧ Below w.heap.size w w' := by
  have HT := hidden ht
  have HO := hidden owned_any
  clear ht
  have HBX : Hid (Below w.heap.size w ((w.alloc (.cells (mtC m) 24)).alloc (.cells (mtC n) 24))) := hidden (bl_al (bl_al (Below.refl _ w) (Nat.le_refl _) _) (Nat.le_refl _) _)
  have HAW := hidden (awake_any _ (HT.out.on HBX.out h0) (Nat.lt_of_lt_of_le h0 HBX.out.size))
  rw [mtV_eq, mtV_eq]
  go_enter Tryd.func4, Tryd.ntmps4
  go_wp2_with (go_at_call 7; refine HAW.out.mono ?_; rintro e w1 ⟨rfl, hb1⟩; have HB1 := hidden hb1; clear hb1; refine Hid.out ?_)
  apply hidden
  have HRm := hidden (box_on (heap_alloc2_old w (.cells (mtC m) 24) (.cells (mtC n) 24)) HB1.out)
  have HRn := hidden (box_on (heap_alloc2_new w (.cells (mtC m) 24) (.cells (mtC n) 24)) HB1.out)
  have HW1 := hidden (bl_go HBX.out (Nat.le_refl _) HB1.out)
  obtain ⟨c0, c1, c2, c3, c4, c5, c6, c7⟩ := row8 HRm.out
  obtain ⟨d0, d1, d2, d3, d4, d5, d6, d7⟩ := row8 HRn.out
  clear HAW HB1 HBX
  have HASK := hidden (ask_run m n w1)
  rw [mtV_eq, mtV_eq] at HASK
  go_wp2_with (refine bs_run rfl _ _ _ rfl _ (by rfl) HASK.out ?_)
  have HA1 : Hid ((w1.alloc (.cells (asC m n) 24)).heap[w1.heap.size]? = some (.cells (asC m n) 24 (0, 0))) := hidden (heap_alloc_last w1 _)
  have HW2 := hidden (bl_al HW1.out (Nat.le_refl _) (.cells (asC m n) 24))
  obtain ⟨gA, hgA⟩ : ∃ g, w1.heap.size = g := ⟨_, rfl⟩
  rw [hgA] at HA1 ⊢
  clear c0 c1 c2 c3 c4 c5 c6 c7 d0 d1 d2 d3 d4 d5 d6 d7 HRm HRn HW1 hgA
  go_loopw [7, 8] (fun v i wr => ∃ (j : Nat) (G : List (Option (Nat × List Int))), j ≤ 4 ∧ i = .int .i64 j ∧ Hid (G.length = j ∧ All5 m n G ∧ OwnS wr w.heap.size v G ∧ Gt wr w.heap.size G ∧ wr.heap[gA]? = some (.cells (asC m n) 24 (0, 0)) ∧ Below w.heap.size w wr)) (fun _ i _ => 4 - (intOf i).toNat)
  case atStart => exact ⟨0, [], by omega, rfl, hidden ⟨rfl, fun t x e => by simp at e, OwnS.nil _ _, Gt.nil _ _, HA1.out, HW2.out⟩⟩
  case round =>
    obtain ⟨j, G, hj, rfl, HI⟩ := hrel
    clear HA1 HW2
    by_cases hlt : j < 4
    · have hjc : (j : Int) < 4 := by omega
      obtain ⟨a, haj⟩ : ∃ a, askM m n j = a := ⟨_, rfl⟩
      have HAJ := hidden haj
      clear haj
      obtain ⟨c0, c1, c2, c3, c4, c5, c6, c7⟩ := row8o HI.out.2.2.2.2.1 j hlt HAJ.out
      obtain ⟨k1, hk1, hck⟩ := check_one a wr
      have HCK := hidden hck
      have HK1 := hidden hk1
      clear hck hk1
      go_wp2_with (go_at_call 8; rw [← mtV_eq]; refine HCK.out.mono ?_; rintro e u1 ⟨rfl, hb1⟩; have HB1 := hidden hb1; clear hb1; rw [mtV_eq]; refine Hid.out ?_)
      apply hidden
      have HI1 : Hid (G.length = j ∧ All5 m n G ∧ OwnS u1 w.heap.size u7 G ∧ Gt u1 w.heap.size G ∧ u1.heap[gA]? = some (.cells (asC m n) 24 (0, 0)) ∧ Below w.heap.size w u1) :=
        hidden ⟨HI.out.1, HI.out.2.1, HI.out.2.2.1.go HB1.out, HI.out.2.2.2.1.on HB1.out, row_on HI.out.2.2.2.2.1 HB1.out, bl_go HI.out.2.2.2.2.2 (Nat.le_refl _) HB1.out⟩
      clear c0 c1 c2 c3 c4 c5 c6 c7 HCK HB1 HI
      obtain ⟨c0, c1, c2, c3, c4, c5, c6, c7⟩ := row8o HI1.out.2.2.2.2.1 j hlt HAJ.out
      have HEN := hidden (enc_one a u1 (HT.out.on HI1.out.2.2.2.2.2 h0) (Nat.lt_of_lt_of_le h0 HI1.out.2.2.2.2.2.size))
      go_wp2_with (go_at_call 9; rw [← mtV_eq]; refine HEN.out.mono ?_; rintro e u2 ⟨x, k2, rfl, hk2, HX, HXB, HB2⟩; have HK2 := hidden hk2; clear hk2; rw [mtV_eq]; refine Hid.out ?_)
      apply hidden
      have HI2 : Hid (G.length = j ∧ All5 m n G ∧ OwnS u2 w.heap.size u7 G ∧ Gt u2 w.heap.size (G ++ [x]) ∧ u2.heap[gA]? = some (.cells (asC m n) 24 (0, 0)) ∧ Below w.heap.size w u2) :=
        hidden ⟨HI1.out.1, HI1.out.2.1, HI1.out.2.2.1.go HB2.out, HI1.out.2.2.2.1.snoc HI1.out.2.2.2.2.2.size HB2.out x HXB.out, row_on HI1.out.2.2.2.2.1 HB2.out, bl_go HI1.out.2.2.2.2.2 (Nat.le_refl _) HB2.out⟩
      clear c0 c1 c2 c3 c4 c5 c6 c7 HEN HB2 HI1 HXB
      obtain ⟨c0, c1, c2, c3, c4, c5, c6, c7⟩ := row8o HI2.out.2.2.2.2.1 j hlt HAJ.out
      have HRC := hidden (rCheck_one a u2)
      go_wp2_with (go_at_call 10; rw [← mtV_eq]; refine HRC.out.mono ?_; rintro e u3 ⟨k3, rfl, hk3, HB3⟩; have HK3 := hidden hk3; clear hk3; rw [mtV_eq]; refine Hid.out ?_)
      apply hidden
      have ek3 := codes_eq HK1.out HK3.out
      have ek2 := codes_eq HK1.out HK2.out
      rw [ek3, ek2]
      have HI3 : Hid (G.length = j ∧ All5 m n G ∧ OwnS u3 w.heap.size u7 G ∧ Gt u3 w.heap.size (G ++ [x]) ∧ u3.heap[gA]? = some (.cells (asC m n) 24 (0, 0)) ∧ Below w.heap.size w u3) :=
        hidden ⟨HI2.out.1, HI2.out.2.1, HI2.out.2.2.1.go HB3.out, HI2.out.2.2.2.1.on HB3.out, row_on HI2.out.2.2.2.2.1 HB3.out, bl_go HI2.out.2.2.2.2.2 (Nat.le_refl _) HB3.out⟩
      clear c0 c1 c2 c3 c4 c5 c6 c7 HRC HB3 HI2 ek3 ek2 HK1 HK2 HK3
      obtain ⟨c0, c1, c2, c3, c4, c5, c6, c7⟩ := row8o HI3.out.2.2.2.2.1 j hlt HAJ.out
      have HS1 := hidden (slot_any a.tx u3)
      have HS2 := hidden (refSlot_any a.tx u3)
      have HOA := hidden (HI3.out.2.2.1.go ((Below.refl _ _).alloc (Nat.le_refl _) (.cells #[gV x] 29)))
      have hlen : G.length + 1 ≤ 1000000 := by have := HI3.out.1; omega
      have hsz3 := HI3.out.2.2.2.2.2.size
      have hcl : (u3.alloc (.cells #[gV x] 29)).cell? ⟨u3.heap.size, 0, none⟩ = some (gV x) := (lit_cell5 u3 #[gV x] 29 (0, 0) 0 u3.heap.size rfl).trans rfl
      have HCL := hidden hcl
      clear hcl
      obtain ⟨xo, xn, xc, hgx⟩ := gV_shape x
      rw [hgx] at HOA HCL ⊢
      have HGX := hidden hgx
      clear hgx
      go_wp2_with (first
        | (go_at_call 11; refine same_call HS1.out ?_)
        | (go_at_call 12; refine same_call HS2.out ?_)
        | (at_builtin; refine app_got _ rfl _ _ rfl w.heap.size G _ x rfl HOA.out u3.heap.size rfl (by rw [HGX.out]; exact HCL.out) hlen (by simp; omega) ?_; intro v7 w7 HO7 HG7))
      have HI7 : Hid ((G ++ [x]).length = j + 1 ∧ All5 m n (G ++ [x]) ∧ OwnS w7 w.heap.size v7 (G ++ [x]) ∧ Gt w7 w.heap.size (G ++ [x]) ∧ w7.heap[gA]? = some (.cells (asC m n) 24 (0, 0)) ∧ Below w.heap.size w w7) := by
        have hrowA := (Below.heap_alloc u3 (.cells #[.slice xo xn xc] 29) gA (lt_some HI3.out.2.2.2.2.1)).trans HI3.out.2.2.2.2.1
        refine hidden ⟨by rw [List.length_append, HI3.out.1]; rfl, HI3.out.2.1.snoc (by rw [HI3.out.1, HAJ.out]; exact HX.out), HO7.out, (HI3.out.2.2.2.1.on ((Below.refl _ _).alloc (Nat.le_refl _) _)).grown HOA.out HG7.out, (HG7.out.block gA (lt_some hrowA) (ownS_ne HOA.out hrowA meta_neS)).trans hrowA, ?_⟩
        exact (bl_al HI3.out.2.2.2.2.2 (Nat.le_refl _) _).trans ((Below.refl _ _).grown HG7.out (by simp; omega) fun k hk => (HOA.out.lt k hk).1)
      clear c0 c1 c2 c3 c4 c5 c6 c7 HI3 HO7 HG7 HOA HS1 HS2 HCL HGX HX
      go_wp2
      go_roundw
      case rel => exact ⟨j + 1, _, by omega, by go_num, HI7⟩
      case measure => simp [intOf]; omega
    · obtain rfl : j = 4 := by omega
      rw [show ((4 : Nat) : Int) = 4 from rfl]
      go_wp2_with fail
      go_loopw [14] (fun i wr' => ∃ j : Nat, j ≤ 4 ∧ i = .int .i64 j ∧ Hid (G.length = 4 ∧ All5 m n G ∧ OwnS wr' w.heap.size u7 G ∧ Gt wr' w.heap.size G ∧ wr'.heap[gA]? = some (.cells (asC m n) 24 (0, 0)) ∧ Below w.heap.size w wr')) (fun i _ => 4 - (intOf i).toNat)
      case atStart => exact ⟨0, by omega, rfl, HI⟩
      case round =>
        clear HI
        obtain ⟨j, hj, rfl, HI⟩ := hrel
        by_cases hlt : j < 4
        · have hjc : (j : Int) < 4 := by omega
          obtain ⟨a, haj⟩ : ∃ a, askM m n j = a := ⟨_, rfl⟩
          have HAJ := hidden haj
          clear haj
          obtain ⟨x, hx⟩ : ∃ x, G[j]? = some x := ⟨_, List.getElem?_eq_getElem (by rw [HI.out.1]; exact hlt)⟩
          have HX := hidden hx
          have HAX := hidden (HI.out.2.1 j x hx)
          clear hx
          obtain ⟨c0, c1, c2, c3, c4, c5, c6, c7⟩ := row8o HI.out.2.2.2.2.1 j hlt HAJ.out
          rw [HAJ.out] at HAX
          rcases HI.out.2.2.1.shape with ⟨_, h2⟩ | ⟨gs, caps, hv, _, hcap, hgl, hcs⟩
          · have := HI.out.1; rw [h2] at this; cases this
          have hG4 := HI.out.1
          rw [hG4] at hv hcap
          subst hv
          have hlen4 : j < 4 := hlt
          by_cases hok : a.ok
          · obtain ⟨g, rfl⟩ : ∃ g, x = some (g, pageB a) := by
              rcases HAX.out with h | h
              · exact h.2
              · exact absurd hok h.1
            have HEN := hidden (rEncode_yes a wr hok)
            have HPL := hidden (pageB_length a hok)
            have hpw := pw_le hok.pg
            go_wp2_with (go_at_call 13; rw [← mtV_eq]; refine HEN.out.mono ?_; rintro e u2 ⟨v2, rfl, ho2, hb2⟩; have HO2 := hidden ho2; have HB2 := hidden hb2; clear ho2 hb2; rw [mtV_eq]; refine Hid.out ?_)
            apply hidden
            obtain ⟨ao2, cap2, hv2, hs2, _⟩ := HO2.out.sl (pageB_wf _) (by rw [HPL.out]; omega)
            subst hv2
            have hcell : u2.cell? ⟨gs, j, none⟩ = some (.slice (some ⟨g, 0, none⟩) (pageB a).length (pageB a).length) := (HB2.out.cell (p := ⟨gs, j, none⟩) hgl).trans (hcs j _ HX.out)
            have hrow := HI.out.2.2.2.1.rows j g _ HX.out
            have hcv1 := conv_sl (((hrow.1.on HB2.out).sl rfl (pageB_wf a) (by rw [HPL.out]; omega)).on (Nat.le_refl _) (Below.refl _ _).drew)
            have hcv2 := conv_sl (hs2.on (Nat.le_refl _) (Below.refl _ _).drew)
            have heq := str_self5 (strOfNums (pageB a))
            have HI2 : Hid (G.length = 4 ∧ All5 m n G ∧ OwnS u2 w.heap.size (.slice (some ⟨gs, 0, none⟩) 4 caps) G ∧ Gt u2 w.heap.size G ∧ u2.heap[gA]? = some (.cells (asC m n) 24 (0, 0)) ∧ Below w.heap.size w u2) :=
              hidden ⟨HI.out.1, HI.out.2.1, HI.out.2.2.1.go HB2.out, HI.out.2.2.2.1.on HB2.out, row_on HI.out.2.2.2.2.1 HB2.out, bl_go HI.out.2.2.2.2.2 (Nat.le_refl _) HB2.out⟩
            clear c0 c1 c2 c3 c4 c5 c6 c7 HEN HO2 HB2 HI hs2 hrow hcs hok HPL hpw HAX HX
            generalize strOfNums (pageB a) = s1 at *
            generalize (pageB a).length = N at *
            go_wp2_with fail
            go_region
            all_goals
              go_wp2
              go_roundw
              case rel => exact ⟨j + 1, by omega, by go_num, Inv.drew HI2⟩
              case measure => simp [intOf]; omega
          · obtain rfl : x = none := by
              rcases HAX.out with h | h
              · exact absurd h.1 hok
              · exact h.2
            have HEN := hidden (rEncode_no a wr hok)
            go_wp2_with (go_at_call 13; rw [← mtV_eq]; refine HEN.out.mono ?_; rintro e u2 ⟨rfl, hb2⟩; have HB2 := hidden hb2; clear hb2; rw [mtV_eq]; refine Hid.out ?_)
            apply hidden
            have hcell : u2.cell? ⟨gs, j, none⟩ = some (.slice none 0 0) := (HB2.out.cell (p := ⟨gs, j, none⟩) hgl).trans (hcs j _ HX.out)
            have hcv1 := conv_sl (w := u2.drew) (ao := none) (n := 0) (cap := 0) (l := []) ⟨rfl, Nat.le_refl _, by omega, Wf.nil, fun _ => rfl, .inl rfl⟩
            have heq := str_self5 (strOfNums [])
            have HI2 : Hid (G.length = 4 ∧ All5 m n G ∧ OwnS u2 w.heap.size (.slice (some ⟨gs, 0, none⟩) 4 caps) G ∧ Gt u2 w.heap.size G ∧ u2.heap[gA]? = some (.cells (asC m n) 24 (0, 0)) ∧ Below w.heap.size w u2) :=
              hidden ⟨HI.out.1, HI.out.2.1, HI.out.2.2.1.go HB2.out, HI.out.2.2.2.1.on HB2.out, row_on HI.out.2.2.2.2.1 HB2.out, bl_go HI.out.2.2.2.2.2 (Nat.le_refl _) HB2.out⟩
            clear c0 c1 c2 c3 c4 c5 c6 c7 HEN HB2 HI hcs hok HAX HX
            generalize strOfNums [] = s1 at *
            go_wp2_with fail
            go_region
            all_goals
              go_wp2
              go_roundw
              case rel => exact ⟨j + 1, by omega, by go_num, Inv.drew HI2⟩
              case measure => simp [intOf]; omega
        · obtain rfl : j = 4 := by omega
          have HOC := hidden (HO.out u7 w.heap.size G wr HI.out.2.2.1 HI.out.2.2.2.1 HI.out.2.2.2.2.2.size HI.out.1)
          go_wp2_with (go_at_call 14; refine HOC.out.mono ?_; rintro e u2 ⟨rfl, hb2⟩; have HB2 := hidden hb2; clear hb2)
          go_ret
          exact ⟨rfl, HI.out.2.2.2.2.2.trans HB2.out⟩
end Go.Proofs.YtoifjcliepongaaDoor
