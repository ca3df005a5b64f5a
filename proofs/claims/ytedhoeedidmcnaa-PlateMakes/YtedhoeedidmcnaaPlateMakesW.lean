/- The walk of PlateMakes. -/
import Derived.Test.YtedhoeedidmcnaaPm3
import Derived.Test.YtedhoeedidmcnaaPm5
import Derived.Test.YtedhoeedidmcnaaPlAw
namespace Go.Proofs.Ytedhoeedidmcnaa
open Go.RowKit

/-- No device is loaded: both say so. -/
def NoLoad (n : Nat) (x : Int) : Prop := ∀ (u : World) (ao : Option Addr) (c : Nat), Calls Try.prog 21 #[.slice ao n c, .int .i64 x] u (fun e w' => e = .returned (.tuple #[.pointer none, .int .i64 32]) ∧ w' = u) ∧ Calls Try.prog 23 #[.slice ao n c, .int .i64 x] u (fun e w' => e = .returned (.tuple #[.pointer none, .int .i64 32]) ∧ w' = u)
theorem load_cases (n : Nat) (x : Int) (hn : n ≤ 140737488355328) : NoLoad n x ∨ ∃ X Y : Nat, x = (X : Int) ∧ n = X * Y ∧ dev X Y = true := by
  cases hp : pgs x
  · exact .inl fun u ao c => ⟨Load_page u ao n c x hp, rLoad_page u ao n c x hp⟩
  · obtain ⟨X, rfl⟩ : ∃ X : Nat, x = (X : Int) := ⟨x.toNat, by simp only [pgs, decide_eq_true_eq] at hp; omega⟩
    by_cases hm : n % X = 0
    · obtain ⟨Y, hY⟩ : ∃ Y, n = X * Y := ⟨n / X, by rw [Nat.mul_div_cancel' (Nat.dvd_of_mod_eq_zero hm)]⟩
      cases hd : dev X Y
      · exact .inl fun u ao c => ⟨Load_dev u ao n c X Y hn hp hY hd, rLoad_dev u ao n c X Y hn hp hY hd⟩
      · exact .inr ⟨X, Y, rfl, hY, hd⟩
    · exact .inl fun u ao c => ⟨Load_rest u ao n c X hn hp hm, rLoad_rest u ao n c X hn hp hm⟩

theorem Rl.on {w w' : World} {B a page n : Nat} (h : Rl w B a page n) (hb : Below w.heap.size w w') : Rl w' B a page n := by
  obtain ⟨vL, qs, ha, ho, hl, hq, hg, hB⟩ := h
  refine ⟨vL, qs, (hb.block a (lt_of_some ha)).trans ha, ⟨ho.1, ?_⟩, hl, fun q hm => ?_, hg, hB⟩
  · rcases ho.2 with h0 | ⟨g, cap, cur, rfl, g1, g2, g3⟩
    · exact .inl h0
    · exact .inr ⟨g, cap, cur, rfl, g1, (hb.block g (lt_of_some g2)).trans g2, g3⟩
  · obtain ⟨c1, c2, c3, l1, c4, c5⟩ := hq q hm
    exact ⟨c1, c2, c3, l1, c4, (hb.block q (lt_of_some c5)).trans c5⟩
theorem lent_sl {w : World} {g n : Nat} {l : List Int} (h : w.heap[g]? = some (.cells (By (l ++ mks 9)).toArray 5 (0, 0))) (hl : l.length = n) (hw : Wf l) (hn : n ≤ 140737488355328) : Sl w (some ⟨g, 0, none⟩) n (n + 9) l :=
  ⟨hl, by omega, hn, hw, (by intro h; cases h), .inr ⟨g, 0, rfl, lt_of_some h, fun i hi => by
    rw [Nat.zero_add, cell_of_row h, getD_By _ _ (by rw [List.length_append]; omega)]
    simp only [List.getD]
    rw [List.getElem?_append_left (by omega)]⟩⟩

/-- Bytes that came in stay through whatever leaves the blocks of the start alone. -/
theorem Sl.at {w w' : World} {ao : Option Addr} {n cap : Nat} {l : List Int} (h : Sl w ao n cap l) (hb : Below w.heap.size w w') : Sl w' ao n cap l := h.on (Nat.le_refl _) hb

set_option maxRecDepth 100000 in
set_option maxHeartbeats 4000000 in
theorem walk_PlateMakes (x y : Int) (ao : Option Addr) (n c : Nat) (l : List Int) (w : World) (_ : -9223372036854775808 ≤ x ∧ x ≤ 9223372036854775807) (_ : -9223372036854775808 ≤ y ∧ y ≤ 9223372036854775807) (hs : Sl w ao n c l) : Calls Try.prog 5 #[.int .i64 x, .int .i64 y, .slice ao n c] w fun e w' => e = .returned (.bool true) ∧ Below w.heap.size w w' := by
  have hcs := load_cases n x hs.hroom
  have HS := hidden hs
  clear hs
  have hN : dev x y = false ∨ ∃ X Y : Nat, x = (X : Int) ∧ y = (Y : Int) ∧ dev X Y = true := by
    cases hd : dev x y
    · exact .inl rfl
    · refine .inr ⟨x.toNat, y.toNat, ?_, ?_, ?_⟩
      · simp only [dev, pgs, decide_eq_true_eq] at hd; omega
      · simp only [dev, decide_eq_true_eq] at hd; omega
      · rw [show ((x.toNat : Nat) : Int) = x by simp only [dev, pgs, decide_eq_true_eq] at hd; omega, show ((y.toNat : Nat) : Int) = y by simp only [dev, decide_eq_true_eq] at hd; omega]; exact hd
  rcases hN with hd | ⟨X, Y, hX, hY, hd⟩
  case' inl =>
    have HCS := hidden hcs
    have HD := hidden hd
    clear hcs hd
    go_enter Try.func5, Try.ntmps5
    go_wp2_with (go_at_call 7; refine (awake_any w).mono ?_; rintro e w1 ⟨rfl, b1⟩; have B1 := hidden b1; clear b1; refine Hid.out ?_)
    apply hidden
    go_wp2_with (go_at_call 9; refine same_call (New_no x y w1 HD.out) ?_; refine Hid.out ?_)
    apply hidden
    go_wp2_with (go_at_call 10; refine same_call (rNew_no x y w1 HD.out) ?_; refine Hid.out ?_)
    apply hidden
    go_wp2_with fail
    clear HD
    have B3 := B1
    generalize w1 = w3 at B3 ⊢
  case' inr =>
    subst hX hY
    have HCS := hidden hcs
    have HD := hidden hd
    clear hcs hd
    go_enter Try.func5, Try.ntmps5
    go_wp2_with (go_at_call 7; refine (awake_any w).mono ?_; rintro e w1 ⟨rfl, b1⟩; have B1 := hidden b1; clear b1; refine Hid.out ?_)
    apply hidden
    have cN := New_yes X Y w1 HD.out
    go_wp2_with (go_at_call 9; refine cN.mono ?_; rintro e w2 ⟨a, rfl, d2, b2⟩; have D2 := hidden d2; have B2 := hidden (B1.out.trans (b2.mono B1.out.size)); clear b2 d2; refine Hid.out ?_)
    apply hidden
    clear cN
    have cR := rNew_yes X Y w2 HD.out
    go_wp2_with (go_at_call 10; refine cR.mono ?_; rintro e w3 ⟨a', rfl, d3, b3⟩; have B3 := hidden (B2.out.trans (b3.mono B2.out.size)); have D3 := hidden (D2.out.on (Nat.le_refl _) b3); clear b3 d3; refine Hid.out ?_)
    apply hidden
    clear cR
    have q1 : Calls Try.prog 14 #[.pointer (some ⟨a, 0, none⟩)] w3 fun e w' => e = .returned (.int .i64 X) ∧ w' = w3 := pg_any w3 _ a (d0 X Y) D3.out
    have q2 : Calls Try.prog 16 #[.pointer (some ⟨a, 0, none⟩)] w3 fun e w' => e = .returned (.int .i64 Y) ∧ w' = w3 := pgs_any w3 _ a (d0 X Y) D3.out
    have q3 : Calls Try.prog 12 #[.pointer (some ⟨a, 0, none⟩)] w3 fun e w' => e = .returned (.bool true) ∧ w' = w3 := up_any w3 _ a (d0 X Y) D3.out
    have q4 : Calls Try.prog 19 #[.pointer (some ⟨a, 0, none⟩)] w3 fun e w' => e = .returned (.int .i64 0) ∧ w' = w3 := lse_any w3 _ a (d0 X Y) D3.out
    go_wp2_with (first | (go_at_call 14; refine same_call q1 ?_) | (go_at_call 16; refine same_call q2 ?_) | (go_at_call 12; refine same_call q3 ?_) | (go_at_call 19; refine same_call q4 ?_))
    clear q1 q2 q3 q4 D2 D3 HD B2
  all_goals
    have S3 := hidden (HS.out.at B3.out)
    go_wp2_with (go_at_call 20; refine (Lent_any ao n c l w3 S3.out).mono ?_; rintro e w4 ⟨rfl, r4, b4⟩; have R4 := hidden r4; have B34 := hidden b4; have B4 := hidden (B3.out.trans (b4.mono B3.out.size)); clear r4 b4; refine Hid.out ?_)
    apply hidden
    have hgw : w.heap.size ≤ w3.heap.size := B3.out.size
    have S4 := hidden (HS.out.at B4.out)
    rcases HCS.out with hno | ⟨X1, Y1, e1, hn1, hd1⟩
    · have HNO := hidden hno
      clear hno S3
      go_wp2_with (go_at_call 21; refine same_call (HNO.out w4 _ _).1 ?_; refine Hid.out ?_)
      apply hidden
      go_wp2_with (go_at_call 22; refine (AsLent_any w3.heap.size n ao c l w4 R4.out S4.out).mono ?_; rintro e w5 ⟨rfl, c5⟩; have B5 : Hid (Below w.heap.size w w5) := hidden (B4.out.trans (c5.below B4.out.size fun k hk e => by omega)); clear c5; refine Hid.out ?_)
      apply hidden
      go_wp2_with (go_at_call 23; refine same_call (HNO.out w5 _ _).2 ?_; refine Hid.out ?_)
      apply hidden
      clear HNO S4 R4
      go_wp2
      go_ret
      exact ⟨rfl, B5.out⟩
    · first | subst e1 | (have e2 : X1 = X := (by omega); subst e2)
      subst hn1
      have HD1 := hidden hd1
      have hw4 : w3.heap.size < w4.heap.size := lt_of_some R4.out
      clear hd1 S3
      have cL := Load_yes w4 _ _ _ l _ Y1 (lent_sl R4.out HS.out.hlen HS.out.wf HS.out.hroom) rfl HD1.out
      go_wp2_with (go_at_call 21; refine cL.mono ?_; rintro e w5 ⟨a5, rfl, d5, b5⟩; have D5 := hidden d5; have B45 := hidden b5; clear d5 b5; refine Hid.out ?_)
      apply hidden
      clear cL
      have S5 := hidden (HS.out.at (B4.out.trans (B45.out.mono B4.out.size)))
      have R5 := hidden ((B45.out.block w3.heap.size hw4).trans R4.out)
      have B5 := hidden (B4.out.trans (B45.out.mono B4.out.size))
      clear S4 R4
      go_wp2_with (go_at_call 22; refine (AsLent_any w3.heap.size _ ao c l w5 R5.out S5.out).mono ?_; rintro e w6 ⟨rfl, c6⟩; have D6 := hidden (D5.out.ch c6 fun k _ hk e => by have := hk.1; omega); have B6 : Hid (Below w.heap.size w w6) := hidden (B5.out.trans (c6.below B5.out.size fun k hk e => by omega)); clear c6; refine Hid.out ?_)
      apply hidden
      clear D5 S5 R5 B5 B45 B34
      have S6 := hidden (HS.out.at B6.out)
      have cR := rLoad_yes w6 ao _ c l _ Y1 S6.out rfl HD1.out
      go_wp2_with (go_at_call 23; refine cR.mono ?_; rintro e w7 ⟨a7, rfl, r7, b7⟩; have R7 := hidden r7; have D7 := hidden (D6.out.on (Nat.le_refl _) b7); have B7 := hidden (B6.out.trans (b7.mono B6.out.size)); clear b7 r7; refine Hid.out ?_)
      apply hidden
      clear cR S6 D6
      have cI : Calls Try.prog 24 #[.pointer (some ⟨a5, 0, none⟩)] w7 fun e w' => e = .returned (.slice (some ⟨w7.heap.size, 0, none⟩) (X1 * Y1) (X1 * Y1)) ∧ w'.heap[w7.heap.size]? = some (.cells (By l).toArray 5 (0, 0)) ∧ Below w7.heap.size w7 w' := Image_calm w7 _ a5 _ D7.out (fun k => by
        simp only [d0, List.getD, List.getElem?_replicate]
        split <;> rfl)
      go_wp2_with (go_at_call 24; refine cI.mono ?_; rintro e w8 ⟨rfl, r8, b8⟩; have R8 := hidden r8; have D8 := hidden (D7.out.on (Nat.le_refl _) b8); have Q8 := hidden (R7.out.on b8); have B8 := hidden (B7.out.trans (b8.mono B7.out.size)); clear r8 b8; refine Hid.out ?_)
      apply hidden
      clear cI D7 R7
      have cS : Calls Try.prog 25 #[.pointer (some ⟨a5, 0, none⟩)] w8 fun e w' => e = .returned (.slice (some ⟨w8.heap.size, 0, none⟩) (X1 * Y1) (X1 * Y1)) ∧ w'.heap[w8.heap.size]? = some (.cells (By l).toArray 5 (0, 0)) ∧ Below w8.heap.size w8 w' := Safe_any w8 _ a5 _ D8.out
      go_wp2_with (go_at_call 25; refine cS.mono ?_; rintro e w9 ⟨rfl, r9, b9⟩; have R9 := hidden r9; have R89 := hidden ((b9.block w7.heap.size (lt_of_some R8.out)).trans R8.out); have D9 := hidden (D8.out.on (Nat.le_refl _) b9); have Q9 := hidden (Q8.out.on b9); have B9 := hidden (B8.out.trans (b9.mono B8.out.size)); clear r9 b9; refine Hid.out ?_)
      apply hidden
      clear cS D8 Q8 R8
      obtain ⟨SS, hSS⟩ : ∃ SS, strOfNums l = SS := ⟨_, rfl⟩
      have k1 : (convert 35 9 (.slice (some ⟨w7.heap.size, 0, none⟩) (X1 * Y1) (X1 * Y1))).run Try.prog w9 = .ok (.string SS) w9 := by rw [← hSS]; exact conv_sl (row_sl R89.out HS.out.hlen HS.out.wf HS.out.hroom)
      have k2 : (convert 35 9 (.slice (some ⟨w8.heap.size, 0, none⟩) (X1 * Y1) (X1 * Y1))).run Try.prog w9 = .ok (.string SS) w9 := by rw [← hSS]; exact conv_sl (row_sl R9.out HS.out.hlen HS.out.wf HS.out.hroom)
      have k3 : (convert 35 9 (.slice ao (X1 * Y1) c)).run Try.prog w9 = .ok (.string SS) w9 := by rw [← hSS]; exact conv_sl (HS.out.at B9.out)
      have eS : (SS.toList == SS.toList) = true := by simp
      have eY : ((Y1 : Int) == (Y1 : Int)) = true := by simp
      have q3 : Calls Try.prog 12 #[.pointer (some ⟨a5, 0, none⟩)] w9 fun e w' => e = .returned (.bool true) ∧ w' = w9 := up_any w9 _ a5 _ D9.out
      have q2 : Calls Try.prog 16 #[.pointer (some ⟨a5, 0, none⟩)] w9 fun e w' => e = .returned (.int .i64 Y1) ∧ w' = w9 := pgs_any w9 _ a5 _ D9.out
      have q5 := rPages_any w9 _ a7 _ _ Q9.out
      clear hSS R9 R89 D9 Q9 HS HD1 hgw hw4
      go_wp2_with (first | (go_at_call 12; refine same_call q3 ?_) | (go_at_call 16; refine same_call q2 ?_) | (go_at_call 17; refine same_call q5 ?_))
      go_ret
      exact ⟨rfl, B9.out⟩
end Go.Proofs.Ytedhoeedidmcnaa
