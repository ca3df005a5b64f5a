/- What a few calls of a cache answer: live says yes. -/
import Derived.Test.YtmelhpghpcpoiabCj
import Derived.Test.YtmelhpghpcpoiabCg
namespace Go.Proofs.Ytmelhpghpcpoiab
open Go.RowKit Go.Maps

set_option maxRecDepth 100000 in
theorem Sl.head {w : World} {g n c : Nat} {l : List Int} (h : Sl w (some ⟨g, 0, none⟩) n c l) (h0 : 0 < n) : g < w.heap.size ∧ w.cell? ⟨g, 0, none⟩ = some (.int .u8 (l.getD 0 0)) := by
  rcases h.hat with h1 | ⟨b, off, e, hlt, hc⟩
  · omega
  · injection e with e
    injection e with e1 e2
    subst e1 e2
    exact ⟨hlt, hc 0 h0⟩
set_option maxRecDepth 100000 in
theorem cell_stay {w u : World} {g i : Nat} {v : Value} (hb : u.heap[g]? = w.heap[g]?) (h : w.cell? ⟨g, i, none⟩ = some v) : u.cell? ⟨g, i, none⟩ = some v := (World.cell?_of_block (w := w) (a := ⟨g, i, none⟩) hb).trans h
set_option maxRecDepth 100000 in
theorem MapIs.on {w u : World} {m n : Nat} {D : DataW Unit} (h : MapIs w m n D) (hb : Below w.heap.size w u) : MapIs u m n D := MapIs.ch h (Ch.of_below (F := fun _ => False) hb) (fun h => h)
set_option maxRecDepth 100000 in
theorem dA_read (l : List Int) : rd (dA.wrote 1 l) 1 = l := rfl

set_option maxRecDepth 100000 in
set_option maxHeartbeats 4000000 in
theorem live_any (w : World) : Calls Try.prog 4 #[] w fun e u => e = .returned (.bool true) ∧ Below w.heap.size w u := by
  obtain ⟨l7, h7⟩ : ∃ l, List.replicate 512 (7 : Int) = l := ⟨_, rfl⟩
  have HL7 : Hid (l7.length = 512 ∧ Wf l7 ∧ l7.getD 0 0 = 7) := hidden (by rw [← h7]; exact ⟨List.length_replicate .., replicate_wf _ _ (by omega), rfl⟩)
  have H7 := hidden h7
  clear h7
  have hN := St_New w 512 4 (by decide)
  go_enter Try.func4, Try.ntmps4
  go_wp2_with (go_at_call 5; refine hN.mono ?_; rintro e w1 ⟨a, rfl, s1⟩; have S1 : Hid (St w w1 (fun _ => False) a dA) := hidden s1; clear s1; refine Hid.out ?_)
  apply hidden
  clear hN
  have hC := cNew_yes w1 a 2 (by decide) (by decide)
  go_wp2_with (go_at_call 6; refine hC.mono ?_; rintro e w2 ⟨c, m, rfl, c1, m1, ncm, hc2, hm2, hb2⟩; refine Hid.out ?_)
  apply hidden
  have S2 := hidden (S1.out.page hb2)
  have HC2 := hidden hc2
  have HM2 := hidden hm2
  have B1 := hidden S1.out.be.size
  have Z2 := hidden (show c < w2.heap.size ∧ m < w2.heap.size ∧ w1.heap.size ≤ c ∧ w1.heap.size ≤ m from ⟨hc2.lt, World.ownsMap.lt hm2, c1, m1⟩)
  clear hc2 hm2 hb2 S1 hC c1 m1
  have hf := filled_any w2 7 (by omega) (by omega)
  go_wp2_with (go_at_call 8; refine hf.mono ?_; rintro e w3 ⟨rfl, hg3, hb3⟩; refine Hid.out ?_)
  apply hidden
  clear hf
  rw [H7.out] at hg3
  have S3 := hidden (S2.out.page hb3)
  have HC3 := hidden (show Hs w3 c _ tC from (hb3.block c Z2.out.1).trans HC2.out)
  have HM3 := hidden (HM2.out.on hb3)
  have HG3 := hidden hg3
  have Z3 := hidden hb3.size
  clear hg3 hb3 HC2 HM2
  have hP : Calls Try.prog 9 #[pt c, .int .i64 1, .slice (some ⟨w2.heap.size, 0, none⟩) 512 512] w3 fun e u => PutIs w3 c a 2 0 0 0 m ((1 : Nat) : Int) 512 l7 e u := by
    obtain ⟨F, hD⟩ := S3.out.dv
    exact Put_first w3 F a dA hD c 2 0 0 0 m 1 (by decide) w2.heap.size 512 l7 HL7.out.1 HL7.out.2.1 (by omega) HC3.out HM3.out ncm HG3.out (by have := Z2.out; omega) (by have := Z2.out; omega)
  go_wp2_with (go_at_call 9; refine hP.mono ?_; rintro e w4 ⟨L, g, rfl, L4, g4, o4, k4⟩; refine Hid.out ?_)
  apply hidden
  clear hP HC3 HM3 HG3
  have S4 := hidden (S3.out.cx k4 (by
    have := Z2.out
    have := B1.out
    rintro k hk (rfl | rfl)
    · exact ⟨.inl (.inr ⟨by omega, by omega⟩), by omega⟩
    · exact ⟨.inl (.inr ⟨by omega, by omega⟩), by omega⟩))
  have X4 : Hid (Xn (Xn (Xn (fun _ => False) w1 w2) w2 w3) w3 w4 c ∧ Xn (Xn (Xn (fun _ => False) w1 w2) w2 w3) w3 w4 m ∧ Xn (Xn (Xn (fun _ => False) w1 w2) w2 w3) w3 w4 L ∧ Xn (Xn (Xn (fun _ => False) w1 w2) w2 w3) w3 w4 g) := hidden ⟨.inl (.inl (.inr ⟨Z2.out.2.2.1, Z2.out.1⟩)), .inl (.inl (.inr ⟨Z2.out.2.2.2, Z2.out.2.1⟩)), .inr ⟨L4, o4.hl.lt⟩, .inr ⟨g4, o4.hg.lt⟩⟩
  have O4 := hidden o4
  have Z4 := hidden (show w.heap.size ≤ c ∧ w.heap.size ≤ L ∧ L < w4.heap.size from ⟨by have := Z2.out; have := B1.out; omega, by have := Z2.out; have := B1.out; have := Z3.out; omega, o4.hl.lt⟩)
  clear o4 k4 L4 g4 S3 S2 Z3
  generalize Xn (Xn (Xn (fun _ => False) w1 w2) w2 w3) w3 w4 = Y4 at *
  have hG := Get_held w4 c a 2 0 0 0 m ((1 : Nat) : Int) L g 512 true 0 l7 O4.out (by omega) (by omega) (by omega) (by omega)
  go_wp2_with (go_at_call 7; refine hG.mono ?_; rintro e w5 ⟨gx, cx, rfl, x5, sl5, o5, k5⟩; refine Hid.out ?_)
  apply hidden
  clear hG O4
  have S5 := hidden (S4.out.cx k5 (by
    have := Z4.out
    rintro k hk (rfl | rfl)
    · exact ⟨X4.out.1, by omega⟩
    · exact ⟨X4.out.2.2.1, by omega⟩))
  have V5 := hidden (sl5.head (by omega))
  have X5 := hidden (show Xn Y4 w4 w5 gx ∧ gx ≠ L from ⟨.inr ⟨x5, V5.out.1⟩, by have := Z4.out; omega⟩)
  have Y5 := hidden (fun k (hk : Y4 k) => show Xn Y4 w4 w5 k from .inl hk)
  have O5 := hidden o5
  clear o5 k5 sl5 S4 x5
  generalize hY : Xn Y4 w4 w5 = X at *
  clear hY
  have hF : Calls Try.prog 12 #[pt c] w5 fun e u => FlushIs w w5 X a dA c 2 (0 + 1) 0 0 m 1 L g 0 l7 e u := Flush_one w w5 X a dA S5.out c 2 (0 + 1) 0 0 m 1 L g 0 l7 O5.out rfl (by decide) (Y5.out _ X4.out.1) (Y5.out _ X4.out.2.2.1) (Y5.out _ X4.out.2.2.2) (Y5.out _ X4.out.2.1) Z4.out.2.1 (by decide) (by decide) (by decide) rfl
  go_wp2_with (go_at_call 12; refine hF.mono ?_; rintro e w6 ⟨X6, rfl, x56, s6, o6, k6⟩; refine Hid.out ?_)
  apply hidden
  clear hF
  have V6 := hidden (cell_stay (k6 gx X5.out.1 X5.out.2) V5.out.2)
  have XX := hidden (show X6 gx ∧ X6 c ∧ X6 m ∧ X6 L ∧ X6 g from ⟨x56 _ X5.out.1, x56 _ (Y5.out _ X4.out.1), x56 _ (Y5.out _ X4.out.2.1), x56 _ (Y5.out _ X4.out.2.2.1), x56 _ (Y5.out _ X4.out.2.2.2)⟩)
  have S6 := hidden s6
  have O6 := hidden o6
  clear s6 o6 k6 S5 O5 V5 X5 Y5 X4 x56 Z4 Z2 B1
  have hR : Calls Try.prog 15 #[.pointer (some ⟨a, 0, none⟩), .int .i64 1] w6 fun e u => ∃ g X', e = .returned (.tuple #[.slice (some ⟨g, 0, none⟩) 512 512, .int .i64 0]) ∧ u.heap[g]? = some (.cells (By (rd (dA.wrote 1 l7) 1)).toArray 5 (0, 0)) ∧ St w u X' a { dA.wrote 1 l7 with cr := (dA.wrote 1 l7).cr + 1 } ∧ X' g ∧ (∀ k, X6 k → X' k ∧ u.heap[k]? = w6.heap[k]?) := St_Read w w6 X6 a (dA.wrote 1 l7) S6.out 1 rfl (by show 1 < 4; omega) (by show (0 : Int) ≤ 0; omega) (by show (0 : Int) < 4611686018427387904; omega)
  rw [dA_read] at hR
  go_wp2_with (go_at_call 15; refine hR.mono ?_; rintro e w7 ⟨gy, X7, rfl, r7, s7, x7, k7⟩; refine Hid.out ?_)
  apply hidden
  clear hR
  have V7 := hidden (cell_stay (k7 gx XX.out.1).2 V6.out)
  have W7 : Hid (w7.cell? ⟨gy, 0, none⟩ = some (.int .u8 (l7.getD 0 0))) := hidden ((cell_of_row r7).trans (getD_By _ _ (by rw [HL7.out.1]; omega)))
  have Z7 := hidden (show gx < w7.heap.size ∧ gy < w7.heap.size from ⟨s7.xl _ (k7 gx XX.out.1).1, lt_of_some r7⟩)
  have O7 := hidden (O6.out.stay (u := w7) (by
    have x := XX.out
    rintro k (rfl | rfl | rfl | rfl)
    · exact (k7 _ x.2.1).2
    · exact (k7 _ x.2.2.2.1).2
    · exact (k7 _ x.2.2.2.2).2
    · exact (k7 _ x.2.2.1).2))
  have B7 := hidden s7.be
  clear r7 s7 x7 k7 S6 O6 V6 XX
  have hT := State_one w7 c a 2 (0 + 1) 0 0 m _ L g _ l7 O7.out
  go_wp2_with (go_at_call 14; refine hT.mono ?_; rintro e w8 ⟨rfl, hb8⟩; refine Hid.out ?_)
  apply hidden
  clear hT O7
  have v8 : w8.cell? ⟨gx, 0, none⟩ = some (.int .u8 7) := by
    have := cell_stay (hb8.block gx Z7.out.1) V7.out
    rw [HL7.out.2.2] at this
    exact this
  have y8 : w8.cell? ⟨gy, 0, none⟩ = some (.int .u8 7) := by
    have := cell_stay (hb8.block gy Z7.out.2) W7.out
    rw [HL7.out.2.2] at this
    exact this
  have v9 : ∀ o, (w8.alloc o).cell? ⟨gx, 0, none⟩ = some (.int .u8 7) := fun o => cell_stay (Below.heap_alloc _ _ _ (by have := Z7.out; have := hb8.size; omega)) v8
  have y9 : ∀ o, (w8.alloc o).cell? ⟨gy, 0, none⟩ = some (.int .u8 7) := fun o => cell_stay (Below.heap_alloc _ _ _ (by have := Z7.out; have := hb8.size; omega)) y8
  have B8 := hidden (B7.out.trans (hb8.mono B7.out.size))
  clear hb8 V7 W7 Z7 B7 HL7 H7 v8 y8
  unfold stV
  go_wp2
  go_ret
  exact ⟨rfl, B8.out.alloc B8.out.size _⟩
end Go.Proofs.Ytmelhpghpcpoiab
