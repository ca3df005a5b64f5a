/- The chapter's first examples, all of them. -/
import Derived.Test.YtpiijmionafmcaaGreatDoorJa
import Derived.Test.YtpiijmionafmcaaGreatDoorCmp3
import Derived.Test.YtpiijmionafmcaaGreatDoorJg
import Derived.Lib.SlBytesConst
namespace Go.Proofs.YtpiijmionafmcaaGreatDoor
open Go.RowKit

set_option maxRecDepth 100000 in
/-- One item, without a List, in a block of its own. -/
theorem lit1 (w : World) (k n : Int) (hk : -9223372036854775808 ≤ k ∧ k ≤ 9223372036854775807) (hn : -9223372036854775808 ≤ n ∧ n ≤ 9223372036854775807) (H : Nat) (hH : w.heap.size = H) :
    SlI (w.alloc (.cells #[.int .i64 k, .int .i64 n, .string ⟨#[]⟩, .slice none 0 0] 36)) (H ≤ ·) (some ⟨H, 0, none⟩) 1 1 (.cons k n ⟨#[]⟩ .nil .nil) := by
  subst hH
  refine ⟨rfl, Nat.le_refl _, (by intro h; cases h), by omega, ⟨hk, hn, by decide, by simp [Its.len], trivial, trivial⟩, .inr ⟨w.heap.size, 0, rfl, by simp, Nat.le_refl _, ⟨by simp, by simp, by simp, none, 0, 0, by simp, rfl, Nat.le_refl _, fun _ => rfl, .inl rfl⟩, trivial⟩⟩

set_option maxRecDepth 100000 in
theorem one_any (n : Int) (w : World) (hn : -9223372036854775808 ≤ n ∧ n ≤ 9223372036854775807) : Calls Tryz.prog 14 #[.int .i64 n] w fun e w' => e = .returned (.slice (some ⟨w.heap.size, 0, none⟩) 1 1) ∧ SlI w' (w.heap.size ≤ ·) (some ⟨w.heap.size, 0, none⟩) 1 1 (.cons 3 n ⟨#[]⟩ .nil .nil) ∧ Below w.heap.size w w' := by
  go_enter Tryz.func14, Tryz.ntmps14
  go_wp2
  go_ret
  exact ⟨rfl, lit1 w 3 n (by omega) hn _ rfl, (Below.refl _ _).alloc (Nat.le_refl _) _⟩

set_option maxRecDepth 100000 in
theorem ck3 (n : Int) : chk (fun _ => true) (.cons 3 n ⟨#[]⟩ .nil .nil) 0 = 0 := by
  simp [chk, chkL, chk1, fld, Its.len]
set_option maxRecDepth 100000 in
theorem enc256 : encR (fun _ => true) (.cons 3 256 ⟨#[]⟩ .nil .nil) = ([19, 130, 1, 0], 0) := by
  unfold encR
  rw [if_neg (by rw [ck3]; simp)]
  kernel_rfl
set_option maxRecDepth 100000 in
theorem enc1 : encR (fun _ => true) (.cons 3 1 ⟨#[]⟩ .nil .nil) = ([19, 129, 1], 0) := by
  unfold encR
  rw [if_neg (by rw [ck3]; simp)]
  kernel_rfl
set_option maxRecDepth 100000 in
theorem hi1 : hiB [19, 129, 1] = [19, 129, 2] := by kernel_rfl
set_option maxRecDepth 100000 in
theorem cmpm : cmpL (.cons 3 (-1) ⟨#[]⟩ .nil .nil) (.cons 0 0 ⟨#[]⟩ .nil .nil) = 1 := by kernel_rfl
set_option maxRecDepth 100000 in
theorem sm7 : smI out7 out7 = true := by kernel_rfl
set_option maxRecDepth 100000 in
theorem ck7 : chk (fun _ => true) out7 0 = 0 := by
  simp [chk, chkL, chk1, fld, Its.len, out7, inn]
set_option maxRecDepth 100000 in
theorem pr7 : pI out7 false [] = [91, 49, 32, 91, 93, 93] := by kernel_rfl

set_option maxRecDepth 100000 in
theorem conv_litH (w : World) (C : Array Value) (n c H : Nat) (hH : w.heap.size = H) : (convert 22 22 (.slice (some ⟨H, 0, none⟩) n c)).run Tryz.prog (w.alloc (.cells C 5)) = .ok (.slice (some ⟨H, 0, none⟩) n c) (w.alloc (.cells C 5 (C.size, C.size + 1))) := by
  subst hH
  exact Lib.run_convert_bytes_const (P := Tryz.prog) w 22 5 C n c Tryz.underlying22 Tryz.underlying5

set_option maxRecDepth 100000 in
theorem slLit (w : World) (fr : Nat × Nat) : Sl (w.alloc (.cells #[.int .u8 23, .int .u8 19, .int .u8 129, .int .u8 1, .int .u8 23, .int .u8 0, .int .u8 0] 5 fr)) (some ⟨w.heap.size, 0, none⟩) 7 7 b7 := by
  refine ⟨rfl, Nat.le_refl _, by omega, ?_, (by intro h; cases h), .inr ⟨w.heap.size, 0, rfl, by simp, fun i hi => ?_⟩⟩
  · intro x hx
    simp [b7] at hx
    omega
  · have hh := heap_alloc_new w (.cells #[.int .u8 23, .int .u8 19, .int .u8 129, .int .u8 1, .int .u8 23, .int .u8 0, .int .u8 0] 5 fr)
    generalize w.alloc (.cells #[.int .u8 23, .int .u8 19, .int .u8 129, .int .u8 1, .int .u8 23, .int .u8 0, .int .u8 0] 5 fr) = W at hh ⊢
    have : i = 0 ∨ i = 1 ∨ i = 2 ∨ i = 3 ∨ i = 4 ∨ i = 5 ∨ i = 6 := by omega
    rcases this with rfl | rfl | rfl | rfl | rfl | rfl | rfl <;> simp [World.cell?, hh, b7]
set_option maxRecDepth 100000 in
theorem wfs (l : List Int) (h : ∀ x ∈ l, 0 ≤ x ∧ x ≤ 255) : Wf l := h
set_option maxRecDepth 100000 in
theorem bchain {w w1 w2 : World} (a : Below w.heap.size w w1) (b : Below w1.heap.size w1 w2) : Below w.heap.size w w2 := a.trans (b.mono a.size)

set_option maxHeartbeats 1000000 in
set_option maxRecDepth 100000 in
theorem awake_any (w : World) : Calls Tryz.prog 4 #[] w fun e w' => e = .returned (.bool true) ∧ Below w.heap.size w w' := by
  have b0 : ∀ o, Below w.heap.size w (w.alloc o) := fun o => (Below.refl _ _).alloc (Nat.le_refl _) o
  have htx : ∀ k n, k ≠ 6 → (Its.cons k n ⟨#[]⟩ .nil .nil).Tx (ValidAt (fun _ => True) (fun _ => true)) := fun k n h => ⟨fun e => absurd e h, trivial, trivial⟩
  have htx7 : out7.Tx (ValidAt (fun _ => True) (fun _ => true)) := ⟨fun e => absurd e (by decide), ⟨fun e => absurd e (by decide), trivial, ⟨fun e => absurd e (by decide), trivial, trivial⟩⟩, trivial⟩
  have HX := hidden htx
  have HX7 := hidden htx7
  clear htx htx7
  go_enter Tryz.func4, Tryz.ntmps4
  go_wp2_with (first | (go_at_call 10; refine (encode_any (fun _ => True) (fun _ => true) (fun _ _ _ _ => trivial) (.cons 3 256 ⟨#[]⟩ .nil .nil) _ 1 1 _ trivial (lit1 w 3 256 (by omega) (by omega) _ rfl).any (HX.out 3 256 (by decide)) (by simp [Its.sz])).mono ?_; rw [enc256]; rintro e w1 ⟨v1, rfl, ho1, hb1⟩; have Ho1 := hidden ho1; have R1 : Hid (Below w.heap.size w w1) := bchain (b0 _) hb1; clear hb1 ho1; have hcv := conv_litH w1 #[.int .u8 23, .int .u8 19, .int .u8 129, .int .u8 1, .int .u8 23, .int .u8 0, .int .u8 0] 7 7 _ rfl) | (go_at_call 5; refine (decode_7 _ 7 _ (slLit w1 _)).mono ?_; rintro e w2 ⟨vo, c, rfl, hsl, hb2⟩; have HS2 := hidden hsl.any; have R2 : Hid (Below w1.heap.size w1 w2) := bchain ((Below.refl _ _).alloc (Nat.le_refl _) _) hb2; clear hb2 hsl hcv) | (go_at_call 11; refine (print_any out7 vo 1 c w2 HS2.out ⟨.inr rfl, ⟨.inl ⟨rfl, rfl⟩, trivial, .inr rfl, trivial, trivial⟩, trivial⟩ ⟨fun e => absurd e (by decide), ⟨fun e => absurd e (by decide), trivial, fun e => absurd e (by decide), trivial, trivial⟩, trivial⟩ ck7 (by rw [pr7]; decide) (by simp [out7, inn, Its.sz])).mono ?_; rw [pr7]; rintro e w3 ⟨rfl, hb3⟩; have R3 := hidden hb3; clear hb3) | (go_at_call 12; refine (parse_6 w3).mono ?_; rintro e w4 ⟨vo', c', rfl, hsl4, hb4⟩; have HS4 := hidden hsl4.any; have R4 := hidden hb4; clear hb4 hsl4))
  refine (one_any (-1) w4 (by omega)).mono ?_
  rintro e w5 ⟨rfl, hs5, hb5⟩
  have HS5 := hidden hs5.any
  have R5 := hidden hb5
  clear hs5 hb5
  go_wp2_with (first | (go_at_call 13; refine (compare_any (.cons 3 (-1) ⟨#[]⟩ .nil .nil) (.cons 0 0 ⟨#[]⟩ .nil .nil) _ _ 1 1 1 1 _ (HS5.out.on (Nat.le_refl _) ((Below.refl _ _).alloc (Nat.le_refl _) _)) (lit1 w5 0 0 (by omega) (by omega) _ rfl).any).mono ?_; rw [cmpm]; rintro e w6 ⟨rfl, hb6⟩; have R6 : Hid (Below w5.heap.size w5 w6) := bchain ((Below.refl _ _).alloc (Nat.le_refl _) _) hb6; clear hb6))
  refine (one_any 1 w6 (by omega)).mono ?_
  rintro e w7 ⟨rfl, hs7, hb7⟩
  have HS7 := hidden hs7.any
  have R7 := hidden hb7
  clear hs7 hb7
  have hpf := prefix_ok (fun _ => True) (fun _ => true) (fun _ _ _ _ => trivial) (.cons 3 1 ⟨#[]⟩ .nil .nil) _ 1 1 w7 trivial HS7.out (HX.out 3 1 (by decide)) (by simp [Its.sz]) (by rw [enc1])
  rw [enc1] at hpf
  simp only [hi1, show decide (lastNe [19, 129, 1] = 0) = false from by decide] at hpf
  have HPF := hidden hpf
  clear hpf
  go_wp2_with (first | (go_at_call 15; refine HPF.out.mono ?_; rintro e w8 ⟨v8, u8, rfl, ho8, hu8, _, hb8⟩; have Ho8 := hidden ho8; have Hu8 := hidden hu8; have R8 := hidden hb8; clear ho8 hu8 hb8) | (go_at_call 7; refine (same_all (out7.sz + 1) out7 (by omega) out7 _ _ 1 1 c c' w8 ((((((HS2.out.on (Nat.le_refl _) R3.out).on (Nat.le_refl _) R4.out).on (Nat.le_refl _) R5.out).on (Nat.le_refl _) R6.out).on (Nat.le_refl _) R7.out).on (Nat.le_refl _) R8.out) ((((HS4.out.on (Nat.le_refl _) R5.out).on (Nat.le_refl _) R6.out).on (Nat.le_refl _) R7.out).on (Nat.le_refl _) R8.out)).mono ?_; rw [sm7]; rintro e w9 ⟨rfl, q9, rfl⟩) | (go_at_call 16; refine (check_any (fun _ => True) (fun _ => true) (fun _ _ _ _ => trivial) out7 _ 1 c _ trivial (((((((HS2.out.on (Nat.le_refl _) R3.out).on (Nat.le_refl _) R4.out).on (Nat.le_refl _) R5.out).on (Nat.le_refl _) R6.out).on (Nat.le_refl _) R7.out).on (Nat.le_refl _) R8.out).drewN q9) HX7.out).mono ?_; rw [ck7]; rintro e w10 ⟨rfl, hb10⟩; have R10 : Hid (Below w8.heap.size w8 w10) := bchain (below_draws (Below.refl _ _) q9) hb10; clear hb10; have T10 : Below w1.heap.size w1 w10 := bchain R2.out (bchain R3.out (bchain R4.out (bchain R5.out (bchain R6.out (bchain R7.out (bchain R8.out R10.out)))))); have T := bchain R1.out T10; obtain ⟨a1, c1, rfl, s1, _⟩ := (Ho1.out.on (Nat.le_refl _) T10).sl (wfs _ (by decide)) (by simp); obtain ⟨a8, c8, rfl, s8, _⟩ := (Ho8.out.on (Nat.le_refl _) R10.out).sl (wfs _ (by decide)) (by simp); obtain ⟨b8, d8, rfl, t8, _⟩ := (Hu8.out.on (Nat.le_refl _) R10.out).sl (wfs _ (by decide)) (by simp); have e1 : strOfNums [19, 130, 1, 0] = ⟨#[19, 130, 1, 0]⟩ := (by kernel_rfl); have e2 : strOfNums [19, 129, 1] = ⟨#[19, 129, 1]⟩ := (by kernel_rfl); have e3 : strOfNums [19, 129, 2] = ⟨#[19, 129, 2]⟩ := (by kernel_rfl); have e4 : strOfNums [91, 49, 32, 91, 93, 93] = ⟨#[91, 49, 32, 91, 93, 93]⟩ := (by kernel_rfl); have k1 : (convert 22 9 (.slice a1 4 c1)).run Tryz.prog w10 = .ok (.string (strOfNums [19, 130, 1, 0])) w10 := conv_str s1; have k2 : (convert 22 9 (.slice a8 3 c8)).run Tryz.prog w10 = .ok (.string (strOfNums [19, 129, 1])) w10 := conv_str s8; have k3 : (convert 22 9 (.slice b8 3 d8)).run Tryz.prog w10 = .ok (.string (strOfNums [19, 129, 2])) w10 := conv_str t8; rw [e1] at k1; rw [e2] at k2; rw [e3] at k3; rw [e4]; have HT := hidden T; clear s1 s8 t8 T T10 e1 e2 e3 e4 Ho1 Ho8 Hu8 HS2 HS4 HS5 HS7 HX HX7 HPF b0 R1 R2 R3 R4 R5 R6 R7 R8 R10))
  go_ret
  exact ⟨rfl, HT.out⟩
end Go.Proofs.YtpiijmionafmcaaGreatDoor
