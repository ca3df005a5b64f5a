/- The walk of the law InkBack. -/
import Derived.Test.YtfofkgdhepdjeaaDoorInkWritesW
import Derived.Test.YtfofkgdhepdjeaaDoorBackMath
namespace Go.Proofs.YtfofkgdhepdjeaaDoor
open Go.RowKit

theorem fixed_ex (n x : Int) (W : Nat) (w : World) (h0 : 0 ≤ n) (hx : x = (W : Int)) (h1 : 1 ≤ W) (h2 : W ≤ 8) :
    Calls Tryd.prog 10 #[.int .u64 n, .int .i64 x] w fun e w' => ∃ v LF, e = .returned v ∧ OwnB w' w.heap.size v LF ∧ LF.length = W ∧ Wf LF ∧ Hid (rdB LF = n % 256 ^ W) ∧ Below w.heap.size w w' := by
  subst hx
  refine (fixed_yes n (W : Int) w h0 (by omega) (by omega)).mono ?_
  rintro e w' ⟨v, he, ho, hb⟩
  rw [Int.toNat_natCast] at ho
  exact ⟨v, fB W n, he, ho, fB_length W n, fB_wf W n, rdB_fB W n h0, hb⟩
theorem uint_ex (n : Int) (w : World) (h0 : 0 ≤ n) (hn : n < 18446744073709551616) :
    Calls Tryd.prog 11 #[.int .u64 n] w fun e w' => ∃ v LU, e = .returned v ∧ OwnB w' w.heap.size v LU ∧ 1 ≤ LU.length ∧ LU.length ≤ 10 ∧ Wf LU ∧ Hid (∀ (p : Int) rest, rU p (LU ++ rest) 0 0 = (n, p + LU.length, 0)) ∧ Hid (∀ p : Int, rU p (LU.take (LU.length - 1)) 0 0 = (0, 0, 10)) ∧ Below w.heap.size w w' := by
  refine (uint_any n w h0 hn).mono ?_
  rintro e w' ⟨v, he, ho, hb⟩
  exact ⟨v, uB n, he, ho, (uB_length n).2, (uB_length n).1, uB_wf h0 hn, fun p rest => rU_uB p n rest h0 hn, fun p => rU_cut p n h0, hb⟩
theorem ordered_ex (ao : Option Addr) (n cap : Nat) (l : List Int) (w : World) (hs : Sl w ao n cap l) (hbig : 2 * n + 2 ≤ 140737488355328) :
    Calls Tryd.prog 24 #[.slice ao n cap] w fun e w' => ∃ v LO, e = .returned v ∧ OwnB w' w.heap.size v LO ∧ n + 2 ≤ LO.length ∧ LO.length ≤ 2 * n + 2 ∧ Wf LO ∧ Hid (∀ (p : Int) rest, rO (LO ++ rest) p [] = (l, p + LO.length, 0)) ∧ Hid (∀ p : Int, rO (LO.take (LO.length - 1)) p [] = ([], 0, 10)) ∧ Below w.heap.size w w' := by
  have hl := hs.hlen
  have hL := oB_length l
  refine (ordered_any ao n cap l w hs hbig).mono ?_
  rintro e w' ⟨v, he, ho, hb⟩
  exact ⟨v, oB l, he, ho, by omega, by omega, oB_wf l hs.wf, fun p rest => by rw [rO_back]; simp, fun p => by rw [oB_cut]; exact rO_open l p [], hb⟩
theorem readUint_at (ao : Option Addr) (n cap : Nat) (l : List Int) (p' : Int) (p : Nat) (w : World) (hs : Sl w ao n cap l) (hp : p' = (p : Int)) (h : p ≤ n) :
    Calls Tryd.prog 19 #[.slice ao n cap, .int .i64 p'] w fun e w' => e = .returned (.tuple #[.int .u64 (rU p (l.drop p) 0 0).1, .int .i64 (rU p (l.drop p) 0 0).2.1, .int .i64 (rU p (l.drop p) 0 0).2.2]) ∧ w' = w := by
  subst hp
  have := readUint_any ao n cap l (p : Int) w hs (by omega) (by omega)
  rwa [Int.toNat_natCast] at this
theorem readOrdered_at (ao : Option Addr) (n cap : Nat) (l : List Int) (p' : Int) (p : Nat) (w : World) (hs : Sl w ao n cap l) (hp : p' = (p : Int)) (h : p ≤ n) :
    Calls Tryd.prog 21 #[.slice ao n cap, .int .i64 p'] w fun e w' => ∃ v, e = .returned (.tuple #[v, .int .i64 (rO (l.drop p) p []).2.1, .int .i64 (rO (l.drop p) p []).2.2]) ∧ OwnB w' w.heap.size v (rO (l.drop p) p []).1 ∧ Below w.heap.size w w' := by
  subst hp
  have := readOrdered_in ao n cap l (p : Int) w hs (by omega) (by omega)
  rwa [Int.toNat_natCast] at this
theorem readFixed_at (ao : Option Addr) (n cap : Nat) (l : List Int) (p' x : Int) (p W : Nat) (w : World) (hs : Sl w ao n cap l) (hp : p' = (p : Int)) (hx : x = (W : Int)) (h1 : 1 ≤ W) (h2 : W ≤ 8) (h : p + W ≤ n) :
    Calls Tryd.prog 17 #[.slice ao n cap, .int .i64 p', .int .i64 x] w fun e w' => e = .returned (.tuple #[.int .u64 (rdB ((l.drop p).take W)), .int .i64 0]) ∧ w' = w := by
  subst hp hx
  have := readFixed_ok ao n cap l (p : Int) (W : Int) w hs (by omega) (by omega) (by omega) (by omega)
  rwa [Int.toNat_natCast, Int.toNat_natCast] at this

theorem pow_wrap256 (k : Nat) (h : k < 7) : IntKind.u64.wrap (256 * 256 ^ k) = 256 ^ (k + 1) := by
  have h2 : k = 0 ∨ k = 1 ∨ k = 2 ∨ k = 3 ∨ k = 4 ∨ k = 5 ∨ k = 6 := by omega
  rcases h2 with rfl | rfl | rfl | rfl | rfl | rfl | rfl <;> rw [IntKind.wrap_u64] <;> decide
theorem mid_cut (A B : List Int) (a m : Nat) (hA : A.length = a) : ((A ++ B).take m).drop a = B.take (m - a) := by
  subst hA
  rw [List.drop_take]
  simp
theorem take_less (A B : List Int) (m : Nat) (h : m ≤ A.length) : (A ++ B).take m = A.take m := List.take_append_of_le_length h
theorem drop_exact (A B : List Int) (a : Nat) (hA : A.length = a) : (A ++ B).drop a = B := by
  subst hA
  simp

set_option maxRecDepth 100000 in
set_option maxHeartbeats 4000000 in
theorem walk_InkBack (a0 : Option Addr) (n0 c0 : Nat) (la : List Int) (n wide : Int) (a3 : Option Addr) (n3 c3 : Nat) (lt : List Int) (a4 : Option Addr) (n4 c4 : Nat) (lb : List Int) (w : World) (ht : Tab w) (h0 : 0 < w.heap.size)
    (hs0 : Sl w a0 n0 c0 la) (_hn0 : n0 ≤ 140737488351232) (hn : 0 ≤ n ∧ n ≤ 18446744073709551615) (hw : -9223372036854775808 ≤ wide ∧ wide ≤ 9223372036854775807) (hs3 : Sl w a3 n3 c3 lt) (_hn3 : n3 ≤ 140737488351232) (hs4 : Sl w a4 n4 c4 lb) (_hn4 : n4 ≤ 140737488351232) (hall : n0 + n3 + n4 ≤ 1048576) :
    Calls Tryd.prog 6 #[.slice a0 n0 c0, .int .u64 n, .int .i64 wide, .slice a3 n3 c3, .slice a4 n4 c4] w fun e w' => e = .returned (.bool true) ∧ Below w.heap.size w w' := by
  have HL := hidden (live_any w ht h0)
  have HS0 := hidden hs0
  have HS3 := hidden hs3
  have HS4 := hidden hs4
  have hla := hs0.hlen
  have hlt := hs3.hlen
  have hlb := hs4.hlen
  obtain ⟨hnn, hn1⟩ := hn
  have hn2 : n < 18446744073709551616 := by omega
  clear ht hs0 hs3 hs4 _hn0 _hn3 _hn4
  have hcase : wide < 0 ∨ 0 ≤ wide := by omega
  rcases hcase with hneg | hpos
  · obtain ⟨W, hW⟩ : ∃ W : Nat, (8 : Int) = (W : Int) := ⟨8, rfl⟩
    have hbw : ((W : Int) != 8) = false := by simp; omega
    have hW1 : 1 ≤ W := by omega
    have hW8 : W ≤ 8 := by omega
    have HX := hidden hW
    clear hW
    go_enter Tryd.func6, Tryd.ntmps6
    go_wp2_with fail
    refine HL.out.mono ?_
    rintro e w1 ⟨rfl, hb⟩
    have HB1 := hidden hb
    clear hb HL
    go_wp2_with fail
    refine (fixed_ex n _ W _ hnn HX.out hW1 hW8).mono ?_
    rintro e w2 ⟨vf, LF, rfl, hof, hlF, hwF, HRF, hb2⟩
    obtain ⟨af, cf, rfl, hsf, -⟩ := hof.sl hwF (by omega)
    rw [hlF] at hsf
    have HSF := hidden hsf
    have HB2 := hidden (HB1.out.trans (hb2.mono HB1.out.size))
    clear hof hsf hb2 HB1
    go_wp2_with fail
    refine (uint_ex n _ hnn hn2).mono ?_
    rintro e w3 ⟨vu, LU, rfl, hou, hlU1, hlU10, hwU, HRU, HRUc, hb3⟩
    obtain ⟨au, cu, rfl, hsu, -⟩ := hou.sl hwU (by omega)
    have HSU := hidden hsu
    have HSF3 := hidden (HSF.out.go hb3)
    have HB3 := hidden (HB2.out.trans (hb3.mono HB2.out.size))
    clear hou hsu hb3 HB2 HSF
    go_wp2_with fail
    refine (ordered_ex _ _ _ lt _ (HS3.out.go HB3.out) (by omega)).mono ?_
    rintro e w5 ⟨vo, LO, rfl, hoo, hlO1, hlO2, hwO, HRO, HROc, hb5⟩
    obtain ⟨ao, co, rfl, hso, -⟩ := hoo.sl hwO (by omega)
    have HSO := hidden hso
    have HSF5 := hidden (HSF3.out.go hb5)
    have HSU5 := hidden (HSU.out.go hb5)
    have HB5 := hidden (HB3.out.trans (hb5.mono HB3.out.size))
    have HS05 := hidden (HS0.out.go HB5.out)
    have HS35 := hidden (HS3.out.go HB5.out)
    have HS45 := hidden (HS4.out.go HB5.out)
    clear hoo hso hb5 HB3 HSF3 HSU HS0 HS3 HS4
    have HwF := hidden hwF
    have HwU := hidden hwU
    have HwO := hidden hwO
    clear hwF hwU hwO
    have hd0 : decide (0 ≤ wide) = false := by simp; omega
    have hd1 : decide ((LU.length : Int) < 1) = false := by simp; omega
    have hd2 : decide (10 < (LU.length : Int)) = false := by simp; omega
    have hd3 : decide ((LO.length : Int) < (n3 : Int) + 2) = false := by simp; omega
    go_wp2_with fail
    go_wp2_with fail
    go_loopw [16, 17] (fun v i wr => ∃ k : Nat, k ≤ n0 ∧ i = .int .i64 k ∧ OwnB wr w5.heap.size v (la.take k) ∧ Below w5.heap.size w5 wr) (fun _ i _ => n0 - (intOf i).toNat)
    case atStart => exact ⟨0, by omega, rfl, by simpa using OwnB.nil w5 w5.heap.size, Below.refl _ _⟩
    case round =>
      obtain ⟨k, hk, rfl, hown, hbl⟩ := hrel
      have hszl := hbl.size
      by_cases hlt' : k < n0
      · rcases HS05.out.hat with h | ⟨b, off, rfl, hbb, hc⟩
        · omega
        have hck : wr.cell? ⟨b, off + k, none⟩ = some (.int .u8 (la.getD k 0)) := (hbl.cell (p := ⟨b, off + k, none⟩) hbb).trans (hc k hlt')
        have htl : (la.take k).length ≤ 1048576 := by simp; omega
        have HTS := hidden (take_snoc la k (by omega))
        clear hc
        generalize la.getD k 0 = x at *
        go_wp2_with (at_builtin; refine app_bytes _ rfl _ _ rfl w5.heap.size (la.take k) _ rfl (hown.alloc _) _ 1 1 [x] rfl rfl (one_cell _ _) (by omega) (by simp; omega) ?_)
        intro v2 w6 hown2 hb6
        have R2 : Below w5.heap.size w5 w6 := (hbl.alloc hszl _).trans hb6
        clear hb6 hown hck
        go_wp2
        go_roundw
        case rel => exact ⟨k + 1, by omega, by go_num, by rw [HTS.out]; first | exact hown2 | (rw [← List.append_assoc]; exact hown2), R2⟩
        case measure => simp [intOf]; omega
      · have hkl : la.take k = la := List.take_of_length_le (by omega)
        rw [hkl] at hown
        clear hkl
        have hdk : decide (k < n0) = false := by simp; omega
        obtain ⟨ab, cb, rfl, hsb, -⟩ := hown.sl HS05.out.wf (by omega)
        rw [hla] at hown ⊢
        clear hsb
        go_wp2_with fail
        go_loopw [16, 19] (fun v i wr => ∃ k : Nat, k ≤ W ∧ i = .int .i64 k ∧ OwnB wr w5.heap.size v (la ++ LF.take k) ∧ Below w5.heap.size w5 wr) (fun _ i _ => W - (intOf i).toNat)
        case atStart => exact ⟨0, by omega, rfl, by simpa using hown, hbl⟩
        case round =>
          clear hown hbl hszl
          obtain ⟨k, hk, rfl, hown, hbl⟩ := hrel
          have hszl := hbl.size
          by_cases hlt' : k < W
          · rcases HSF5.out.hat with h | ⟨b, off, rfl, hbb, hc⟩
            · omega
            have hck : wr.cell? ⟨b, off + k, none⟩ = some (.int .u8 (LF.getD k 0)) := (hbl.cell (p := ⟨b, off + k, none⟩) hbb).trans (hc k hlt')
            have htl : (la ++ LF.take k).length ≤ 1048584 := by simp; omega
            have HTS := hidden (take_snoc LF k (by omega))
            clear hc
            generalize LF.getD k 0 = x at *
            go_wp2_with (at_builtin; refine app_bytes _ rfl _ _ rfl w5.heap.size (la ++ LF.take k) _ rfl (hown.alloc _) _ 1 1 [x] rfl rfl (one_cell _ _) (by omega) (by simp; omega) ?_)
            intro v2 w6 hown2 hb6
            have R2 : Below w5.heap.size w5 w6 := (hbl.alloc hszl _).trans hb6
            clear hb6 hown hck
            go_wp2
            go_roundw
            case rel => exact ⟨k + 1, by omega, by go_num, by rw [HTS.out]; first | exact hown2 | (rw [← List.append_assoc]; exact hown2), R2⟩
            case measure => simp [intOf]; omega
          · have hkl : LF.take k = LF := List.take_of_length_le (by omega)
            rw [hkl] at hown
            clear hkl
            have hdk : decide (k < W) = false := by simp; omega
            obtain ⟨P2, hP2⟩ : ∃ P2, P2 = la ++ LF := ⟨_, rfl⟩
            rw [← hP2] at hown
            have hl2 : P2.length = n0 + W := by rw [hP2]; simp; omega
            have hw2 : Wf P2 := by rw [hP2]; exact HS05.out.wf.append HwF.out
            have HP2 := hidden hP2
            have Hw2 := hidden hw2
            clear hP2 hw2
            obtain ⟨ab2, cb2, rfl, hsb, -⟩ := hown.sl Hw2.out (by omega)
            rw [hl2] at hown ⊢
            clear hsb
            go_wp2_with fail
            go_loopw [16, 21] (fun v i wr => ∃ k : Nat, k ≤ LU.length ∧ i = .int .i64 k ∧ OwnB wr w5.heap.size v (P2 ++ LU.take k) ∧ Below w5.heap.size w5 wr) (fun _ i _ => LU.length - (intOf i).toNat)
            case atStart => exact ⟨0, by omega, rfl, by simpa using hown, hbl⟩
            case round =>
              clear hown hbl hszl
              obtain ⟨k, hk, rfl, hown, hbl⟩ := hrel
              have hszl := hbl.size
              by_cases hlt' : k < LU.length
              · rcases HSU5.out.hat with h | ⟨b, off, rfl, hbb, hc⟩
                · omega
                have hck : wr.cell? ⟨b, off + k, none⟩ = some (.int .u8 (LU.getD k 0)) := (hbl.cell (p := ⟨b, off + k, none⟩) hbb).trans (hc k hlt')
                have htl : (P2 ++ LU.take k).length ≤ 1048600 := by simp; omega
                have HTS := hidden (take_snoc LU k (by omega))
                clear hc
                generalize LU.getD k 0 = x at *
                go_wp2_with (at_builtin; refine app_bytes _ rfl _ _ rfl w5.heap.size (P2 ++ LU.take k) _ rfl (hown.alloc _) _ 1 1 [x] rfl rfl (one_cell _ _) (by omega) (by simp; omega) ?_)
                intro v2 w6 hown2 hb6
                have R2 : Below w5.heap.size w5 w6 := (hbl.alloc hszl _).trans hb6
                clear hb6 hown hck
                go_wp2
                go_roundw
                case rel => exact ⟨k + 1, by omega, by go_num, by rw [HTS.out]; first | exact hown2 | (rw [← List.append_assoc]; exact hown2), R2⟩
                case measure => simp [intOf]; omega
              · have hkl : LU.take k = LU := List.take_of_length_le (by omega)
                rw [hkl] at hown
                clear hkl
                have hdk : decide (k < LU.length) = false := by simp; omega
                obtain ⟨P3, hP3⟩ : ∃ P3, P3 = P2 ++ LU := ⟨_, rfl⟩
                rw [← hP3] at hown
                have hl3 : P3.length = n0 + W + LU.length := by rw [hP3]; simp; omega
                have hw3 : Wf P3 := by rw [hP3]; exact Hw2.out.append HwU.out
                have HP3 := hidden hP3
                have Hw3 := hidden hw3
                clear hP3 hw3
                obtain ⟨ab3, cb3, rfl, hsb, -⟩ := hown.sl Hw3.out (by omega)
                rw [hl3] at hown ⊢
                clear hsb
                go_wp2_with fail
                go_loopw [16, 23] (fun v i wr => ∃ k : Nat, k ≤ LO.length ∧ i = .int .i64 k ∧ OwnB wr w5.heap.size v (P3 ++ LO.take k) ∧ Below w5.heap.size w5 wr) (fun _ i _ => LO.length - (intOf i).toNat)
                case atStart => exact ⟨0, by omega, rfl, by simpa using hown, hbl⟩
                case round =>
                  clear hown hbl hszl
                  obtain ⟨k, hk, rfl, hown, hbl⟩ := hrel
                  have hszl := hbl.size
                  by_cases hlt' : k < LO.length
                  · rcases HSO.out.hat with h | ⟨b, off, rfl, hbb, hc⟩
                    · omega
                    have hck : wr.cell? ⟨b, off + k, none⟩ = some (.int .u8 (LO.getD k 0)) := (hbl.cell (p := ⟨b, off + k, none⟩) hbb).trans (hc k hlt')
                    have htl : (P3 ++ LO.take k).length ≤ 4194304 := by simp; omega
                    have HTS := hidden (take_snoc LO k (by omega))
                    clear hc
                    generalize LO.getD k 0 = x at *
                    go_wp2_with (at_builtin; refine app_bytes _ rfl _ _ rfl w5.heap.size (P3 ++ LO.take k) _ rfl (hown.alloc _) _ 1 1 [x] rfl rfl (one_cell _ _) (by omega) (by simp; omega) ?_)
                    intro v2 w6 hown2 hb6
                    have R2 : Below w5.heap.size w5 w6 := (hbl.alloc hszl _).trans hb6
                    clear hb6 hown hck
                    go_wp2
                    go_roundw
                    case rel => exact ⟨k + 1, by omega, by go_num, by rw [HTS.out]; first | exact hown2 | (rw [← List.append_assoc]; exact hown2), R2⟩
                    case measure => simp [intOf]; omega
                  · have hkl : LO.take k = LO := List.take_of_length_le (by omega)
                    rw [hkl] at hown
                    clear hkl
                    have hdk : decide (k < LO.length) = false := by simp; omega
                    obtain ⟨P4, hP4⟩ : ∃ P4, P4 = P3 ++ LO := ⟨_, rfl⟩
                    rw [← hP4] at hown
                    have hl4 : P4.length = n0 + W + LU.length + LO.length := by rw [hP4]; simp; omega
                    have hw4 : Wf P4 := by rw [hP4]; exact Hw3.out.append HwO.out
                    have HP4 := hidden hP4
                    have Hw4 := hidden hw4
                    clear hP4 hw4
                    have hown4 := hown
                    obtain ⟨ab4, cb4, rfl, hsb, -⟩ := hown.sl Hw4.out (by omega)
                    rw [hl4] at hown4 hsb ⊢
                    have HSB := hidden hsb
                    have HOW := hidden hown4
                    have HBL := hidden hbl
                    have hcb := HSB.out.hcap
                    clear hsb hown hown4 hbl hszl
                    have E1 := hidden (show rO ((P4.take (n0 + W + LU.length + LO.length - 1)).drop (n0 + W + LU.length)) ((n0 + W + LU.length : Nat) : Int) [] = ([], 0, 10) by
                      rw [HP4.out, mid_cut P3 LO _ _ hl3, show n0 + W + LU.length + LO.length - 1 - (n0 + W + LU.length) = LO.length - 1 by omega]
                      exact HROc.out _)
                    have E2 := hidden (show rU ((n0 + W : Nat) : Int) ((P4.take (n0 + W + LU.length - 1)).drop (n0 + W)) 0 0 = (0, 0, 10) by
                      rw [HP4.out, take_less P3 LO _ (by omega), HP3.out, mid_cut P2 LU _ _ hl2, show n0 + W + LU.length - 1 - (n0 + W) = LU.length - 1 by omega]
                      exact HRUc.out _)
                    go_wp2_with fail
                    refine (readOrdered_at _ _ _ (P4.take (n0 + W + LU.length + LO.length - 1)) _ (n0 + W + LU.length) _ (HSB.out.take _ (by omega)) (by omega) (by omega)).mono ?_
                    rw [E1.out]
                    rintro e w6 ⟨vs, rfl, -, hb6⟩
                    have HSB6 := hidden (HSB.out.go hb6)
                    have HOW6 := hidden (HOW.out.go hb6)
                    have HBL6 := hidden (HBL.out.trans (hb6.mono HBL.out.size))
                    clear hb6 HSB HOW HBL E1
                    go_wp2_with fail
                    refine same_call (readUint_at _ _ _ (P4.take (n0 + W + LU.length - 1)) _ (n0 + W) _ (HSB6.out.take _ (by omega)) (by omega) (by omega)) ?_
                    rw [E2.out]
                    clear E2
                    go_wp2_with fail
                    refine same_call (readFixed_short _ _ _ _ _ _ (by have := HX.out; omega) (by have := HX.out; omega) (by omega) (by omega) (by have := HX.out; omega)) ?_
                    clear HSB6
                    go_wp2_with fail
                    go_loopw [16, 33] (fun v i wr => ∃ k : Nat, k ≤ n4 ∧ i = .int .i64 k ∧ OwnB wr w5.heap.size v (P4 ++ lb.take k) ∧ Below w5.heap.size w5 wr) (fun _ i _ => n4 - (intOf i).toNat)
                    case atStart => exact ⟨0, by omega, rfl, by simpa using HOW6.out, HBL6.out⟩
                    case round =>
                      obtain ⟨k, hk, rfl, hown, hbl⟩ := hrel
                      have hszl := hbl.size
                      by_cases hlt' : k < n4
                      · rcases HS45.out.hat with h | ⟨b, off, rfl, hbb, hc⟩
                        · omega
                        have hck : wr.cell? ⟨b, off + k, none⟩ = some (.int .u8 (lb.getD k 0)) := (hbl.cell (p := ⟨b, off + k, none⟩) hbb).trans (hc k hlt')
                        have htl : (P4 ++ lb.take k).length ≤ 5242880 := by simp; omega
                        have HTS := hidden (take_snoc lb k (by omega))
                        clear hc
                        generalize lb.getD k 0 = x at *
                        go_wp2_with (at_builtin; refine app_bytes _ rfl _ _ rfl w5.heap.size (P4 ++ lb.take k) _ rfl (hown.alloc _) _ 1 1 [x] rfl rfl (one_cell _ _) (by omega) (by simp; omega) ?_)
                        intro v2 w6 hown2 hb6
                        have R2 : Below w5.heap.size w5 w6 := (hbl.alloc hszl _).trans hb6
                        clear hb6 hown hck
                        go_wp2
                        go_roundw
                        case rel => exact ⟨k + 1, by omega, by go_num, by rw [HTS.out]; first | exact hown2 | (rw [← List.append_assoc]; exact hown2), R2⟩
                        case measure => simp [intOf]; omega
                      · have hkl : lb.take k = lb := List.take_of_length_le (by omega)
                        rw [hkl] at hown
                        clear hkl
                        have hdk : decide (k < n4) = false := by simp; omega
                        have hcl : (P4 ++ lb).length = n0 + W + LU.length + LO.length + n4 := by simp; omega
                        obtain ⟨P5, hP5⟩ : ∃ P5, P5 = P4 ++ lb := ⟨_, rfl⟩
                        rw [← hP5] at hown hcl
                        have hw5 : Wf P5 := by rw [hP5]; exact Hw4.out.append HS45.out.wf
                        have HP5 := hidden hP5
                        have Hw5 := hidden hw5
                        clear hP5 hw5 HOW6 HBL6
                        obtain ⟨ab5, cb5, rfl, hsb, -⟩ := hown.sl Hw5.out (by omega)
                        rw [hcl] at hsb ⊢
                        have HSB := hidden hsb
                        have HBL := hidden hbl
                        have hcb5 := HSB.out.hcap
                        clear hsb hown hbl hszl
                        have D1 := hidden (show rdB ((P5.drop n0).take W) = n by
                          have hmod : n % 256 ^ W = n := by
                            obtain rfl : W = 8 := by have := HX.out; omega
                            simp only [show (256 : Int) ^ 8 = 18446744073709551616 from rfl]
                            omega
                          rw [← hmod, ← HRF.out, HP5.out, HP4.out, HP3.out, HP2.out, List.append_assoc, List.append_assoc, List.append_assoc, drop_exact la _ n0 hla, List.take_append_of_le_length (by omega), List.take_of_length_le (by omega)])
                        have D2 := hidden (show rU ((n0 + W : Nat) : Int) (P5.drop (n0 + W)) 0 0 = (n, ((n0 + W : Nat) : Int) + LU.length, 0) by
                          rw [HP5.out, HP4.out, HP3.out, List.append_assoc, List.append_assoc, drop_exact P2 _ _ hl2]
                          exact HRU.out _ _)
                        have D3 := hidden (show rO (P5.drop (n0 + W + LU.length)) ((n0 + W + LU.length : Nat) : Int) [] = (lt, ((n0 + W + LU.length : Nat) : Int) + LO.length, 0) by
                          rw [HP5.out, HP4.out, List.append_assoc, drop_exact P3 _ _ hl3]
                          exact HRO.out _ _)
                        go_wp2_with fail
                        refine same_call (readFixed_at _ _ _ P5 _ _ n0 W _ HSB.out (by omega) HX.out hW1 hW8 (by omega)) ?_
                        rw [D1.out]
                        go_wp2_with fail
                        refine same_call (readUint_at _ _ _ P5 _ (n0 + W) _ HSB.out (by omega) (by omega)) ?_
                        rw [D2.out]
                        go_wp2_with fail
                        refine (readOrdered_at _ _ _ P5 _ (n0 + W + LU.length) _ HSB.out (by omega) (by omega)).mono ?_
                        rw [D3.out]
                        rintro e w7 ⟨vt, rfl, hot', hb7⟩
                        have hot : OwnB w7 _ vt lt := hot'
                        clear hot'
                        obtain ⟨at7, ct7, rfl, hst, -⟩ := hot.sl HS35.out.wf (by omega)
                        rw [hlt] at hst
                        have HST := hidden hst
                        have HBF := hidden (HB5.out.trans ((HBL.out.trans (hb7.mono HBL.out.size)).mono HB5.out.size))
                        have HS37 := hidden ((HS35.out.go HBL.out).go hb7)
                        clear hot hst hb7 HSB HBL D1 D2 D3 HRO HROc HRU HRUc HRF HP2 HP3 HP4 HP5
                        go_wp2_with fail
                        refine same_call (same_yes _ _ _ _ _ _ _ _ HST.out HS37.out) ?_
                        clear HST HS37
                        go_wp2
                        go_ret
                        exact ⟨rfl, HBF.out⟩
  · obtain ⟨W, hW⟩ : ∃ W : Nat, 1 + wide % 8 = (W : Int) := Int.eq_ofNat_of_zero_le (by omega)
    have hbw : ((W : Int) != 1 + wide % 8) = false := by simp; omega
    have hx1 : 1 + wide % 8 ≤ (W : Int) := by omega
    have hx2 : (W : Int) ≤ 1 + wide % 8 := by omega
    have hW1 : 1 ≤ W := by omega
    have hW8 : W ≤ 8 := by omega
    have HX := hidden hW
    clear hW
    go_enter Tryd.func6, Tryd.ntmps6
    go_wp2_with fail
    refine HL.out.mono ?_
    rintro e w1 ⟨rfl, hb⟩
    have HB1 := hidden hb
    clear hb HL
    go_wp2_with fail
    refine (fixed_ex n _ W _ hnn HX.out hW1 hW8).mono ?_
    rintro e w2 ⟨vf, LF, rfl, hof, hlF, hwF, HRF, hb2⟩
    obtain ⟨af, cf, rfl, hsf, -⟩ := hof.sl hwF (by omega)
    rw [hlF] at hsf
    have HSF := hidden hsf
    have HB2 := hidden (HB1.out.trans (hb2.mono HB1.out.size))
    clear hof hsf hb2 HB1
    go_wp2_with fail
    refine (uint_ex n _ hnn hn2).mono ?_
    rintro e w3 ⟨vu, LU, rfl, hou, hlU1, hlU10, hwU, HRU, HRUc, hb3⟩
    obtain ⟨au, cu, rfl, hsu, -⟩ := hou.sl hwU (by omega)
    have HSU := hidden hsu
    have HSF3 := hidden (HSF.out.go hb3)
    have HB3 := hidden (HB2.out.trans (hb3.mono HB2.out.size))
    clear hou hsu hb3 HB2 HSF
    go_wp2_with fail
    refine (ordered_ex _ _ _ lt _ (HS3.out.go HB3.out) (by omega)).mono ?_
    rintro e w5 ⟨vo, LO, rfl, hoo, hlO1, hlO2, hwO, HRO, HROc, hb5⟩
    obtain ⟨ao, co, rfl, hso, -⟩ := hoo.sl hwO (by omega)
    have HSO := hidden hso
    have HSF5 := hidden (HSF3.out.go hb5)
    have HSU5 := hidden (HSU.out.go hb5)
    have HB5 := hidden (HB3.out.trans (hb5.mono HB3.out.size))
    have HS05 := hidden (HS0.out.go HB5.out)
    have HS35 := hidden (HS3.out.go HB5.out)
    have HS45 := hidden (HS4.out.go HB5.out)
    clear hoo hso hb5 HB3 HSF3 HSU HS0 HS3 HS4
    have HwF := hidden hwF
    have HwU := hidden hwU
    have HwO := hidden hwO
    clear hwF hwU hwO
    have hd0 : decide (0 ≤ wide) = true := by simp; omega
    have hd1 : decide ((LU.length : Int) < 1) = false := by simp; omega
    have hd2 : decide (10 < (LU.length : Int)) = false := by simp; omega
    have hd3 : decide ((LO.length : Int) < (n3 : Int) + 2) = false := by simp; omega
    go_wp2_with fail
    go_wp2_with fail
    go_loopw [16, 17] (fun v i wr => ∃ k : Nat, k ≤ n0 ∧ i = .int .i64 k ∧ OwnB wr w5.heap.size v (la.take k) ∧ Below w5.heap.size w5 wr) (fun _ i _ => n0 - (intOf i).toNat)
    case atStart => exact ⟨0, by omega, rfl, by simpa using OwnB.nil w5 w5.heap.size, Below.refl _ _⟩
    case round =>
      obtain ⟨k, hk, rfl, hown, hbl⟩ := hrel
      have hszl := hbl.size
      by_cases hlt' : k < n0
      · rcases HS05.out.hat with h | ⟨b, off, rfl, hbb, hc⟩
        · omega
        have hck : wr.cell? ⟨b, off + k, none⟩ = some (.int .u8 (la.getD k 0)) := (hbl.cell (p := ⟨b, off + k, none⟩) hbb).trans (hc k hlt')
        have htl : (la.take k).length ≤ 1048576 := by simp; omega
        have HTS := hidden (take_snoc la k (by omega))
        clear hc
        generalize la.getD k 0 = x at *
        go_wp2_with (at_builtin; refine app_bytes _ rfl _ _ rfl w5.heap.size (la.take k) _ rfl (hown.alloc _) _ 1 1 [x] rfl rfl (one_cell _ _) (by omega) (by simp; omega) ?_)
        intro v2 w6 hown2 hb6
        have R2 : Below w5.heap.size w5 w6 := (hbl.alloc hszl _).trans hb6
        clear hb6 hown hck
        go_wp2
        go_roundw
        case rel => exact ⟨k + 1, by omega, by go_num, by rw [HTS.out]; first | exact hown2 | (rw [← List.append_assoc]; exact hown2), R2⟩
        case measure => simp [intOf]; omega
      · have hkl : la.take k = la := List.take_of_length_le (by omega)
        rw [hkl] at hown
        clear hkl
        have hdk : decide (k < n0) = false := by simp; omega
        obtain ⟨ab, cb, rfl, hsb, -⟩ := hown.sl HS05.out.wf (by omega)
        rw [hla] at hown ⊢
        clear hsb
        go_wp2_with fail
        go_loopw [16, 19] (fun v i wr => ∃ k : Nat, k ≤ W ∧ i = .int .i64 k ∧ OwnB wr w5.heap.size v (la ++ LF.take k) ∧ Below w5.heap.size w5 wr) (fun _ i _ => W - (intOf i).toNat)
        case atStart => exact ⟨0, by omega, rfl, by simpa using hown, hbl⟩
        case round =>
          clear hown hbl hszl
          obtain ⟨k, hk, rfl, hown, hbl⟩ := hrel
          have hszl := hbl.size
          by_cases hlt' : k < W
          · rcases HSF5.out.hat with h | ⟨b, off, rfl, hbb, hc⟩
            · omega
            have hck : wr.cell? ⟨b, off + k, none⟩ = some (.int .u8 (LF.getD k 0)) := (hbl.cell (p := ⟨b, off + k, none⟩) hbb).trans (hc k hlt')
            have htl : (la ++ LF.take k).length ≤ 1048584 := by simp; omega
            have HTS := hidden (take_snoc LF k (by omega))
            clear hc
            generalize LF.getD k 0 = x at *
            go_wp2_with (at_builtin; refine app_bytes _ rfl _ _ rfl w5.heap.size (la ++ LF.take k) _ rfl (hown.alloc _) _ 1 1 [x] rfl rfl (one_cell _ _) (by omega) (by simp; omega) ?_)
            intro v2 w6 hown2 hb6
            have R2 : Below w5.heap.size w5 w6 := (hbl.alloc hszl _).trans hb6
            clear hb6 hown hck
            go_wp2
            go_roundw
            case rel => exact ⟨k + 1, by omega, by go_num, by rw [HTS.out]; first | exact hown2 | (rw [← List.append_assoc]; exact hown2), R2⟩
            case measure => simp [intOf]; omega
          · have hkl : LF.take k = LF := List.take_of_length_le (by omega)
            rw [hkl] at hown
            clear hkl
            have hdk : decide (k < W) = false := by simp; omega
            obtain ⟨P2, hP2⟩ : ∃ P2, P2 = la ++ LF := ⟨_, rfl⟩
            rw [← hP2] at hown
            have hl2 : P2.length = n0 + W := by rw [hP2]; simp; omega
            have hw2 : Wf P2 := by rw [hP2]; exact HS05.out.wf.append HwF.out
            have HP2 := hidden hP2
            have Hw2 := hidden hw2
            clear hP2 hw2
            obtain ⟨ab2, cb2, rfl, hsb, -⟩ := hown.sl Hw2.out (by omega)
            rw [hl2] at hown ⊢
            clear hsb
            go_wp2_with fail
            go_loopw [16, 21] (fun v i wr => ∃ k : Nat, k ≤ LU.length ∧ i = .int .i64 k ∧ OwnB wr w5.heap.size v (P2 ++ LU.take k) ∧ Below w5.heap.size w5 wr) (fun _ i _ => LU.length - (intOf i).toNat)
            case atStart => exact ⟨0, by omega, rfl, by simpa using hown, hbl⟩
            case round =>
              clear hown hbl hszl
              obtain ⟨k, hk, rfl, hown, hbl⟩ := hrel
              have hszl := hbl.size
              by_cases hlt' : k < LU.length
              · rcases HSU5.out.hat with h | ⟨b, off, rfl, hbb, hc⟩
                · omega
                have hck : wr.cell? ⟨b, off + k, none⟩ = some (.int .u8 (LU.getD k 0)) := (hbl.cell (p := ⟨b, off + k, none⟩) hbb).trans (hc k hlt')
                have htl : (P2 ++ LU.take k).length ≤ 1048600 := by simp; omega
                have HTS := hidden (take_snoc LU k (by omega))
                clear hc
                generalize LU.getD k 0 = x at *
                go_wp2_with (at_builtin; refine app_bytes _ rfl _ _ rfl w5.heap.size (P2 ++ LU.take k) _ rfl (hown.alloc _) _ 1 1 [x] rfl rfl (one_cell _ _) (by omega) (by simp; omega) ?_)
                intro v2 w6 hown2 hb6
                have R2 : Below w5.heap.size w5 w6 := (hbl.alloc hszl _).trans hb6
                clear hb6 hown hck
                go_wp2
                go_roundw
                case rel => exact ⟨k + 1, by omega, by go_num, by rw [HTS.out]; first | exact hown2 | (rw [← List.append_assoc]; exact hown2), R2⟩
                case measure => simp [intOf]; omega
              · have hkl : LU.take k = LU := List.take_of_length_le (by omega)
                rw [hkl] at hown
                clear hkl
                have hdk : decide (k < LU.length) = false := by simp; omega
                obtain ⟨P3, hP3⟩ : ∃ P3, P3 = P2 ++ LU := ⟨_, rfl⟩
                rw [← hP3] at hown
                have hl3 : P3.length = n0 + W + LU.length := by rw [hP3]; simp; omega
                have hw3 : Wf P3 := by rw [hP3]; exact Hw2.out.append HwU.out
                have HP3 := hidden hP3
                have Hw3 := hidden hw3
                clear hP3 hw3
                obtain ⟨ab3, cb3, rfl, hsb, -⟩ := hown.sl Hw3.out (by omega)
                rw [hl3] at hown ⊢
                clear hsb
                go_wp2_with fail
                go_loopw [16, 23] (fun v i wr => ∃ k : Nat, k ≤ LO.length ∧ i = .int .i64 k ∧ OwnB wr w5.heap.size v (P3 ++ LO.take k) ∧ Below w5.heap.size w5 wr) (fun _ i _ => LO.length - (intOf i).toNat)
                case atStart => exact ⟨0, by omega, rfl, by simpa using hown, hbl⟩
                case round =>
                  clear hown hbl hszl
                  obtain ⟨k, hk, rfl, hown, hbl⟩ := hrel
                  have hszl := hbl.size
                  by_cases hlt' : k < LO.length
                  · rcases HSO.out.hat with h | ⟨b, off, rfl, hbb, hc⟩
                    · omega
                    have hck : wr.cell? ⟨b, off + k, none⟩ = some (.int .u8 (LO.getD k 0)) := (hbl.cell (p := ⟨b, off + k, none⟩) hbb).trans (hc k hlt')
                    have htl : (P3 ++ LO.take k).length ≤ 4194304 := by simp; omega
                    have HTS := hidden (take_snoc LO k (by omega))
                    clear hc
                    generalize LO.getD k 0 = x at *
                    go_wp2_with (at_builtin; refine app_bytes _ rfl _ _ rfl w5.heap.size (P3 ++ LO.take k) _ rfl (hown.alloc _) _ 1 1 [x] rfl rfl (one_cell _ _) (by omega) (by simp; omega) ?_)
                    intro v2 w6 hown2 hb6
                    have R2 : Below w5.heap.size w5 w6 := (hbl.alloc hszl _).trans hb6
                    clear hb6 hown hck
                    go_wp2
                    go_roundw
                    case rel => exact ⟨k + 1, by omega, by go_num, by rw [HTS.out]; first | exact hown2 | (rw [← List.append_assoc]; exact hown2), R2⟩
                    case measure => simp [intOf]; omega
                  · have hkl : LO.take k = LO := List.take_of_length_le (by omega)
                    rw [hkl] at hown
                    clear hkl
                    have hdk : decide (k < LO.length) = false := by simp; omega
                    obtain ⟨P4, hP4⟩ : ∃ P4, P4 = P3 ++ LO := ⟨_, rfl⟩
                    rw [← hP4] at hown
                    have hl4 : P4.length = n0 + W + LU.length + LO.length := by rw [hP4]; simp; omega
                    have hw4 : Wf P4 := by rw [hP4]; exact Hw3.out.append HwO.out
                    have HP4 := hidden hP4
                    have Hw4 := hidden hw4
                    clear hP4 hw4
                    have hown4 := hown
                    obtain ⟨ab4, cb4, rfl, hsb, -⟩ := hown.sl Hw4.out (by omega)
                    rw [hl4] at hown4 hsb ⊢
                    have HSB := hidden hsb
                    have HOW := hidden hown4
                    have HBL := hidden hbl
                    have hcb := HSB.out.hcap
                    clear hsb hown hown4 hbl hszl
                    have E1 := hidden (show rO ((P4.take (n0 + W + LU.length + LO.length - 1)).drop (n0 + W + LU.length)) ((n0 + W + LU.length : Nat) : Int) [] = ([], 0, 10) by
                      rw [HP4.out, mid_cut P3 LO _ _ hl3, show n0 + W + LU.length + LO.length - 1 - (n0 + W + LU.length) = LO.length - 1 by omega]
                      exact HROc.out _)
                    have E2 := hidden (show rU ((n0 + W : Nat) : Int) ((P4.take (n0 + W + LU.length - 1)).drop (n0 + W)) 0 0 = (0, 0, 10) by
                      rw [HP4.out, take_less P3 LO _ (by omega), HP3.out, mid_cut P2 LU _ _ hl2, show n0 + W + LU.length - 1 - (n0 + W) = LU.length - 1 by omega]
                      exact HRUc.out _)
                    go_wp2_with fail
                    refine (readOrdered_at _ _ _ (P4.take (n0 + W + LU.length + LO.length - 1)) _ (n0 + W + LU.length) _ (HSB.out.take _ (by omega)) (by omega) (by omega)).mono ?_
                    rw [E1.out]
                    rintro e w6 ⟨vs, rfl, -, hb6⟩
                    have HSB6 := hidden (HSB.out.go hb6)
                    have HOW6 := hidden (HOW.out.go hb6)
                    have HBL6 := hidden (HBL.out.trans (hb6.mono HBL.out.size))
                    clear hb6 HSB HOW HBL E1
                    go_wp2_with fail
                    refine same_call (readUint_at _ _ _ (P4.take (n0 + W + LU.length - 1)) _ (n0 + W) _ (HSB6.out.take _ (by omega)) (by omega) (by omega)) ?_
                    rw [E2.out]
                    clear E2
                    go_wp2_with fail
                    refine same_call (readFixed_short _ _ _ _ _ _ (by have := HX.out; omega) (by have := HX.out; omega) (by omega) (by omega) (by have := HX.out; omega)) ?_
                    clear HSB6
                    go_wp2_with fail
                    go_loopw [16, 33] (fun v i wr => ∃ k : Nat, k ≤ n4 ∧ i = .int .i64 k ∧ OwnB wr w5.heap.size v (P4 ++ lb.take k) ∧ Below w5.heap.size w5 wr) (fun _ i _ => n4 - (intOf i).toNat)
                    case atStart => exact ⟨0, by omega, rfl, by simpa using HOW6.out, HBL6.out⟩
                    case round =>
                      obtain ⟨k, hk, rfl, hown, hbl⟩ := hrel
                      have hszl := hbl.size
                      by_cases hlt' : k < n4
                      · rcases HS45.out.hat with h | ⟨b, off, rfl, hbb, hc⟩
                        · omega
                        have hck : wr.cell? ⟨b, off + k, none⟩ = some (.int .u8 (lb.getD k 0)) := (hbl.cell (p := ⟨b, off + k, none⟩) hbb).trans (hc k hlt')
                        have htl : (P4 ++ lb.take k).length ≤ 5242880 := by simp; omega
                        have HTS := hidden (take_snoc lb k (by omega))
                        clear hc
                        generalize lb.getD k 0 = x at *
                        go_wp2_with (at_builtin; refine app_bytes _ rfl _ _ rfl w5.heap.size (P4 ++ lb.take k) _ rfl (hown.alloc _) _ 1 1 [x] rfl rfl (one_cell _ _) (by omega) (by simp; omega) ?_)
                        intro v2 w6 hown2 hb6
                        have R2 : Below w5.heap.size w5 w6 := (hbl.alloc hszl _).trans hb6
                        clear hb6 hown hck
                        go_wp2
                        go_roundw
                        case rel => exact ⟨k + 1, by omega, by go_num, by rw [HTS.out]; first | exact hown2 | (rw [← List.append_assoc]; exact hown2), R2⟩
                        case measure => simp [intOf]; omega
                      · have hkl : lb.take k = lb := List.take_of_length_le (by omega)
                        rw [hkl] at hown
                        clear hkl
                        have hdk : decide (k < n4) = false := by simp; omega
                        have hcl : (P4 ++ lb).length = n0 + W + LU.length + LO.length + n4 := by simp; omega
                        obtain ⟨P5, hP5⟩ : ∃ P5, P5 = P4 ++ lb := ⟨_, rfl⟩
                        rw [← hP5] at hown hcl
                        have hw5 : Wf P5 := by rw [hP5]; exact Hw4.out.append HS45.out.wf
                        have HP5 := hidden hP5
                        have Hw5 := hidden hw5
                        clear hP5 hw5 HOW6 HBL6
                        obtain ⟨ab5, cb5, rfl, hsb, -⟩ := hown.sl Hw5.out (by omega)
                        rw [hcl] at hsb ⊢
                        have HSB := hidden hsb
                        have HBL := hidden hbl
                        have hcb5 := HSB.out.hcap
                        clear hsb hown hbl hszl
                        have D1 := hidden (show rdB ((P5.drop n0).take W) = n % 256 ^ W by
                          rw [← HRF.out, HP5.out, HP4.out, HP3.out, HP2.out, List.append_assoc, List.append_assoc, List.append_assoc, drop_exact la _ n0 hla, List.take_append_of_le_length (by omega), List.take_of_length_le (by omega)])
                        have D2 := hidden (show rU ((n0 + W : Nat) : Int) (P5.drop (n0 + W)) 0 0 = (n, ((n0 + W : Nat) : Int) + LU.length, 0) by
                          rw [HP5.out, HP4.out, HP3.out, List.append_assoc, List.append_assoc, drop_exact P2 _ _ hl2]
                          exact HRU.out _ _)
                        have D3 := hidden (show rO (P5.drop (n0 + W + LU.length)) ((n0 + W + LU.length : Nat) : Int) [] = (lt, ((n0 + W + LU.length : Nat) : Int) + LO.length, 0) by
                          rw [HP5.out, HP4.out, List.append_assoc, drop_exact P3 _ _ hl3]
                          exact HRO.out _ _)
                        go_wp2_with fail
                        refine same_call (readFixed_at _ _ _ P5 _ _ n0 W _ HSB.out (by omega) HX.out hW1 hW8 (by omega)) ?_
                        rw [D1.out]
                        go_wp2_with fail
                        refine same_call (readUint_at _ _ _ P5 _ (n0 + W) _ HSB.out (by omega) (by omega)) ?_
                        rw [D2.out]
                        go_wp2_with fail
                        refine (readOrdered_at _ _ _ P5 _ (n0 + W + LU.length) _ HSB.out (by omega) (by omega)).mono ?_
                        rw [D3.out]
                        rintro e w7 ⟨vt, rfl, hot', hb7⟩
                        have hot : OwnB w7 _ vt lt := hot'
                        clear hot'
                        obtain ⟨at7, ct7, rfl, hst, -⟩ := hot.sl HS35.out.wf (by omega)
                        rw [hlt] at hst
                        have HST := hidden hst
                        have HBF := hidden (HB5.out.trans ((HBL.out.trans (hb7.mono HBL.out.size)).mono HB5.out.size))
                        have HS37 := hidden ((HS35.out.go HBL.out).go hb7)
                        clear hot hst hb7 HSB HBL D1 D2 D3 HRO HROc HRU HRUc HRF HP2 HP3 HP4 HP5
                        by_cases hW88 : W = 8
                        · have hmod : n % 256 ^ W = n := by
                            subst hW88
                            simp only [show (256 : Int) ^ 8 = 18446744073709551616 from rfl]
                            omega
                          have hd8 : decide (1 + wide % 8 < 8) = false := by simp; omega
                          have hn8 : ¬ (1 + wide % 8 < 8) := by omega
                          go_wp2_with fail
                          refine same_call (same_yes _ _ _ _ _ _ _ _ HST.out HS37.out) ?_
                          clear HST HS37
                          go_wp2
                          go_ret
                          exact ⟨rfl, HBF.out⟩
                        · have hd8 : decide (1 + wide % 8 < 8) = true := by simp; omega
                          have hn8 : 1 + wide % 8 < 8 := by omega
                          have hW7 : W ≤ 7 := by omega
                          go_wp2_with fail
                          go_loop [43, 44] (fun u i => ∃ k : Nat, k ≤ W ∧ i = .int .i64 k ∧ u = .int .u64 (256 ^ k)) (fun _ i => W - (intOf i).toNat)
                          case atStart => exact ⟨0, by omega, rfl, rfl⟩
                          case round =>
                            obtain ⟨k, hk, rfl, rfl⟩ := hrel
                            by_cases hlt' : k < W
                            · have hpw := pow_wrap256 k (by omega)
                              generalize (256 : Int) ^ k = P at *
                              have HPW := hidden hpw
                              clear hpw
                              go_wp2
                              go_round
                              case rel => exact ⟨k + 1, by omega, by go_num, by rw [HPW.out]⟩
                              case measure => simp [intOf]; omega
                            · have hkW : k = W := by omega
                              subst hkW
                              have hP0 : (0 : Int) < 256 ^ k := Int.pow_pos (by omega)
                              generalize (256 : Int) ^ k = P at *
                              go_wp2_with fail
                              refine same_call (same_yes _ _ _ _ _ _ _ _ HST.out HS37.out) ?_
                              clear HST HS37
                              go_wp2
                              go_ret
                              exact ⟨rfl, HBF.out⟩
end Go.Proofs.YtfofkgdhepdjeaaDoor
