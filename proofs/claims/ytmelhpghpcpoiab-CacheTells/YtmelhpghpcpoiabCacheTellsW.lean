/- The walk of CacheTells. -/
import Derived.Test.YtmelhpghpcpoiabDu
import Derived.Test.YtmelhpghpcpoiabSp
import Derived.Test.YtmelhpghpcpoiabCk
import Derived.Deep.CutRange
import Derived.Deep.DeepCutAuto
import Derived.Deep.CutBlock
import Derived.Deep.QuietTactic
import Derived.BigQuiet
namespace Go.Proofs.Ytmelhpghpcpoiab
open Go.RowKit Go.Maps

set_option maxRecDepth 100000 in
theorem mkI8 (u : World) : (Instr.makeSlice 28 (.int .i64 8) (.int .i64 8)).run Try.prog u = .ok (.slice (some ⟨u.heap.size, 0, none⟩) 8 8) (u.alloc (.cells (In (List.replicate 8 0)).toArray 3)) := mkI 8 (by omega) u

set_option maxRecDepth 100000 in
set_option maxHeartbeats 4000000 in
theorem walk_CacheTells (x : Int) (ao : Option Addr) (n cp : Nat) (l : List (Int × Int × Int)) (w : World) (_ : -9223372036854775808 ≤ x ∧ x ≤ 9223372036854775807) (hs : SlP w ao n l) :
    Calls Try.prog 3 #[.int .i64 x, .slice ao n cp] w fun e w' => e = .returned (.bool true) ∧ Below w.heap.size w w' := by
  have hL := live_any w
  go_enter Try.func3, Try.ntmps3
  go_wp2_with (go_at_call 4; refine hL.mono ?_; rintro e w1 ⟨rfl, hb1⟩; have B1 := hidden hb1; clear hb1; refine Hid.out ?_)
  apply hidden
  clear hL
  have hN := St_New w1 512 8 (by decide)
  go_wp2_with (go_at_call 5; refine hN.mono ?_; rintro e w2 ⟨a, rfl, s2⟩; have S2 : Hid (St w1 w2 (fun _ => False) a (d0 512 8)) := hidden s2; clear s2; refine Hid.out ?_)
  apply hidden
  clear hN
  have B2 := hidden (B1.out.trans (S2.out.be.mono B1.out.size))
  by_cases hx : x < 1 ∨ 4096 < x
  · have hC := cNew_no w2 (some ⟨a, 0, none⟩) x (.inr hx)
    rcases hx with hx | hx
    · as_aux_lemma =>
        go_wp2_with (go_at_call 6; refine same_call hC ?_)
        go_ret
        exact ⟨rfl, B2.out⟩
    · have hx1 : ¬ x < 1 := by omega
      as_aux_lemma =>
        go_wp2_with (go_at_call 6; refine same_call hC ?_)
        go_ret
        exact ⟨rfl, B2.out⟩
  · have hx1 : ¬ x < 1 := by omega
    have hx2 : ¬ 4096 < x := by omega
    have hC := cNew_yes w2 a x hx1 hx2
    go_wp2_with (go_at_call 6; refine hC.mono ?_; rintro e w3 ⟨c, m, rfl, c1, m1, ncm, hc3, hm3, hb3⟩; refine Hid.out ?_)
    apply hidden
    clear hC
    have hk1 := mkI8 w3
    obtain ⟨w4, hw4⟩ : ∃ w4, w4 = w3.alloc (.cells (In (List.replicate 8 0)).toArray 3) := ⟨_, rfl⟩
    rw [← hw4] at hk1
    have hk2 := mkI8 w4
    obtain ⟨w5, hw5⟩ : ∃ w5, w5 = w4.alloc (.cells (In (List.replicate 8 0)).toArray 3) := ⟨_, rfl⟩
    rw [← hw5] at hk2
    have hJ : Jc w1 w5 a c m w3.heap.size w4.heap.size x 0 := start_jc S2.out c1 m1 ncm hc3 hm3 hb3 (by omega) hw4 hw5
    have HJ := hidden hJ
    have HS := hidden hs
    have HX12 : Hid (1 ≤ x ∧ x ≤ 4096) := hidden (by omega)
    generalize hgi : w3.heap.size = gi at *
    generalize hgp : w4.heap.size = gp at *
    clear hJ hw4 hw5 hm3 hc3 hb3 c1 m1 ncm S2 hs
    go_wp2_with fail
    go_loopw [10] (fun i wr => ∃ t : Nat, t ≤ n ∧ i = .int .i64 t ∧ Hid (Jc w1 wr a c m gi gp x t)) (fun i _ => n - (intOf i).toNat)
    case atStart => exact ⟨0, by omega, rfl, HJ⟩
    case round =>
      obtain ⟨t, ht, rfl, HR⟩ := hrel
      by_cases hlt : t < n
      · have hlt' : (t : Int) < (n : Int) := by omega
        obtain ⟨b, off, rfl, hbl, hcs⟩ := HS.out.hat.resolve_left (by omega)
        obtain ⟨ko, kn, kc, tn, ta, q0, q1, q2, q3, q4, q5⟩ := hcs t hlt
        have hwf := HS.out.wf t hlt
        obtain ⟨K, hK⟩ : ∃ K, K = (l.getD t (0, 0, 0)).1 := ⟨_, rfl⟩
        obtain ⟨A, hA⟩ : ∃ A, A = (l.getD t (0, 0, 0)).2.1 := ⟨_, rfl⟩
        obtain ⟨Bx, hBx⟩ : ∃ Bx, Bx = (l.getD t (0, 0, 0)).2.2 := ⟨_, rfl⟩
        rw [← hK] at q0
        rw [← hA] at q1 hwf
        rw [← hBx] at q2
        obtain ⟨X, d, h, mi, ev, fs, iv, pv, s, hs4, L0⟩ := HR.out
        have be : Below w.heap.size w wr := B1.out.trans (L0.x.st.be.mono B1.out.size)
        replace q0 := (be.cell (p := ⟨b, off + t * 6, none⟩) hbl).trans q0
        replace q1 := (be.cell (p := ⟨b, off + t * 6 + 1, none⟩) hbl).trans q1
        replace q2 := (be.cell (p := ⟨b, off + t * 6 + 2, none⟩) hbl).trans q2
        replace q3 := (be.cell (p := ⟨b, off + t * 6 + 3, none⟩) hbl).trans q3
        replace q4 := (be.cell (p := ⟨b, off + t * 6 + 4, none⟩) hbl).trans q4
        replace q5 := (be.cell (p := ⟨b, off + t * 6 + 5, none⟩) hbl).trans q5
        have BE := hidden be
        have HL := hidden L0
        have HCS := hidden hcs
        clear hcs L0 be hK hA hBx HR
        go_upto_region 15 with fail
        go_cut [13] (fun v u => v = .bool (decide (0 ≤ A ∧ A < 8)) ∧ u = wr.alloc (.cells #[.int .i64 K, .int .i64 A, .int .i64 Bx, .slice ko kn kc, .int .i64 tn, .int .i64 ta] 32))
        case first =>
          by_cases h0 : 0 ≤ A
          · by_cases h8 : A < 8
            · as_aux_lemma =>
                go_wp2
                go_meet
                case rel => exact ⟨congrArg Value.bool (decide_eq_true (p := 0 ≤ A ∧ A < 8) ⟨h0, h8⟩).symm, rfl⟩
            · as_aux_lemma =>
                go_wp2
                go_meet
                case rel => exact ⟨congrArg Value.bool (decide_eq_false (p := 0 ≤ A ∧ A < 8) (by omega)).symm, rfl⟩
          · as_aux_lemma =>
              go_wp2
              go_meet
              case rel => exact ⟨congrArg Value.bool (decide_eq_false (p := 0 ≤ A ∧ A < 8) (by omega)).symm, rfl⟩
        case rest =>
          obtain ⟨rfl, rfl⟩ := hcut
          obtain ⟨ins, hins⟩ : ∃ ins, ins = decide (0 ≤ A ∧ A < 8) := ⟨_, rfl⟩
          rw [← hins]
          have HIN := hidden hins
          obtain ⟨u0, hu0⟩ : ∃ u0, u0 = wr.alloc (.cells #[.int .i64 K, .int .i64 A, .int .i64 Bx, .slice ko kn kc, .int .i64 tn, .int .i64 ta] 32) := ⟨_, rfl⟩
          rw [← hu0]
          have hb0 : Below wr.heap.size wr u0 := by rw [hu0]; exact (Below.refl _ _).alloc (Nat.le_refl _) _
          have ho : Hs u0 wr.heap.size [.int .i64 K, .int .i64 A, .int .i64 Bx, .slice ko kn kc, .int .i64 tn, .int .i64 ta] 32 := by rw [hu0]; exact al_row _ _
          have L1 := HL.out.page hb0
          have xo : Xn X wr u0 wr.heap.size := .inr ⟨Nat.le_refl _, ho.lt⟩
          have bo : ¬ Bk c m fs wr.heap.size := fun hk => by have := HL.out.x.cw.lt hk; omega
          have o0 : u0.cell? ⟨wr.heap.size, 0, none⟩ = some (.int .i64 K) := ho.cell 0
          have o2 : u0.cell? ⟨wr.heap.size, 2, none⟩ = some (.int .i64 Bx) := ho.cell 2
          have HLV := hidden L1
          have HO := hidden ho
          have HXO := hidden xo
          have HBO := hidden bo
          clear hu0 hb0 ho L1 xo bo HL q0 q1 q2 q3 q4 q5 hins
          generalize hob : wr.heap.size = ob at *
          generalize Xn X wr u0 = X0 at *
          have hwA : (Lit.int .i64 A).wf = true := WalkArith.wf_i64 (by omega)
          have hn9 := HS.out.hn
          have ht4 : t < 4398046511103 := by omega
          have fi := HLV.out.fine ht4 (by omega)
          have hGet : Calls Try.prog 7 #[pt c, .int .i64 A] u0 fun e u => ∃ ao n' c' k, e = .returned (.tuple #[.slice ao n' c', .int .i64 k]) ∧ ((k = 0 ∧ n' = 512 ∧ ins = true ∧ ∃ (g N : Nat) (y : Int), ao = some ⟨g, 0, none⟩ ∧ A = (N : Int) ∧ N < 8 ∧ (0 ≤ y ∧ y ≤ 255) ∧ u.cell? ⟨g, 0, none⟩ = some (.int .u8 y) ∧ u.cell? ⟨g, 511, none⟩ = some (.int .u8 y) ∧ u.cell? ⟨gi, N, none⟩ = some (.int .i64 y)) ∨ ¬ k = 0) ∧ Hid (Kc w1 u a c m gi gp x (t + 1) k ins) :=
            (Get_ok w1 u0 X0 a c m d x h mi ev fs HLV.out.x A hwA fi).mono fun e u hq => by
              obtain ⟨ao, n', c', k, e1, e2, e3⟩ := get_step HLV.out hs4 HIN.out hq
              exact ⟨ao, n', c', k, e1, e2, hidden e3⟩
          have hPin : Calls Try.prog 10 #[pt c, .int .i64 A] u0 _ := (Pin_ok w1 u0 X0 a c m d x h mi ev fs HLV.out.x A hwA fi).mono fun e u hq => pin_step HLV.out hs4 HIN.out hq
          have hUnpin : Calls Try.prog 11 #[pt c, .int .i64 A] u0 _ := (Unpin_ok w1 u0 X0 a c m d x h mi ev fs HLV.out.x A hwA fi.up.hp).mono fun e u hq => unpin_step HLV.out hs4 HIN.out hq
          have hFlush : Calls Try.prog 12 #[pt c] u0 _ := (Flush_ok w1 u0 X0 a c m d x h mi ev fs HLV.out.x fi.up.hn fi.up.dn fi.up.ar fi.fl fi.up.w1 (by have := HLV.out.T.cw; have := fi.fl; omega) (by have := HLV.out.T.lo; have := fi.fl; omega)).mono fun e u hq => flush_step ins HLV.out hs4 hq
          have hKK : Hid (Kc w1 u0 a c m gi gp x (t + 1) 0 ins) := hidden ⟨X0, d, h, mi, ev, fs, iv, pv, s, by omega, HLV.out.mono (by omega) (Nat.le_refl _), .inl rfl⟩
          have HGet := hidden hGet
          have HPin := hidden hPin
          have HUnpin := hidden hUnpin
          have HFlush := hidden hFlush
          have HFI := hidden fi
          clear hGet hPin hUnpin hFlush fi
          go_upto_block 2 with fail
          go_cut [14] (fun v u => ∃ e : Int, v = .int .i64 e ∧ Hid (Kc w1 u a c m gi gp x (t + 1) e ins))
          case first =>
            by_cases k1 : K = 1
            · subst k1
              clear HPin HUnpin HFlush HFI hKK
              go_wp2_with (go_at_call 7; refine HGet.out.mono ?_; rintro e u ⟨ao, n', c', k, rfl, hq, HK⟩; refine Hid.out ?_)
              apply hidden
              clear HGet
              rcases hq with ⟨rfl, rfl, hi, g, N, y, rfl, hA, hN, hy, y0, y1, y2⟩ | hk0
              · subst hi hA
                clear HLV HO HXO HBO HIN HS o0 o2 BE
                have hN0 : (0 : Int) ≤ (N : Int) := by omega
                have hN8 : (N : Int) < 8 := by omega
                obtain ⟨hy1, hy2⟩ := hy
                as_aux_lemma =>
                  go_wp2_with fail
                  go_quiet (fail)
                  go_wp2
                  go_meet
                  case rel => exact ⟨0, rfl, hidden (HK.out.drN _)⟩
              · clear HLV HO HXO HBO HIN HS o0 o2 BE
                have hkb : decide (k = 0) = false := decide_eq_false hk0
                have hkc : (k == 0) = false := by simp [hk0]
                as_aux_lemma =>
                  go_wp2_with fail
                  go_quiet (fail)
                  go_wp2
                  go_meet
                  case rel => exact ⟨k, rfl, hidden (HK.out.drN _)⟩
            · by_cases k2 : K = 2
              · subst k2
                by_cases hB : Bx < 0 ∨ 255 < Bx
                · have F1 : Hid (Jc w1 u0 a c m gi gp x (t + 1)) := hidden hKK.out.jc
                  clear HGet HPin HUnpin HFlush HFI hKK HLV HO HXO HBO HIN HS BE
                  rcases hB with hB | hB
                  · as_aux_lemma =>
                      go_wp2
                      go_roundw
                      case rel => exact ⟨t + 1, by omega, by go_num, F1⟩
                      case measure => simp [intOf]; omega
                  · have hB0 : ¬ Bx < 0 := by omega
                    as_aux_lemma =>
                      go_wp2
                      go_roundw
                      case rel => exact ⟨t + 1, by omega, by go_num, F1⟩
                      case measure => simp [intOf]; omega
                · have hB0 : ¬ Bx < 0 := by omega
                  have hB1 : ¬ 255 < Bx := by omega
                  have hfl := filled_any u0 Bx (by omega) (by omega)
                  have HPut : Hid (∀ u1, Hs u1 u0.heap.size (By (List.replicate 512 Bx)) tU → Below u0.heap.size u0 u1 → Calls Try.prog 9 #[pt c, .int .i64 A, .slice (some ⟨u0.heap.size, 0, none⟩) 512 512] u1 fun e u => ∃ k, e = .returned (.int .i64 k) ∧ u.cell? ⟨ob, 2, none⟩ = some (.int .i64 Bx) ∧ ((k = 0 ∧ ins = true ∧ ∃ (N : Nat) (y : Int), A = (N : Int) ∧ N < 8 ∧ u.cell? ⟨gi, N, none⟩ = some (.int .i64 y) ∧ u.frozen? ⟨gi, N, none⟩ = false ∧ Hid (Kc w1 (u.setCell ⟨gi, N, none⟩ (.int .i64 Bx)) a c m gi gp x (t + 1) 0 ins)) ∨ (¬ k = 0 ∧ Hid (Kc w1 u a c m gi gp x (t + 1) k ins)))) := by
                    refine hidden fun u1 hg hb => ?_
                    have L1 := HLV.out.page hb
                    have hpq := Put_ok w1 u1 (Xn X0 u0 u1) a c m d x h mi ev fs L1.x HFI.out.up HFI.out.fl A u0.heap.size 512 (List.replicate 512 Bx) (by rw [L1.T.pg]; simp) (replicate_wf _ _ (by omega)) hg (.inr ⟨Nat.le_refl _, hg.lt⟩) (fun hk => by have := HLV.out.x.cw.lt hk; omega)
                    rw [L1.T.pg] at hpq
                    refine hpq.mono fun e u hq => ?_
                    obtain ⟨k, e1, kp, e2⟩ := put_step L1 hs4 HIN.out (by omega) hq
                    refine ⟨k, e1, cell_stay ((kp ob (.inl HXO.out) HBO.out).trans (hb.block ob HO.out.lt)) o2, ?_⟩
                    rcases e2 with ⟨z0, z1, N, y, z2, z3, z4, z5, z6⟩ | ⟨z0, z1⟩
                    · exact .inl ⟨z0, z1, N, y, z2, z3, z4, z5, hidden z6⟩
                    · exact .inr ⟨z0, hidden z1⟩
                  clear HGet HPin HUnpin HFlush HFI hKK HLV HO HXO HBO HS BE
                  go_wp2_with (first
                    | (go_at_call 8; refine hfl.mono ?_; rintro e u1 ⟨rfl, hg1, hb1⟩; have hP := HPut.out u1 hg1 hb1; clear hg1 hb1)
                    | (go_at_call 9; refine hP.mono ?_; rintro e u ⟨k, rfl, z2, hq⟩; refine Hid.out ?_))
                  apply hidden
                  clear hP HPut hfl
                  rcases hq with ⟨rfl, hi, N, y, hA, hN, y1, f1, HK⟩ | ⟨hk0, HK⟩
                  · subst hi hA
                    have hN0 : (0 : Int) ≤ (N : Int) := by omega
                    have hN8 : (N : Int) < 8 := by omega
                    as_aux_lemma =>
                      go_wp2
                      go_meet
                      case rel => exact ⟨0, rfl, HK⟩
                  · have hkc : (k == 0) = false := by simp [hk0]
                    as_aux_lemma =>
                      go_wp2
                      go_meet
                      case rel => exact ⟨k, rfl, HK⟩
              · by_cases k3 : K = 3
                · subst k3
                  clear HGet HUnpin HFlush HFI hKK HLV HO HXO HBO HIN HS BE
                  go_wp2_with (go_at_call 10; refine HPin.out.mono ?_; rintro e u ⟨k, rfl, hq⟩; refine Hid.out ?_)
                  apply hidden
                  clear HPin
                  rcases hq with ⟨rfl, hi, N, y, hA, hN, hy, y1, f1, HK0⟩ | ⟨hk0, HK0⟩
                  · subst hi hA
                    have HK := hidden HK0
                    clear HK0
                    have hN0 : (0 : Int) ≤ (N : Int) := by omega
                    have hN8 : (N : Int) < 8 := by omega
                    obtain ⟨hy1, hy2⟩ := hy
                    have hy3 : y < 4611686018427387904 := by omega
                    as_aux_lemma =>
                      go_wp2
                      go_meet
                      case rel => exact ⟨0, rfl, HK⟩
                  · have HK := hidden HK0
                    clear HK0
                    have hkc : (k == 0) = false := by simp [hk0]
                    as_aux_lemma =>
                      go_wp2
                      go_meet
                      case rel => exact ⟨k, rfl, HK⟩
                · by_cases k4 : K = 4
                  · subst k4
                    clear HGet HPin HFlush HFI hKK HLV HO HXO HBO HIN HS BE
                    go_wp2_with (go_at_call 11; refine HUnpin.out.mono ?_; rintro e u ⟨k, rfl, hq⟩; refine Hid.out ?_)
                    apply hidden
                    clear HUnpin
                    rcases hq with ⟨rfl, hi, N, y, hA, hN, hy, y1, f1, HK0⟩ | ⟨rfl, HK0, hz⟩
                    · subst hi hA
                      have HK := hidden HK0
                      clear HK0
                      have hN0 : (0 : Int) ≤ (N : Int) := by omega
                      have hN8 : (N : Int) < 8 := by omega
                      obtain ⟨hy1, hy2⟩ := hy
                      have hy3 : y < 4611686018427387904 := by omega
                      as_aux_lemma =>
                        go_wp2
                        go_meet
                        case rel => exact ⟨0, rfl, HK⟩
                    · cases ins with
                      | false =>
                        have F1 := hidden HK0.jc
                        clear HK0 hz
                        as_aux_lemma =>
                          go_wp2
                          go_roundw
                          case rel => exact ⟨t + 1, by omega, by go_num, F1⟩
                          case measure => simp [intOf]; omega
                      | true =>
                        obtain ⟨N, hA, hN, z0⟩ := hz rfl
                        subst hA
                        have HK := hidden HK0
                        clear HK0 hz
                        have hN0 : (0 : Int) ≤ (N : Int) := by omega
                        have hN8 : (N : Int) < 8 := by omega
                        as_aux_lemma =>
                          go_wp2
                          go_meet
                          case rel => exact ⟨0, rfl, HK⟩
                  · by_cases k5 : K = 5
                    · subst k5
                      clear HGet HPin HUnpin HFI hKK HLV HO HXO HBO HIN HS BE
                      go_wp2_with (go_at_call 12; refine HFlush.out.mono ?_; rintro e u ⟨rfl, hI0⟩; have hI := hidden hI0; clear hI0; refine Hid.out ?_)
                      apply hidden
                      clear HFlush
                      go_wp2_with (go_at_call 13; refine hI.out.mono ?_; rintro e v ⟨g, rfl, HM0⟩; have HM := hidden HM0; clear HM0; refine Hid.out ?_)
                      apply hidden
                      clear hI
                      go_wp2_with fail
                      go_loopw [21] (fun kv wr' => ∃ j : Nat, j ≤ 8 ∧ kv = .int .i64 (j : Int) ∧ Hid (Im w1 wr' a c m gi gp x (t + 1) ins g)) (fun kv _ => 8 - (intOf kv).toNat)
                      case atStart => exact ⟨0, by omega, rfl, HM⟩
                      case round =>
                        obtain ⟨j, hj, rfl, HMj⟩ := hrel
                        by_cases hj8 : j < 8
                        · obtain ⟨y, hy, z1, z2⟩ := HMj.out.2 j hj8
                          have hj8' : (j : Int) < 8 := by omega
                          have hj9 : (j : Int) * 512 < 4096 := by omega
                          have hj7 : 0 ≤ (j : Int) * 512 := by omega
                          have hj6 : ((j : Int) * 512).toNat = j * 512 := by omega
                          obtain ⟨hy1, hy2⟩ := hy
                          as_aux_lemma =>
                            go_wp2_with fail
                            go_quiet (fail)
                            go_wp2
                            go_roundw
                            case rel => exact ⟨j + 1, by omega, by go_num, hidden (HMj.out.drN _)⟩
                            case measure => simp [intOf]; omega
                        · have hj8' : ¬ ((j : Int) < 8) := by omega
                          as_aux_lemma =>
                            go_wp2
                            go_meet
                            case rel => exact ⟨0, rfl, hidden HMj.out.1⟩
                    · clear HGet HPin HUnpin HFlush HFI HLV HO HXO HBO HIN HS BE
                      as_aux_lemma =>
                        go_wp2
                        go_meet
                        case rel => exact ⟨0, rfl, hKK⟩
          case rest =>
            obtain ⟨k, rfl, HK⟩ := hcut
            obtain ⟨H, Nd, P, g1, g2, g3, pv', hnum, hP, hpl, hk, hS⟩ := state_step HK.out (by omega)
            obtain ⟨m1, m2, m3, m4, m5⟩ := hnum
            have HPK := hidden hP
            have HPL := hidden hpl
            have HKE := hidden hk
            clear HGet HPin HUnpin HFlush HFI hKK HLV HO HXO HBO HK hP hpl hk
            unfold stV at hS
            go_wp2_with (go_at_call 14; refine hS.mono ?_; rintro e v ⟨rfl, HJ2, HGP⟩; refine Hid.out ?_)
            apply hidden
            clear hS
            have HJ3 : Hid (∀ o, Jc w1 (v.alloc o) a c m gi gp x (t + 1)) := hidden fun o => HJ2.out.page ((Below.refl _ _).alloc (Nat.le_refl _) o)
            have HG3 : Hid (∀ o, Hs (v.alloc o) gp (In pv') 3) := hidden fun o => (Below.heap_alloc _ _ _ HGP.out.lt).trans HGP.out
            clear HJ2 HGP
            go_wp2_with fail
            go_loopw [23, 24] (fun hv kv wr' => ∃ j : Nat, j ≤ 8 ∧ kv = .int .i64 (j : Int) ∧ hv = .int .i64 (pk pv' j : Int) ∧ wr' = v.alloc (.cells #[.int .i64 x, .int .i64 H, .int .i64 Nd, .int .i64 P, .int .i64 g1, .int .i64 g2, .int .i64 g3] 43)) (fun _ kv _ => 8 - (intOf kv).toNat)
            case atStart => exact ⟨0, by omega, rfl, rfl, rfl⟩
            case round =>
              obtain ⟨j, hj, rfl, rfl, rfl⟩ := hrel
              have hjb : pk pv' j ≤ j := by
                unfold pk
                refine Nat.le_trans (List.length_filter_le ..) ?_
                simp
              by_cases hj8 : j < 8
              · have hj8' : (j : Int) < 8 := by omega
                have cj := row_num (HG3.out (.cells #[.int .i64 x, .int .i64 H, .int .i64 Nd, .int .i64 P, .int .i64 g1, .int .i64 g2, .int .i64 g3] 43)) (n := j) (by rw [HPL.out]; exact hj8)
                have hpks := hidden (pk_succ pv' j)
                obtain ⟨y, hy⟩ : ∃ y, y = pv'.getD j 0 := ⟨_, rfl⟩
                rw [← hy] at cj
                have HY := hidden hy
                clear hy
                obtain ⟨pj, hpj⟩ : ∃ pj : Int, pj = (pk pv' j : Int) := ⟨_, rfl⟩
                rw [← hpj]
                have pjb : 0 ≤ pj ∧ pj ≤ 8 := by omega
                have HPJ := hidden hpj
                clear hpj hjb
                by_cases hy0 : 0 < y
                · as_aux_lemma =>
                    go_wp2
                    go_roundw
                    case rel => exact ⟨j + 1, by omega, by go_num, congrArg (Value.int .i64) (by rw [hpks.out, ← HY.out, if_pos hy0]; have := HPJ.out; omega), by first | rfl | trivial⟩
                    case measure => simp [intOf]; omega
                · as_aux_lemma =>
                    go_wp2
                    go_roundw
                    case rel => exact ⟨j + 1, by omega, by go_num, congrArg (Value.int .i64) (by rw [hpks.out, ← HY.out, if_neg hy0]; have := HPJ.out; omega), by first | rfl | trivial⟩
                    case measure => simp [intOf]; omega
              · have hj8' : ¬ ((j : Int) < 8) := by omega
                obtain rfl : j = 8 := by omega
                rw [← HPK.out]
                have e1 : ¬ x < H := by omega
                have e2 : ¬ H < P := by omega
                have e3 : ¬ H < Nd := by omega
                have HF := hidden (HJ3.out (.cells #[.int .i64 x, .int .i64 H, .int .i64 Nd, .int .i64 P, .int .i64 g1, .int .i64 g2, .int .i64 g3] 43))
                clear HG3 HJ3
                rcases HKE.out with hk0 | ⟨hk0, hk1⟩ | ⟨hk0, hk1⟩
                · subst hk0
                  as_aux_lemma =>
                    go_wp2
                    go_roundw
                    case rel => exact ⟨t + 1, by omega, by go_num, HF⟩
                    case measure => simp [intOf]; omega
                · subst hk0 hk1
                  as_aux_lemma =>
                    go_wp2
                    go_roundw
                    case rel => exact ⟨t + 1, by omega, by go_num, HF⟩
                    case measure => simp [intOf]; omega
                · subst hk0
                  have e4 : ¬ P < x := by omega
                  cases ins
                  · as_aux_lemma =>
                      go_wp2
                      go_roundw
                      case rel => exact ⟨t + 1, by omega, by go_num, HF⟩
                      case measure => simp [intOf]; omega
                  · as_aux_lemma =>
                      go_wp2
                      go_roundw
                      case rel => exact ⟨t + 1, by omega, by go_num, HF⟩
                      case measure => simp [intOf]; omega
      · have hge : ¬ ((t : Int) < (n : Int)) := by omega
        have F9 : Hid (Below w.heap.size w wr) := hidden (B1.out.trans (HR.out.be.mono B1.out.size))
        clear HR HS
        as_aux_lemma =>
          go_wp2
          go_ret
          exact ⟨rfl, F9.out⟩
end Go.Proofs.Ytmelhpghpcpoiab
