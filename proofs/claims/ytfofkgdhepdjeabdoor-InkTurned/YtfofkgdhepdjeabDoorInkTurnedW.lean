/- The walk of the law InkTurned. -/
import Derived.Test.YtfofkgdhepdjeabDoorTurnMath
import Derived.Test.YtfofkgdhepdjeabDoorLive
import Derived.Test.YtfofkgdhepdjeabDoorOrder
namespace Go.Proofs.YtfofkgdhepdjeabDoor
open Go.RowKit

/-- A list of bytes as numbers. -/
def toI (l : List Nat) : List Int := l.map fun (x : Nat) => (x : Int)
theorem toI_toNat (l : List Nat) : (toI l).map Int.toNat = l := by
  unfold toI
  rw [List.map_map]
  conv => rhs; rw [← List.map_id l]
  congr 1
theorem toNat_toI (l : List Int) (h : Wf l) : toI (l.map Int.toNat) = l := by
  unfold toI
  rw [List.map_map]
  conv => rhs; rw [← List.map_id l]
  apply List.map_congr_left
  intro x hx
  have := h x hx
  simp
  omega
theorem toI_wf (l : List Nat) (h : ∀ x ∈ l, x < 256) : Wf (toI l) := by
  intro x hx
  obtain ⟨y, hy, rfl⟩ := List.mem_map.1 hx
  have := h y hy
  omega
theorem toI_length (l : List Nat) : (toI l).length = l.length := by simp [toI]
theorem toI_getD (l : List Nat) (k : Nat) : (toI l).getD k 0 = ((l.getD k 0 : Nat) : Int) := by
  unfold toI
  by_cases h : k < l.length
  · simp [List.getD, h]
  · simp [List.getD, List.getElem?_eq_none (Nat.le_of_not_lt h)]
theorem toI_set (l : List Nat) (k x : Nat) : (toI l).set k (x : Int) = toI (l.set k x) := by simp [toI, List.map_set]

theorem sum_one (l : List Int) (h : Wf l) : sumN [l] = 4294967295 ^^^ cr 4294967295 (l.map Int.toNat) := by
  show 4294967295 ^^^ tk (l.map Int.toNat) 4294967295 = _
  rw [tk_eq _ _ (by omega) (nat_lt l h)]
theorem sums_eq (a b : Nat) : ((4294967295 ^^^ a : Nat) = (4294967295 ^^^ b : Nat)) ↔ a = b := by
  constructor
  · intro h
    have h' := congrArg (4294967295 ^^^ ·) h
    simpa [← Nat.xor_assoc] using h'
  · rintro rfl; rfl

set_option maxRecDepth 100000 in
set_option maxHeartbeats 2000000 in
theorem walk_InkTurned (a : Option Addr) (n c : Nat) (l : List Int) (p x : Int) (w : World) (ht : Tab w) (h0 : 0 < w.heap.size) (hs : Sl w a n c l) (hn : n ≤ 140737488351232) (hp : -9223372036854775808 ≤ p ∧ p ≤ 9223372036854775807) (hx : 0 ≤ x ∧ x ≤ 4294967295) :
    Calls Tryd.prog 6 #[.slice a n c, .int .i64 p, .int .u32 x] w fun e w' => e = .returned (.bool true) ∧ Below w.heap.size w w' := by
  have HL := hidden (live_any w ht h0)
  have HT := hidden ht
  have HS := hidden hs
  have HW := hidden hs.wf
  have hlen := hs.hlen
  clear ht hs
  by_cases hearly : 268435455 < n ∨ p < 0 ∨ (n : Int) ≤ p / 8 ∨ x = 0
  · have HE : Hid (268435455 < n ∨ p < 0 ∨ (n : Int) ≤ p / 8 ∨ x = 0) := hearly
    clear hearly
    by_cases e1 : 268435455 < n
    · go_enter Tryd.func6, Tryd.ntmps6
      go_wp2_with fail
      refine HL.out.mono ?_
      rintro e w1 ⟨rfl, hb⟩
      have HB1 := hidden (hb.alloc hb.size (.cells #[.slice a n c] 23))
      have HSS := hidden (sls_one w1 a n c l (HS.out.go hb) _ rfl)
      have HT1 := hidden (HT.out.on HB1.out h0)
      clear hb HL
      go_wp2_with fail
      refine quiet_call' (sum_any _ 1 1 [l] _ HSS.out HT1.out) ?_
      intro q
      go_wp2
      go_ret
      exact ⟨rfl, below_drewN HB1.out q⟩
    · have d1 : ¬ (268435455 < (n : Int)) := by omega
      by_cases e2 : p < 0
      · go_enter Tryd.func6, Tryd.ntmps6
        go_wp2_with fail
        refine HL.out.mono ?_
        rintro e w1 ⟨rfl, hb⟩
        have HB1 := hidden (hb.alloc hb.size (.cells #[.slice a n c] 23))
        have HSS := hidden (sls_one w1 a n c l (HS.out.go hb) _ rfl)
        have HT1 := hidden (HT.out.on HB1.out h0)
        clear hb HL
        go_wp2_with fail
        refine quiet_call' (sum_any _ 1 1 [l] _ HSS.out HT1.out) ?_
        intro q
        go_wp2
        go_ret
        exact ⟨rfl, below_drewN HB1.out q⟩
      · by_cases e3 : (n : Int) ≤ p / 8
        · go_enter Tryd.func6, Tryd.ntmps6
          go_wp2_with fail
          refine HL.out.mono ?_
          rintro e w1 ⟨rfl, hb⟩
          have HB1 := hidden (hb.alloc hb.size (.cells #[.slice a n c] 23))
          have HSS := hidden (sls_one w1 a n c l (HS.out.go hb) _ rfl)
          have HT1 := hidden (HT.out.on HB1.out h0)
          clear hb HL
          go_wp2_with fail
          refine quiet_call' (sum_any _ 1 1 [l] _ HSS.out HT1.out) ?_
          intro q
          go_wp2
          go_ret
          exact ⟨rfl, below_drewN HB1.out q⟩
        · have e4 : x = 0 := by have := HE.out; omega
          subst e4
          go_enter Tryd.func6, Tryd.ntmps6
          go_wp2_with fail
          refine HL.out.mono ?_
          rintro e w1 ⟨rfl, hb⟩
          have HB1 := hidden (hb.alloc hb.size (.cells #[.slice a n c] 23))
          have HSS := hidden (sls_one w1 a n c l (HS.out.go hb) _ rfl)
          have HT1 := hidden (HT.out.on HB1.out h0)
          clear hb HL
          go_wp2_with fail
          refine quiet_call' (sum_any _ 1 1 [l] _ HSS.out HT1.out) ?_
          intro q
          go_wp2
          go_ret
          exact ⟨rfl, below_drewN HB1.out q⟩
  · have d1 : ¬ (268435455 < (n : Int)) := by omega
    have d2 : ¬ p < 0 := by omega
    have d3 : p / 8 < (n : Int) := by omega
    have d4 : (x == 0) = false := by simp; omega
    have d5 : 0 < x := by omega
    clear hearly
    obtain ⟨P, rfl⟩ := Int.eq_ofNat_of_zero_le (show 0 ≤ p by omega)
    obtain ⟨X, rfl⟩ := Int.eq_ofNat_of_zero_le hx.1
    have b1 : decide (268435455 < (n : Int)) = false := by simp; omega
    have b2 : decide ((P : Int) < 0) = false := by simp
    obtain ⟨A, hA⟩ : ∃ A : Nat, (P : Int) / 8 = (A : Int) := ⟨P / 8, by omega⟩
    have hAn : A < n := by omega
    have b3 : decide ((n : Int) ≤ (A : Int)) = false := by simp; omega
    obtain ⟨V, hVe⟩ : ∃ V : Nat, V = X * 2 ^ (P % 8) := ⟨_, rfl⟩
    have hwr : IntKind.u64.wrap ((X : Int) * 2 ^ (P % 8)) = (V : Int) := by
      have h128 : 2 ^ (P % 8) ≤ 128 := by
        have h3 : P % 8 = 0 ∨ P % 8 = 1 ∨ P % 8 = 2 ∨ P % 8 = 3 ∨ P % 8 = 4 ∨ P % 8 = 5 ∨ P % 8 = 6 ∨ P % 8 = 7 := by omega
        rcases h3 with h | h | h | h | h | h | h | h <;> rw [h] <;> decide
      have hVl : X * 2 ^ (P % 8) ≤ 4294967295 * 128 := Nat.mul_le_mul (by omega) h128
      have hc : ((X : Int) * 2 ^ (P % 8)) = ((X * 2 ^ (P % 8) : Nat) : Int) := by push_cast; rfl
      rw [IntKind.wrap_u64, hc, hVe]
      omega
    have HTOLD := hidden (fun (m : Nat) (h1 : A + m ≤ (l.map Int.toNat).length) (h2 : m ≤ 5) => turned_told (l.map Int.toNat) A X (P % 8) m 4294967295 h1 h2 (by omega) (by omega) (by omega))
    rw [← hVe] at HTOLD
    have HLT := hidden (nat_lt l HW.out)
    have HI0 := hidden (toNat_toI l HW.out)
    have HLL := hidden (show (l.map Int.toNat).length = n by simp [hlen])
    clear hVe d3
    go_enter Tryd.func6, Tryd.ntmps6
    go_wp2_with fail
    refine HL.out.mono ?_
    rintro e w1 ⟨rfl, hb⟩
    have HB1 := hidden (hb.alloc hb.size (.cells #[.slice a n c] 23))
    have HSS := hidden (sls_one w1 a n c l (HS.out.go hb) _ rfl)
    have HT1 := hidden (HT.out.on HB1.out h0)
    clear hb HL
    go_wp2_with fail
    refine quiet_call' (sum_any _ 1 1 [l] _ HSS.out HT1.out) ?_
    intro q
    have HB2 := hidden (below_drewN HB1.out q)
    have HT2 := hidden (HT1.out.drewN q)
    clear HB1 HSS HT1
    generalize (w1.alloc (.cells #[.slice a n c] 23)).drewN q = w2 at *
    rw [sum_one l HW.out]
    go_wp2_with fail
    refine (both_any _ none n 0 _ 0 l [] _ (HS.out.go HB2.out) ⟨rfl, Nat.le_refl _, by omega, Wf.nil, fun _ => rfl, .inl rfl⟩ (by omega)).mono ?_
    rintro e w3 ⟨vc, rfl, hoc, hb3⟩
    rw [List.append_nil] at hoc
    have hoc' := hoc
    obtain ⟨ac, cc, rfl, hsc, -⟩ := hoc.sl HW.out (by omega)
    rw [hlen] at hoc' hsc ⊢
    obtain ⟨g, rfl⟩ : ∃ g, ac = some ⟨g, 0, none⟩ := by
      rcases hoc'.2 with ⟨h, _⟩ | ⟨g, cap, cur, h, _⟩
      · cases h; omega
      · cases h; exact ⟨g, rfl⟩
    have HC := hidden hoc'
    have HB3 := hidden hb3
    clear hoc hoc' hsc hb3
    rw [← HI0.out] at HC
    clear HI0 HS
    generalize l.map Int.toNat = L at *
    go_wp2_with fail
    rw [hwr]
    go_loopw [11, 12, 13] (fun wd tu i wr => ∃ k : Nat, k ≤ 5 ∧ A + k ≤ n ∧ i = .int .i64 k ∧ wd = .int .u64 ((V / 256 ^ k : Nat) : Int) ∧ tu = .bool (decide (V % 256 ^ k ≠ 0)) ∧ OwnB wr w2.heap.size (.slice (some ⟨g, 0, none⟩) n cc) (toI (upd L A V k)) ∧ Below w2.heap.size w2 wr) (fun _ _ i _ => 5 - (intOf i).toNat)
    case atStart => exact ⟨0, by omega, by omega, rfl, by simp, by simp [Nat.mod_one], HC.out, HB3.out⟩
    case round =>
      obtain ⟨k, hk, hkn, rfl, rfl, rfl, hown, hbl⟩ := hrel
      clear HC HB3
      have HUL := hidden ((toI_length (upd L A V k)).trans ((upd_length L A V k).trans HLL.out))
      by_cases hlt : k < 5 ∧ A + k < n
      · obtain ⟨hk5, hAk⟩ := hlt
        have hce := own_cell hown HUL.out hAk
        rw [toI_getD] at hce
        have hfr := own_free hown HUL.out (A + k)
        have hC : (upd L A V k).getD (A + k) 0 < 256 := by
          rw [List.getD_eq_getElem?_getD]
          cases hg : (upd L A V k)[A + k]? with
          | none => simp
          | some y => exact upd_lt L A V HLT.out k y (List.mem_of_getElem? hg)
        have hset := own_set (x := (((upd L A V k).getD (A + k) 0 ^^^ V / 256 ^ k % 256 : Nat) : Int)) hown HUL.out hAk
        rw [toI_set] at hset
        have HSET : Hid (OwnB (wr.setCell ⟨g, A + k, none⟩ (.int .u8 (((upd L A V k).getD (A + k) 0 ^^^ V / 256 ^ k % 256 : Nat) : Int))) w2.heap.size (.slice (some ⟨g, 0, none⟩) n cc) (toI (upd L A V (k + 1)))) := hset
        have hbs := hbl.setCell (p := ⟨g, A + k, none⟩) ((World.ownsRow.lt hown g rfl).1) (.int .u8 (((upd L A V k).getD (A + k) 0 ^^^ V / 256 ^ k % 256 : Nat) : Int))
        have HBS := hidden hbs
        have hdiv : V / 256 ^ (k + 1) = V / 256 ^ k / 256 := by rw [Nat.pow_succ, Nat.div_div_eq_div_mul]
        have hmod : V % 256 ^ (k + 1) = V % 256 ^ k + 256 ^ k * (V / 256 ^ k % 256) := by rw [Nat.pow_succ, Nat.mod_mul]
        have hpos : 0 < 256 ^ k := Nat.pow_pos (by omega)
        have HDIV := hidden hdiv
        have HNZ : Hid (decide (V % 256 ^ (k + 1) ≠ 0) = (decide (V % 256 ^ k ≠ 0) || (((V / 256 ^ k % 256 : Nat) : Int) != 0))) := by
          show _ = _
          rw [hmod, Bool.eq_iff_iff]
          simp only [decide_eq_true_eq, Bool.or_eq_true, bne_iff_ne, ne_eq]
          generalize V / 256 ^ k % 256 = y
          generalize V % 256 ^ k = z
          generalize 256 ^ k = q at hpos
          constructor
          · intro h
            by_cases hz : z = 0
            · right
              intro hy
              have hy0 : y = 0 := by omega
              subst hz hy0
              simp at h
            · exact .inl hz
          · rintro (h | h) e
            · omega
            · have hy : 0 < y := by omega
              have := Nat.mul_pos hpos hy
              omega
        clear hset hbs hdiv hmod hpos
        have hD : V / 256 ^ k < 18446744073709551616 := by
          have := Nat.div_le_self V (256 ^ k)
          have h2 : V < 18446744073709551616 := by
            have := hwr
            rw [IntKind.wrap_u64] at this
            omega
          omega
        generalize hCe : (upd L A V k).getD (A + k) 0 = C at *
        generalize hDe : V / 256 ^ k = D at *
        generalize hTe : decide (V % 256 ^ k ≠ 0) = TT at *
        clear hCe hDe hTe
        obtain ⟨Y, hY⟩ : ∃ Y : Nat, D % 256 = Y := ⟨_, rfl⟩
        rw [hY] at HSET HBS HNZ
        have hY2 : (D : Int) % 256 = (Y : Int) := by omega
        have hYl : Y < 256 := by omega
        obtain ⟨D2, hD2⟩ : ∃ D2 : Nat, D / 256 = D2 := ⟨_, rfl⟩
        rw [hD2] at HDIV
        have hD3 : (D : Int) / 256 = (D2 : Int) := by omega
        have hZ := u8_xor_nat C Y hC hYl
        obtain ⟨Z, hZe⟩ : ∃ Z : Nat, C ^^^ Y = Z := ⟨_, rfl⟩
        rw [hZe] at hZ HSET HBS
        have hD2b : (D2 : Int) ≤ 18446744073709551615 := by omega
        clear hY hD2 hZe hown hbl hD
        cases TT
        all_goals
          go_wp2
          go_roundw
          case rel => exact ⟨k + 1, by omega, by omega, by go_num, by rw [HDIV.out], by rw [HNZ.out]; simp, HSET.out, HBS.out⟩
          case measure => simp [intOf]; omega
      · have hT := HTOLD.out k (by rw [HLL.out]; exact hkn) hk
        have hWf := toI_wf (upd L A V k) (upd_lt L A V HLT.out k)
        obtain ⟨ac2, cc2, he2, hsc2, -⟩ := hown.sl hWf (by have := HUL.out; omega)
        rw [HUL.out] at hsc2 he2
        cases he2
        have HSC := hidden hsc2
        have HB4 := hidden ((HB2.out.trans (hbl.mono HB2.out.size)).alloc (Nat.le_trans HB2.out.size hbl.size) (.cells #[.slice (some ⟨g, 0, none⟩) n cc] 23))
        have HSS2 := hidden (sls_one wr (some ⟨g, 0, none⟩) n cc (toI (upd L A V k)) HSC.out _ rfl)
        have HT4 := hidden (HT.out.on HB4.out h0)
        have hsum := sum_one (toI (upd L A V k)) hWf
        rw [toI_toNat] at hsum
        have hfin : (((4294967295 ^^^ cr 4294967295 L : Nat) : Int) != ((4294967295 ^^^ cr 4294967295 (upd L A V k) : Nat) : Int)) = decide (V % 256 ^ k ≠ 0) := by
          rw [Bool.eq_iff_iff, bne_iff_ne, decide_eq_true_iff, ne_eq, ne_eq, Int.natCast_inj, sums_eq, ← hT]
          constructor
          · intro h e; exact h e.symm
          · intro h e; exact h e.symm
        have HSUM := hidden hsum
        clear hT hWf hsc2 hsum hown hbl HTOLD
        have hS := sum_any _ 1 1 [toI (upd L A V k)] _ HSS2.out HT4.out
        rw [HSUM.out] at hS
        have HSM := hidden hS
        clear hS HSUM HSS2 HT4
        generalize decide (V % 256 ^ k ≠ 0) = TT at *
        generalize (4294967295 ^^^ cr 4294967295 L : Nat) = SA at *
        generalize (4294967295 ^^^ cr 4294967295 (upd L A V k) : Nat) = SB at *
        have hnot : ¬ (k < 5 ∧ (A : Int) + k < n) := by omega
        by_cases hk5 : k < 5
        · have hge : ¬ ((A : Int) + k < n) := by omega
          clear hnot hlt
          go_wp2_with fail
          refine quiet_call' HSM.out ?_
          intro q2
          go_wp2
          go_ret
          exact ⟨rfl, below_drewN HB4.out q2⟩
        · clear hnot hlt
          go_wp2_with fail
          refine quiet_call' HSM.out ?_
          intro q2
          go_wp2
          go_ret
          exact ⟨rfl, below_drewN HB4.out q2⟩
end Go.Proofs.YtfofkgdhepdjeabDoor
