/- turned: a page with up to four neighbouring bytes changed is none. -/
import Derived.Test.YtoifjcliepongaaDoorMo
import Derived.Test.YtoifjcliepongaaDoorMp
import Derived.Lib.ConvBytes
import Derived.Lib.AtoiErrMem
namespace Go.Proofs.YtoifjcliepongaaDoor
open Go.RowKit

/-- A row whose first n cells read as the bytes l and may be written. -/
structure Rz (w : World) (g n : Nat) (l : List Int) : Prop where
  hlen : l.length = n
  wf : Wf l
  row : ∃ cells fz, w.heap[g]? = some (.cells cells 5 fz) ∧ (∀ i, i < n → cells[i]? = some (.int .u8 (l.getD i 0))) ∧ n ≤ cells.size ∧ cells.size ≤ fz.1
set_option maxRecDepth 100000 in
theorem Rz.lt {w : World} {g n : Nat} {l : List Int} (h : Rz w g n l) : g < w.heap.size := by
  obtain ⟨_, _, h1, _⟩ := h.row
  exact lt_some h1
set_option maxRecDepth 100000 in
theorem Rz.cell {w : World} {g n : Nat} {l : List Int} (h : Rz w g n l) (i : Nat) (hi : i < n) : w.cell? ⟨g, i, none⟩ = some (.int .u8 (l.getD i 0)) := by
  obtain ⟨cells, fz, h1, h2, _, _⟩ := h.row
  rw [cell_of_row _ _ i _ _ _ h1, h2 i hi]
set_option maxRecDepth 100000 in
theorem Rz.free {w : World} {g n : Nat} {l : List Int} (h : Rz w g n l) (i : Nat) (hi : i < n) : w.frozen? ⟨g, i, none⟩ = false := by
  obtain ⟨cells, fz, h1, h2, h3, h4⟩ := h.row
  simp only [World.frozen?, h1]
  simp
  omega
set_option maxRecDepth 100000 in
theorem Rz.set {w : World} {g n : Nat} {l : List Int} (h : Rz w g n l) (k : Nat) (x : Int) (hk : k < n) (hx : 0 ≤ x ∧ x ≤ 255) : Rz (w.setCell ⟨g, k, none⟩ (.int .u8 x)) g n (l.set k x) := by
  obtain ⟨cells, fz, h1, h2, h3, h4⟩ := h.row
  have hl := h.hlen
  refine ⟨by rw [List.length_set]; exact hl, fun y hy => ?_, _, fz, by rw [setCell_eq_setRow w g k cells _ fz _ h1]; exact setRow_heap _ _ _ _ _ _ h1, fun i hi => ?_, by simpa using h3, by simpa using h4⟩
  · rcases List.mem_or_eq_of_mem_set hy with hy | rfl
    · exact h.wf y hy
    · exact hx
  · by_cases e : k = i
    · subst e
      rw [Array.getElem?_setIfInBounds_self_of_lt (by omega)]
      simp [List.getD, hl, hi]
    · rw [Array.getElem?_setIfInBounds_ne e, h2 i hi]
      simp [List.getD, e]
set_option maxRecDepth 100000 in
theorem Rz.sl {w : World} {g n c : Nat} {l : List Int} (h : Rz w g n l) (hc : n ≤ c) (hn : n ≤ 140737488355328) : Sl w (some ⟨g, 0, none⟩) n c l :=
  ⟨h.hlen, hc, hn, h.wf, (by intro h; cases h), .inr ⟨g, 0, rfl, h.lt, fun i hi => by rw [Nat.zero_add]; exact h.cell i hi⟩⟩
set_option maxRecDepth 100000 in
theorem Rz.drew5 {w : World} {g n : Nat} {l : List Int} (h : Rz w g n l) : Rz w.drew g n l := ⟨h.hlen, h.wf, h.row⟩
set_option maxRecDepth 100000 in
/-- '[]byte(string(b))': the bytes, in memory of its own. -/
theorem conv5 (w : World) (l : List Int) (hw : Wf l) : ∃ c W, (convert 9 29 (.string (strOfNums l))).run Tryd.prog w = .ok (.slice (some ⟨w.heap.size, 0, none⟩) l.length c) W ∧ l.length ≤ c ∧ Rz W w.heap.size l.length l ∧ Below w.heap.size w W := by
  have hr := Lib.run_convert_string_bytes (P := Tryd.prog) w 9 29 5 (strOfNums l) Tryd.underlying9 Tryd.underlying29 Tryd.underlying5
  rw [strOfNums_size] at hr
  refine ⟨_, _, hr, grownCap_ge _ _ _ _, ⟨rfl, hw, _, _, Lib.bytesWorld_at_new w 5 (strOfNums l), fun i hi => ?_, ?_, Nat.le_refl _⟩, Lib.bytesWorld_below w 5 (strOfNums l)⟩
  · have hs : i < (strOfNums l).size := by rw [strOfNums_size]; exact hi
    have h1 := Lib.bytesWorld_cell w 5 (strOfNums l) i hs
    rw [cell_of_row _ _ i _ _ _ (Lib.bytesWorld_at_new w 5 (strOfNums l))] at h1
    rw [h1, strOfNums_data]
    have hb := hw.getD i
    simp only [List.getD, List.getElem?_map, List.getElem?_eq_getElem hi, Option.map_some, Option.getD_some] at hb ⊢
    simp only [UInt8.toNat_ofNat']
    congr 2
    omega
  · have := strOfNums_size l
    simp only [Lib.bytesCells, Array.size_append, Array.size_map]
    show l.length ≤ (strOfNums l).size + _
    omega
set_option maxRecDepth 100000 in
theorem rem_nat (x : Int) (r : Nat) (h : 0 ≤ x) (hr : 0 < r) : ∃ a : Nat, x.tmod (r : Int) = (a : Int) ∧ a < r := by
  refine ⟨(x % (r : Int)).toNat, ?_, ?_⟩
  · rw [Int.tmod_eq_emod_of_nonneg h]
    have := Int.emod_nonneg x (show (r : Int) ≠ 0 by omega)
    omega
  · have := Int.emod_nonneg x (show (r : Int) ≠ 0 by omega)
    have := Int.emod_lt_of_pos x (show (0 : Int) < r by omega)
    omega

set_option maxRecDepth 100000 in
set_option maxHeartbeats 4000000 in
theorem turned_any (ao bo : Option Addr) (n k ca cb : Nat) (m : Mt) (p : Int) (lt : List Int) (w : World) (ha : Sl w ao n ca (pageB m)) (hb : Sl w bo k cb lt) (ht : Tab w) (h0 : 0 < w.heap.size) (hm : m.ok) (hp0 : -9223372036854775808 ≤ p) (hp1 : p ≤ 9223372036854775807) :
    Calls Tryd.prog 23 #[.slice ao n ca, .int .i64 p, .slice bo k cb] w fun e w' => Yes5 w e w' := by
  have HA := hidden ha
  have HB := hidden hb
  have HT := hidden ht
  have HM := hidden hm
  have hpw := pw_le hm.pg
  have hlen := pageB_length m hm
  have hN : n = m.pg.toNat := by rw [← hlen]; exact ha.hlen.symm
  have hn2 : 512 ≤ n ∧ n ≤ 65536 := by omega
  have HN := hidden hN
  have hcv1 := conv_sl ha
  obtain ⟨cc, W, hcv2, hcc, hRz, hBW⟩ := conv5 w (pageB m) (pageB_wf m)
  rw [ha.hlen] at hcv2 hcc hRz
  have HRZ := hidden hRz
  have HBW := hidden hBW
  have hkr := hb.hroom
  clear ha hb ht hm hpw hlen hN hRz hBW
  obtain ⟨V, hV⟩ : ∃ V, leN (lt.take 4) = V := ⟨_, rfl⟩
  have HV := hidden hV
  have HVL : Hid (V < 4294967296) := hidden (by
    rw [← hV]
    refine Nat.lt_of_lt_of_le (leN_lt _ (HB.out.wf.take 4)) ?_
    have : (lt.take 4).length ≤ 4 := by simp; omega
    exact Nat.le_trans (Nat.pow_le_pow_right (by omega) this) (by decide))
  clear hV
  have HP0 : Hid (toI (upd ((pageB m).map Int.toNat) 0 0 0) = pageB m) := hidden (toNat_toI _ (pageB_wf m))
  obtain ⟨Q, hQ⟩ : ∃ Q, n - 4 = Q := ⟨_, rfl⟩
  have hs4 : (n : Int) - 4 = (Q : Int) := by omega
  have hQ0 : ¬ (Q : Int) = 0 := by omega
  have HEQ : Hid (∀ u, (Op.equalIn 10000 24 (mtV Mt.z) (mtV Mt.z)).run Tryd.prog u = .ok true u) := hidden (eq_yes Mt.z)
  by_cases hp : 0 ≤ p
  · have hneg : 0 ≤ p := by omega
    obtain ⟨a, hax, haR⟩ := rem_nat p Q (by omega) (by omega)
    have HAK : Hid (∀ j, a + j ≤ Q → a + j ≤ m.pg.toNat - 4 ∨ m.pg.toNat - 4 ≤ a ∧ a + j ≤ m.pg.toNat) := hidden fun j hj => by have := HN.out; omega
    go_enter Tryd.func23, Tryd.ntmps23
    go_wp2_with fail
    clear hcv1 hcv2
    go_loopw [10, 11] (fun ch i wr => ∃ j : Nat, j ≤ 4 ∧ j ≤ k ∧ a + j ≤ Q ∧ i = .int .i64 j ∧ ch = .bool (chB (lt.take 4) j) ∧ Hid (Rz wr w.heap.size n (toI (upd ((pageB m).map Int.toNat) a V j))) ∧ Hid (Below w.heap.size w wr)) (fun _ i _ => 4 - (intOf i).toNat)
    case atStart => exact ⟨0, by omega, by omega, by omega, rfl, rfl, by rw [show toI (upd ((pageB m).map Int.toNat) a V 0) = pageB m from HP0.out]; exact HRZ, HBW⟩
    case round =>
      obtain ⟨j, hj4, hjk, hjR, rfl, rfl, HR, HW⟩ := hrel
      clear HRZ HBW
      by_cases d1 : j < 4
      · have d1' : (j : Int) < 4 := by omega
        by_cases d2 : j < k
        · have d2' : (j : Int) < (k : Int) := by omega
          by_cases d3 : a + j < Q
          · have d3' : (a : Int) + (j : Int) < (Q : Int) := by omega
            obtain ⟨b, off, rfl, hbl, hbc⟩ := HB.out.hat.resolve_left (by omega)
            have hty := hbc j d2
            have hyw := HB.out.wf.getD j
            obtain ⟨Y, hY⟩ := Int.eq_ofNat_of_zero_le hyw.1
            rw [hY] at hty hyw
            have hxc := HR.out.cell (a + j) (by omega)
            have hxf := HR.out.free (a + j) (by omega)
            have hxw := HR.out.wf.getD (a + j)
            rw [toI_getD] at hxc hxw
            have HDG : Hid (V / 256 ^ j % 256 = Y) := hidden (by
              have h1 := leN_digit (lt.take 4) (HB.out.wf.take 4) j
              rw [HV.out] at h1
              rw [h1]
              have h2 : (lt.take 4).getD j 0 = lt.getD j 0 := by simp [List.getD, d1]
              rw [h2, hY]
              rfl)
            obtain ⟨X, hX⟩ : ∃ X, (upd ((pageB m).map Int.toNat) a V j).getD (a + j) 0 = X := ⟨_, rfl⟩
            rw [hX] at hxc hxw
            have hxor := u8_xor_nat X Y (by omega) (by omega)
            have hxl := Nat.xor_lt_two_pow (n := 8) (show X < 2 ^ 8 by omega) (show Y < 2 ^ 8 by omega)
            have HRS := hidden (HR.out.set (a + j) ((X ^^^ Y : Nat) : Int) (by omega) (by omega))
            have HST : Hid ((toI (upd ((pageB m).map Int.toNat) a V j)).set (a + j) ((X ^^^ Y : Nat) : Int) = toI (upd ((pageB m).map Int.toNat) a V (j + 1))) := hidden (by
              rw [toI_set, upd, HDG.out, hX])
            have HWS := fun v => hidden (HW.out.setCell (p := ⟨w.heap.size, a + j, none⟩) (Nat.le_refl _) v)
            have hne : ¬ b = w.heap.size := by omega
            have hne2 : ¬ w.heap.size = b := by omega
            have hbw : wr.cell? ⟨b, off + j, none⟩ = some (.int .u8 (Y : Int)) := (HW.out.cell (p := ⟨b, off + j, none⟩) hbl).trans hty
            have HCB : Hid (chB (lt.take 4) (j + 1) = (chB (lt.take 4) j || ((Y : Int) != 0))) := hidden (by
              rw [chB]
              have h2 : (lt.take 4).getD j 0 = lt.getD j 0 := by simp [List.getD, d1]
              rw [h2, hY])
            have hix1 : a + j < n := by omega
            have hix2 : ((a : Int) + (j : Int) : Int) < (n : Int) := by omega
            generalize (X ^^^ Y : Nat) = Z at *
            clear hbc hty hX hY hxw
            cases hcj : chB (lt.take 4) j
            · rw [hcj, Bool.false_or] at HCB
              go_wp2_with fail
              go_region
              go_wp2
              go_roundw
              case rel => exact ⟨j + 1, by omega, by omega, by omega, by go_num, by rw [HCB.out], by rw [← HST.out]; exact HRS.out.drew5, (HWS _).out.drew⟩
              case measure => simp [intOf]; omega
            · rw [hcj, Bool.true_or] at HCB
              go_wp2_with fail
              go_region
              go_wp2
              go_roundw
              case rel => exact ⟨j + 1, by omega, by omega, by omega, by go_num, by rw [HCB.out], by rw [← HST.out]; exact HRS.out.drew5, (HWS _).out.drew⟩
              case measure => simp [intOf]; omega
          · have d3' : ¬ (a : Int) + (j : Int) < (Q : Int) := by omega
            have HDE := hidden (decode_any (some ⟨w.heap.size, 0, none⟩) n cc (toI (upd ((pageB m).map Int.toNat) a V j)) wr (HR.out.sl hcc (by omega)) (HT.out.on HW.out h0) (Nat.lt_of_lt_of_le h0 HW.out.size))
            by_cases hch : chB (lt.take 4) j = true
            · have HNO := hidden (turned_none m HM.out a V j hj4 HVL.out (by rw [← HV.out]; exact (chB_iff _ (HB.out.wf.take 4) j).1 hch) (HAK.out j hjR))
              rw [hch]
              clear hch
              go_wp2_with (go_at_call 16; refine HDE.out.mono ?_; rintro e w3 ⟨m3, c3, rfl, hk3, hb3⟩; have HK3 := hidden hk3; have HB3 := hidden hb3; clear hk3 hb3; refine Hid.out ?_)
              apply hidden
              obtain ⟨rfl, rfl⟩ : m3 = Mt.z ∧ c3 = 50 := by
                rcases HK3.out with h | h
                · exact absurd ⟨_, h.1⟩ HNO.out
                · exact h.2
              rw [mtV_eq]
              have HEND := hidden (bl_al (bl_go HW.out (Nat.le_refl _) HB3.out) (Nat.le_refl _) (.cells (mtC Mt.z) 24))
              have he := HEQ.out
              rw [mtV_eq] at he
              clear HDE HK3 HB3 HNO HR HW
              go_wp2
              go_ret
              exact ⟨rfl, HEND.out⟩
            · have HSM := hidden (turned_same m HM.out a V j (by have := HAK.out j hjR; have := HN.out; omega) (by
                rw [← HV.out]
                exact Decidable.not_not.1 fun h => hch ((chB_iff _ (HB.out.wf.take 4) j).2 h)))
              have hcf : chB (lt.take 4) j = false := by simpa using hch
              rw [hcf]
              clear hch hcf
              go_wp2_with (go_at_call 16; refine HDE.out.mono ?_; rintro e w3 ⟨m3, c3, rfl, hk3, hb3⟩; have HK3 := hidden hk3; have HB3 := hidden hb3; clear hk3 hb3; refine Hid.out ?_)
              apply hidden
              obtain ⟨rfl, rfl⟩ : m3 = m ∧ c3 = 0 := by
                rcases HK3.out with h | h
                · refine ⟨h.1.one ?_, h.2⟩
                  rw [HSM.out]
                  exact says_page HM.out
                · refine absurd ⟨m, ?_⟩ h.1
                  rw [HSM.out]
                  exact says_page HM.out
              rw [mtV_eq]
              have HEND := hidden (bl_al (bl_go HW.out (Nat.le_refl _) HB3.out) (Nat.le_refl _) (.cells (mtC m3) 24))
              clear HDE HK3 HB3 HSM HR HW
              go_wp2
              go_ret
              exact ⟨rfl, HEND.out⟩
        · have d2' : ¬ (j : Int) < (k : Int) := by omega
          have HDE := hidden (decode_any (some ⟨w.heap.size, 0, none⟩) n cc (toI (upd ((pageB m).map Int.toNat) a V j)) wr (HR.out.sl hcc (by omega)) (HT.out.on HW.out h0) (Nat.lt_of_lt_of_le h0 HW.out.size))
          by_cases hch : chB (lt.take 4) j = true
          · have HNO := hidden (turned_none m HM.out a V j hj4 HVL.out (by rw [← HV.out]; exact (chB_iff _ (HB.out.wf.take 4) j).1 hch) (HAK.out j hjR))
            rw [hch]
            clear hch
            go_wp2_with (go_at_call 16; refine HDE.out.mono ?_; rintro e w3 ⟨m3, c3, rfl, hk3, hb3⟩; have HK3 := hidden hk3; have HB3 := hidden hb3; clear hk3 hb3; refine Hid.out ?_)
            apply hidden
            obtain ⟨rfl, rfl⟩ : m3 = Mt.z ∧ c3 = 50 := by
              rcases HK3.out with h | h
              · exact absurd ⟨_, h.1⟩ HNO.out
              · exact h.2
            rw [mtV_eq]
            have HEND := hidden (bl_al (bl_go HW.out (Nat.le_refl _) HB3.out) (Nat.le_refl _) (.cells (mtC Mt.z) 24))
            have he := HEQ.out
            rw [mtV_eq] at he
            clear HDE HK3 HB3 HNO HR HW
            go_wp2
            go_ret
            exact ⟨rfl, HEND.out⟩
          · have HSM := hidden (turned_same m HM.out a V j (by have := HAK.out j hjR; have := HN.out; omega) (by
              rw [← HV.out]
              exact Decidable.not_not.1 fun h => hch ((chB_iff _ (HB.out.wf.take 4) j).2 h)))
            have hcf : chB (lt.take 4) j = false := by simpa using hch
            rw [hcf]
            clear hch hcf
            go_wp2_with (go_at_call 16; refine HDE.out.mono ?_; rintro e w3 ⟨m3, c3, rfl, hk3, hb3⟩; have HK3 := hidden hk3; have HB3 := hidden hb3; clear hk3 hb3; refine Hid.out ?_)
            apply hidden
            obtain ⟨rfl, rfl⟩ : m3 = m ∧ c3 = 0 := by
              rcases HK3.out with h | h
              · refine ⟨h.1.one ?_, h.2⟩
                rw [HSM.out]
                exact says_page HM.out
              · refine absurd ⟨m, ?_⟩ h.1
                rw [HSM.out]
                exact says_page HM.out
            rw [mtV_eq]
            have HEND := hidden (bl_al (bl_go HW.out (Nat.le_refl _) HB3.out) (Nat.le_refl _) (.cells (mtC m3) 24))
            clear HDE HK3 HB3 HSM HR HW
            go_wp2
            go_ret
            exact ⟨rfl, HEND.out⟩
      · have d1' : ¬ (j : Int) < 4 := by omega
        have HDE := hidden (decode_any (some ⟨w.heap.size, 0, none⟩) n cc (toI (upd ((pageB m).map Int.toNat) a V j)) wr (HR.out.sl hcc (by omega)) (HT.out.on HW.out h0) (Nat.lt_of_lt_of_le h0 HW.out.size))
        by_cases hch : chB (lt.take 4) j = true
        · have HNO := hidden (turned_none m HM.out a V j hj4 HVL.out (by rw [← HV.out]; exact (chB_iff _ (HB.out.wf.take 4) j).1 hch) (HAK.out j hjR))
          rw [hch]
          clear hch
          go_wp2_with (go_at_call 16; refine HDE.out.mono ?_; rintro e w3 ⟨m3, c3, rfl, hk3, hb3⟩; have HK3 := hidden hk3; have HB3 := hidden hb3; clear hk3 hb3; refine Hid.out ?_)
          apply hidden
          obtain ⟨rfl, rfl⟩ : m3 = Mt.z ∧ c3 = 50 := by
            rcases HK3.out with h | h
            · exact absurd ⟨_, h.1⟩ HNO.out
            · exact h.2
          rw [mtV_eq]
          have HEND := hidden (bl_al (bl_go HW.out (Nat.le_refl _) HB3.out) (Nat.le_refl _) (.cells (mtC Mt.z) 24))
          have he := HEQ.out
          rw [mtV_eq] at he
          clear HDE HK3 HB3 HNO HR HW
          go_wp2
          go_ret
          exact ⟨rfl, HEND.out⟩
        · have HSM := hidden (turned_same m HM.out a V j (by have := HAK.out j hjR; have := HN.out; omega) (by
            rw [← HV.out]
            exact Decidable.not_not.1 fun h => hch ((chB_iff _ (HB.out.wf.take 4) j).2 h)))
          have hcf : chB (lt.take 4) j = false := by simpa using hch
          rw [hcf]
          clear hch hcf
          go_wp2_with (go_at_call 16; refine HDE.out.mono ?_; rintro e w3 ⟨m3, c3, rfl, hk3, hb3⟩; have HK3 := hidden hk3; have HB3 := hidden hb3; clear hk3 hb3; refine Hid.out ?_)
          apply hidden
          obtain ⟨rfl, rfl⟩ : m3 = m ∧ c3 = 0 := by
            rcases HK3.out with h | h
            · refine ⟨h.1.one ?_, h.2⟩
              rw [HSM.out]
              exact says_page HM.out
            · refine absurd ⟨m, ?_⟩ h.1
              rw [HSM.out]
              exact says_page HM.out
          rw [mtV_eq]
          have HEND := hidden (bl_al (bl_go HW.out (Nat.le_refl _) HB3.out) (Nat.le_refl _) (.cells (mtC m3) 24))
          clear HDE HK3 HB3 HSM HR HW
          go_wp2
          go_ret
          exact ⟨rfl, HEND.out⟩
  · have hneg : p < 0 := by omega
    obtain ⟨a, hax, haR⟩ := rem_nat (-(p + 1)) 4 (by omega) (by omega)
    have HAK : Hid (∀ j, a + j ≤ 4 → (Q + a) + j ≤ m.pg.toNat - 4 ∨ m.pg.toNat - 4 ≤ (Q + a) ∧ (Q + a) + j ≤ m.pg.toNat) := hidden fun j hj => by have := HN.out; omega
    have hax2 : -((p + 1).tmod 4) = (a : Int) := by rw [← Int.neg_tmod]; exact hax
    go_enter Tryd.func23, Tryd.ntmps23
    go_wp2_with fail
    clear hcv1 hcv2
    go_loopw [10, 11] (fun ch i wr => ∃ j : Nat, j ≤ 4 ∧ j ≤ k ∧ a + j ≤ 4 ∧ i = .int .i64 j ∧ ch = .bool (chB (lt.take 4) j) ∧ Hid (Rz wr w.heap.size n (toI (upd ((pageB m).map Int.toNat) (Q + a) V j))) ∧ Hid (Below w.heap.size w wr)) (fun _ i _ => 4 - (intOf i).toNat)
    case atStart => exact ⟨0, by omega, by omega, by omega, rfl, rfl, by rw [show toI (upd ((pageB m).map Int.toNat) (Q + a) V 0) = pageB m from HP0.out]; exact HRZ, HBW⟩
    case round =>
      obtain ⟨j, hj4, hjk, hjR, rfl, rfl, HR, HW⟩ := hrel
      clear HRZ HBW
      by_cases d1 : j < 4
      · have d1' : (j : Int) < 4 := by omega
        by_cases d2 : j < k
        · have d2' : (j : Int) < (k : Int) := by omega
          by_cases d3 : a + j < 4
          · have d3' : (a : Int) + (j : Int) < (4 : Int) := by omega
            obtain ⟨b, off, rfl, hbl, hbc⟩ := HB.out.hat.resolve_left (by omega)
            have hty := hbc j d2
            have hyw := HB.out.wf.getD j
            obtain ⟨Y, hY⟩ := Int.eq_ofNat_of_zero_le hyw.1
            rw [hY] at hty hyw
            have hxc := HR.out.cell (Q + a + j) (by omega)
            have hxf := HR.out.free (Q + a + j) (by omega)
            have hxw := HR.out.wf.getD (Q + a + j)
            rw [toI_getD] at hxc hxw
            have HDG : Hid (V / 256 ^ j % 256 = Y) := hidden (by
              have h1 := leN_digit (lt.take 4) (HB.out.wf.take 4) j
              rw [HV.out] at h1
              rw [h1]
              have h2 : (lt.take 4).getD j 0 = lt.getD j 0 := by simp [List.getD, d1]
              rw [h2, hY]
              rfl)
            obtain ⟨X, hX⟩ : ∃ X, (upd ((pageB m).map Int.toNat) (Q + a) V j).getD (Q + a + j) 0 = X := ⟨_, rfl⟩
            rw [hX] at hxc hxw
            have hxor := u8_xor_nat X Y (by omega) (by omega)
            have hxl := Nat.xor_lt_two_pow (n := 8) (show X < 2 ^ 8 by omega) (show Y < 2 ^ 8 by omega)
            have HRS := hidden (HR.out.set (Q + a + j) ((X ^^^ Y : Nat) : Int) (by omega) (by omega))
            have HST : Hid ((toI (upd ((pageB m).map Int.toNat) (Q + a) V j)).set (Q + a + j) ((X ^^^ Y : Nat) : Int) = toI (upd ((pageB m).map Int.toNat) (Q + a) V (j + 1))) := hidden (by
              rw [toI_set, upd, HDG.out, hX])
            have HWS := fun v => hidden (HW.out.setCell (p := ⟨w.heap.size, Q + a + j, none⟩) (Nat.le_refl _) v)
            have hne : ¬ b = w.heap.size := by omega
            have hne2 : ¬ w.heap.size = b := by omega
            have hbw : wr.cell? ⟨b, off + j, none⟩ = some (.int .u8 (Y : Int)) := (HW.out.cell (p := ⟨b, off + j, none⟩) hbl).trans hty
            have HCB : Hid (chB (lt.take 4) (j + 1) = (chB (lt.take 4) j || ((Y : Int) != 0))) := hidden (by
              rw [chB]
              have h2 : (lt.take 4).getD j 0 = lt.getD j 0 := by simp [List.getD, d1]
              rw [h2, hY])
            have hix1 : Q + a + j < n := by omega
            have hix2 : ((Q : Int) + (a : Int) + (j : Int) : Int) < (n : Int) := by omega
            generalize (X ^^^ Y : Nat) = Z at *
            clear hbc hty hX hY hxw
            cases hcj : chB (lt.take 4) j
            · rw [hcj, Bool.false_or] at HCB
              go_wp2_with fail
              go_region
              go_wp2
              go_roundw
              case rel => exact ⟨j + 1, by omega, by omega, by omega, by go_num, by rw [HCB.out], by rw [← HST.out]; exact HRS.out.drew5, (HWS _).out.drew⟩
              case measure => simp [intOf]; omega
            · rw [hcj, Bool.true_or] at HCB
              go_wp2_with fail
              go_region
              go_wp2
              go_roundw
              case rel => exact ⟨j + 1, by omega, by omega, by omega, by go_num, by rw [HCB.out], by rw [← HST.out]; exact HRS.out.drew5, (HWS _).out.drew⟩
              case measure => simp [intOf]; omega
          · have d3' : ¬ (a : Int) + (j : Int) < (4 : Int) := by omega
            have HDE := hidden (decode_any (some ⟨w.heap.size, 0, none⟩) n cc (toI (upd ((pageB m).map Int.toNat) (Q + a) V j)) wr (HR.out.sl hcc (by omega)) (HT.out.on HW.out h0) (Nat.lt_of_lt_of_le h0 HW.out.size))
            by_cases hch : chB (lt.take 4) j = true
            · have HNO := hidden (turned_none m HM.out (Q + a) V j hj4 HVL.out (by rw [← HV.out]; exact (chB_iff _ (HB.out.wf.take 4) j).1 hch) (HAK.out j hjR))
              rw [hch]
              clear hch
              go_wp2_with (go_at_call 16; refine HDE.out.mono ?_; rintro e w3 ⟨m3, c3, rfl, hk3, hb3⟩; have HK3 := hidden hk3; have HB3 := hidden hb3; clear hk3 hb3; refine Hid.out ?_)
              apply hidden
              obtain ⟨rfl, rfl⟩ : m3 = Mt.z ∧ c3 = 50 := by
                rcases HK3.out with h | h
                · exact absurd ⟨_, h.1⟩ HNO.out
                · exact h.2
              rw [mtV_eq]
              have HEND := hidden (bl_al (bl_go HW.out (Nat.le_refl _) HB3.out) (Nat.le_refl _) (.cells (mtC Mt.z) 24))
              have he := HEQ.out
              rw [mtV_eq] at he
              clear HDE HK3 HB3 HNO HR HW
              go_wp2
              go_ret
              exact ⟨rfl, HEND.out⟩
            · have HSM := hidden (turned_same m HM.out (Q + a) V j (by have := HAK.out j hjR; have := HN.out; omega) (by
                rw [← HV.out]
                exact Decidable.not_not.1 fun h => hch ((chB_iff _ (HB.out.wf.take 4) j).2 h)))
              have hcf : chB (lt.take 4) j = false := by simpa using hch
              rw [hcf]
              clear hch hcf
              go_wp2_with (go_at_call 16; refine HDE.out.mono ?_; rintro e w3 ⟨m3, c3, rfl, hk3, hb3⟩; have HK3 := hidden hk3; have HB3 := hidden hb3; clear hk3 hb3; refine Hid.out ?_)
              apply hidden
              obtain ⟨rfl, rfl⟩ : m3 = m ∧ c3 = 0 := by
                rcases HK3.out with h | h
                · refine ⟨h.1.one ?_, h.2⟩
                  rw [HSM.out]
                  exact says_page HM.out
                · refine absurd ⟨m, ?_⟩ h.1
                  rw [HSM.out]
                  exact says_page HM.out
              rw [mtV_eq]
              have HEND := hidden (bl_al (bl_go HW.out (Nat.le_refl _) HB3.out) (Nat.le_refl _) (.cells (mtC m3) 24))
              clear HDE HK3 HB3 HSM HR HW
              go_wp2
              go_ret
              exact ⟨rfl, HEND.out⟩
        · have d2' : ¬ (j : Int) < (k : Int) := by omega
          have HDE := hidden (decode_any (some ⟨w.heap.size, 0, none⟩) n cc (toI (upd ((pageB m).map Int.toNat) (Q + a) V j)) wr (HR.out.sl hcc (by omega)) (HT.out.on HW.out h0) (Nat.lt_of_lt_of_le h0 HW.out.size))
          by_cases hch : chB (lt.take 4) j = true
          · have HNO := hidden (turned_none m HM.out (Q + a) V j hj4 HVL.out (by rw [← HV.out]; exact (chB_iff _ (HB.out.wf.take 4) j).1 hch) (HAK.out j hjR))
            rw [hch]
            clear hch
            go_wp2_with (go_at_call 16; refine HDE.out.mono ?_; rintro e w3 ⟨m3, c3, rfl, hk3, hb3⟩; have HK3 := hidden hk3; have HB3 := hidden hb3; clear hk3 hb3; refine Hid.out ?_)
            apply hidden
            obtain ⟨rfl, rfl⟩ : m3 = Mt.z ∧ c3 = 50 := by
              rcases HK3.out with h | h
              · exact absurd ⟨_, h.1⟩ HNO.out
              · exact h.2
            rw [mtV_eq]
            have HEND := hidden (bl_al (bl_go HW.out (Nat.le_refl _) HB3.out) (Nat.le_refl _) (.cells (mtC Mt.z) 24))
            have he := HEQ.out
            rw [mtV_eq] at he
            clear HDE HK3 HB3 HNO HR HW
            go_wp2
            go_ret
            exact ⟨rfl, HEND.out⟩
          · have HSM := hidden (turned_same m HM.out (Q + a) V j (by have := HAK.out j hjR; have := HN.out; omega) (by
              rw [← HV.out]
              exact Decidable.not_not.1 fun h => hch ((chB_iff _ (HB.out.wf.take 4) j).2 h)))
            have hcf : chB (lt.take 4) j = false := by simpa using hch
            rw [hcf]
            clear hch hcf
            go_wp2_with (go_at_call 16; refine HDE.out.mono ?_; rintro e w3 ⟨m3, c3, rfl, hk3, hb3⟩; have HK3 := hidden hk3; have HB3 := hidden hb3; clear hk3 hb3; refine Hid.out ?_)
            apply hidden
            obtain ⟨rfl, rfl⟩ : m3 = m ∧ c3 = 0 := by
              rcases HK3.out with h | h
              · refine ⟨h.1.one ?_, h.2⟩
                rw [HSM.out]
                exact says_page HM.out
              · refine absurd ⟨m, ?_⟩ h.1
                rw [HSM.out]
                exact says_page HM.out
            rw [mtV_eq]
            have HEND := hidden (bl_al (bl_go HW.out (Nat.le_refl _) HB3.out) (Nat.le_refl _) (.cells (mtC m3) 24))
            clear HDE HK3 HB3 HSM HR HW
            go_wp2
            go_ret
            exact ⟨rfl, HEND.out⟩
      · have d1' : ¬ (j : Int) < 4 := by omega
        have HDE := hidden (decode_any (some ⟨w.heap.size, 0, none⟩) n cc (toI (upd ((pageB m).map Int.toNat) (Q + a) V j)) wr (HR.out.sl hcc (by omega)) (HT.out.on HW.out h0) (Nat.lt_of_lt_of_le h0 HW.out.size))
        by_cases hch : chB (lt.take 4) j = true
        · have HNO := hidden (turned_none m HM.out (Q + a) V j hj4 HVL.out (by rw [← HV.out]; exact (chB_iff _ (HB.out.wf.take 4) j).1 hch) (HAK.out j hjR))
          rw [hch]
          clear hch
          go_wp2_with (go_at_call 16; refine HDE.out.mono ?_; rintro e w3 ⟨m3, c3, rfl, hk3, hb3⟩; have HK3 := hidden hk3; have HB3 := hidden hb3; clear hk3 hb3; refine Hid.out ?_)
          apply hidden
          obtain ⟨rfl, rfl⟩ : m3 = Mt.z ∧ c3 = 50 := by
            rcases HK3.out with h | h
            · exact absurd ⟨_, h.1⟩ HNO.out
            · exact h.2
          rw [mtV_eq]
          have HEND := hidden (bl_al (bl_go HW.out (Nat.le_refl _) HB3.out) (Nat.le_refl _) (.cells (mtC Mt.z) 24))
          have he := HEQ.out
          rw [mtV_eq] at he
          clear HDE HK3 HB3 HNO HR HW
          go_wp2
          go_ret
          exact ⟨rfl, HEND.out⟩
        · have HSM := hidden (turned_same m HM.out (Q + a) V j (by have := HAK.out j hjR; have := HN.out; omega) (by
            rw [← HV.out]
            exact Decidable.not_not.1 fun h => hch ((chB_iff _ (HB.out.wf.take 4) j).2 h)))
          have hcf : chB (lt.take 4) j = false := by simpa using hch
          rw [hcf]
          clear hch hcf
          go_wp2_with (go_at_call 16; refine HDE.out.mono ?_; rintro e w3 ⟨m3, c3, rfl, hk3, hb3⟩; have HK3 := hidden hk3; have HB3 := hidden hb3; clear hk3 hb3; refine Hid.out ?_)
          apply hidden
          obtain ⟨rfl, rfl⟩ : m3 = m ∧ c3 = 0 := by
            rcases HK3.out with h | h
            · refine ⟨h.1.one ?_, h.2⟩
              rw [HSM.out]
              exact says_page HM.out
            · refine absurd ⟨m, ?_⟩ h.1
              rw [HSM.out]
              exact says_page HM.out
          rw [mtV_eq]
          have HEND := hidden (bl_al (bl_go HW.out (Nat.le_refl _) HB3.out) (Nat.le_refl _) (.cells (mtC m3) 24))
          clear HDE HK3 HB3 HSM HR HW
          go_wp2
          go_ret
          exact ⟨rfl, HEND.out⟩
end Go.Proofs.YtoifjcliepongaaDoor
