/- The document's Encode of a list's page: every answer. -/
import Derived.Test.YtehcemefhgebpaaDoorJb
namespace Go.Proofs.YtehcemefhgebpaaDoor
open Go.RowKit

/-- The page ahead, or 0. -/
def prvZ (l : List Int) : Nat → Int
  | 0 => 0
  | k + 1 => l.getD k 0
set_option maxRecDepth 100000 in
theorem rsE_at (l : List Int) (k : Nat) (hk : k < l.length) : rsE (prvZ l k) (l.drop k) = if isPg (l.getD k 0) then (if l.getD k 0 ≤ prvZ l k then 63 else rsE (prvZ l (k + 1)) (l.drop (k + 1))) else 30 := by
  have e : l.drop k = l.getD k 0 :: l.drop (k + 1) := by
    rw [List.drop_eq_getElem_cons hk, List.getD, List.getElem?_eq_getElem hk]
    rfl
  rw [e]
  rfl
set_option maxRecDepth 100000 in
theorem rnil (u : World) : Sl u none 0 0 [] := ⟨rfl, Nat.le_refl _, by omega, Wf.nil, fun _ => rfl, .inl rfl⟩
set_option maxRecDepth 100000 in
set_option maxHeartbeats 16000000 in
theorem renc_pg_n (n : Int) (P : Nat) (ao : Option Addr) (c cap : Nat) (l : List Int) (w : World) (hs : SlZ w ao c cap l) (hp : pwb (P : Int) = true) (hn1 : isPg n) (hr : (c : Int) ≤ ((P : Int) - 12) / 4) :
    Calls Tryd.prog 20 #[.int .i64 n, .slice ao c cap, .int .i64 (P : Int)] w fun e w' => ∃ ro rn rc, e = .returned (.tuple #[.slice ro rn rc, .int .i64 (rsE 0 l)]) ∧ Hid (OwnB w' w.heap.size (.slice ro rn rc) (if rsE 0 l = 0 then frB n l P else [])) ∧ Hid (Below w.heap.size w w') := by
  have HSZ := hidden (rsz_any (P : Int) w)
  have HNU := hidden (rnumber_any n w)
  have HRM := hidden (rroom_any (P : Int) w)
  have HL := hidden hs.hlen
  have hbig := hs.hbig
  have HS := hidden hs
  have hpl := pwb_le hp
  have HRV : Hid (roomN (P : Int) = ((P : Int) - 12) / 4) := hidden (by unfold roomN; rw [hp]; rfl)
  rw [HRV.out] at HRM
  rw [hp] at HSZ
  have hd : decide (isPg n) = true := by simpa using hn1
  rw [hd] at HNU
  have h2 : ¬ n = 0 := by unfold isPg at hn1; omega
  have hnb : 2 ≤ n ∧ n < 65536 := hn1
  clear hd hn1
  have hP0 : 512 ≤ P ∧ P ≤ 65536 := by omega
  have hPI : (P : Int) ≤ 65536 := by omega
  have hcP : 12 + 4 * c ≤ P := by omega
  have hcI : (c : Int) ≤ 16384 := by omega
  have hrd : decide (((P : Int) - 12) / 4 < (c : Int)) = false := by simp; omega
  have hwc : IntKind.u64.wrap (c : Int) = (c : Int) := by rw [IntKind.wrap_u64]; omega
  have hwn : IntKind.u64.wrap n = n := by rw [IntKind.wrap_u64]; omega
  obtain ⟨E, hE⟩ : ∃ E, rsE 0 l = E := ⟨_, rfl⟩
  have HE := hidden hE
  obtain ⟨XF, hXF⟩ : ∃ XF, (if rsE 0 l = 0 then frB n l P else []) = XF := ⟨_, rfl⟩
  rw [hXF]
  have HXF : Hid (XF = if E = 0 then frB n l P else []) := hidden (by rw [← hXF, hE])
  rw [hE]
  clear hXF
  obtain ⟨x, hx⟩ : ∃ x, w.alloc (.cells #[.int .u8 5, .int .u8 0] 5) = x := ⟨_, rfl⟩
  have hbx : Below w.heap.size w x := by rw [← hx]; exact bl_al (Below.refl _ _) (Nat.le_refl _) _
  have HO0 : Hid (OwnB x w.heap.size (.slice (some ⟨w.heap.size, 0, none⟩) 2 2) [5, 0]) := hidden (own_of_heap (l := [5, 0]) (by rw [← hx]; exact heap_alloc_last w _) (Nat.le_refl _) (by decide))
  have HBX := hidden hbx
  have HF1 := hidden (rfix (c : Int) 2 (by omega) (by omega) (by omega) (by omega) x)
  clear hs hp hbx hE
  go_enter Tryd.func20, Tryd.ntmps20
  go_wp2_with (first
    | (go_at_call 59; refine same_call HSZ.out ?_)
    | (go_at_call 39; refine same_call HNU.out ?_)
    | (go_at_call 26; refine same_call HRM.out ?_)
    | (go_at_call 60; refine HF1.out.mono ?_; rintro e w1 ⟨fo, fc, rfl, HSF, HBF⟩; refine Hid.out ?_))
  apply hidden
  have HA1 := hidden (radd_fix HO0.out HBX.out.size HSF.out HBF.out (by simp))
  have HB1 := hidden (bl_go HBX.out (Nat.le_refl _) HBF.out)
  clear HF1 HSZ HNU HRM HRV
  go_wp2_with (go_at_call 61; refine HA1.out.mono ?_; rintro e w2 ⟨v2, rfl, HO2, HBa⟩; refine Hid.out ?_)
  apply hidden
  have HB2 : Hid (Below w.heap.size w w2) := hidden (HBX.out.trans HBa.out)
  have HF2 := hidden (rfix n 4 (by omega) (by omega) (by omega) (by omega) w2)
  obtain ⟨X1, hX1⟩ : ∃ X, ([5, 0] : List Int) ++ fB 2 (c : Int) = X := ⟨_, rfl⟩
  rw [hX1] at HO2
  have HX1L : Hid (X1.length = 4) := hidden (by rw [← hX1]; simp [fB_length])
  have HX1 := hidden hX1
  clear HA1 HO0 HSF HBF HB1 HBX hx hX1
  go_wp2_with (go_at_call 60; refine HF2.out.mono ?_; rintro e w3 ⟨fo2, fc2, rfl, HSF, HBF⟩; refine Hid.out ?_)
  apply hidden
  have HA2 := hidden (radd_fix HO2.out HB2.out.size HSF.out HBF.out (by rw [HX1L.out]; omega))
  clear HF2
  go_wp2_with (go_at_call 61; refine HA2.out.mono ?_; rintro e w4 ⟨v4, rfl, HO4, HBb⟩; refine Hid.out ?_)
  apply hidden
  have HB4 : Hid (Below w.heap.size w w4) := hidden (HB2.out.trans HBb.out)
  obtain ⟨X, hX⟩ : ∃ X, X1 ++ fB 4 n = X := ⟨_, rfl⟩
  rw [hX] at HO4
  have HXL : Hid (X.length = 8) := hidden (by rw [← hX, List.length_append, HX1L.out, fB_length])
  have HXE : Hid (X = [5, 0] ++ (fB 2 (c : Int) ++ fB 4 n)) := hidden (by rw [← hX, ← HX1.out, List.append_assoc])
  have HXW : Hid (Wf X) := hidden (by rw [HXE.out]; exact head5_wf.append ((fB_wf _ _).append (fB_wf _ _)))
  clear HA2 HO2 HSF HBF HB2 HBa HBb hX HX1 HX1L
  go_wp2_with fail
  go_loopw [11, 14] (fun b i wr => ∃ k : Nat, k ≤ c ∧ i = .int .i64 (k : Int) ∧ Hid (E = rsE (prvZ l k) (l.drop k)) ∧ Hid (OwnB wr w.heap.size b (X ++ frT (l.take k))) ∧ Hid (Below w.heap.size w wr)) (fun _ i _ => c - (RowKit.intOf i).toNat)
  case atStart => exact ⟨0, by omega, rfl, hidden (by rw [← HE.out]; rfl), hidden (by simpa [frT] using HO4.out), HB4⟩
  case round =>
    obtain ⟨k, hk, rfl, HR, HO, HB⟩ := hrel
    clear HO4 HB4
    by_cases hlt : k < c
    · have hltI : (k : Int) < (c : Int) := by omega
      have HSW := hidden (HS.out.on (Nat.le_refl _) HB.out)
      have hkl : k < l.length := by rw [HL.out]; exact hlt
      have HAT := hidden (rsE_at l k hkl)
      have HTK := hidden (takeZ l k hkl)
      obtain ⟨b0, off0, hao, hc⟩ := HSW.out.at hlt
      subst hao
      have HN := hidden (rnumber_any (l.getD k 0) wr)
      have HKL : Hid ((X ++ frT (l.take k)).length = 8 + 4 * k) := hidden (by rw [List.length_append, HXL.out, frT_length, List.length_take, Nat.min_eq_left (Nat.le_of_lt hkl)])
      obtain ⟨y, hy⟩ : ∃ y, l.getD k 0 = y := ⟨_, rfl⟩
      rw [hy] at hc HN HAT HTK
      have HPV : Hid (∀ j, k = j + 1 → wr.cell? ⟨b0, off0 + j, none⟩ = some (.int .i64 (prvZ l k))) := hidden (fun j hj => by
        subst hj
        obtain ⟨b1, off1, e1, h1⟩ := HSW.out.at (i := j) (by omega)
        cases e1
        exact h1)
      clear hkl HSW hy
      by_cases hpg : isPg y
      · have hd : decide (isPg y) = true := by simpa using hpg
        rw [hd] at HN
        have hyb : 2 ≤ y ∧ y < 65536 := hpg
        by_cases hk0 : k = 0
        · subst hk0
          rw [Nat.add_zero] at hc
          have hkk : decide ((0 : Int) < ((0 : Nat) : Int)) = false := by decide
          have HAT2 : Hid (E = rsE (prvZ l 1) (l.drop 1)) := hidden (by rw [HR.out, HAT.out, if_pos hpg, if_neg (by show ¬ y ≤ 0; omega)])
          have hwy : IntKind.u64.wrap y = y := by rw [IntKind.wrap_u64]; omega
          clear hd hpg HAT HR HPV
          go_wp2_with (go_at_call 39; refine same_call HN.out ?_)
          go_quiet (fail)
          obtain ⟨wq, hwq⟩ : ∃ x, wr.drewN nq = x := ⟨_, rfl⟩
          have HOq : Hid (OwnB wq w.heap.size _ (X ++ frT (l.take 0))) := hidden (by rw [← hwq]; exact HO.out.on (Nat.le_refl _) (bl_dr (Below.refl _ _) nq))
          have HBq : Hid (Below w.heap.size w wq) := hidden (by rw [← hwq]; exact bl_dr HB.out nq)
          have hcq : wq.cell? ⟨b0, off0, none⟩ = some (.int .i64 y) := by rw [← hwq]; simpa using hc
          have HF3 := hidden (rfix y 4 (by omega) (by omega) (by omega) (by omega) wq)
          rw [hwq]
          clear hwq hc HO HB
          go_wp2_with (go_at_call 60; refine HF3.out.mono ?_; rintro e u1 ⟨fo3, fc3, rfl, HSF, HBF⟩; refine Hid.out ?_)
          apply hidden
          have HA3 := hidden (radd_fix HOq.out HBq.out.size HSF.out HBF.out (by rw [HKL.out]; omega))
          clear HF3
          go_wp2_with (go_at_call 61; refine HA3.out.mono ?_; rintro e u2 ⟨v5, rfl, HO5, HBc⟩; refine Hid.out ?_)
          apply hidden
          have HO6 : Hid (OwnB u2 w.heap.size v5 (X ++ frT (l.take (0 + 1)))) := hidden (by rw [HTK.out, frT_append, frT_one, ← List.append_assoc]; exact HO5.out)
          have HB6 : Hid (Below w.heap.size w u2) := hidden (HBq.out.trans HBc.out)
          clear HA3 HO5 HSF HBF HBc HOq HBq
          go_wp2
          go_roundw
          case rel => exact ⟨1, by omega, by go_num, HAT2, HO6, HB6⟩
          case measure => simp [RowKit.intOf]; omega
        · obtain ⟨j, hj⟩ : ∃ j, k = j + 1 := ⟨k - 1, by omega⟩
          have cj := HPV.out j hj
          have hkk : decide ((0 : Int) < (k : Int)) = true := by rw [decide_eq_true_eq]; omega
          have hk1 : (0 : Int) < (k : Int) := by omega
          have hk2 : decide (0 < k) = true := by rw [decide_eq_true_eq]; omega
          have hkj : (k : Int) - 1 = (j : Int) := by omega
          have hjc : j < c := by omega
          have hjI : (j : Int) < (c : Int) := by omega
          have hkI : (k : Int) ≤ 16384 := by omega
          clear HPV hk0 hj
          by_cases hyz : y ≤ prvZ l k
          · have HE63 : Hid (E = 63) := hidden (by rw [HR.out, HAT.out, if_pos hpg, if_pos hyz])
            have hyd : decide (y ≤ prvZ l k) = true := by simpa using hyz
            clear HAT HR hd hpg
            generalize prvZ l k = z at *
            go_wp2_with (go_at_call 39; refine same_call HN.out ?_)
            go_quiet (fail)
            go_wp2_with fail
            go_ret2
            exact ⟨none, 0, 0, by rw [HE63.out]; first | done | rfl, hidden (by rw [HXF.out, HE63.out, if_neg (by decide)]; exact OwnB.nil _ _), hidden (bl_dr HB.out _)⟩
          · have HAT2 : Hid (E = rsE (prvZ l (k + 1)) (l.drop (k + 1))) := hidden (by rw [HR.out, HAT.out, if_pos hpg, if_neg hyz])
            have hyd : decide (y ≤ prvZ l k) = false := by simpa using hyz
            have hwy : IntKind.u64.wrap y = y := by rw [IntKind.wrap_u64]; omega
            clear HAT HR hd hpg
            generalize prvZ l k = z at cj hyd hyz
            go_wp2_with (go_at_call 39; refine same_call HN.out ?_)
            go_quiet (fail)
            obtain ⟨wq, hwq⟩ : ∃ x, wr.drewN nq = x := ⟨_, rfl⟩
            have HOq : Hid (OwnB wq w.heap.size _ (X ++ frT (l.take k))) := hidden (by rw [← hwq]; exact HO.out.on (Nat.le_refl _) (bl_dr (Below.refl _ _) nq))
            have HBq : Hid (Below w.heap.size w wq) := hidden (by rw [← hwq]; exact bl_dr HB.out nq)
            have hcq : wq.cell? ⟨b0, off0 + k, none⟩ = some (.int .i64 y) := by rw [← hwq]; simpa using hc
            have HF3 := hidden (rfix y 4 (by omega) (by omega) (by omega) (by omega) wq)
            rw [hwq]
            clear hwq hc HO HB
            go_wp2_with (go_at_call 60; refine HF3.out.mono ?_; rintro e u1 ⟨fo3, fc3, rfl, HSF, HBF⟩; refine Hid.out ?_)
            apply hidden
            have HA3 := hidden (radd_fix HOq.out HBq.out.size HSF.out HBF.out (by rw [HKL.out]; omega))
            clear HF3
            go_wp2_with (go_at_call 61; refine HA3.out.mono ?_; rintro e u2 ⟨v5, rfl, HO5, HBc⟩; refine Hid.out ?_)
            apply hidden
            have HO6 : Hid (OwnB u2 w.heap.size v5 (X ++ frT (l.take (k + 1)))) := hidden (by rw [HTK.out, frT_append, frT_one, ← List.append_assoc]; exact HO5.out)
            have HB6 : Hid (Below w.heap.size w u2) := hidden (HBq.out.trans HBc.out)
            clear HA3 HO5 HSF HBF HBc HOq HBq
            go_wp2
            go_roundw
            case rel => exact ⟨k + 1, by omega, by go_num, HAT2, HO6, HB6⟩
            case measure => simp [RowKit.intOf]; omega
      · have hd : decide (isPg y) = false := by simpa using hpg
        rw [hd] at HN
        have HE30 : Hid (E = 30) := hidden (by rw [HR.out, HAT.out, if_neg hpg])
        clear HAT HR hd hpg HPV
        go_wp2_with (go_at_call 39; refine same_call HN.out ?_)
        go_ret2
        exact ⟨none, 0, 0, by rw [HE30.out]; first | done | rfl, hidden (by rw [HXF.out, HE30.out, if_neg (by decide)]; exact OwnB.nil _ _), HB⟩
    · obtain rfl : k = c := by omega
      have HE0 : Hid (E = 0) := hidden (by rw [HR.out, List.drop_eq_nil_of_le (by rw [HL.out]; exact Nat.le_refl _)]; rfl)
      have HTA : Hid (l.take k = l) := hidden (List.take_of_length_le (by rw [HL.out]; exact Nat.le_refl _))
      rw [HTA.out] at HO
      obtain ⟨Z, hZ⟩ : ∃ Z, X ++ frT l = Z := ⟨_, rfl⟩
      rw [hZ] at HO
      have HZL : Hid (Z.length = 8 + 4 * k) := hidden (by rw [← hZ, List.length_append, HXL.out, frT_length, HL.out])
      have HZW : Hid (Wf Z) := hidden (by rw [← hZ]; exact HXW.out.append (frT_wf l))
      have HZE : Hid (Z ++ zs (P - 12 - 4 * k) = frH n l P) := hidden (by
        rw [← hZ, HXE.out]
        unfold frH
        rw [HL.out]
        simp only [List.append_assoc])
      obtain ⟨yo, yc, hsh⟩ := own_shape2 HO.out
      subst hsh
      rw [HZL.out] at HO ⊢
      obtain ⟨pad, hpad⟩ : ∃ pad, P - 12 - 4 * k = pad := ⟨_, rfl⟩
      rw [hpad] at HZE
      clear hZ HR HE HTA
      go_wp2_with fail
      go_loopw [11] (fun v wr => ∃ (j : Nat) (vo : Option Addr) (vc : Nat), j ≤ pad ∧ v = .slice vo (8 + 4 * k + j) vc ∧ Hid (OwnB wr w.heap.size (.slice vo (8 + 4 * k + j) vc) (Z ++ zs j)) ∧ Hid (Below w.heap.size w wr)) (fun v _ => P - lnOf v)
      case atStart => exact ⟨0, yo, yc, by omega, rfl, hidden (by simpa [zs] using HO.out), HB⟩
      case round =>
        clear HO HB
        rename_i wr0 wr
        obtain ⟨j, vo, vc, hj, rfl, HO, HB⟩ := hrel
        obtain ⟨m, hm⟩ : ∃ m, 8 + 4 * k + j = m := ⟨_, rfl⟩
        have HXZ : Hid ((Z ++ zs j).length = m) := hidden (by rw [List.length_append, HZL.out, zs_length, hm])
        obtain ⟨Y, hY⟩ : ∃ Y, Z ++ zs j = Y := ⟨_, rfl⟩
        have HYE := hidden hY
        have HYW : Hid (Wf Y) := hidden (by rw [← hY]; exact HZW.out.append (zs_wf j))
        rw [hY] at HXZ HO
        rw [hm] at HO ⊢
        clear hY
        by_cases hlt : j < pad
        · have hltI : (m : Int) < (P : Int) - 4 := by omega
          obtain ⟨x, hx⟩ : ∃ x, wr.alloc (.cells #[.int .u8 0] 5) = x := ⟨_, rfl⟩
          have hbx : Below wr.heap.size wr x := by rw [← hx]; exact bl_al (Below.refl _ _) (Nat.le_refl _) _
          have HSX : Hid (Sl x (some ⟨wr.heap.size, 0, none⟩) 1 1 [0]) := hidden (by rw [← hx]; exact sl_one wr 0 (by omega))
          have HOX := hidden (HO.out.on (Nat.le_refl _) hbx)
          have hxs : w.heap.size ≤ x.heap.size := Nat.le_trans HB.out.size hbx.size
          have HBX := hidden (bl_go HB.out (Nat.le_refl _) hbx)
          have hmb : m + 1 ≤ 140737488355328 := by omega
          clear hbx
          go_wp2_with (at_builtin; refine app_sl _ rfl _ _ rfl w.heap.size Y [0] _ (some ⟨wr.heap.size, 0, none⟩) 1 1 rfl rfl HOX.out HSX.out (by rw [HXZ.out]; exact hmb) hxs ?_; refine Hid.out ?_)
          apply hidden
          intro v' w' ho hg
          have HB2 : Hid (Below w.heap.size w w') := hidden (HBX.out.trans (hg.below HOX.out hxs))
          obtain ⟨vo2, vc2, hsh⟩ := own_shape2 ho
          subst hsh
          have hl2 : (Y ++ [0]).length = m + 1 := by rw [List.length_append, HXZ.out]; rfl
          rw [hl2] at ho ⊢
          have HO2 : Hid (OwnB w' w.heap.size (.slice vo2 (8 + 4 * k + (j + 1)) vc2) (Z ++ zs (j + 1))) := hidden (by
            rw [show 8 + 4 * k + (j + 1) = m + 1 by omega, show zs (j + 1) = zs j ++ [0] from zs_add j 1, ← List.append_assoc, HYE.out]
            exact ho)
          clear ho hg hx HOX HSX
          go_wp2
          go_roundw
          case rel => exact ⟨j + 1, vo2, vc2, by omega, by rw [show 8 + 4 * k + (j + 1) = m + 1 by omega], HO2, HB2⟩
          case measure => simp [lnOf]; omega
        · have hltI : ¬ (m : Int) < (P : Int) - 4 := by omega
          have HH : Hid (Y = frH n l P) := hidden (by rw [← HYE.out, ← HZE.out, show j = pad by omega])
          have HSH : Hid (Sl wr vo m vc Y) := hidden (HO.out.sl2 HYW.out (by rw [HXZ.out]; omega))
          have HSUM := hidden (rSumOf_any vo m vc Y wr HSH.out)
          have hs32 := sumN_lt Y HYW.out
          obtain ⟨SN, hS⟩ : ∃ SN, sumN [Y] = SN := ⟨_, rfl⟩
          rw [hS] at hs32 HSUM
          have HSS := hidden hS
          have hws : IntKind.u64.wrap ((SN : Nat) : Int) = (SN : Int) := by rw [IntKind.wrap_u64]; omega
          have HF4 := hidden (rfix (SN : Int) 4 (by omega) (by omega) (by omega) (by omega) wr)
          clear hS HSH
          go_wp2_with (first
            | (go_at_call 62; refine same_call HSUM.out ?_)
            | (go_at_call 60; refine HF4.out.mono ?_; rintro e w6 ⟨fo3, fc3, rfl, HSF, HBF⟩; refine Hid.out ?_))
          apply hidden
          have HA4 := hidden (radd_fix HO.out HB.out.size HSF.out HBF.out (by rw [HXZ.out]; omega))
          clear HF4 HSUM
          go_wp2_with (go_at_call 61; refine HA4.out.mono ?_; rintro e w7 ⟨v7, rfl, HO7, HBd⟩; refine Hid.out ?_)
          apply hidden
          have HB7 : Hid (Below w.heap.size w w7) := hidden (HB.out.trans HBd.out)
          obtain ⟨ro, rc, hsh⟩ := own_shape2 HO7.out
          subst hsh
          have HP7 : Hid (Y ++ fB 4 (SN : Int) = frB n l P) := hidden (by
            unfold frB sealB
            rw [← HH.out, HSS.out])
          have HS7 : Hid (OwnB w7 w.heap.size (.slice ro (Y ++ fB 4 (SN : Int)).length rc) (frB n l P)) := hidden (by
            have h := HO7.out
            rw [HP7.out] at h ⊢
            exact h)
          obtain ⟨rn, hrn⟩ : ∃ rn, (Y ++ fB 4 (SN : Int)).length = rn := ⟨_, rfl⟩
          rw [hrn] at HS7 ⊢
          clear HA4 HO7 hrn
          go_wp2
          go_ret2
          exact ⟨ro, rn, rc, by rw [HE0.out]; first | done | rfl, hidden (by rw [HXF.out, HE0.out, if_pos rfl]; exact HS7.out), HB7⟩
set_option maxRecDepth 100000 in
set_option maxHeartbeats 16000000 in
theorem renc_pg_z (P : Nat) (ao : Option Addr) (c cap : Nat) (l : List Int) (w : World) (hs : SlZ w ao c cap l) (hp : pwb (P : Int) = true) (hr : (c : Int) ≤ ((P : Int) - 12) / 4) :
    Calls Tryd.prog 20 #[.int .i64 0, .slice ao c cap, .int .i64 (P : Int)] w fun e w' => ∃ ro rn rc, e = .returned (.tuple #[.slice ro rn rc, .int .i64 (rsE 0 l)]) ∧ Hid (OwnB w' w.heap.size (.slice ro rn rc) (if rsE 0 l = 0 then frB 0 l P else [])) ∧ Hid (Below w.heap.size w w') := by
  have HSZ := hidden (rsz_any (P : Int) w)
  have HNU := hidden (rnumber_any 0 w)
  have HRM := hidden (rroom_any (P : Int) w)
  have HL := hidden hs.hlen
  have hbig := hs.hbig
  have HS := hidden hs
  have hpl := pwb_le hp
  have HRV : Hid (roomN (P : Int) = ((P : Int) - 12) / 4) := hidden (by unfold roomN; rw [hp]; rfl)
  rw [HRV.out] at HRM
  rw [hp] at HSZ
  have hd : decide (isPg 0) = false := by decide
  rw [hd] at HNU
  clear hd
  have hP0 : 512 ≤ P ∧ P ≤ 65536 := by omega
  have hPI : (P : Int) ≤ 65536 := by omega
  have hcP : 12 + 4 * c ≤ P := by omega
  have hcI : (c : Int) ≤ 16384 := by omega
  have hrd : decide (((P : Int) - 12) / 4 < (c : Int)) = false := by simp; omega
  have hwc : IntKind.u64.wrap (c : Int) = (c : Int) := by rw [IntKind.wrap_u64]; omega

  obtain ⟨E, hE⟩ : ∃ E, rsE 0 l = E := ⟨_, rfl⟩
  have HE := hidden hE
  obtain ⟨XF, hXF⟩ : ∃ XF, (if rsE 0 l = 0 then frB 0 l P else []) = XF := ⟨_, rfl⟩
  rw [hXF]
  have HXF : Hid (XF = if E = 0 then frB 0 l P else []) := hidden (by rw [← hXF, hE])
  rw [hE]
  clear hXF
  obtain ⟨x, hx⟩ : ∃ x, w.alloc (.cells #[.int .u8 5, .int .u8 0] 5) = x := ⟨_, rfl⟩
  have hbx : Below w.heap.size w x := by rw [← hx]; exact bl_al (Below.refl _ _) (Nat.le_refl _) _
  have HO0 : Hid (OwnB x w.heap.size (.slice (some ⟨w.heap.size, 0, none⟩) 2 2) [5, 0]) := hidden (own_of_heap (l := [5, 0]) (by rw [← hx]; exact heap_alloc_last w _) (Nat.le_refl _) (by decide))
  have HBX := hidden hbx
  have HF1 := hidden (rfix (c : Int) 2 (by omega) (by omega) (by omega) (by omega) x)
  clear hs hp hbx hE
  go_enter Tryd.func20, Tryd.ntmps20
  go_wp2_with (first
    | (go_at_call 59; refine same_call HSZ.out ?_)
    | (go_at_call 39; refine same_call HNU.out ?_)
    | (go_at_call 26; refine same_call HRM.out ?_)
    | (go_at_call 60; refine HF1.out.mono ?_; rintro e w1 ⟨fo, fc, rfl, HSF, HBF⟩; refine Hid.out ?_))
  apply hidden
  have HA1 := hidden (radd_fix HO0.out HBX.out.size HSF.out HBF.out (by simp))
  have HB1 := hidden (bl_go HBX.out (Nat.le_refl _) HBF.out)
  clear HF1 HSZ HNU HRM HRV
  go_wp2_with (go_at_call 61; refine HA1.out.mono ?_; rintro e w2 ⟨v2, rfl, HO2, HBa⟩; refine Hid.out ?_)
  apply hidden
  have HB2 : Hid (Below w.heap.size w w2) := hidden (HBX.out.trans HBa.out)
  have HF2 := hidden (rfix 0 4 (by omega) (by omega) (by omega) (by omega) w2)
  obtain ⟨X1, hX1⟩ : ∃ X, ([5, 0] : List Int) ++ fB 2 (c : Int) = X := ⟨_, rfl⟩
  rw [hX1] at HO2
  have HX1L : Hid (X1.length = 4) := hidden (by rw [← hX1]; simp [fB_length])
  have HX1 := hidden hX1
  clear HA1 HO0 HSF HBF HB1 HBX hx hX1
  go_wp2_with (go_at_call 60; refine HF2.out.mono ?_; rintro e w3 ⟨fo2, fc2, rfl, HSF, HBF⟩; refine Hid.out ?_)
  apply hidden
  have HA2 := hidden (radd_fix HO2.out HB2.out.size HSF.out HBF.out (by rw [HX1L.out]; omega))
  clear HF2
  go_wp2_with (go_at_call 61; refine HA2.out.mono ?_; rintro e w4 ⟨v4, rfl, HO4, HBb⟩; refine Hid.out ?_)
  apply hidden
  have HB4 : Hid (Below w.heap.size w w4) := hidden (HB2.out.trans HBb.out)
  obtain ⟨X, hX⟩ : ∃ X, X1 ++ fB 4 0 = X := ⟨_, rfl⟩
  rw [hX] at HO4
  have HXL : Hid (X.length = 8) := hidden (by rw [← hX, List.length_append, HX1L.out, fB_length])
  have HXE : Hid (X = [5, 0] ++ (fB 2 (c : Int) ++ fB 4 0)) := hidden (by rw [← hX, ← HX1.out, List.append_assoc])
  have HXW : Hid (Wf X) := hidden (by rw [HXE.out]; exact head5_wf.append ((fB_wf _ _).append (fB_wf _ _)))
  clear HA2 HO2 HSF HBF HB2 HBa HBb hX HX1 HX1L
  go_wp2_with fail
  go_loopw [11, 14] (fun b i wr => ∃ k : Nat, k ≤ c ∧ i = .int .i64 (k : Int) ∧ Hid (E = rsE (prvZ l k) (l.drop k)) ∧ Hid (OwnB wr w.heap.size b (X ++ frT (l.take k))) ∧ Hid (Below w.heap.size w wr)) (fun _ i _ => c - (RowKit.intOf i).toNat)
  case atStart => exact ⟨0, by omega, rfl, hidden (by rw [← HE.out]; rfl), hidden (by simpa [frT] using HO4.out), HB4⟩
  case round =>
    obtain ⟨k, hk, rfl, HR, HO, HB⟩ := hrel
    clear HO4 HB4
    by_cases hlt : k < c
    · have hltI : (k : Int) < (c : Int) := by omega
      have HSW := hidden (HS.out.on (Nat.le_refl _) HB.out)
      have hkl : k < l.length := by rw [HL.out]; exact hlt
      have HAT := hidden (rsE_at l k hkl)
      have HTK := hidden (takeZ l k hkl)
      obtain ⟨b0, off0, hao, hc⟩ := HSW.out.at hlt
      subst hao
      have HN := hidden (rnumber_any (l.getD k 0) wr)
      have HKL : Hid ((X ++ frT (l.take k)).length = 8 + 4 * k) := hidden (by rw [List.length_append, HXL.out, frT_length, List.length_take, Nat.min_eq_left (Nat.le_of_lt hkl)])
      obtain ⟨y, hy⟩ : ∃ y, l.getD k 0 = y := ⟨_, rfl⟩
      rw [hy] at hc HN HAT HTK
      have HPV : Hid (∀ j, k = j + 1 → wr.cell? ⟨b0, off0 + j, none⟩ = some (.int .i64 (prvZ l k))) := hidden (fun j hj => by
        subst hj
        obtain ⟨b1, off1, e1, h1⟩ := HSW.out.at (i := j) (by omega)
        cases e1
        exact h1)
      clear hkl HSW hy
      by_cases hpg : isPg y
      · have hd : decide (isPg y) = true := by simpa using hpg
        rw [hd] at HN
        have hyb : 2 ≤ y ∧ y < 65536 := hpg
        by_cases hk0 : k = 0
        · subst hk0
          rw [Nat.add_zero] at hc
          have hkk : decide ((0 : Int) < ((0 : Nat) : Int)) = false := by decide
          have HAT2 : Hid (E = rsE (prvZ l 1) (l.drop 1)) := hidden (by rw [HR.out, HAT.out, if_pos hpg, if_neg (by show ¬ y ≤ 0; omega)])
          have hwy : IntKind.u64.wrap y = y := by rw [IntKind.wrap_u64]; omega
          clear hd hpg HAT HR HPV
          go_wp2_with (go_at_call 39; refine same_call HN.out ?_)
          go_quiet (fail)
          obtain ⟨wq, hwq⟩ : ∃ x, wr.drewN nq = x := ⟨_, rfl⟩
          have HOq : Hid (OwnB wq w.heap.size _ (X ++ frT (l.take 0))) := hidden (by rw [← hwq]; exact HO.out.on (Nat.le_refl _) (bl_dr (Below.refl _ _) nq))
          have HBq : Hid (Below w.heap.size w wq) := hidden (by rw [← hwq]; exact bl_dr HB.out nq)
          have hcq : wq.cell? ⟨b0, off0, none⟩ = some (.int .i64 y) := by rw [← hwq]; simpa using hc
          have HF3 := hidden (rfix y 4 (by omega) (by omega) (by omega) (by omega) wq)
          rw [hwq]
          clear hwq hc HO HB
          go_wp2_with (go_at_call 60; refine HF3.out.mono ?_; rintro e u1 ⟨fo3, fc3, rfl, HSF, HBF⟩; refine Hid.out ?_)
          apply hidden
          have HA3 := hidden (radd_fix HOq.out HBq.out.size HSF.out HBF.out (by rw [HKL.out]; omega))
          clear HF3
          go_wp2_with (go_at_call 61; refine HA3.out.mono ?_; rintro e u2 ⟨v5, rfl, HO5, HBc⟩; refine Hid.out ?_)
          apply hidden
          have HO6 : Hid (OwnB u2 w.heap.size v5 (X ++ frT (l.take (0 + 1)))) := hidden (by rw [HTK.out, frT_append, frT_one, ← List.append_assoc]; exact HO5.out)
          have HB6 : Hid (Below w.heap.size w u2) := hidden (HBq.out.trans HBc.out)
          clear HA3 HO5 HSF HBF HBc HOq HBq
          go_wp2
          go_roundw
          case rel => exact ⟨1, by omega, by go_num, HAT2, HO6, HB6⟩
          case measure => simp [RowKit.intOf]; omega
        · obtain ⟨j, hj⟩ : ∃ j, k = j + 1 := ⟨k - 1, by omega⟩
          have cj := HPV.out j hj
          have hkk : decide ((0 : Int) < (k : Int)) = true := by rw [decide_eq_true_eq]; omega
          have hk1 : (0 : Int) < (k : Int) := by omega
          have hk2 : decide (0 < k) = true := by rw [decide_eq_true_eq]; omega
          have hkj : (k : Int) - 1 = (j : Int) := by omega
          have hjc : j < c := by omega
          have hjI : (j : Int) < (c : Int) := by omega
          have hkI : (k : Int) ≤ 16384 := by omega
          clear HPV hk0 hj
          by_cases hyz : y ≤ prvZ l k
          · have HE63 : Hid (E = 63) := hidden (by rw [HR.out, HAT.out, if_pos hpg, if_pos hyz])
            have hyd : decide (y ≤ prvZ l k) = true := by simpa using hyz
            clear HAT HR hd hpg
            generalize prvZ l k = z at *
            go_wp2_with (go_at_call 39; refine same_call HN.out ?_)
            go_quiet (fail)
            go_wp2_with fail
            go_ret2
            exact ⟨none, 0, 0, by rw [HE63.out]; first | done | rfl, hidden (by rw [HXF.out, HE63.out, if_neg (by decide)]; exact OwnB.nil _ _), hidden (bl_dr HB.out _)⟩
          · have HAT2 : Hid (E = rsE (prvZ l (k + 1)) (l.drop (k + 1))) := hidden (by rw [HR.out, HAT.out, if_pos hpg, if_neg hyz])
            have hyd : decide (y ≤ prvZ l k) = false := by simpa using hyz
            have hwy : IntKind.u64.wrap y = y := by rw [IntKind.wrap_u64]; omega
            clear HAT HR hd hpg
            generalize prvZ l k = z at cj hyd hyz
            go_wp2_with (go_at_call 39; refine same_call HN.out ?_)
            go_quiet (fail)
            obtain ⟨wq, hwq⟩ : ∃ x, wr.drewN nq = x := ⟨_, rfl⟩
            have HOq : Hid (OwnB wq w.heap.size _ (X ++ frT (l.take k))) := hidden (by rw [← hwq]; exact HO.out.on (Nat.le_refl _) (bl_dr (Below.refl _ _) nq))
            have HBq : Hid (Below w.heap.size w wq) := hidden (by rw [← hwq]; exact bl_dr HB.out nq)
            have hcq : wq.cell? ⟨b0, off0 + k, none⟩ = some (.int .i64 y) := by rw [← hwq]; simpa using hc
            have HF3 := hidden (rfix y 4 (by omega) (by omega) (by omega) (by omega) wq)
            rw [hwq]
            clear hwq hc HO HB
            go_wp2_with (go_at_call 60; refine HF3.out.mono ?_; rintro e u1 ⟨fo3, fc3, rfl, HSF, HBF⟩; refine Hid.out ?_)
            apply hidden
            have HA3 := hidden (radd_fix HOq.out HBq.out.size HSF.out HBF.out (by rw [HKL.out]; omega))
            clear HF3
            go_wp2_with (go_at_call 61; refine HA3.out.mono ?_; rintro e u2 ⟨v5, rfl, HO5, HBc⟩; refine Hid.out ?_)
            apply hidden
            have HO6 : Hid (OwnB u2 w.heap.size v5 (X ++ frT (l.take (k + 1)))) := hidden (by rw [HTK.out, frT_append, frT_one, ← List.append_assoc]; exact HO5.out)
            have HB6 : Hid (Below w.heap.size w u2) := hidden (HBq.out.trans HBc.out)
            clear HA3 HO5 HSF HBF HBc HOq HBq
            go_wp2
            go_roundw
            case rel => exact ⟨k + 1, by omega, by go_num, HAT2, HO6, HB6⟩
            case measure => simp [RowKit.intOf]; omega
      · have hd : decide (isPg y) = false := by simpa using hpg
        rw [hd] at HN
        have HE30 : Hid (E = 30) := hidden (by rw [HR.out, HAT.out, if_neg hpg])
        clear HAT HR hd hpg HPV
        go_wp2_with (go_at_call 39; refine same_call HN.out ?_)
        go_ret2
        exact ⟨none, 0, 0, by rw [HE30.out]; first | done | rfl, hidden (by rw [HXF.out, HE30.out, if_neg (by decide)]; exact OwnB.nil _ _), HB⟩
    · obtain rfl : k = c := by omega
      have HE0 : Hid (E = 0) := hidden (by rw [HR.out, List.drop_eq_nil_of_le (by rw [HL.out]; exact Nat.le_refl _)]; rfl)
      have HTA : Hid (l.take k = l) := hidden (List.take_of_length_le (by rw [HL.out]; exact Nat.le_refl _))
      rw [HTA.out] at HO
      obtain ⟨Z, hZ⟩ : ∃ Z, X ++ frT l = Z := ⟨_, rfl⟩
      rw [hZ] at HO
      have HZL : Hid (Z.length = 8 + 4 * k) := hidden (by rw [← hZ, List.length_append, HXL.out, frT_length, HL.out])
      have HZW : Hid (Wf Z) := hidden (by rw [← hZ]; exact HXW.out.append (frT_wf l))
      have HZE : Hid (Z ++ zs (P - 12 - 4 * k) = frH 0 l P) := hidden (by
        rw [← hZ, HXE.out]
        unfold frH
        rw [HL.out]
        simp only [List.append_assoc])
      obtain ⟨yo, yc, hsh⟩ := own_shape2 HO.out
      subst hsh
      rw [HZL.out] at HO ⊢
      obtain ⟨pad, hpad⟩ : ∃ pad, P - 12 - 4 * k = pad := ⟨_, rfl⟩
      rw [hpad] at HZE
      clear hZ HR HE HTA
      go_wp2_with fail
      go_loopw [11] (fun v wr => ∃ (j : Nat) (vo : Option Addr) (vc : Nat), j ≤ pad ∧ v = .slice vo (8 + 4 * k + j) vc ∧ Hid (OwnB wr w.heap.size (.slice vo (8 + 4 * k + j) vc) (Z ++ zs j)) ∧ Hid (Below w.heap.size w wr)) (fun v _ => P - lnOf v)
      case atStart => exact ⟨0, yo, yc, by omega, rfl, hidden (by simpa [zs] using HO.out), HB⟩
      case round =>
        clear HO HB
        rename_i wr0 wr
        obtain ⟨j, vo, vc, hj, rfl, HO, HB⟩ := hrel
        obtain ⟨m, hm⟩ : ∃ m, 8 + 4 * k + j = m := ⟨_, rfl⟩
        have HXZ : Hid ((Z ++ zs j).length = m) := hidden (by rw [List.length_append, HZL.out, zs_length, hm])
        obtain ⟨Y, hY⟩ : ∃ Y, Z ++ zs j = Y := ⟨_, rfl⟩
        have HYE := hidden hY
        have HYW : Hid (Wf Y) := hidden (by rw [← hY]; exact HZW.out.append (zs_wf j))
        rw [hY] at HXZ HO
        rw [hm] at HO ⊢
        clear hY
        by_cases hlt : j < pad
        · have hltI : (m : Int) < (P : Int) - 4 := by omega
          obtain ⟨x, hx⟩ : ∃ x, wr.alloc (.cells #[.int .u8 0] 5) = x := ⟨_, rfl⟩
          have hbx : Below wr.heap.size wr x := by rw [← hx]; exact bl_al (Below.refl _ _) (Nat.le_refl _) _
          have HSX : Hid (Sl x (some ⟨wr.heap.size, 0, none⟩) 1 1 [0]) := hidden (by rw [← hx]; exact sl_one wr 0 (by omega))
          have HOX := hidden (HO.out.on (Nat.le_refl _) hbx)
          have hxs : w.heap.size ≤ x.heap.size := Nat.le_trans HB.out.size hbx.size
          have HBX := hidden (bl_go HB.out (Nat.le_refl _) hbx)
          have hmb : m + 1 ≤ 140737488355328 := by omega
          clear hbx
          go_wp2_with (at_builtin; refine app_sl _ rfl _ _ rfl w.heap.size Y [0] _ (some ⟨wr.heap.size, 0, none⟩) 1 1 rfl rfl HOX.out HSX.out (by rw [HXZ.out]; exact hmb) hxs ?_; refine Hid.out ?_)
          apply hidden
          intro v' w' ho hg
          have HB2 : Hid (Below w.heap.size w w') := hidden (HBX.out.trans (hg.below HOX.out hxs))
          obtain ⟨vo2, vc2, hsh⟩ := own_shape2 ho
          subst hsh
          have hl2 : (Y ++ [0]).length = m + 1 := by rw [List.length_append, HXZ.out]; rfl
          rw [hl2] at ho ⊢
          have HO2 : Hid (OwnB w' w.heap.size (.slice vo2 (8 + 4 * k + (j + 1)) vc2) (Z ++ zs (j + 1))) := hidden (by
            rw [show 8 + 4 * k + (j + 1) = m + 1 by omega, show zs (j + 1) = zs j ++ [0] from zs_add j 1, ← List.append_assoc, HYE.out]
            exact ho)
          clear ho hg hx HOX HSX
          go_wp2
          go_roundw
          case rel => exact ⟨j + 1, vo2, vc2, by omega, by rw [show 8 + 4 * k + (j + 1) = m + 1 by omega], HO2, HB2⟩
          case measure => simp [lnOf]; omega
        · have hltI : ¬ (m : Int) < (P : Int) - 4 := by omega
          have HH : Hid (Y = frH 0 l P) := hidden (by rw [← HYE.out, ← HZE.out, show j = pad by omega])
          have HSH : Hid (Sl wr vo m vc Y) := hidden (HO.out.sl2 HYW.out (by rw [HXZ.out]; omega))
          have HSUM := hidden (rSumOf_any vo m vc Y wr HSH.out)
          have hs32 := sumN_lt Y HYW.out
          obtain ⟨SN, hS⟩ : ∃ SN, sumN [Y] = SN := ⟨_, rfl⟩
          rw [hS] at hs32 HSUM
          have HSS := hidden hS
          have hws : IntKind.u64.wrap ((SN : Nat) : Int) = (SN : Int) := by rw [IntKind.wrap_u64]; omega
          have HF4 := hidden (rfix (SN : Int) 4 (by omega) (by omega) (by omega) (by omega) wr)
          clear hS HSH
          go_wp2_with (first
            | (go_at_call 62; refine same_call HSUM.out ?_)
            | (go_at_call 60; refine HF4.out.mono ?_; rintro e w6 ⟨fo3, fc3, rfl, HSF, HBF⟩; refine Hid.out ?_))
          apply hidden
          have HA4 := hidden (radd_fix HO.out HB.out.size HSF.out HBF.out (by rw [HXZ.out]; omega))
          clear HF4 HSUM
          go_wp2_with (go_at_call 61; refine HA4.out.mono ?_; rintro e w7 ⟨v7, rfl, HO7, HBd⟩; refine Hid.out ?_)
          apply hidden
          have HB7 : Hid (Below w.heap.size w w7) := hidden (HB.out.trans HBd.out)
          obtain ⟨ro, rc, hsh⟩ := own_shape2 HO7.out
          subst hsh
          have HP7 : Hid (Y ++ fB 4 (SN : Int) = frB 0 l P) := hidden (by
            unfold frB sealB
            rw [← HH.out, HSS.out])
          have HS7 : Hid (OwnB w7 w.heap.size (.slice ro (Y ++ fB 4 (SN : Int)).length rc) (frB 0 l P)) := hidden (by
            have h := HO7.out
            rw [HP7.out] at h ⊢
            exact h)
          obtain ⟨rn, hrn⟩ : ∃ rn, (Y ++ fB 4 (SN : Int)).length = rn := ⟨_, rfl⟩
          rw [hrn] at HS7 ⊢
          clear HA4 HO7 hrn
          go_wp2
          go_ret2
          exact ⟨ro, rn, rc, by rw [HE0.out]; first | done | rfl, hidden (by rw [HXF.out, HE0.out, if_pos rfl]; exact HS7.out), HB7⟩
set_option maxRecDepth 100000 in
set_option maxHeartbeats 8000000 in
theorem renc_any (n p : Int) (ao : Option Addr) (c cap : Nat) (l : List Int) (w : World) (hs : SlZ w ao c cap l) :
    Calls Tryd.prog 20 #[.int .i64 n, .slice ao c cap, .int .i64 p] w fun e w' => ∃ ro rn rc, e = .returned (.tuple #[.slice ro rn rc, .int .i64 (frE n l p)]) ∧ Hid (OwnB w' w.heap.size (.slice ro rn rc) (frL n l p)) ∧ Hid (Below w.heap.size w w') := by
  have HSZ := hidden (rsz_any p w)
  have HNU := hidden (rnumber_any n w)
  have HRM := hidden (rroom_any p w)
  have HL := hidden hs.hlen
  have hbig := hs.hbig
  have HS := hidden hs
  clear hs
  cases hp : pwb p with
  | false =>
    have HE : Hid (frE n l p = 1) := hidden (by unfold frE; rw [hp]; rfl)
    have HF : Hid (frL n l p = []) := hidden (by unfold frL; rw [HE.out]; rfl)
    rw [HE.out, HF.out]
    rw [hp] at HSZ
    clear hp
    go_enter Tryd.func20, Tryd.ntmps20
    go_wp2_with (go_at_call 59; refine same_call HSZ.out ?_)
    go_ret2
    exact ⟨_, _, _, rfl, hidden (OwnB.nil _ _), hidden (Below.refl _ _)⟩
  | true =>
    have hpl := pwb_le hp
    have HRV : Hid (roomN p = (p - 12) / 4) := hidden (by unfold roomN; rw [hp]; rfl)
    rw [HRV.out] at HRM
    rw [hp] at HSZ
    by_cases hn : n ≠ 0 ∧ ¬ isPg n
    · have HE : Hid (frE n l p = 30) := hidden (by unfold frE; rw [hp, if_pos rfl, if_pos hn])
      have HF : Hid (frL n l p = []) := hidden (by unfold frL; rw [HE.out]; rfl)
      rw [HE.out, HF.out]
      have hd : decide (isPg n) = false := by simpa using hn.2
      rw [hd] at HNU
      have h1 := hn.1
      have h2 : ¬ n = 0 := h1
      clear hp hd hn h1
      go_enter Tryd.func20, Tryd.ntmps20
      go_wp2_with (first
        | (go_at_call 59; refine same_call HSZ.out ?_)
        | (go_at_call 39; refine same_call HNU.out ?_))
      go_ret2
      exact ⟨_, _, _, rfl, hidden (OwnB.nil _ _), hidden (Below.refl _ _)⟩
    · have hn0 : n = 0 ∨ isPg n := by by_cases h : n = 0; exact .inl h; by_cases h2 : isPg n; exact .inr h2; exact absurd ⟨h, h2⟩ hn
      have hnb : 0 ≤ n ∧ n < 65536 := by unfold isPg at hn0; omega
      by_cases hr : (p - 12) / 4 < (c : Int)
      · have HE : Hid (frE n l p = 2) := hidden (by unfold frE; rw [hp, if_pos rfl, if_neg hn, if_pos (by rw [HL.out]; exact hr)])
        have HF : Hid (frL n l p = []) := hidden (by unfold frL; rw [HE.out]; rfl)
        rw [HE.out, HF.out]
        clear hp hn
        rcases hn0 with rfl | hn1
        · have hd : decide (isPg 0) = false := by decide
          rw [hd] at HNU
          go_enter Tryd.func20, Tryd.ntmps20
          go_wp2_with (first
            | (go_at_call 59; refine same_call HSZ.out ?_)
            | (go_at_call 39; refine same_call HNU.out ?_)
            | (go_at_call 26; refine same_call HRM.out ?_))
          go_ret2
          exact ⟨_, _, _, rfl, hidden (OwnB.nil _ _), hidden (Below.refl _ _)⟩
        · have hd : decide (isPg n) = true := by simpa using hn1
          rw [hd] at HNU
          have h2 : ¬ n = 0 := by unfold isPg at hn1; omega
          clear hd hn1
          go_enter Tryd.func20, Tryd.ntmps20
          go_wp2_with (first
            | (go_at_call 59; refine same_call HSZ.out ?_)
            | (go_at_call 39; refine same_call HNU.out ?_)
            | (go_at_call 26; refine same_call HRM.out ?_))
          go_ret2
          exact ⟨_, _, _, rfl, hidden (OwnB.nil _ _), hidden (Below.refl _ _)⟩
      · have hcp : (c : Int) ≤ (p - 12) / 4 := by omega
        obtain ⟨P, hP⟩ : ∃ P : Nat, p = (P : Int) := ⟨p.toNat, by omega⟩
        subst hP
        have HE : Hid (frE n l (P : Int) = rsE 0 l) := hidden (by unfold frE; rw [hp, if_pos rfl, if_neg hn, if_neg (by rw [HL.out]; exact hr)])
        have HF : Hid (frL n l (P : Int) = if rsE 0 l = 0 then frB n l P else []) := hidden (by unfold frL; rw [HE.out, Int.toNat_natCast])
        rw [HE.out, HF.out]
        rcases hn0 with hn0 | hn0
        · subst hn0
          exact renc_pg_z P ao c cap l w HS.out hp hcp
        · exact renc_pg_n n P ao c cap l w HS.out hp hn0 hcp
end Go.Proofs.YtehcemefhgebpaaDoor
