/- The document's Encode of a list's page: every answer. -/
import Derived.Test.YtehcemefhgebpaaDoorJb
import Derived.Test.YtehcemefhgebpaaDoorFixed
import Derived.Test.YtehcemefhgebpaaDoorVf
import Derived.Test.YtehcemefhgebpaaDoorVg
import Derived.Test.YtehcemefhgebpaaDoorSame
import Derived.Test.YtehcemefhgebpaaDoorUb
import Derived.Deep.OwnRows
import Derived.Laws.CopyOwn
import Derived.Deep.QuietTactic
import Derived.BigQuiet
namespace Go.Proofs.YtehcemefhgebpaaDoor
open Go.RowKit

/-- The page ahead, or 0. -/
def prvZ (l : List Int) : Nat → Int
  | 0 => 0
  | k + 1 => l.getD k 0
set_option maxRecDepth 100000 in
theorem rsE_at (l : List Int) (k : Nat) (hk : k < l.length) : rsE (prvZ l k) (l.drop k) = if isPg (l.getD k 0) then (if l.getD k 0 ≤ prvZ l k then 63 else rsE (prvZ l (k + 1)) (l.drop (k + 1))) else 30 := by
  have e : l.drop k = l.getD k 0 :: l.drop (k + 1) := by
    rw [List.drop_eq_getElem_cons hk, List.getD, List.getElem?_eq_getElem hk]
    rfl
  rw [e]
  rfl
set_option maxRecDepth 100000 in
theorem rnil (u : World) : Sl u none 0 0 [] := ⟨rfl, Nat.le_refl _, by omega, Wf.nil, fun _ => rfl, .inl rfl⟩
set_option maxRecDepth 100000 in
set_option maxHeartbeats 16000000 in
theorem renc_pg_n (n : Int) (P : Nat) (ao : Option Addr) (c cap : Nat) (l : List Int) (w : World) (hs : SlZ w ao c cap l) (hp : pwb (P : Int) = true) (hn1 : isPg n) (hr : (c : Int) ≤ ((P : Int) - 12) / 4) :
    Calls Tryd.prog 20 #[.int .i64 n, .slice ao c cap, .int .i64 (P : Int)] w fun e w' => ∃ ro rn rc, e = .returned (.tuple #[.slice ro rn rc, .int .i64 (rsE 0 l)]) ∧ Hid (OwnB w' w.heap.size (.slice ro rn rc) (if rsE 0 l = 0 then frB n l P else [])) ∧ Hid (Below w.heap.size w w') := by
  have HSZ := hidden (rsz_any (P : Int) w)
  have HNU := hidden (rnumber_any n w)
  have HRM := hidden (rroom_any (P : Int) w)
  have HL := hidden hs.hlen
  have hbig := hs.hbig
  have HS := hidden hs
  have hpl := pwb_le hp
  have HRV : Hid (roomN (P : Int) = ((P : Int) - 12) / 4) := hidden (by unfold roomN; rw [hp]; rfl)
  rw [HRV.out] at HRM
  rw [hp] at HSZ
  have hd : decide (isPg n) = true := by simpa using hn1
  rw [hd] at HNU
  have h2 : ¬ n = 0 := by unfold isPg at hn1; omega
  have hnb : 2 ≤ n ∧ n < 65536 := hn1
  clear hd hn1
  have hP0 : 512 ≤ P ∧ P ≤ 65536 := by omega
  have hPI : (P : Int) ≤ 65536 := by omega
  have hcP : 12 + 4 * c ≤ P := by omega
  have hcI : (c : Int) ≤ 16384 := by omega
  have hrd : decide (((P : Int) - 12) / 4 < (c : Int)) = false := by simp; omega
  have hwc : IntKind.u64.wrap (c : Int) = (c : Int) := by rw [IntKind.wrap_u64]; omega
  have hwn : IntKind.u64.wrap n = n := by rw [IntKind.wrap_u64]; omega
  obtain ⟨E, hE⟩ : ∃ E, rsE 0 l = E := ⟨_, rfl⟩
  have HE := hidden hE
  obtain ⟨XF, hXF⟩ : ∃ XF, (if rsE 0 l = 0 then frB n l P else []) = XF := ⟨_, rfl⟩
  rw [hXF]
  have HXF : Hid (XF = if E = 0 then frB n l P else []) := hidden (by rw [← hXF, hE])
  rw [hE]
  clear hXF
  obtain ⟨x, hx⟩ : ∃ x, w.alloc (.cells #[.int .u8 5, .int .u8 0] 5) = x := ⟨_, rfl⟩
  have hbx : Below w.heap.size w x := by rw [← hx]; exact bl_al (Below.refl _ _) (Nat.le_refl _) _
  have HO0 : Hid (OwnB x w.heap.size (.slice (some ⟨w.heap.size, 0, none⟩) 2 2) [5, 0]) := hidden (own_of_heap (l := [5, 0]) (by rw [← hx]; exact heap_alloc_last w _) (Nat.le_refl _) (by decide))
  have HBX := hidden hbx
  have HF1 := hidden (rfix (c : Int) 2 (by omega) (by omega) (by omega) (by omega) x)
  clear hs hp hbx hE
  go_enter Tryd.func20, Tryd.ntmps20
  go_wp2_with (first
    | (go_at_call 59; refine same_call HSZ.out ?_)
    | (go_at_call 39; refine same_call HNU.out ?_)
    | (go_at_call 26; refine same_call HRM.out ?_)
    | (go_at_call 60; refine HF1.out.mono ?_; rintro e w1 ⟨fo, fc, rfl, HSF, HBF⟩; refine Hid.out ?_))
  apply hidden
  have HA1 := hidden (radd_fix HO0.out HBX.out.size HSF.out HBF.out (by simp))
  have HB1 := hidden (bl_go HBX.out (Nat.le_refl _) HBF.out)
  clear HF1 HSZ HNU HRM HRV
  go_wp2_with (go_at_call 61; refine HA1.out.mono ?_; rintro e w2 ⟨v2, rfl, HO2, HBa⟩; refine Hid.out ?_)
  apply hidden
  have HB2 : Hid (Below w.heap.size w w2) := hidden (HBX.out.trans HBa.out)
  have HF2 := hidden (rfix n 4 (by omega) (by omega) (by omega) (by omega) w2)
  obtain ⟨X1, hX1⟩ : ∃ X, ([5, 0] : List Int) ++ fB 2 (c : Int) = X := ⟨_, rfl⟩
  rw [hX1] at HO2
  have HX1L : Hid (X1.length = 4) := hidden (by rw [← hX1]; simp [fB_length])
  have HX1 := hidden hX1
  clear HA1 HO0 HSF HBF HB1 HBX hx hX1
  go_wp2_with (go_at_call 60; refine HF2.out.mono ?_; rintro e w3 ⟨fo2, fc2, rfl, HSF, HBF⟩; refine Hid.out ?_)
  apply hidden
  have HA2 := hidden (radd_fix HO2.out HB2.out.size HSF.out HBF.out (by rw [HX1L.out]; omega))
  clear HF2
  go_wp2_with (go_at_call 61; refine HA2.out.mono ?_; rintro e w4 ⟨v4, rfl, HO4, HBb⟩; refine Hid.out ?_)
  apply hidden
  have HB4 : Hid (Below w.heap.size w w4) := hidden (HB2.out.trans HBb.out)
  obtain ⟨X, hX⟩ : ∃ X, X1 ++ fB 4 n = X := ⟨_, rfl⟩
  rw [hX] at HO4
  have HXL : Hid (X.length = 8) := hidden (by rw [← hX, List.length_append, HX1L.out, fB_length])
  have HXE : Hid (X = [5, 0] ++ (fB 2 (c : Int) ++ fB 4 n)) := hidden (by rw [← hX, ← HX1.out, List.append_assoc])
  have HXW : Hid (Wf X) := hidden (by rw [HXE.out]; exact head5_wf.append ((fB_wf _ _).append (fB_wf _ _)))
  clear HA2 HO2 HSF HBF HB2 HBa HBb hX HX1 HX1L
  go_wp2_with fail
  go_loopw [11, 14] (fun b i wr => ∃ k : Nat, k ≤ c ∧ i = .int .i64 (k : Int) ∧ Hid (E = rsE (prvZ l k) (l.drop k)) ∧ Hid (OwnB wr w.heap.size b (X ++ frT (l.take k))) ∧ Hid (Below w.heap.size w wr)) (fun _ i _ => c - (RowKit.intOf i).toNat)
  case atStart => exact ⟨0, by omega, rfl, hidden (by rw [← HE.out]; rfl), hidden (by simpa [frT] using HO4.out), HB4⟩
  case round =>
    obtain ⟨k, hk, rfl, HR, HO, HB⟩ := hrel
    clear HO4 HB4
    by_cases hlt : k < c
    · have hltI : (k : Int) < (c : Int) := by omega
      have HSW := hidden (HS.out.on (Nat.le_refl _) HB.out)
      have hkl : k < l.length := by rw [HL.out]; exact hlt
      have HAT := hidden (rsE_at l k hkl)
      have HTK := hidden (takeZ l k hkl)
      obtain ⟨b0, off0, hao, hc⟩ := HSW.out.at hlt
      subst hao
      have HN := hidden (rnumber_any (l.getD k 0) wr)
      have HKL : Hid ((X ++ frT (l.take k)).length = 8 + 4 * k) := hidden (by rw [List.length_append, HXL.out, frT_length, List.length_take, Nat.min_eq_left (Nat.le_of_lt hkl)])
      obtain ⟨y, hy⟩ : ∃ y, l.getD k 0 = y := ⟨_, rfl⟩
      rw [hy] at hc HN HAT HTK
      have HPV : Hid (∀ j, k = j + 1 → wr.cell? ⟨b0, off0 + j, none⟩ = some (.int .i64 (prvZ l k))) := hidden (fun j hj => by
        subst hj
        obtain ⟨b1, off1, e1, h1⟩ := HSW.out.at (i := j) (by omega)
        cases e1
        exact h1)
      clear hkl HSW hy
      by_cases hpg : isPg y
      · have hd : decide (isPg y) = true := by simpa using hpg
        rw [hd] at HN
        have hyb : 2 ≤ y ∧ y < 65536 := hpg
        by_cases hk0 : k = 0
        · subst hk0
          rw [Nat.add_zero] at hc
          have hkk : decide ((0 : Int) < ((0 : Nat) : Int)) = false := by decide
          have HAT2 : Hid (E = rsE (prvZ l 1) (l.drop 1)) := hidden (by rw [HR.out, HAT.out, if_pos hpg, if_neg (by show ¬ y ≤ 0; omega)])
          have hwy : IntKind.u64.wrap y = y := by rw [IntKind.wrap_u64]; omega
          clear hd hpg HAT HR HPV
          go_wp2_with (go_at_call 39; refine same_call HN.out ?_)
          go_quiet (fail)
          obtain ⟨wq, hwq⟩ : ∃ x, wr.drewN nq = x := ⟨_, rfl⟩
          have HOq : Hid (OwnB wq w.heap.size _ (X ++ frT (l.take 0))) := hidden (by rw [← hwq]; exact HO.out.on (Nat.le_refl _) (bl_dr (Below.refl _ _) nq))
          have HBq : Hid (Below w.heap.size w wq) := hidden (by rw [← hwq]; exact bl_dr HB.out nq)
          have hcq : wq.cell? ⟨b0, off0, none⟩ = some (.int .i64 y) := by rw [← hwq]; simpa using hc
          have HF3 := hidden (rfix y 4 (by omega) (by omega) (by omega) (by omega) wq)
          rw [hwq]
          clear hwq hc HO HB
          go_wp2_with (go_at_call 60; refine HF3.out.mono ?_; rintro e u1 ⟨fo3, fc3, rfl, HSF, HBF⟩; refine Hid.out ?_)
          apply hidden
          have HA3 := hidden (radd_fix HOq.out HBq.out.size HSF.out HBF.out (by rw [HKL.out]; omega))
          clear HF3
          go_wp2_with (go_at_call 61; refine HA3.out.mono ?_; rintro e u2 ⟨v5, rfl, HO5, HBc⟩; refine Hid.out ?_)
          apply hidden
          have HO6 : Hid (OwnB u2 w.heap.size v5 (X ++ frT (l.take (0 + 1)))) := hidden (by rw [HTK.out, frT_append, frT_one, ← List.append_assoc]; exact HO5.out)
          have HB6 : Hid (Below w.heap.size w u2) := hidden (HBq.out.trans HBc.out)
          clear HA3 HO5 HSF HBF HBc HOq HBq
          go_wp2
          go_roundw
          case rel => exact ⟨1, by omega, by go_num, HAT2, HO6, HB6⟩
          case measure => simp [RowKit.intOf]; omega
        · obtain ⟨j, hj⟩ : ∃ j, k = j + 1 := ⟨k - 1, by omega⟩
          have cj := HPV.out j hj
          have hkk : decide ((0 : Int) < (k : Int)) = true := by rw [decide_eq_true_eq]; omega
          have hk1 : (0 : Int) < (k : Int) := by omega
          have hk2 : decide (0 < k) = true := by rw [decide_eq_true_eq]; omega
          have hkj : (k : Int) - 1 = (j : Int) := by omega
          have hjc : j < c := by omega
          have hjI : (j : Int) < (c : Int) := by omega
          have hkI : (k : Int) ≤ 16384 := by omega
          clear HPV hk0 hj
          by_cases hyz : y ≤ prvZ l k
          · have HE63 : Hid (E = 63) := hidden (by rw [HR.out, HAT.out, if_pos hpg, if_pos hyz])
            have hyd : decide (y ≤ prvZ l k) = true := by simpa using hyz
            clear HAT HR hd hpg
            generalize prvZ l k = z at *
            go_wp2_with (go_at_call 39; refine same_call HN.out ?_)
            go_quiet (fail)
            go_wp2_with fail
            go_ret2
            exact ⟨none, 0, 0, by rw [HE63.out]; first | done | rfl, hidden (by rw [HXF.out, HE63.out, if_neg (by decide)]; exact OwnB.nil _ _), hidden (bl_dr HB.out _)⟩
          · have HAT2 : Hid (E = rsE (prvZ l (k + 1)) (l.drop (k + 1))) := hidden (by rw [HR.out, HAT.out, if_pos hpg, if_neg hyz])
            have hyd : decide (y ≤ prvZ l k) = false := by simpa using hyz
            have hwy : IntKind.u64.wrap y = y := by rw [IntKind.wrap_u64]; omega
            clear HAT HR hd hpg
            generalize prvZ l k = z at cj hyd hyz
            go_wp2_with (go_at_call 39; refine same_call HN.out ?_)
            go_quiet (fail)
            obtain ⟨wq, hwq⟩ : ∃ x, wr.drewN nq = x := ⟨_, rfl⟩
            have HOq : Hid (OwnB wq w.heap.size _ (X ++ frT (l.take k))) := hidden (by rw [← hwq]; exact HO.out.on (Nat.le_refl _) (bl_dr (Below.refl _ _) nq))
            have HBq : Hid (Below w.heap.size w wq) := hidden (by rw [← hwq]; exact bl_dr HB.out nq)
            have hcq : wq.cell? ⟨b0, off0 + k, none⟩ = some (.int .i64 y) := by rw [← hwq]; simpa using hc
            have HF3 := hidden (rfix y 4 (by omega) (by omega) (by omega) (by omega) wq)
            rw [hwq]
            clear hwq hc HO HB
            go_wp2_with (go_at_call 60; refine HF3.out.mono ?_; rintro e u1 ⟨fo3, fc3, rfl, HSF, HBF⟩; refine Hid.out ?_)
            apply hidden
            have HA3 := hidden (radd_fix HOq.out HBq.out.size HSF.out HBF.out (by rw [HKL.out]; omega))
            clear HF3
            go_wp2_with (go_at_call 61; refine HA3.out.mono ?_; rintro e u2 ⟨v5, rfl, HO5, HBc⟩; refine Hid.out ?_)
            apply hidden
            have HO6 : Hid (OwnB u2 w.heap.size v5 (X ++ frT (l.take (k + 1)))) := hidden (by rw [HTK.out, frT_append, frT_one, ← List.append_assoc]; exact HO5.out)
            have HB6 : Hid (Below w.heap.size w u2) := hidden (HBq.out.trans HBc.out)
            clear HA3 HO5 HSF HBF HBc HOq HBq
            go_wp2
            go_roundw
            case rel => exact ⟨k + 1, by omega, by go_num, HAT2, HO6, HB6⟩
            case measure => simp [RowKit.intOf]; omega
      · have hd : decide (isPg y) = false := by simpa using hpg
        rw [hd] at HN
        have HE30 : Hid (E = 30) := hidden (by rw [HR.out, HAT.out, if_neg hpg])
        clear HAT HR hd hpg HPV
        go_wp2_with (go_at_call 39; refine same_call HN.out ?_)
        go_ret2
        exact ⟨none, 0, 0, by rw [HE30.out]; first | done | rfl, hidden (by rw [HXF.out, HE30.out, if_neg (by decide)]; exact OwnB.nil _ _), HB⟩
    · obtain rfl : k = c := by omega
      have HE0 : Hid (E = 0) := hidden (by rw [HR.out, List.drop_eq_nil_of_le (by rw [HL.out]; exact Nat.le_refl _)]; rfl)
      have HTA : Hid (l.take k = l) := hidden (List.take_of_length_le (by rw [HL.out]; exact Nat.le_refl _))
      rw [HTA.out] at HO
      obtain ⟨Z, hZ⟩ : ∃ Z, X ++ frT l = Z := ⟨_, rfl⟩
      rw [hZ] at HO
      have HZL : Hid (Z.length = 8 + 4 * k) := hidden (by rw [← hZ, List.length_append, HXL.out, frT_length, HL.out])
      have HZW : Hid (Wf Z) := hidden (by rw [← hZ]; exact HXW.out.append (frT_wf l))
      have HZE : Hid (Z ++ zs (P - 12 - 4 * k) = frH n l P) := hidden (by
        rw [← hZ, HXE.out]
        unfold frH
        rw [HL.out]
        simp only [List.append_assoc])
      obtain ⟨yo, yc, hsh⟩ := own_shape2 HO.out
      subst hsh
      rw [HZL.out] at HO ⊢
      obtain ⟨pad, hpad⟩ : ∃ pad, P - 12 - 4 * k = pad := ⟨_, rfl⟩
      rw [hpad] at HZE
      clear hZ HR HE HTA
      go_wp2_with fail
      go_loopw [11] (fun v wr => ∃ (j : Nat) (vo : Option Addr) (vc : Nat), j ≤ pad ∧ v = .slice vo (8 + 4 * k + j) vc ∧ Hid (OwnB wr w.heap.size (.slice vo (8 + 4 * k + j) vc) (Z ++ zs j)) ∧ Hid (Below w.heap.size w wr)) (fun v _ => P - lnOf v)
      case atStart => exact ⟨0, yo, yc, by omega, rfl, hidden (by simpa [zs] using HO.out), HB⟩
      case round =>
        clear HO HB
        rename_i wr0 wr
        obtain ⟨j, vo, vc, hj, rfl, HO, HB⟩ := hrel
        obtain ⟨m, hm⟩ : ∃ m, 8 + 4 * k + j = m := ⟨_, rfl⟩
        have HXZ : Hid ((Z ++ zs j).length = m) := hidden (by rw [List.length_append, HZL.out, zs_length, hm])
        obtain ⟨Y, hY⟩ : ∃ Y, Z ++ zs j = Y := ⟨_, rfl⟩
        have HYE := hidden hY
        have HYW : Hid (Wf Y) := hidden (by rw [← hY]; exact HZW.out.append (zs_wf j))
        rw [hY] at HXZ HO
        rw [hm] at HO ⊢
        clear hY
        by_cases hlt : j < pad
        · have hltI : (m : Int) < (P : Int) - 4 := by omega
          obtain ⟨x, hx⟩ : ∃ x, wr.alloc (.cells #[.int .u8 0] 5) = x := ⟨_, rfl⟩
          have hbx : Below wr.heap.size wr x := by rw [← hx]; exact bl_al (Below.refl _ _) (Nat.le_refl _) _
          have HSX : Hid (Sl x (some ⟨wr.heap.size, 0, none⟩) 1 1 [0]) := hidden (by rw [← hx]; exact sl_one wr 0 (by omega))
          have HOX := hidden (HO.out.on (Nat.le_refl _) hbx)
          have hxs : w.heap.size ≤ x.heap.size := Nat.le_trans HB.out.size hbx.size
          have HBX := hidden (bl_go HB.out (Nat.le_refl _) hbx)
          have hmb : m + 1 ≤ 140737488355328 := by omega
          clear hbx
          go_wp2_with (at_builtin; refine app_sl _ rfl _ _ rfl w.heap.size Y [0] _ (some ⟨wr.heap.size, 0, none⟩) 1 1 rfl rfl HOX.out HSX.out (by rw [HXZ.out]; exact hmb) hxs ?_; refine Hid.out ?_)
          apply hidden
          intro v' w' ho hg
          have HB2 : Hid (Below w.heap.size w w') := hidden (HBX.out.trans (hg.below HOX.out hxs))
          obtain ⟨vo2, vc2, hsh⟩ := own_shape2 ho
          subst hsh
          have hl2 : (Y ++ [0]).length = m + 1 := by rw [List.length_append, HXZ.out]; rfl
          rw [hl2] at ho ⊢
          have HO2 : Hid (OwnB w' w.heap.size (.slice vo2 (8 + 4 * k + (j + 1)) vc2) (Z ++ zs (j + 1))) := hidden (by
            rw [show 8 + 4 * k + (j + 1) = m + 1 by omega, show zs (j + 1) = zs j ++ [0] from zs_add j 1, ← List.append_assoc, HYE.out]
            exact ho)
          clear ho hg hx HOX HSX
          go_wp2
          go_roundw
          case rel => exact ⟨j + 1, vo2, vc2, by omega, by rw [show 8 + 4 * k + (j + 1) = m + 1 by omega], HO2, HB2⟩
          case measure => simp [lnOf]; omega
        · have hltI : ¬ (m : Int) < (P : Int) - 4 := by omega
          have HH : Hid (Y = frH n l P) := hidden (by rw [← HYE.out, ← HZE.out, show j = pad by omega])
          have HSH : Hid (Sl wr vo m vc Y) := hidden (HO.out.sl2 HYW.out (by rw [HXZ.out]; omega))
          have HSUM := hidden (rSumOf_any vo m vc Y wr HSH.out)
          have hs32 := sumN_lt Y HYW.out
          obtain ⟨SN, hS⟩ : ∃ SN, sumN [Y] = SN := ⟨_, rfl⟩
          rw [hS] at hs32 HSUM
          have HSS := hidden hS
          have hws : IntKind.u64.wrap ((SN : Nat) : Int) = (SN : Int) := by rw [IntKind.wrap_u64]; omega
          have HF4 := hidden (rfix (SN : Int) 4 (by omega) (by omega) (by omega) (by omega) wr)
          clear hS HSH
          go_wp2_with (first
            | (go_at_call 62; refine same_call HSUM.out ?_)
            | (go_at_call 60; refine HF4.out.mono ?_; rintro e w6 ⟨fo3, fc3, rfl, HSF, HBF⟩; refine Hid.out ?_))
          apply hidden
          have HA4 := hidden (radd_fix HO.out HB.out.size HSF.out HBF.out (by rw [HXZ.out]; omega))
          clear HF4 HSUM
          go_wp2_with (go_at_call 61; refine HA4.out.mono ?_; rintro e w7 ⟨v7, rfl, HO7, HBd⟩; refine Hid.out ?_)
          apply hidden
          have HB7 : Hid (Below w.heap.size w w7) := hidden (HB.out.trans HBd.out)
          obtain ⟨ro, rc, hsh⟩ := own_shape2 HO7.out
          subst hsh
          have HP7 : Hid (Y ++ fB 4 (SN : Int) = frB n l P) := hidden (by
            unfold frB sealB
            rw [← HH.out, HSS.out])
          have HS7 : Hid (OwnB w7 w.heap.size (.slice ro (Y ++ fB 4 (SN : Int)).length rc) (frB n l P)) := hidden (by
            have h := HO7.out
            rw [HP7.out] at h ⊢
            exact h)
          obtain ⟨rn, hrn⟩ : ∃ rn, (Y ++ fB 4 (SN : Int)).length = rn := ⟨_, rfl⟩
          rw [hrn] at HS7 ⊢
          clear HA4 HO7 hrn
          go_wp2
          go_ret2
          exact ⟨ro, rn, rc, by rw [HE0.out]; first | done | rfl, hidden (by rw [HXF.out, HE0.out, if_pos rfl]; exact HS7.out), HB7⟩
set_option maxRecDepth 100000 in
set_option maxHeartbeats 16000000 in
theorem renc_pg_z (P : Nat) (ao : Option Addr) (c cap : Nat) (l : List Int) (w : World) (hs : SlZ w ao c cap l) (hp : pwb (P : Int) = true) (hr : (c : Int) ≤ ((P : Int) - 12) / 4) :
    Calls Tryd.prog 20 #[.int .i64 0, .slice ao c cap, .int .i64 (P : Int)] w fun e w' => ∃ ro rn rc, e = .returned (.tuple #[.slice ro rn rc, .int .i64 (rsE 0 l)]) ∧ Hid (OwnB w' w.heap.size (.slice ro rn rc) (if rsE 0 l = 0 then frB 0 l P else [])) ∧ Hid (Below w.heap.size w w') := by
  have HSZ := hidden (rsz_any (P : Int) w)
  have HNU := hidden (rnumber_any 0 w)
  have HRM := hidden (rroom_any (P : Int) w)
  have HL := hidden hs.hlen
  have hbig := hs.hbig
  have HS := hidden hs
  have hpl := pwb_le hp
  have HRV : Hid (roomN (P : Int) = ((P : Int) - 12) / 4) := hidden (by unfold roomN; rw [hp]; rfl)
  rw [HRV.out] at HRM
  rw [hp] at HSZ
  have hd : decide (isPg 0) = false := by decide
  rw [hd] at HNU
  clear hd
  have hP0 : 512 ≤ P ∧ P ≤ 65536 := by omega
  have hPI : (P : Int) ≤ 65536 := by omega
  have hcP : 12 + 4 * c ≤ P := by omega
  have hcI : (c : Int) ≤ 16384 := by omega
  have hrd : decide (((P : Int) - 12) / 4 < (c : Int)) = false := by simp; omega
  have hwc : IntKind.u64.wrap (c : Int) = (c : Int) := by rw [IntKind.wrap_u64]; omega

  obtain ⟨E, hE⟩ : ∃ E, rsE 0 l = E := ⟨_, rfl⟩
  have HE := hidden hE
  obtain ⟨XF, hXF⟩ : ∃ XF, (if rsE 0 l = 0 then frB 0 l P else []) = XF := ⟨_, rfl⟩
  rw [hXF]
  have HXF : Hid (XF = if E = 0 then frB 0 l P else []) := hidden (by rw [← hXF, hE])
  rw [hE]
  clear hXF
  obtain ⟨x, hx⟩ : ∃ x, w.alloc (.cells #[.int .u8 5, .int .u8 0] 5) = x := ⟨_, rfl⟩
  have hbx : Below w.heap.size w x := by rw [← hx]; exact bl_al (Below.refl _ _) (Nat.le_refl _) _
  have HO0 : Hid (OwnB x w.heap.size (.slice (some ⟨w.heap.size, 0, none⟩) 2 2) [5, 0]) := hidden (own_of_heap (l := [5, 0]) (by rw [← hx]; exact heap_alloc_last w _) (Nat.le_refl _) (by decide))
  have HBX := hidden hbx
  have HF1 := hidden (rfix (c : Int) 2 (by omega) (by omega) (by omega) (by omega) x)
  clear hs hp hbx hE
  go_enter Tryd.func20, Tryd.ntmps20
  go_wp2_with (first
    | (go_at_call 59; refine same_call HSZ.out ?_)
    | (go_at_call 39; refine same_call HNU.out ?_)
    | (go_at_call 26; refine same_call HRM.out ?_)
    | (go_at_call 60; refine HF1.out.mono ?_; rintro e w1 ⟨fo, fc, rfl, HSF, HBF⟩; refine Hid.out ?_))
  apply hidden
  have HA1 := hidden (radd_fix HO0.out HBX.out.size HSF.out HBF.out (by simp))
  have HB1 := hidden (bl_go HBX.out (Nat.le_refl _) HBF.out)
  clear HF1 HSZ HNU HRM HRV
  go_wp2_with (go_at_call 61; refine HA1.out.mono ?_; rintro e w2 ⟨v2, rfl, HO2, HBa⟩; refine Hid.out ?_)
  apply hidden
  have HB2 : Hid (Below w.heap.size w w2) := hidden (HBX.out.trans HBa.out)
  have HF2 := hidden (rfix 0 4 (by omega) (by omega) (by omega) (by omega) w2)
  obtain ⟨X1, hX1⟩ : ∃ X, ([5, 0] : List Int) ++ fB 2 (c : Int) = X := ⟨_, rfl⟩
  rw [hX1] at HO2
  have HX1L : Hid (X1.length = 4) := hidden (by rw [← hX1]; simp [fB_length])
  have HX1 := hidden hX1
  clear HA1 HO0 HSF HBF HB1 HBX hx hX1
  go_wp2_with (go_at_call 60; refine HF2.out.mono ?_; rintro e w3 ⟨fo2, fc2, rfl, HSF, HBF⟩; refine Hid.out ?_)
  apply hidden
  have HA2 := hidden (radd_fix HO2.out HB2.out.size HSF.out HBF.out (by rw [HX1L.out]; omega))
  clear HF2
  go_wp2_with (go_at_call 61; refine HA2.out.mono ?_; rintro e w4 ⟨v4, rfl, HO4, HBb⟩; refine Hid.out ?_)
  apply hidden
  have HB4 : Hid (Below w.heap.size w w4) := hidden (HB2.out.trans HBb.out)
  obtain ⟨X, hX⟩ : ∃ X, X1 ++ fB 4 0 = X := ⟨_, rfl⟩
  rw [hX] at HO4
  have HXL : Hid (X.length = 8) := hidden (by rw [← hX, List.length_append, HX1L.out, fB_length])
  have HXE : Hid (X = [5, 0] ++ (fB 2 (c : Int) ++ fB 4 0)) := hidden (by rw [← hX, ← HX1.out, List.append_assoc])
  have HXW : Hid (Wf X) := hidden (by rw [HXE.out]; exact head5_wf.append ((fB_wf _ _).append (fB_wf _ _)))
  clear HA2 HO2 HSF HBF HB2 HBa HBb hX HX1 HX1L
  go_wp2_with fail
  go_loopw [11, 14] (fun b i wr => ∃ k : Nat, k ≤ c ∧ i = .int .i64 (k : Int) ∧ Hid (E = rsE (prvZ l k) (l.drop k)) ∧ Hid (OwnB wr w.heap.size b (X ++ frT (l.take k))) ∧ Hid (Below w.heap.size w wr)) (fun _ i _ => c - (RowKit.intOf i).toNat)
  case atStart => exact ⟨0, by omega, rfl, hidden (by rw [← HE.out]; rfl), hidden (by simpa [frT] using HO4.out), HB4⟩
  case round =>
    obtain ⟨k, hk, rfl, HR, HO, HB⟩ := hrel
    clear HO4 HB4
    by_cases hlt : k < c
    · have hltI : (k : Int) < (c : Int) := by omega
      have HSW := hidden (HS.out.on (Nat.le_refl _) HB.out)
      have hkl : k < l.length := by rw [HL.out]; exact hlt
      have HAT := hidden (rsE_at l k hkl)
      have HTK := hidden (takeZ l k hkl)
      obtain ⟨b0, off0, hao, hc⟩ := HSW.out.at hlt
      subst hao
      have HN := hidden (rnumber_any (l.getD k 0) wr)
      have HKL : Hid ((X ++ frT (l.take k)).length = 8 + 4 * k) := hidden (by rw [List.length_append, HXL.out, frT_length, List.length_take, Nat.min_eq_left (Nat.le_of_lt hkl)])
      obtain ⟨y, hy⟩ : ∃ y, l.getD k 0 = y := ⟨_, rfl⟩
      rw [hy] at hc HN HAT HTK
      have HPV : Hid (∀ j, k = j + 1 → wr.cell? ⟨b0, off0 + j, none⟩ = some (.int .i64 (prvZ l k))) := hidden (fun j hj => by
        subst hj
        obtain ⟨b1, off1, e1, h1⟩ := HSW.out.at (i := j) (by omega)
        cases e1
        exact h1)
      clear hkl HSW hy
      by_cases hpg : isPg y
      · have hd : decide (isPg y) = true := by simpa using hpg
        rw [hd] at HN
        have hyb : 2 ≤ y ∧ y < 65536 := hpg
        by_cases hk0 : k = 0
        · subst hk0
          rw [Nat.add_zero] at hc
          have hkk : decide ((0 : Int) < ((0 : Nat) : Int)) = false := by decide
          have HAT2 : Hid (E = rsE (prvZ l 1) (l.drop 1)) := hidden (by rw [HR.out, HAT.out, if_pos hpg, if_neg (by show ¬ y ≤ 0; omega)])
          have hwy : IntKind.u64.wrap y = y := by rw [IntKind.wrap_u64]; omega
          clear hd hpg HAT HR HPV
          go_wp2_with (go_at_call 39; refine same_call HN.out ?_)
          go_quiet (fail)
          obtain ⟨wq, hwq⟩ : ∃ x, wr.drewN nq = x := ⟨_, rfl⟩
          have HOq : Hid (OwnB wq w.heap.size _ (X ++ frT (l.take 0))) := hidden (by rw [← hwq]; exact HO.out.on (Nat.le_refl _) (bl_dr (Below.refl _ _) nq))
          have HBq : Hid (Below w.heap.size w wq) := hidden (by rw [← hwq]; exact bl_dr HB.out nq)
          have hcq : wq.cell? ⟨b0, off0, none⟩ = some (.int .i64 y) := by rw [← hwq]; simpa using hc
          have HF3 := hidden (rfix y 4 (by omega) (by omega) (by omega) (by omega) wq)
          rw [hwq]
          clear hwq hc HO HB
          go_wp2_with (go_at_call 60; refine HF3.out.mono ?_; rintro e u1 ⟨fo3, fc3, rfl, HSF, HBF⟩; refine Hid.out ?_)
          apply hidden
          have HA3 := hidden (radd_fix HOq.out HBq.out.size HSF.out HBF.out (by rw [HKL.out]; omega))
          clear HF3
          go_wp2_with (go_at_call 61; refine HA3.out.mono ?_; rintro e u2 ⟨v5, rfl, HO5, HBc⟩; refine Hid.out ?_)
          apply hidden
          have HO6 : Hid (OwnB u2 w.heap.size v5 (X ++ frT (l.take (0 + 1)))) := hidden (by rw [HTK.out, frT_append, frT_one, ← List.append_assoc]; exact HO5.out)
          have HB6 : Hid (Below w.heap.size w u2) := hidden (HBq.out.trans HBc.out)
          clear HA3 HO5 HSF HBF HBc HOq HBq
          go_wp2
          go_roundw
          case rel => exact ⟨1, by omega, by go_num, HAT2, HO6, HB6⟩
          case measure => simp [RowKit.intOf]; omega
        · obtain ⟨j, hj⟩ : ∃ j, k = j + 1 := ⟨k - 1, by omega⟩
          have cj := HPV.out j hj
          have hkk : decide ((0 : Int) < (k : Int)) = true := by rw [decide_eq_true_eq]; omega
          have hk1 : (0 : Int) < (k : Int) := by omega
          have hk2 : decide (0 < k) = true := by rw [decide_eq_true_eq]; omega
          have hkj : (k : Int) - 1 = (j : Int) := by omega
          have hjc : j < c := by omega
          have hjI : (j : Int) < (c : Int) := by omega
          have hkI : (k : Int) ≤ 16384 := by omega
          clear HPV hk0 hj
          by_cases hyz : y ≤ prvZ l k
          · have HE63 : Hid (E = 63) := hidden (by rw [HR.out, HAT.out, if_pos hpg, if_pos hyz])
            have hyd : decide (y ≤ prvZ l k) = true := by simpa using hyz
            clear HAT HR hd hpg
            generalize prvZ l k = z at *
            go_wp2_with (go_at_call 39; refine same_call HN.out ?_)
            go_quiet (fail)
            go_wp2_with fail
            go_ret2
            exact ⟨none, 0, 0, by rw [HE63.out]; first | done | rfl, hidden (by rw [HXF.out, HE63.out, if_neg (by decide)]; exact OwnB.nil _ _), hidden (bl_dr HB.out _)⟩
          · have HAT2 : Hid (E = rsE (prvZ l (k + 1)) (l.drop (k + 1))) := hidden (by rw [HR.out, HAT.out, if_pos hpg, if_neg hyz])
            have hyd : decide (y ≤ prvZ l k) = false := by simpa using hyz
            have hwy : IntKind.u64.wrap y = y := by rw [IntKind.wrap_u64]; omega
            clear HAT HR hd hpg
            generalize prvZ l k = z at cj hyd hyz
            go_wp2_with (go_at_call 39; refine same_call HN.out ?_)
            go_quiet (fail)
            obtain ⟨wq, hwq⟩ : ∃ x, wr.drewN nq = x := ⟨_, rfl⟩
            have HOq : Hid (OwnB wq w.heap.size _ (X ++ frT (l.take k))) := hidden (by rw [← hwq]; exact HO.out.on (Nat.le_refl _) (bl_dr (Below.refl _ _) nq))
            have HBq : Hid (Below w.heap.size w wq) := hidden (by rw [← hwq]; exact bl_dr HB.out nq)
            have hcq : wq.cell? ⟨b0, off0 + k, none⟩ = some (.int .i64 y) := by rw [← hwq]; simpa using hc
            have HF3 := hidden (rfix y 4 (by omega) (by omega) (by omega) (by omega) wq)
            rw [hwq]
            clear hwq hc HO HB
            go_wp2_with (go_at_call 60; refine HF3.out.mono ?_; rintro e u1 ⟨fo3, fc3, rfl, HSF, HBF⟩; refine Hid.out ?_)
            apply hidden
            have HA3 := hidden (radd_fix HOq.out HBq.out.size HSF.out HBF.out (by rw [HKL.out]; omega))
            clear HF3
            go_wp2_with (go_at_call 61; refine HA3.out.mono ?_; rintro e u2 ⟨v5, rfl, HO5, HBc⟩; refine Hid.out ?_)
            apply hidden
            have HO6 : Hid (OwnB u2 w.heap.size v5 (X ++ frT (l.take (k + 1)))) := hidden (by rw [HTK.out, frT_append, frT_one, ← List.append_assoc]; exact HO5.out)
            have HB6 : Hid (Below w.heap.size w u2) := hidden (HBq.out.trans HBc.out)
            clear HA3 HO5 HSF HBF HBc HOq HBq
            go_wp2
            go_roundw
            case rel => exact ⟨k + 1, by omega, by go_num, HAT2, HO6, HB6⟩
            case measure => simp [RowKit.intOf]; omega
      · have hd : decide (isPg y) = false := by simpa using hpg
        rw [hd] at HN
        have HE30 : Hid (E = 30) := hidden (by rw [HR.out, HAT.out, if_neg hpg])
        clear HAT HR hd hpg HPV
        go_wp2_with (go_at_call 39; refine same_call HN.out ?_)
        go_ret2
        exact ⟨none, 0, 0, by rw [HE30.out]; first | done | rfl, hidden (by rw [HXF.out, HE30.out, if_neg (by decide)]; exact OwnB.nil _ _), HB⟩
    · obtain rfl : k = c := by omega
      have HE0 : Hid (E = 0) := hidden (by rw [HR.out, List.drop_eq_nil_of_le (by rw [HL.out]; exact Nat.le_refl _)]; rfl)
      have HTA : Hid (l.take k = l) := hidden (List.take_of_length_le (by rw [HL.out]; exact Nat.le_refl _))
      rw [HTA.out] at HO
      obtain ⟨Z, hZ⟩ : ∃ Z, X ++ frT l = Z := ⟨_, rfl⟩
      rw [hZ] at HO
      have HZL : Hid (Z.length = 8 + 4 * k) := hidden (by rw [← hZ, List.length_append, HXL.out, frT_length, HL.out])
      have HZW : Hid (Wf Z) := hidden (by rw [← hZ]; exact HXW.out.append (frT_wf l))
      have HZE : Hid (Z ++ zs (P - 12 - 4 * k) = frH 0 l P) := hidden (by
        rw [← hZ, HXE.out]
        unfold frH
        rw [HL.out]
        simp only [List.append_assoc])
      obtain ⟨yo, yc, hsh⟩ := own_shape2 HO.out
      subst hsh
      rw [HZL.out] at HO ⊢
      obtain ⟨pad, hpad⟩ : ∃ pad, P - 12 - 4 * k = pad := ⟨_, rfl⟩
      rw [hpad] at HZE
      clear hZ HR HE HTA
      go_wp2_with fail
      go_loopw [11] (fun v wr => ∃ (j : Nat) (vo : Option Addr) (vc : Nat), j ≤ pad ∧ v = .slice vo (8 + 4 * k + j) vc ∧ Hid (OwnB wr w.heap.size (.slice vo (8 + 4 * k + j) vc) (Z ++ zs j)) ∧ Hid (Below w.heap.size w wr)) (fun v _ => P - lnOf v)
      case atStart => exact ⟨0, yo, yc, by omega, rfl, hidden (by simpa [zs] using HO.out), HB⟩
      case round =>
        clear HO HB
        rename_i wr0 wr
        obtain ⟨j, vo, vc, hj, rfl, HO, HB⟩ := hrel
        obtain ⟨m, hm⟩ : ∃ m, 8 + 4 * k + j = m := ⟨_, rfl⟩
        have HXZ : Hid ((Z ++ zs j).length = m) := hidden (by rw [List.length_append, HZL.out, zs_length, hm])
        obtain ⟨Y, hY⟩ : ∃ Y, Z ++ zs j = Y := ⟨_, rfl⟩
        have HYE := hidden hY
        have HYW : Hid (Wf Y) := hidden (by rw [← hY]; exact HZW.out.append (zs_wf j))
        rw [hY] at HXZ HO
        rw [hm] at HO ⊢
        clear hY
        by_cases hlt : j < pad
        · have hltI : (m : Int) < (P : Int) - 4 := by omega
          obtain ⟨x, hx⟩ : ∃ x, wr.alloc (.cells #[.int .u8 0] 5) = x := ⟨_, rfl⟩
          have hbx : Below wr.heap.size wr x := by rw [← hx]; exact bl_al (Below.refl _ _) (Nat.le_refl _) _
          have HSX : Hid (Sl x (some ⟨wr.heap.size, 0, none⟩) 1 1 [0]) := hidden (by rw [← hx]; exact sl_one wr 0 (by omega))
          have HOX := hidden (HO.out.on (Nat.le_refl _) hbx)
          have hxs : w.heap.size ≤ x.heap.size := Nat.le_trans HB.out.size hbx.size
          have HBX := hidden (bl_go HB.out (Nat.le_refl _) hbx)
          have hmb : m + 1 ≤ 140737488355328 := by omega
          clear hbx
          go_wp2_with (at_builtin; refine app_sl _ rfl _ _ rfl w.heap.size Y [0] _ (some ⟨wr.heap.size, 0, none⟩) 1 1 rfl rfl HOX.out HSX.out (by rw [HXZ.out]; exact hmb) hxs ?_; refine Hid.out ?_)
          apply hidden
          intro v' w' ho hg
          have HB2 : Hid (Below w.heap.size w w') := hidden (HBX.out.trans (hg.below HOX.out hxs))
          obtain ⟨vo2, vc2, hsh⟩ := own_shape2 ho
          subst hsh
          have hl2 : (Y ++ [0]).length = m + 1 := by rw [List.length_append, HXZ.out]; rfl
          rw [hl2] at ho ⊢
          have HO2 : Hid (OwnB w' w.heap.size (.slice vo2 (8 + 4 * k + (j + 1)) vc2) (Z ++ zs (j + 1))) := hidden (by
            rw [show 8 + 4 * k + (j + 1) = m + 1 by omega, show zs (j + 1) = zs j ++ [0] from zs_add j 1, ← List.append_assoc, HYE.out]
            exact ho)
          clear ho hg hx HOX HSX
          go_wp2
          go_roundw
          case rel => exact ⟨j + 1, vo2, vc2, by omega, by rw [show 8 + 4 * k + (j + 1) = m + 1 by omega], HO2, HB2⟩
          case measure => simp [lnOf]; omega
        · have hltI : ¬ (m : Int) < (P : Int) - 4 := by omega
          have HH : Hid (Y = frH 0 l P) := hidden (by rw [← HYE.out, ← HZE.out, show j = pad by omega])
          have HSH : Hid (Sl wr vo m vc Y) := hidden (HO.out.sl2 HYW.out (by rw [HXZ.out]; omega))
          have HSUM := hidden (rSumOf_any vo m vc Y wr HSH.out)
          have hs32 := sumN_lt Y HYW.out
          obtain ⟨SN, hS⟩ : ∃ SN, sumN [Y] = SN := ⟨_, rfl⟩
          rw [hS] at hs32 HSUM
          have HSS := hidden hS
          have hws : IntKind.u64.wrap ((SN : Nat) : Int) = (SN : Int) := by rw [IntKind.wrap_u64]; omega
          have HF4 := hidden (rfix (SN : Int) 4 (by omega) (by omega) (by omega) (by omega) wr)
          clear hS HSH
          go_wp2_with (first
            | (go_at_call 62; refine same_call HSUM.out ?_)
            | (go_at_call 60; refine HF4.out.mono ?_; rintro e w6 ⟨fo3, fc3, rfl, HSF, HBF⟩; refine Hid.out ?_))
          apply hidden
          have HA4 := hidden (radd_fix HO.out HB.out.size HSF.out HBF.out (by rw [HXZ.out]; omega))
          clear HF4 HSUM
          go_wp2_with (go_at_call 61; refine HA4.out.mono ?_; rintro e w7 ⟨v7, rfl, HO7, HBd⟩; refine Hid.out ?_)
          apply hidden
          have HB7 : Hid (Below w.heap.size w w7) := hidden (HB.out.trans HBd.out)
          obtain ⟨ro, rc, hsh⟩ := own_shape2 HO7.out
          subst hsh
          have HP7 : Hid (Y ++ fB 4 (SN : Int) = frB 0 l P) := hidden (by
            unfold frB sealB
            rw [← HH.out, HSS.out])
          have HS7 : Hid (OwnB w7 w.heap.size (.slice ro (Y ++ fB 4 (SN : Int)).length rc) (frB 0 l P)) := hidden (by
            have h := HO7.out
            rw [HP7.out] at h ⊢
            exact h)
          obtain ⟨rn, hrn⟩ : ∃ rn, (Y ++ fB 4 (SN : Int)).length = rn := ⟨_, rfl⟩
          rw [hrn] at HS7 ⊢
          clear HA4 HO7 hrn
          go_wp2
          go_ret2
          exact ⟨ro, rn, rc, by rw [HE0.out]; first | done | rfl, hidden (by rw [HXF.out, HE0.out, if_pos rfl]; exact HS7.out), HB7⟩
set_option maxRecDepth 100000 in
set_option maxHeartbeats 8000000 in
theorem renc_any (n p : Int) (ao : Option Addr) (c cap : Nat) (l : List Int) (w : World) (hs : SlZ w ao c cap l) :
    Calls Tryd.prog 20 #[.int .i64 n, .slice ao c cap, .int .i64 p] w fun e w' => ∃ ro rn rc, e = .returned (.tuple #[.slice ro rn rc, .int .i64 (frE n l p)]) ∧ Hid (OwnB w' w.heap.size (.slice ro rn rc) (frL n l p)) ∧ Hid (Below w.heap.size w w') := by
  have HSZ := hidden (rsz_any p w)
  have HNU := hidden (rnumber_any n w)
  have HRM := hidden (rroom_any p w)
  have HL := hidden hs.hlen
  have hbig := hs.hbig
  have HS := hidden hs
  clear hs
  cases hp : pwb p with
  | false =>
    have HE : Hid (frE n l p = 1) := hidden (by unfold frE; rw [hp]; rfl)
    have HF : Hid (frL n l p = []) := hidden (by unfold frL; rw [HE.out]; rfl)
    rw [HE.out, HF.out]
    rw [hp] at HSZ
    clear hp
    go_enter Tryd.func20, Tryd.ntmps20
    go_wp2_with (go_at_call 59; refine same_call HSZ.out ?_)
    go_ret2
    exact ⟨_, _, _, rfl, hidden (OwnB.nil _ _), hidden (Below.refl _ _)⟩
  | true =>
    have hpl := pwb_le hp
    have HRV : Hid (roomN p = (p - 12) / 4) := hidden (by unfold roomN; rw [hp]; rfl)
    rw [HRV.out] at HRM
    rw [hp] at HSZ
    by_cases hn : n ≠ 0 ∧ ¬ isPg n
    · have HE : Hid (frE n l p = 30) := hidden (by unfold frE; rw [hp, if_pos rfl, if_pos hn])
      have HF : Hid (frL n l p = []) := hidden (by unfold frL; rw [HE.out]; rfl)
      rw [HE.out, HF.out]
      have hd : decide (isPg n) = false := by simpa using hn.2
      rw [hd] at HNU
      have h1 := hn.1
      have h2 : ¬ n = 0 := h1
      clear hp hd hn h1
      go_enter Tryd.func20, Tryd.ntmps20
      go_wp2_with (first
        | (go_at_call 59; refine same_call HSZ.out ?_)
        | (go_at_call 39; refine same_call HNU.out ?_))
      go_ret2
      exact ⟨_, _, _, rfl, hidden (OwnB.nil _ _), hidden (Below.refl _ _)⟩
    · have hn0 : n = 0 ∨ isPg n := by by_cases h : n = 0; exact .inl h; by_cases h2 : isPg n; exact .inr h2; exact absurd ⟨h, h2⟩ hn
      have hnb : 0 ≤ n ∧ n < 65536 := by unfold isPg at hn0; omega
      by_cases hr : (p - 12) / 4 < (c : Int)
      · have HE : Hid (frE n l p = 2) := hidden (by unfold frE; rw [hp, if_pos rfl, if_neg hn, if_pos (by rw [HL.out]; exact hr)])
        have HF : Hid (frL n l p = []) := hidden (by unfold frL; rw [HE.out]; rfl)
        rw [HE.out, HF.out]
        clear hp hn
        rcases hn0 with rfl | hn1
        · have hd : decide (isPg 0) = false := by decide
          rw [hd] at HNU
          go_enter Tryd.func20, Tryd.ntmps20
          go_wp2_with (first
            | (go_at_call 59; refine same_call HSZ.out ?_)
            | (go_at_call 39; refine same_call HNU.out ?_)
            | (go_at_call 26; refine same_call HRM.out ?_))
          go_ret2
          exact ⟨_, _, _, rfl, hidden (OwnB.nil _ _), hidden (Below.refl _ _)⟩
        · have hd : decide (isPg n) = true := by simpa using hn1
          rw [hd] at HNU
          have h2 : ¬ n = 0 := by unfold isPg at hn1; omega
          clear hd hn1
          go_enter Tryd.func20, Tryd.ntmps20
          go_wp2_with (first
            | (go_at_call 59; refine same_call HSZ.out ?_)
            | (go_at_call 39; refine same_call HNU.out ?_)
            | (go_at_call 26; refine same_call HRM.out ?_))
          go_ret2
          exact ⟨_, _, _, rfl, hidden (OwnB.nil _ _), hidden (Below.refl _ _)⟩
      · have hcp : (c : Int) ≤ (p - 12) / 4 := by omega
        obtain ⟨P, hP⟩ : ∃ P : Nat, p = (P : Int) := ⟨p.toNat, by omega⟩
        subst hP
        have HE : Hid (frE n l (P : Int) = rsE 0 l) := hidden (by unfold frE; rw [hp, if_pos rfl, if_neg hn, if_neg (by rw [HL.out]; exact hr)])
        have HF : Hid (frL n l (P : Int) = if rsE 0 l = 0 then frB n l P else []) := hidden (by unfold frL; rw [HE.out, Int.toNat_natCast])
        rw [HE.out, HF.out]
        rcases hn0 with hn0 | hn0
        · subst hn0
          exact renc_pg_z P ao c cap l w HS.out hp hcp
        · exact renc_pg_n n P ao c cap l w HS.out hp hn0 hcp
end Go.Proofs.YtehcemefhgebpaaDoor

/- The document's ReadFixed (of RefReads, alone). -/

namespace Go.Proofs.YtehcemefhgebpaaDoor
open Go.RowKit

/-- What ReadFixed comes to. -/
def rF (l : List Int) (p x : Int) : Int × Int := if (x < 1 ∨ 8 < x) ∨ (p < 0 ∨ l.length < p) then (0, 1) else if (l.length : Int) - p < x then (0, 10) else (rdB ((l.drop p.toNat).take x.toNat), 0)
set_option maxRecDepth 100000 in
set_option maxHeartbeats 1000000 in
theorem refReadFixed_all (ao : Option Addr) (n cap : Nat) (l : List Int) (p' x : Int) (w : World) (hs : Sl w ao n cap l) :
    Calls Tryd.prog 67 #[.slice ao n cap, .int .i64 p', .int .i64 x] w fun e w' => e = .returned (.tuple #[.int .u64 (rF l p' x).1, .int .i64 (rF l p' x).2]) ∧ w' = w := by
  obtain ⟨hlen, hcap, hroom, hwf, hnil, hat⟩ := hs
  unfold rF
  by_cases h : (x < 1 ∨ 8 < x) ∨ (p' < 0 ∨ l.length < p')
  · rw [if_pos h]
    rw [hlen] at h
    rcases h with (h | h) | (h | h)
    · go_enter Tryd.func67, Tryd.ntmps67
      go_wp2
      go_ret2
      exact ⟨rfl, rfl⟩
    · have h' : ¬ x < 1 := by omega
      go_enter Tryd.func67, Tryd.ntmps67
      go_wp2
      go_ret2
      exact ⟨rfl, rfl⟩
    · by_cases h1 : x < 1
      · go_enter Tryd.func67, Tryd.ntmps67
        go_wp2
        go_ret2
        exact ⟨rfl, rfl⟩
      · by_cases h8 : 8 < x
        all_goals
          go_enter Tryd.func67, Tryd.ntmps67
          go_wp2
          go_ret2
          exact ⟨rfl, rfl⟩
    · by_cases h1 : x < 1
      · go_enter Tryd.func67, Tryd.ntmps67
        go_wp2
        go_ret2
        exact ⟨rfl, rfl⟩
      · have hp0 : ¬ p' < 0 := by omega
        by_cases h8 : 8 < x
        all_goals
          go_enter Tryd.func67, Tryd.ntmps67
          go_wp2
          go_ret2
          exact ⟨rfl, rfl⟩
  · rw [if_neg h]
    rw [hlen] at h ⊢
    have h1 : 1 ≤ x := by omega
    have h2 : x ≤ 8 := by omega
    have h3 : 0 ≤ p' := by omega
    have h4 : p' ≤ n := by omega
    clear h
    by_cases h5 : (n : Int) - p' < x
    · rw [if_pos h5]
      go_enter Tryd.func67, Tryd.ntmps67
      go_wp2
      go_ret2
      exact ⟨rfl, rfl⟩
    · rw [if_neg h5]
      obtain ⟨width, rfl⟩ := Int.eq_ofNat_of_zero_le (show 0 ≤ x by omega)
      obtain ⟨p, rfl⟩ := Int.eq_ofNat_of_zero_le h3
      rw [Int.toNat_natCast, Int.toNat_natCast]
      rcases hat with h | ⟨b, off, rfl, hb, hc⟩
      · omega
      have hd : ((l.drop p).take width).length = width := by simp; omega
      have hwd : Wf ((l.drop p).take width) := (hwf.drop p).take width
      go_enter Tryd.func67, Tryd.ntmps67
      go_wp2_with fail
      go_loop [8, 9] (fun v i => ∃ k : Nat, k ≤ width ∧ i = .int .i64 ((p : Int) + k) ∧ v = .int .u64 (rdB (((l.drop p).take width).take k))) (fun _ i => ((p : Int) + width - intOf i).toNat)
      case atStart => exact ⟨0, by omega, by simp, by simp [rdB]⟩
      case round =>
        obtain ⟨k, hk, rfl, rfl⟩ := hrel
        by_cases hlt : k < width
        · have hck : w.cell? ⟨b, off + (p + k), none⟩ = some (.int .u8 (((l.drop p).take width).getD k 0)) := by
            rw [hc (p + k) (by omega)]
            simp [List.getD, hlt]
          have hby := hwd.getD k
          have hsm := rdB_small _ (hwd.take k) k (by omega) (by simp; omega)
          have hsn : rdB (((l.drop p).take width).take (k + 1)) = rdB (((l.drop p).take width).take k) * 256 + ((l.drop p).take width).getD k 0 := by
            rw [take_snoc _ k (by omega), rdB_snoc]
          generalize ((l.drop p).take width).getD k 0 = c at *
          generalize rdB (((l.drop p).take width).take k) = m at *
          have HS := hidden hsn
          clear hsn hc
          go_wp2
          go_round
          case rel => exact ⟨k + 1, by omega, by go_num, by rw [HS.out, Int.mul_comm m 256]⟩
          case measure => simp [intOf]; omega
        · obtain rfl : k = width := by omega
          have ht : ((l.drop p).take k).take k = (l.drop p).take k := List.take_of_length_le (by omega)
          go_wp2
          go_ret2
          exact ⟨rfl, rfl⟩

end Go.Proofs.YtehcemefhgebpaaDoor

/- The document's Decode of a list's page. -/

namespace Go.Proofs.YtehcemefhgebpaaDoor
open Go.RowKit

set_option maxRecDepth 100000 in
theorem rF_at {b : List Int} {n p wd : Nat} (hl : b.length = n) (h1 : 1 ≤ wd) (h2 : wd ≤ 8) (h : p + wd ≤ n) : rF b (p : Int) (wd : Int) = (rdN b p wd, 0) := by
  unfold rF
  rw [if_neg (by omega), if_neg (by omega), Int.toNat_natCast, Int.toNat_natCast]
  rfl
set_option maxRecDepth 100000 in
set_option maxHeartbeats 8000000 in
theorem rdec_any (ao : Option Addr) (n cap : Nat) (b : List Int) (w : World) (hs : Sl w ao n cap b) :
    Calls Tryd.prog 29 #[.slice ao n cap] w fun e u => ∃ po pn pc, e = .returned (.tuple #[.int .i64 (frD b).1, .slice po pn pc, .int .i64 (frD b).2.2]) ∧ Hid (OwnJ u w.heap.size (.slice po pn pc) (frD b).2.1) ∧ Hid (Below w.heap.size w u) := by
  have hlen := hs.hlen
  have HRM := hidden (rroom_any (n : Int) w)
  have hnb := hs.hroom
  obtain ⟨X, hX⟩ : ∃ X, frD b = X := ⟨_, rfl⟩
  have HX := hidden hX
  rw [hX]
  clear hX
  cases hp : pwb (n : Int) with
  | false =>
    have HE : Hid (X = (0, [], 60)) := hidden (by rw [← HX.out]; unfold frD frOk; rw [hlen, hp]; rfl)
    rw [HE.out]
    rw [show roomN (n : Int) = 0 from by unfold roomN; rw [hp]; rfl] at HRM
    clear hs HE HX hp
    go_enter Tryd.func29, Tryd.ntmps29
    go_wp2_with (go_at_call 26; refine same_call HRM.out ?_)
    go_returns
    exact ⟨none, 0, 0, rfl, OwnJ.nil _ _, Below.refl _ _⟩
  | true =>
    have hpl := pwb_le hp
    have HS := hidden hs
    have HLN := hidden hlen
    have hbd := rdN_bound b hs.wf 2 2
    have hbd4 := rdN_bound b hs.wf 4 4
    have e256 : (256 : Int) ^ 2 = 65536 := by decide
    have e4g : (256 : Int) ^ 4 = 4294967296 := by decide
    have hf2 := refReadFixed_all ao n cap b 2 2 w hs
    have hf4 := refReadFixed_all ao n cap b 4 4 w hs
    rw [show rF b 2 2 = (rdN b 2 2, 0) from rF_at (p := 2) (wd := 2) hlen (by omega) (by omega) (by omega)] at hf2
    rw [show rF b 4 4 = (rdN b 4 4, 0) from rF_at (p := 4) (wd := 4) hlen (by omega) (by omega) (by omega)] at hf4
    obtain ⟨R, hR⟩ : ∃ R, ((n : Int) - 12) / 4 = R := ⟨_, rfl⟩
    obtain ⟨N, hN⟩ : ∃ N : Nat, rdN b 2 2 = (N : Int) := ⟨(rdN b 2 2).toNat, by omega⟩
    obtain ⟨nx, hnx⟩ : ∃ nx, rdN b 4 4 = nx := ⟨_, rfl⟩
    have HNX := hidden hnx
    have HRR := hidden hR
    rw [show roomN (n : Int) = R from by unfold roomN; rw [hp, ← hR]; rfl] at HRM
    rw [hN] at hf2 hbd
    rw [hnx] at hf4 hbd4
    have HF2 := hidden hf2
    have HF4 := hidden hf4
    have hR0 : ¬ R = 0 := by omega
    have hN2 : N ≤ 65536 := by omega
    have hNI : (N : Int) ≤ 65536 := by omega
    have hwN : IntKind.i64.wrap (N : Int) = (N : Int) := by rw [IntKind.wrap_i64]; omega
    have hwx : IntKind.i64.wrap nx = nx := by rw [IntKind.wrap_i64]; omega
    by_cases hle : (N : Int) ≤ R
    · have HPL : Hid ((frP b).length = N) := hidden (by rw [frP_length, hN]; rfl)
      have hfit : 12 + 4 * N ≤ n := by omega
      have HOK : Hid (frOk b = (decide (frE nx (frP b) (n : Int) = 0) && decide (frB nx (frP b) n = b))) := hidden (by unfold frOk; rw [hlen, hp, hN, hR, hnx]; simp [hle])
      have HAT : Hid (∀ k, k < N → (frP b).getD k 0 = rdN b (8 + 4 * k) 4) := hidden (fun k hk => frP_at b k (by rw [hN]; exact hk))
      have HPW : Hid (∀ x ∈ frP b, 0 ≤ x ∧ x < 4294967296) := hidden (frP_wf hs.wf)
      have hnI : (n : Int) ≤ 65536 := by omega
      have hng : ¬ R < (N : Int) := by omega
      clear hs hlen hR hN hbd hbd4 hpl hp hf2 hf4 hnx e256 e4g
      go_enter Tryd.func29, Tryd.ntmps29
      go_wp2_with (first
        | (go_at_call 26; refine same_call HRM.out ?_)
        | (go_at_call 67; refine same_call HF2.out ?_; refine Hid.out ?_))
      apply hidden
      go_wp2_with (go_at_call 67; refine same_call HF4.out ?_)
      clear HF2 HF4 HRM
      go_loopw [10, 11] (fun v i wr => ∃ k : Nat, k ≤ N ∧ i = .int .i64 (k : Int) ∧ Hid (OwnJ wr w.heap.size v ((frP b).take k)) ∧ Hid (Below w.heap.size w wr)) (fun _ i _ => N - (RowKit.intOf i).toNat)
      case atStart => exact ⟨0, by omega, rfl, hidden (OwnJ.nil _ _), hidden (Below.refl _ _)⟩
      case round =>
        obtain ⟨k, hk, rfl, HJ, HB⟩ := hrel
        by_cases hlt : k < N
        · have hltI : (k : Int) < (N : Int) := by omega
          have HR8 := hidden (refReadFixed_all ao n cap b ((8 + 4 * k : Nat) : Int) 4 wr (HS.out.on (Nat.le_refl _) HB.out))
          rw [show rF b ((8 + 4 * k : Nat) : Int) 4 = (rdN b (8 + 4 * k) 4, 0) from rF_at (wd := 4) HLN.out (by omega) (by omega) (by omega), ← HAT.out k hlt, show ((8 + 4 * k : Nat) : Int) = 8 + 4 * (k : Int) from by omega] at HR8
          have HTK := hidden (takeZ (frP b) k (by rw [HPL.out]; exact hlt))
          have hyb := HPW.out _ (getD_mem (frP b) k (by rw [HPL.out]; exact hlt))
          generalize (frP b).getD k 0 = y at *
          have hwy : IntKind.i64.wrap y = y := by rw [IntKind.wrap_i64]; omega
          obtain ⟨x, hx⟩ : ∃ x, wr.alloc (.cells #[.int .i64 y] 3) = x := ⟨_, rfl⟩
          have hbx : Below wr.heap.size wr x := by rw [← hx]; exact bl_al (Below.refl _ _) (Nat.le_refl _) _
          have hcx : x.cell? ⟨wr.heap.size, 0, none⟩ = some (.int .i64 y) := by rw [← hx]; simp
          have HJX := hidden (HJ.out.below hbx)
          have hBx : w.heap.size ≤ x.heap.size := Nat.le_trans HB.out.size hbx.size
          have HBX := hidden (bl_go HB.out (Nat.le_refl _) hbx)
          have hln : ((frP b).take k).length + 1 ≤ 1000000 := by rw [List.length_take, HPL.out]; omega
          clear hbx
          go_wp2_with (first
            | (go_at_call 67; refine same_call HR8.out ?_)
            | (at_builtin; refine app_j _ rfl _ _ rfl w.heap.size ((frP b).take k) y _ wr.heap.size rfl rfl HJX.out hcx hln hBx ?_; refine Hid.out ?_))
          apply hidden
          intro v' w' ho hg
          have HO2 : Hid (OwnJ w' w.heap.size v' ((frP b).take (k + 1))) := hidden (by rw [HTK.out]; exact ho)
          have HB2 : Hid (Below w.heap.size w w') := hidden (HBX.out.trans ⟨hg.grow.os, hg.grow.tape, hg.grow.output, hg.grow.size, fun q hq => hg.grow.block q (by omega) (fun e => by have := (HJX.out.lt e.symm).1; omega)⟩)
          clear ho hg hx hcx HJX HBX hyb
          go_wp2
          go_roundw
          case rel => exact ⟨k + 1, by omega, by go_num, HO2, HB2⟩
          case measure => simp [RowKit.intOf]; omega
        · obtain rfl : k = N := by omega
          have hkk : ¬ (k : Int) < (k : Int) := by omega
          rw [List.take_of_length_le (by rw [HPL.out]; exact Nat.le_refl _)] at HJ
          obtain ⟨po, pc, hsh, hsz⟩ := HJ.out.slz (by rw [HPL.out]; exact hN2) (fun x hx => by have := HPW.out x hx; omega)
          subst hsh
          rw [HPL.out] at hsz HJ ⊢
          have HEN := hidden (renc_any nx (n : Int) po k pc (frP b) wr hsz)
          have HBW : Hid (frE nx (frP b) (n : Int) = 0 → frL nx (frP b) (n : Int) = frB nx (frP b) n) := hidden (fun h => by unfold frL; rw [if_pos h, Int.toNat_natCast])
          have HLW := hidden (frL_wf nx (frP b) (n : Int))
          have HLL := hidden (frL_len nx (frP b) (n : Int))
          have HXX : Hid (X = if frOk b then (nx, frP b, 0) else (0, [], 60)) := hidden (by rw [← HX.out, ← HNX.out]; rfl)
          clear HX hsz
          generalize hE : frE nx (frP b) (n : Int) = E at *
          generalize frL nx (frP b) (n : Int) = FL at *
          clear hE
          go_wp2_with (go_at_call 20; refine HEN.out.mono ?_; rintro e w2 ⟨ro, rn, rc, rfl, HO2, HB2⟩; refine Hid.out ?_)
          apply hidden
          have HB3 : Hid (Below w.heap.size w w2) := hidden (bl_go HB.out (Nat.le_refl _) HB2.out)
          have HJ3 := hidden (HJ.out.below HB2.out)
          have k1 := conv_sl (HS.out.on (Nat.le_refl _) HB3.out)
          have k2 := conv_sl (HO2.out.sl2 HLW.out (by have := HLL.out; omega))
          have HEQ := hidden (str_beq HLW.out HS.out.wf)
          clear HEN HJ HB HB2 HO2 hk hlt HLL HAT hfit
          obtain ⟨sa, hsa⟩ : ∃ sa, strOfNums FL = sa := ⟨_, rfl⟩
          obtain ⟨sb, hsb⟩ : ∃ sb, strOfNums b = sb := ⟨_, rfl⟩
          rw [hsa] at k2
          rw [hsb] at k1
          rw [hsa, hsb] at HEQ
          clear hsa hsb
          by_cases hE0 : E = 0
          · subst hE0
            have hfl := HBW.out rfl
            by_cases hfb : frB nx (frP b) n = b
            · have HX2 : Hid (X = (nx, frP b, 0)) := hidden (by rw [HXX.out, HOK.out]; simp [hfb])
              have e4 : (sa.toList == sb.toList) = true := by rw [HEQ.out, hfl]; simpa using hfb
              clear hfb hfl HXX HBW
              go_wp2_with fail
              go_returns
              exact ⟨po, k, pc, by rw [HX2.out]; rfl, by rw [HX2.out]; exact HJ3, HB3⟩
            · have HX2 : Hid (X = (0, [], 60)) := hidden (by rw [HXX.out, HOK.out]; simp [hfb])
              have e4 : (sa.toList == sb.toList) = false := by rw [HEQ.out, hfl]; simpa using hfb
              clear hfb hfl HXX HBW
              go_wp2_with fail
              go_returns
              exact ⟨none, 0, 0, by rw [HX2.out]; rfl, by rw [HX2.out]; exact OwnJ.nil _ _, HB3⟩
          · have HX2 : Hid (X = (0, [], 60)) := hidden (by rw [HXX.out, HOK.out]; simp [hE0])
            clear HXX HBW
            go_wp2_with fail
            go_returns
            exact ⟨none, 0, 0, by rw [HX2.out]; rfl, by rw [HX2.out]; exact OwnJ.nil _ _, HB3⟩
    · have HE : Hid (X = (0, [], 60)) := hidden (by
        rw [← HX.out]
        unfold frD frOk
        rw [hlen, hp, hN, hR]
        simp [hle])
      rw [HE.out]
      have hng : R < (N : Int) := by omega
      clear hs hlen hR hN hbd hbd4 hpl hp hf2 hf4 hnx HE HX
      go_enter Tryd.func29, Tryd.ntmps29
      go_wp2_with (first
        | (go_at_call 26; refine same_call HRM.out ?_)
        | (go_at_call 67; refine same_call HF2.out ?_; refine Hid.out ?_))
      apply hidden
      go_wp2_with (go_at_call 67; refine same_call HF4.out ?_)
      go_returns
      exact ⟨none, 0, 0, rfl, OwnJ.nil _ _, Below.refl _ _⟩
end Go.Proofs.YtehcemefhgebpaaDoor

/- espalierref01's Lent and AsLent (Ks without its rows). -/

namespace Go.Proofs.YtehcemefhgebpaaDoor
open Go.RowKit

set_option maxRecDepth 100000 in
theorem grown_trans {a b c : World} {row : Option Nat} (h : a.grownBy b row) (k : b.grownBy c row) : a.grownBy c row :=
  ⟨k.os.trans h.os, k.tape.trans h.tape, k.output.trans h.output, Nat.le_trans h.size k.size, fun i hi hne => (k.block i (Nat.lt_of_lt_of_le hi h.size) hne).trans (h.block i hi hne)⟩
set_option maxRecDepth 100000 in
theorem grown_below {a b : World} {row : Option Nat} (h : a.grownBy b row) {B : Nat} (hB : B ≤ a.heap.size) (hr : ∀ k, row = some k → B ≤ k) : Below B a b := (Below.refl B a).grown h hB hr
set_option maxRecDepth 100000 in
theorem Sl.grown {w w' : World} {ao : Option Addr} {n cap : Nat} {l : List Int} {row : Option Nat} (h : Sl w ao n cap l) (hg : w.grownBy w' row) (hne : ∀ a, ao = some a → some a.block ≠ row) : Sl w' ao n cap l := by
  refine ⟨h.hlen, h.hcap, h.hroom, h.wf, h.hnil, ?_⟩
  rcases h.hat with h0 | ⟨b, off, e, hlt, hc⟩
  · exact .inl h0
  · exact .inr ⟨b, off, e, Nat.lt_of_lt_of_le hlt hg.size, fun i hi => hg.cell (hc i hi) (hne ⟨b, off, none⟩ e)⟩



set_option maxRecDepth 100000 in
set_option maxHeartbeats 1000000 in
theorem lent_any (ao : Option Addr) (n cap : Nat) (l : List Int) (w : World) (hs : Sl w ao n cap l) :
    Calls Tryd.prog 27 #[.slice ao n cap] w fun e w' => e = .returned (.slice (some ⟨w.heap.size, 0, none⟩) n (n + 3)) ∧ OwnB w' w.heap.size (.slice (some ⟨w.heap.size, 0, none⟩) (n + 3) (n + 3)) (l ++ [71, 72, 73]) ∧ Below w.heap.size w w' := by
  obtain ⟨i0, hi, hz0, hz1, hz2⟩ := info_parts info5
  obtain ⟨hlen, hcap, hroom, hwf, hnil, hat⟩ := hs
  have hsz : (Tryd.prog.info? 5).map (·.size) = some 1 := by rw [hi]; simp [hz1]
  go_enter Tryd.func27, Tryd.ntmps27
  go_wp2_with (at_make; refine wpList_make_full _ rfl _ _ 47 rfl w.heap.size 5 i0 (.int .u8 0) 1 Tryd.underlying47 hi hz0 hz1 .i64 .i64 (n + 3) (n + 3) (n + 3) rfl rfl rfl rfl (by rw [hz2]; omega) (by unfold maxLen; omega) (Nat.le_refl _) ?_)
  intro w1 hown1 hg1
  have hb1 : Below w.heap.size w w1 := (Below.refl _ _).grown hg1 (Nat.le_refl _) (fun k hk => by cases hk)
  clear hg1
  have hcur : w1.heap[w.heap.size]? = some (.cells (List.replicate (n + 3) (Value.int .u8 0)).toArray 5 (0, 0)) := by
    rcases hown1.2 with ⟨h, _⟩ | ⟨g, c, cur, h, _, hh, _, _, hs, ht⟩
    · cases h
    · cases h
      rw [hh]
      congr 2
      apply Array.toList_inj.1
      rw [toList_madeCells_one] at ht
      simp only [Nat.mul_one] at hs ht
      rw [List.take_of_length_le (by simp [hs])] at ht
      simpa using ht
  clear hown1
  obtain ⟨cur, hce⟩ : ∃ cur, List.replicate (n + 3) (Value.int .u8 0) = cur := ⟨_, rfl⟩
  rw [hce] at hcur
  have hcl : cur.length = n + 3 := by rw [← hce]; simp
  have HCE := hidden hce
  have HC := hidden hcur
  clear hcur hce
  have hpos : 0 < (By l).length → some (⟨w.heap.size, 0, none⟩ : Addr) = some ⟨w.heap.size, 0, none⟩ ∧ ∃ ad, ao = some ad ∧ ∀ j v, (By l)[j]? = some v → w1.cell? (ad.add j) = some v := by
    intro h
    rw [By_length] at h
    rcases hat with h0 | ⟨b, off, rfl, hbb, hc⟩
    · omega
    · refine ⟨rfl, _, rfl, fun j v hv => ?_⟩
      obtain ⟨h1, rfl⟩ := getElem?_By l j v hv
      rw [Addr.add_lit]
      exact (hb1.cell (p := ⟨b, off + j, none⟩) hbb).trans (hc j (by omega))
  have HP := hidden hpos
  clear hpos
  go_wp2_with (refine wpList_copy_splice rfl _ _ 47 47 rfl 5 Tryd.underlying47 hsz _ _ (n + 3) (n + 3) n cap rfl rfl w.heap.size 0 cur 5 HC.out (By l) (by rw [By_length, hlen]; exact (Nat.min_eq_left (by omega)).symm) HP.out (by rw [By_length]; omega) (By_one l) w.heap.size w hb1 (Nat.le_refl _) ?_)
  intro w2 hh hb2
  have ho : OwnB w2 w.heap.size (.slice (some ⟨w.heap.size, 0, none⟩) (n + 3) (n + 3)) (l ++ [0, 0, 0]) := by
    have h' := hh.out
    rw [show splice cur 0 (By l) = By (l ++ [0, 0, 0]) from by
      rw [← HCE.out]
      simp only [splice, By_length, hlen, List.take_zero, List.nil_append, Nat.zero_add, By_append, List.drop_replicate, show n + 3 - n = 3 by omega]
      rfl] at h'
    have := own_of_heap (l := l ++ [0, 0, 0]) h' (Nat.le_refl _) (by unfold maxLen; simp; omega)
    simpa [hlen] using this
  have hl0 : (l ++ [0, 0, 0]).length = n + 3 := by simp [hlen]
  have hl1 : ((l ++ [0, 0, 0]).set n 71).length = n + 3 := by simp [hlen]
  have hl2 : (((l ++ [0, 0, 0]).set n 71).set (n + 1) 72).length = n + 3 := by simp [hlen]
  have f0 := own_free ho hl0 n
  have c0 := own_cell ho hl0 (show n < n + 3 by omega)
  have o1 := own_set (x := 71) ho hl0 (show n < n + 3 by omega)
  have f1 := own_free o1 hl1 (n + 1)
  have c1 := own_cell o1 hl1 (show n + 1 < n + 3 by omega)
  have o2 := own_set (x := 72) o1 hl1 (show n + 1 < n + 3 by omega)
  have f2 := own_free o2 hl2 (n + 2)
  have c2 := own_cell o2 hl2 (show n + 2 < n + 3 by omega)
  have o3 := own_set (x := 73) o2 hl2 (show n + 2 < n + 3 by omega)
  have e3 : (((l ++ [0, 0, 0]).set n 71).set (n + 1) 72).set (n + 2) 73 = l ++ [71, 72, 73] := by
    subst hlen
    simp [List.set_append_right]
  rw [e3] at o3
  have HO3 := hidden o3
  have HB3 := hidden (((hb2.setCell (p := ⟨w.heap.size, n, none⟩) (Nat.le_refl _) (.int .u8 71)).setCell (p := ⟨w.heap.size, n + 1, none⟩) (Nat.le_refl _) (.int .u8 72)).setCell (p := ⟨w.heap.size, n + 2, none⟩) (Nat.le_refl _) (.int .u8 73))
  obtain ⟨y0, c0⟩ : ∃ y, w2.cell? ⟨w.heap.size, n, none⟩ = some y := ⟨_, c0⟩
  obtain ⟨y1, c1⟩ : ∃ y, (w2.setCell ⟨w.heap.size, n, none⟩ (.int .u8 71)).cell? ⟨w.heap.size, n + 1, none⟩ = some y := ⟨_, c1⟩
  obtain ⟨y2, c2⟩ : ∃ y, ((w2.setCell ⟨w.heap.size, n, none⟩ (.int .u8 71)).setCell ⟨w.heap.size, n + 1, none⟩ (.int .u8 72)).cell? ⟨w.heap.size, n + 2, none⟩ = some y := ⟨_, c2⟩
  clear hh ho o1 o2 o3 e3 hl0 hl1 hl2 hb2 HP HC HCE
  go_wp2
  go_ret
  exact ⟨rfl, HO3.out, HB3.out⟩


set_option maxRecDepth 100000 in
/-- What is owned from its row's head on reads as the beginning of its bytes. -/
theorem own_head {w : World} {B g n cap m : Nat} {l : List Int} (h : OwnB w B (.slice (some ⟨g, 0, none⟩) n cap) l) (hw : Wf l) (hn : l.length = n) (hm : m ≤ n) (hr : n ≤ 140737488355328) (c : Nat) (hc : m ≤ c) : Sl w (some ⟨g, 0, none⟩) m c (l.take m) := by
  have hlt : g < w.heap.size := (World.ownsRow.lt h g rfl).2
  refine ⟨by simp; omega, hc, by omega, hw.take m, (by intro h; cases h), .inr ⟨g, 0, rfl, hlt, fun i hi => ?_⟩⟩
  rw [Nat.zero_add, own_cell h hn (by omega)]
  simp [List.getD, hi]

set_option maxRecDepth 100000 in
set_option maxHeartbeats 2000000 in
theorem asLent_any (g B n : Nat) (bo : Option Addr) (d : Nat) (l : List Int) (w : World) (ho : OwnB w B (.slice (some ⟨g, 0, none⟩) (n + 3) (n + 3)) (l ++ [71, 72, 73])) (hb : Sl w bo n d l) (hbig : n + 3 ≤ 140737488355328) :
    Calls Tryd.prog 30 #[.slice (some ⟨g, 0, none⟩) n (n + 3), .slice bo n d] w fun e w' => e = .returned (.bool true) ∧ w.grownBy w' (some g) := by
  have hl : (l ++ [71, 72, 73]).length = n + 3 := by simp [hb.hlen]
  have hroom := hb.hroom
  have hwf := hb.wf
  have hlen := hb.hlen
  have hW : Wf (l ++ [71, 72, 73]) := hwf.append (by unfold Wf; decide)
  have c0 : w.cell? ⟨g, n, none⟩ = some (.int .u8 71) := by
    rw [own_cell ho hl (show n < n + 3 by omega)]
    subst hlen
    simp [List.getD]
  have c1 : w.cell? ⟨g, n + 1, none⟩ = some (.int .u8 72) := by
    rw [own_cell ho hl (show n + 1 < n + 3 by omega)]
    subst hlen
    simp [List.getD]
  have c2 : w.cell? ⟨g, n + 2, none⟩ = some (.int .u8 73) := by
    rw [own_cell ho hl (show n + 2 < n + 3 by omega)]
    subst hlen
    simp [List.getD]
  have ht : (l ++ [71, 72, 73]).take n = l := by subst hlen; simp
  have k1 : ∀ q, (convert 47 9 (.slice (some ⟨g, 0, none⟩) n (n + 3))).run Tryd.prog (w.drewN q) = .ok (.string (strOfNums l)) (w.drewN q) := fun q => by
    have h := own_head ho hW hl (show n ≤ n + 3 by omega) hbig (n + 3) (by omega)
    rw [ht] at h
    exact conv_sl (h.drewN q)
  have k2 : ∀ q, (convert 47 9 (.slice bo n d)).run Tryd.prog (w.drewN q) = .ok (.string (strOfNums l)) (w.drewN q) := fun q => conv_sl (hb.drewN q)
  have HO := hidden ho
  have HLN := hidden hl
  clear ho hb hW hl hwf ht
  go_enter Tryd.func30, Tryd.ntmps30
  go_wp2_with fail
  go_quiet (fail)
  go_wp2_with fail
  clear c0 c1 c2 k1 k2
  go_loopw [8] (fun i wr => ∃ (k : Nat) (l' : List Int), k ≤ n + 3 ∧ i = .int .i64 k ∧ l'.length = n + 3 ∧ OwnB wr B (.slice (some ⟨g, 0, none⟩) (n + 3) (n + 3)) l' ∧ w.grownBy wr (some g)) (fun i _ => n + 3 - (RowKit.intOf i).toNat)
  case atStart => exact ⟨0, l ++ [71, 72, 73], by omega, rfl, HLN.out, HO.out, ⟨rfl, rfl, rfl, Nat.le_refl _, fun _ _ _ => rfl⟩⟩
  case round =>
    obtain ⟨k, l', hk, rfl, hl', hown, hgr⟩ := hrel
    clear HO HLN
    by_cases hlt : k < n + 3
    · have hce := own_cell hown hl' hlt
      have hfr := own_free hown hl' k
      have ho2 := own_set (x := 97) hown hl' hlt
      have hst : wr.grownBy (wr.setCell ⟨g, k, none⟩ (.int .u8 97)) (some g) := by
        have h' : wr.ownsRow B 5 1 (.slice (some ⟨g, 0, none⟩) (n + 3) (n + 3)) (n + 3) (By l') := by have := hown; unfold OwnB at this; rw [hl'] at this; exact this
        exact (World.ownsRow.stored h' k (.int .u8 97)).2
      have hg2 := grown_trans hgr hst
      clear hst hgr hown
      go_wp2
      go_roundw
      case rel => exact ⟨k + 1, l'.set k 97, by omega, by go_num, by simp [hl'], ho2, hg2⟩
      case measure => simp [RowKit.intOf]; omega
    · go_wp2
      go_ret
      exact ⟨rfl, hgr⟩
end Go.Proofs.YtehcemefhgebpaaDoor
