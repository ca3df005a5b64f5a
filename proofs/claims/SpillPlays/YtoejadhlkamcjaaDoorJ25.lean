import Derived.Test.YtoejadhlkamcjaaDoorJ24
namespace Go.Proofs.YtoejadhlkamcjaaDoor
set_option maxRecDepth 100000
open Go.RowKit
def D1 (D : Nat → List Int) (i t : Nat) : List Int := if t < i then mkL t (D t).length else D t
def D2 (D : Nat → List Int) (i k t : Nat) : List Int := if t < i then mkL t (D t).length else if t = i then mkL i k ++ (D i).drop k else D t
theorem D2_set (D : Nat → List Int) (i k : Nat) (hk : k < (D i).length) (t : Nat) : (if t = i then (D2 D i k i).set k (mkB i k) else D2 D i k t) = D2 D i (k + 1) t := by
 unfold D2
 by_cases e : t = i
 ·subst e
  simp only [if_true, Nat.lt_irrefl, if_false]
  rw [drop_cons (D t) k hk]
  have hl := mkL_length t k
  rw [List.set_append_right _ _ (by omega), hl, Nat.sub_self]
  simp [mkL]
 ·simp only [if_neg e]
theorem D2_len (D : Nat → List Int) (i k : Nat) (hk : k ≤ (D i).length) : (D2 D i k i).length = (D i).length := by
 unfold D2
 simp only [Nat.lt_irrefl, if_false, if_true]
 rw [List.length_append, mkL_length, List.length_drop]
 omega
theorem D2_last (D : Nat → List Int) (i t : Nat) : D2 D i (D i).length t = D1 D (i + 1) t := by
 unfold D2 D1
 by_cases e : t < i
 ·rw [if_pos e, if_pos (by omega)]
 ·rw [if_neg e]
  by_cases e2 : t = i
  ·subst e2
   rw [if_pos rfl, if_pos (by omega), List.drop_length, List.append_nil]
  ·rw [if_neg e2, if_neg (by omega)]
theorem D2_first (D : Nat → List Int) (i t : Nat) : D1 D i t = D2 D i 0 t := by
 unfold D2 D1
 by_cases e : t < i
 ·rw [if_pos e, if_pos e]
 ·rw [if_neg e, if_neg e]
  by_cases e2 : t = i
  ·subst e2
   rw [if_pos rfl]
   rfl
  ·rw [if_neg e2]
def cnt : Nat → Nat
 | 0 => 0
 | k + 1 => cnt k + (if k < 3 ∨ k = 8 ∨ k = 19 then 1 else 0)
theorem cnt_bound {k : Nat} (h : k < 20) (h2 : k < 3 ∨ k = 8 ∨ k = 19) : cnt k < 5 := by
 have : ∀ k : Fin 20, (k.val < 3 ∨ k.val = 8 ∨ k.val = 19) → cnt k.val < 5 := by decide
 exact this ⟨k, h⟩ h2
theorem cnt_all : cnt 20 = 5 := by decide
theorem cell_at {V : List Value} {N i : Nat} (hN : V.length = N) (hi : i < N) : ∃ u, V[i]? = some u := ⟨_, List.getElem?_eq_getElem (by omega)⟩
set_option maxHeartbeats 8000000 in
theorem owned9 (w : World) (B bk N : Nat) (v : Value) (V : List Value) (D : Nat → List Int) (h : Bo9 w B bk v V D) (hN : V.length = N) (hN2 : N ≤ 1300000000000) (hB : B ≤ w.heap.size) :
  Calls Tryd.prog 31 #[.pointer (some ⟨bk, 0, none⟩)] w fun e u => e = .returned (.bool true) ∧ Hid (Cf (B ≤ ·) w u) := by
 have HB0 := hidden h
 have hNI : (N : Int) ≤ 1300000000000 := by omega
 obtain ⟨lo, lc, rfl, hcells⟩ := h.row.cells
 rw [hN] at hcells
 have HN := hidden hN
 have HV : Hid (N = 0 ∨ ∃ R, lo = some ⟨R, 0, none⟩ ∧ ∀ (wr : World) (D' : Nat → List Int), Bo9 wr B bk (.slice lo V.length lc) V D' → ∀ (t : Nat) (u : Value), V[t]? = some u → wr.cell? ⟨R, t, none⟩ = some u) := hidden (by
  rcases hcells with h0 | ⟨R, rfl, _, _⟩
  ·exact .inl h0
  ·refine .inr ⟨R, rfl, fun wr D' hb t u ht => ?_⟩
   obtain ⟨ao, c, e, hc⟩ := hb.row.cells
   injection e with e1 _ _
   subst e1
   rcases hc with h0 | ⟨g, e2, _, hc⟩
   ·have := (List.getElem?_eq_some_iff.1 ht).1
    omega
   ·cases e2
    exact hc t u ht)
 rw [hN] at HB0
 rw [hN] at HV
 clear h hcells hN
 go_enter Tryd.func31, Tryd.ntmps31
 go_wp2_with fail
 go_loopw [3] (fun x wr => ∃ i : Nat, i ≤ N ∧ x = .int .i64 (i : Int) ∧ Hid (Bo9 wr B bk (.slice lo N lc) V (D1 D i)) ∧ Hid (Cf (B ≤ ·) w wr)) (fun x _ => N - (RowKit.intOf x).toNat)
 case atStart => exact ⟨0, by omega, rfl, hidden (HB0.out.cong (fun t _ => by simp [D1])), hidden (Cf.refl _ _)⟩
 case round =>
  obtain ⟨i, hi, rfl, HBi, HCi⟩ := hrel
  have hbx := HBi.out.box
  have c0 : wr.cell? ⟨bk, 0, none⟩ = some (.slice lo N lc) := by rw [cell_of_row _ _ 0 _ _ _ hbx]; rfl
  clear hbx
  by_cases hlt : i < N
  ·have hltI : (i : Int) < (N : Int) := by omega
   obtain ⟨u, hu⟩ := cell_at HN.out hlt
   obtain ⟨R, rfl, hR⟩ : ∃ R, lo = some ⟨R, 0, none⟩ ∧ ∀ (wr : World) (D' : Nat → List Int), Bo9 wr B bk (.slice lo N lc) V D' → ∀ (t : Nat) (u : Value), V[t]? = some u → wr.cell? ⟨R, t, none⟩ = some u := by
    rcases HV.out with h0 | h0
    ·omega
    ·exact h0
   have cR := hR wr _ HBi.out i u hu
   have hdl : (D1 D i i).length = (D i).length := by simp [D1]
   obtain ⟨ho, _, hlb⟩ := HBi.out.own i u hu
   obtain ⟨ao, c, rfl, hsh⟩ := own_shape ho
   rw [hdl] at hsh hlb
   obtain ⟨n, hn⟩ : ∃ n, (D i).length = n := ⟨_, rfl⟩
   rw [hdl, hn] at cR hu
   rw [hn] at hsh hlb
   have HNL := hidden hn
   have HU := hidden hu
   have hnI : (n : Int) ≤ 65536 := by omega
   have HB2 : Hid (Bo9 wr B bk (.slice (some ⟨R, 0, none⟩) N lc) V (D2 D i 0)) := hidden (HBi.out.cong (fun t _ => D2_first D i t))
   clear ho hdl hn hu HBi hR
   go_wp2_with fail
   go_loopw [5] (fun y wr2 => ∃ k : Nat, k ≤ n ∧ y = .int .i64 (k : Int) ∧ Hid (Bo9 wr2 B bk (.slice (some ⟨R, 0, none⟩) N lc) V (D2 D i k)) ∧ Hid (Cf (B ≤ ·) w wr2)) (fun y _ => n - (RowKit.intOf y).toNat)
   case atStart => exact ⟨0, by omega, rfl, HB2, HCi⟩
   case round =>
    obtain ⟨k, hk, rfl, HBk, HCk⟩ := hrel
    by_cases hkn : k < n
    ·have hkI : (k : Int) < (n : Int) := by omega
     obtain ⟨g, rfl, hgB⟩ : ∃ g, ao = some ⟨g, 0, none⟩ ∧ B ≤ g := by
      rcases hsh with h0 | h0
      ·omega
      ·exact h0
     obtain ⟨hok, _, _⟩ := HBk.out.own i _ HU.out
     have hl2 : (D2 D i k i).length = n := by rw [D2_len D i k (by rw [HNL.out]; exact hk), HNL.out]
     have ck : ∃ z, wr.cell? ⟨g, k, none⟩ = some z := ⟨_, own_cell hok hl2 hkn⟩
     obtain ⟨z, ck⟩ := ck
     have fk := own_free hok hl2 k
     obtain ⟨m1, m2⟩ := mark_run i k (by omega) (by omega)
     have m3 := mkB_ok i k
     have HST : Hid (Bo9 (wr.setCell ⟨g, k, none⟩ (.int .u8 (mkB i k))) B bk (.slice (some ⟨R, 0, none⟩) N lc) V (D2 D i (k + 1))) := hidden ((HBk.out.set HU.out hl2 hkn m3).cong (fun t _ => D2_set D i k (by rw [HNL.out]; exact hkn) t))
     have HCS : Hid (Cf (B ≤ ·) w (wr.setCell ⟨g, k, none⟩ (.int .u8 (mkB i k)))) := hidden (HCk.out.go (Cf.setCell (F := (B ≤ ·)) wr (p := ⟨g, k, none⟩) hgB _))
     obtain ⟨q, hq⟩ : ∃ q, k / 251 = q := ⟨_, rfl⟩
     rw [hq] at m1 m2
     have hqk : (q : Int) ≤ (k : Int) := by have := Nat.div_le_self k 251; omega
     have m4 : IntKind.i64.wrap ((i : Int) + (q : Int)) = (i : Int) + (q : Int) := by rw [IntKind.wrap_i64]; omega
     have m5 : IntKind.i64.wrap (q : Int) = (q : Int) := by rw [IntKind.wrap_i64]; omega
     generalize mkB i k = y at *
     clear hok hq
     go_wp2
     go_roundw
     case rel => exact ⟨k + 1, by omega, by go_num, HST, HCS⟩
     case measure => simp [RowKit.intOf]; omega
    ·obtain rfl : k = n := by omega
     have hkI : ¬ (k : Int) < (k : Int) := by omega
     have HB3 : Hid (Bo9 wr B bk (.slice (some ⟨R, 0, none⟩) N lc) V (D1 D (i + 1))) := hidden (HBk.out.cong (fun t _ => by rw [← HNL.out]; exact D2_last D i t))
     go_wp2
     go_roundw
     case rel => exact ⟨i + 1, by omega, by go_num, HB3, HCk⟩
     case measure => simp [RowKit.intOf]; omega
  ·have hlI : ¬ (i : Int) < (N : Int) := by omega
   obtain ⟨nn, hnn⟩ : ∃ nn : Nat → Nat, (fun t => (D t).length) = nn := ⟨_, rfl⟩
   have HNN : Hid (∀ t, t < N → nn t ≤ 65536) := hidden (by
    intro t ht
    obtain ⟨u, hu⟩ := cell_at HN.out ht
    rw [← hnn]
    exact (HB0.out.own t u hu).2.2)
   have HQ0 : Hid (Q9 wr B bk (.slice lo N lc) V nn 0 (.slice none 0 0) []) := hidden (by
    rw [← hnn]
    exact Bo9.start (HBi.out.cong (fun t ht => by unfold D1; rw [if_pos (by rw [HN.out] at ht; omega)])))
   have HNE := hidden HB0.out.ne
   clear HBi hnn HV
   go_wp2_with fail
   clear hlI hi
   go_loopw [6, 7] (fun vg x wr => ∃ (i : Nat) (H : List Value), i ≤ N ∧ x = .int .i64 (i : Int) ∧ Hid (Q9 wr B bk (.slice lo N lc) V nn i vg H) ∧ Hid (H.length = 5 * i) ∧ Hid (Cf (B ≤ ·) w wr)) (fun _ x _ => N - (RowKit.intOf x).toNat)
   case atStart => exact ⟨0, [], by omega, rfl, HQ0, hidden rfl, HCi⟩
   case round =>
    obtain ⟨i, H, hi, rfl, HQ, HL, HC⟩ := hrel
    clear HQ0 HCi c0
    have hbx := HQ.out.box
    have c0 : wr.cell? ⟨bk, 0, none⟩ = some (.slice lo N lc) := by rw [cell_of_row _ _ 0 _ _ _ hbx]; rfl
    clear hbx
    by_cases hlt : i < N
    ·have hltI : (i : Int) < (N : Int) := by omega
     obtain ⟨u, hu⟩ := cell_at HN.out hlt
     obtain ⟨R, rfl, cR⟩ : ∃ R, lo = some ⟨R, 0, none⟩ ∧ wr.cell? ⟨R, i, none⟩ = some u := by
      obtain ⟨ao, c, e, hc⟩ := HQ.out.row.cells
      injection e with e1 e2 _
      subst e1
      rcases hc with h0 | ⟨g, e3, _, hc⟩
      ·omega
      ·exact ⟨g, e3, hc i u hu⟩
     obtain ⟨xo0, xc0, rfl, _, _⟩ := HQ.out.lst i u hu
     have HP0 := hidden (HQ.out.into hu)
     have hni := HNN.out i hlt
     have hniI : (nn i : Int) ≤ 65536 := by omega
     clear hu HQ
     go_wp2_with fail
     go_loopw [6, 8, 9] (fun vg x kk wr => ∃ (k : Nat) (xo : Option Addr) (xc : Nat) (H : List Value), k ≤ 20 ∧ kk = .int .i64 (k : Int) ∧ x = .slice xo (nn i + k) xc ∧ Hid (P9 wr B bk (.slice (some ⟨R, 0, none⟩) N lc) V nn i k (.slice xo (nn i + k) xc) vg H) ∧ Hid (H.length = 5 * i + cnt k) ∧ Hid (Cf (B ≤ ·) w wr)) (fun _ _ kk _ => 20 - (RowKit.intOf kk).toNat)
     case atStart => exact ⟨0, xo0, xc0, H, by omega, rfl, rfl, HP0, hidden HL.out, HC⟩
     case round =>
      obtain ⟨k, xo, xc, H, hk, rfl, rfl, HP, HL2, HC2⟩ := hrel
      clear HP0 HC HL c0 cR
      by_cases hk20 : k < 20
      ·have hkI : (k : Int) < 20 := by omega
       obtain ⟨L, hL⟩ : ∃ L, nn i + k = L := ⟨_, rfl⟩
       have HLE := hidden hL
       have hL2 : L ≤ 65556 := by omega
       have hL2I : (L : Int) ≤ 65556 := by omega
       rw [hL] at HP ⊢
       obtain ⟨m1, m2⟩ := mark_run i L (by omega) (by omega)
       have m3 := mkB_ok i L
       obtain ⟨q, hq⟩ : ∃ q, L / 251 = q := ⟨_, rfl⟩
       rw [hq] at m1 m2
       have hqk : (q : Int) ≤ (L : Int) := by have := Nat.div_le_self L 251; omega
       have m4 : IntKind.i64.wrap ((i : Int) + (q : Int)) = (i : Int) + (q : Int) := by rw [IntKind.wrap_i64]; omega
       have m5 : IntKind.i64.wrap (q : Int) = (q : Int) := by rw [IntKind.wrap_i64]; omega
       obtain ⟨x, hx⟩ : ∃ x, wr.alloc (.cells #[.int .u8 (mkB i L)] 5) = x := ⟨_, rfl⟩
       have hbx : Below wr.heap.size wr x := by rw [← hx]; exact bl_al (Below.refl _ _) (Nat.le_refl _) _
       have hcx : x.cell? ⟨wr.heap.size, 0, none⟩ = some (.int .u8 (mkB i L)) := by rw [← hx]; simp
       have hBx : B ≤ x.heap.size := Nat.le_trans hB (Nat.le_trans HC2.out.size hbx.size)
       have HPX := hidden (HP.out.on hbx)
       have hxo : OwnB x B (.slice xo L xc) (mkL i L) := by have := HPX.out.xo; rwa [hL] at this
       obtain ⟨v1, w1, hr, ho1, hcase⟩ := app_one x B 33 (.slice xo L xc) (mkL i L) (mkB i L) wr.heap.size hxo hcx (by rw [mkL_length]; omega) hBx
       have ho2 : OwnB w1 B v1 (mkL i (L + 1)) := ho1
       obtain ⟨yo, yc, rfl, _⟩ := own_shape ho2
       rw [mkL_length] at ho2 hcase hr
       have HP1 : Hid (P9 w1 B bk (.slice (some ⟨R, 0, none⟩) N lc) V nn i (k + 1) (.slice yo (L + 1) yc) _ H) := hidden (HPX.out.appX (by rw [hL]; exact ho2) hcase)
       have HC1 : Hid (Cf (B ≤ ·) w w1) := hidden ((HC2.out.go (Cf.of_below hbx)).go (by
        rcases hcase with ⟨_, hg⟩ | ⟨hb, _⟩
        ·refine ⟨hg.os, hg.tape, hg.output, hg.size, fun z hz hf => hg.block z hz (fun e => hf ?_)⟩
         exact (hxo.blk e.symm).1
        ·exact Cf.of_below hb))
       clear hcase ho1 ho2 hxo hbx hq hL HP HPX HC2
       generalize mkB i L = mb at *
       go_wp2_with (at_builtin; refine app_run9 rfl _ _ _ _ rfl _ _ rfl rfl hr ?_; refine Hid.out ?_)
       apply hidden
       clear hr hx hcx m1 m2 m3 m4 m5
       by_cases hkeep : k < 3 ∨ k = 8 ∨ k = 19
       ·have HCN : Hid (cnt (k + 1) = cnt k + 1) := hidden (by show cnt k + _ = _; rw [if_pos hkeep])
        have hcb := cnt_bound hk20 hkeep
        obtain ⟨y, hy⟩ : ∃ y, w1.alloc (.cells #[.slice yo (L + 1) yc] 33) = y := ⟨_, rfl⟩
        have hby : Below w1.heap.size w1 y := by rw [← hy]; exact bl_al (Below.refl _ _) (Nat.le_refl _) _
        have hcy : y.cell? ⟨w1.heap.size, 0, none⟩ = some (.slice yo (L + 1) yc) := by rw [← hy]; simp
        have HPY := hidden (HP1.out.on hby)
        have hBy : B ≤ y.heap.size := Nat.le_trans hB (Nat.le_trans HC1.out.size hby.size)
        have HCY : Hid (Cf (B ≤ ·) w y) := hidden (HC1.out.go (Cf.of_below hby))
        have hHl : H.length + 1 ≤ 6500000000000 := by rw [HL2.out]; omega
        have HDV : Hid (H.length / 5 = i) := hidden (by rw [HL2.out]; omega)
        clear hby HP1 HC1
        by_cases g1 : k < 3
        ·have d1 : decide ((k : Int) < 3) = true := by simp; omega
         have e1 : (k : Int) < 3 := by omega
         clear hkeep
         go_wp2_with (at_builtin; refine app_x _ rfl _ _ rfl B H _ (.slice yo (L + 1) yc) rfl rfl HPY.out.rowG w1.heap.size rfl hcy hHl hBy ?_; refine Hid.out ?_)
         apply hidden
         intro vG2 w2 hG2 hgr2
         have HP2 : Hid (P9 w2 B bk (.slice (some ⟨R, 0, none⟩) N lc) V nn i (k + 1) (.slice yo (L + 1) yc) vG2 (H ++ [.slice yo (L + 1) yc])) := hidden (HPY.out.appG hG2 hgr2 HDV.out (by omega) (by omega))
         have HC3 : Hid (Cf (B ≤ ·) w w2) := hidden (HCY.out.go ⟨hgr2.grow.os, hgr2.grow.tape, hgr2.grow.output, hgr2.grow.size, fun z hz hf => hgr2.grow.block z hz (fun e => hf (by
          have hrG := HPY.out.rowG
          unfold OwnX at hrG
          exact (hrG.lt z e.symm).1))⟩)
         have HL3 : Hid ((H ++ [Value.slice yo (L + 1) yc]).length = 5 * i + cnt (k + 1)) := hidden (by rw [List.length_append, HL2.out, HCN.out]; rfl)
         have HLK : Hid (nn i + (k + 1) = L + 1) := hidden (by have := HLE.out; omega)
         clear hG2 hgr2 hy hcy HPY
         go_wp2
         go_roundw
         case rel => exact ⟨k + 1, yo, yc, H ++ [.slice yo (L + 1) yc], by omega, by go_num, by rw [HLK.out], by rw [HLK.out]; exact HP2, HL3, HC3⟩
         case measure => simp [RowKit.intOf]; omega
        ·have d1 : decide ((k : Int) < 3) = false := by simp; omega
         have e1 : ¬ (k : Int) < 3 := by omega
         by_cases g2 : k = 8
         ·have d2 : ((k : Int) == 8) = true := by rw [beq_iff_eq]; omega
          have e2 : (k : Int) = 8 := by omega
          clear hkeep
          go_wp2_with (at_builtin; refine app_x _ rfl _ _ rfl B H _ (.slice yo (L + 1) yc) rfl rfl HPY.out.rowG w1.heap.size rfl hcy hHl hBy ?_; refine Hid.out ?_)
          apply hidden
          intro vG2 w2 hG2 hgr2
          have HP2 : Hid (P9 w2 B bk (.slice (some ⟨R, 0, none⟩) N lc) V nn i (k + 1) (.slice yo (L + 1) yc) vG2 (H ++ [.slice yo (L + 1) yc])) := hidden (HPY.out.appG hG2 hgr2 HDV.out (by omega) (by omega))
          have HC3 : Hid (Cf (B ≤ ·) w w2) := hidden (HCY.out.go ⟨hgr2.grow.os, hgr2.grow.tape, hgr2.grow.output, hgr2.grow.size, fun z hz hf => hgr2.grow.block z hz (fun e => hf (by
           have hrG := HPY.out.rowG
           unfold OwnX at hrG
           exact (hrG.lt z e.symm).1))⟩)
          have HL3 : Hid ((H ++ [Value.slice yo (L + 1) yc]).length = 5 * i + cnt (k + 1)) := hidden (by rw [List.length_append, HL2.out, HCN.out]; rfl)
          have HLK : Hid (nn i + (k + 1) = L + 1) := hidden (by have := HLE.out; omega)
          clear hG2 hgr2 hy hcy HPY
          go_wp2
          go_roundw
          case rel => exact ⟨k + 1, yo, yc, H ++ [.slice yo (L + 1) yc], by omega, by go_num, by rw [HLK.out], by rw [HLK.out]; exact HP2, HL3, HC3⟩
          case measure => simp [RowKit.intOf]; omega
         ·have d2 : ((k : Int) == 8) = false := by rw [beq_eq_false_iff_ne]; omega
          have d3 : ((k : Int) == 19) = true := by rw [beq_iff_eq]; omega
          have e2 : ¬ (k : Int) = 8 := by omega
          have e3 : (k : Int) = 19 := by omega
          clear hkeep
          go_wp2_with (at_builtin; refine app_x _ rfl _ _ rfl B H _ (.slice yo (L + 1) yc) rfl rfl HPY.out.rowG w1.heap.size rfl hcy hHl hBy ?_; refine Hid.out ?_)
          apply hidden
          intro vG2 w2 hG2 hgr2
          have HP2 : Hid (P9 w2 B bk (.slice (some ⟨R, 0, none⟩) N lc) V nn i (k + 1) (.slice yo (L + 1) yc) vG2 (H ++ [.slice yo (L + 1) yc])) := hidden (HPY.out.appG hG2 hgr2 HDV.out (by omega) (by omega))
          have HC3 : Hid (Cf (B ≤ ·) w w2) := hidden (HCY.out.go ⟨hgr2.grow.os, hgr2.grow.tape, hgr2.grow.output, hgr2.grow.size, fun z hz hf => hgr2.grow.block z hz (fun e => hf (by
           have hrG := HPY.out.rowG
           unfold OwnX at hrG
           exact (hrG.lt z e.symm).1))⟩)
          have HL3 : Hid ((H ++ [Value.slice yo (L + 1) yc]).length = 5 * i + cnt (k + 1)) := hidden (by rw [List.length_append, HL2.out, HCN.out]; rfl)
          have HLK : Hid (nn i + (k + 1) = L + 1) := hidden (by have := HLE.out; omega)
          clear hG2 hgr2 hy hcy HPY
          go_wp2
          go_roundw
          case rel => exact ⟨k + 1, yo, yc, H ++ [.slice yo (L + 1) yc], by omega, by go_num, by rw [HLK.out], by rw [HLK.out]; exact HP2, HL3, HC3⟩
          case measure => simp [RowKit.intOf]; omega
       ·have HCN : Hid (cnt (k + 1) = cnt k) := hidden (by show cnt k + _ = _; rw [if_neg hkeep]; rfl)
        have d1 : decide ((k : Int) < 3) = false := by simp; omega
        have d2 : ((k : Int) == 8) = false := by rw [beq_eq_false_iff_ne]; omega
        have d3 : ((k : Int) == 19) = false := by rw [beq_eq_false_iff_ne]; omega
        have e1 : ¬ (k : Int) < 3 := by omega
        have e2 : ¬ (k : Int) = 8 := by omega
        have e3 : ¬ (k : Int) = 19 := by omega
        have HLK : Hid (nn i + (k + 1) = L + 1) := hidden (by have := HLE.out; omega)
        clear hkeep
        go_wp2
        go_roundw
        case rel => exact ⟨k + 1, yo, yc, H, by omega, by go_num, by rw [HLK.out], by rw [HLK.out]; exact HP1, by rw [HCN.out]; exact HL2, HC1⟩
        case measure => simp [RowKit.intOf]; omega
      ·obtain rfl : k = 20 := by omega
       have HQ1 : Hid (Q9 wr B bk (.slice (some ⟨R, 0, none⟩) N lc) V nn (i + 1) _ H) := hidden (HP.out.out HNE.out)
       have HL3 : Hid (H.length = 5 * (i + 1)) := hidden (by rw [HL2.out, cnt_all]; omega)
       clear HP
       go_wp2
       go_roundw
       case rel => exact ⟨i + 1, H, by omega, by go_num, HQ1, HL3, HC2⟩
       case measure => simp [RowKit.intOf]; omega
    ·have hlI : ¬ (i : Int) < (N : Int) := by omega
     obtain ⟨go, gc, rfl, hgc⟩ := HQ.out.rowG.cells
     have hHl : H.length ≤ 6500000000000 := by rw [HL.out]; omega
     have HGC := hidden hgc
     obtain ⟨hn, hhn⟩ : ∃ hn, H.length = hn := ⟨_, rfl⟩
     have HHN := hidden hhn
     have HQ2 := hidden HQ.out
     rw [hhn] at HGC HQ2 ⊢
     have hhnI : (hn : Int) ≤ 6500000000000 := by omega
     clear hgc HQ HL hhn
     go_wp2_with fail
     go_loop [10] (fun x => ∃ t : Nat, t ≤ N ∧ x = .int .i64 (t : Int)) (fun x => N - (RowKit.intOf x).toNat)
     case atStart => exact ⟨0, by omega, rfl⟩
     case round =>
      obtain ⟨t, ht, rfl⟩ := hrel
      by_cases htN : t < N
      ·have htI : (t : Int) < (N : Int) := by omega
       obtain ⟨u, hu⟩ := cell_at HN.out htN
       obtain ⟨R, rfl, cR⟩ : ∃ R, lo = some ⟨R, 0, none⟩ ∧ wr.cell? ⟨R, t, none⟩ = some u := by
        obtain ⟨ao, c, e, hc⟩ := HQ2.out.row.cells
        injection e with e1 e2 _
        subst e1
        rcases hc with h0 | ⟨g, e3, _, hc⟩
        ·omega
        ·exact ⟨g, e3, hc t u hu⟩
       obtain ⟨ao, c, rfl, hs, _⟩ := HQ2.out.lst t u hu
       have HM := hidden (marked_any ao (nn t) c t wr hs (by omega))
       clear hs hu
       go_wp2_with (first | (go_at_call 54; refine same_call HM.out ?_))
       go_round
       case rel => exact ⟨t + 1, by omega, by go_num⟩
       case measure => simp [RowKit.intOf]; omega
      ·have htI : ¬ (t : Int) < (N : Int) := by omega
       go_wp2_with fail
       go_loop [12] (fun x => ∃ s : Nat, s ≤ hn ∧ x = .int .i64 (s : Int)) (fun x => hn - (RowKit.intOf x).toNat)
       case atStart => exact ⟨0, by omega, rfl⟩
       case round =>
        obtain ⟨s, hs, rfl⟩ := hrel
        by_cases hsN : s < hn
        ·have hsI : (s : Int) < (hn : Int) := by omega
         obtain ⟨u, hu⟩ := cell_at HHN.out hsN
         obtain ⟨G, rfl, cG⟩ : ∃ G, go = some ⟨G, 0, none⟩ ∧ wr.cell? ⟨G, s, none⟩ = some u := by
          rcases HGC.out with h0 | ⟨g, e3, _, hc⟩
          ·omega
          ·exact ⟨g, e3, hc s u hu⟩
         obtain ⟨n, ao, c, rfl, hsl, _⟩ := HQ2.out.gr s u hu
         have HM := hidden (marked_any ao n c (s / 5) wr hsl (by omega))
         have hq5 : Int.tdiv (s : Int) 5 = ((s / 5 : Nat) : Int) := by
          rw [Int.tdiv_eq_ediv_of_nonneg (by omega)]
          rfl
         obtain ⟨q, hq⟩ : ∃ q, s / 5 = q := ⟨_, rfl⟩
         rw [hq] at HM hq5
         have hqs : (q : Int) ≤ 6500000000000 := by omega
         have hqw : IntKind.i64.wrap (q : Int) = (q : Int) := by rw [IntKind.wrap_i64]; omega
         clear hsl hu hq
         go_wp2_with (first | (go_at_call 54; refine same_call HM.out ?_))
         go_round
         case rel => exact ⟨s + 1, by omega, by go_num⟩
         case measure => simp [RowKit.intOf]; omega
        ·have hsI : ¬ (s : Int) < (hn : Int) := by omega
         go_wp2
         go_ret
         exact ⟨rfl, HC⟩
end Go.Proofs.YtoejadhlkamcjaaDoor
