import Derived.Test.YtbkhjeacmmbabaaGreatDoorJ16
import Derived.Deep.OwnRows
import Derived.Laws.CopyOwn
namespace Go.Proofs.YtbkhjeacmmbabaaGreatDoor
set_option maxRecDepth 100000
set_option maxHeartbeats 8000000
open Go.RowKit
namespace Six
theorem box9 {w : World} {B bk : Nat} {lv : Value} (h : w.heap[bk]? = some (.cells #[.slice none 0 0, lv] 42 (0, 0))) : Bo9 w B bk lv (.slice none 0 0) [] (fun _ => []) :=
 ⟨h, OwnX.nil _ _, fun t u ht => by simp at ht, fun t t' u u' ht => by simp at ht⟩
theorem owned9F (F : Nat → Prop) (w : World) (B bk N : Nat) (lv : Value) (v : Value) (V : List Value) (D : Nat → List Int) (h : Bo9 w B bk lv v V D) (hF : ∀ (t : Nat) (u : Value), V[t]? = some u → Fo F w u) (hN : V.length = N) (hN2 : N ≤ 4000000) (hB : B ≤ w.heap.size) :
  Calls Tryz.prog 30 #[.pointer (some ⟨bk, 0, none⟩)] w fun e u => e = .returned (.bool true) ∧ Hid (Cf F w u) := by
 have HB0 := zaa h
 have HFO := zaa hF
 clear hF
 have hNI : (N : Int) ≤ 4000000 := by omega
 obtain ⟨lo, lc, rfl, hcells⟩ := h.row.cells
 rw [hN] at hcells
 have HN := zaa hN
 have HV : Hid (N = 0 ∨ ∃ R, lo = some ⟨R, 0, none⟩ ∧ ∀ (wr : World) (D' : Nat → List Int), Bo9 wr B bk lv (.slice lo V.length lc) V D' → ∀ (t : Nat) (u : Value), V[t]? = some u → wr.cell? ⟨R, t, none⟩ = some u) := zaa (by
  rcases hcells with h0 | ⟨R, rfl, _, _⟩
  ·exact .inl h0
  ·refine .inr ⟨R, rfl, fun wr D' hb t u ht => ?_⟩
   obtain ⟨ao, c, e, hc⟩ := hb.row.cells
   injection e with e1 _ _
   subst e1
   rcases hc with h0 | ⟨g, e2, _, hc⟩
   ·have := (zH.1 ht).1
    omega
   ·cases e2
    exact hc t u ht)
 rw [hN] at HB0
 rw [hN] at HV
 clear h hcells hN
 go_enter Tryz.func30, Tryz.ntmps30
 go_wp2_with fail
 go_loopw [3] (fun x wr => ∃ i : Nat, i ≤ N ∧ x = .int .i64 (i : Int) ∧ Hid (Bo9 wr B bk lv (.slice lo N lc) V (D1 D i)) ∧ Hid (Cf (Fw F w) w wr)) (fun x _ => N - (RowKit.intOf x).toNat)
 case atStart => exact ⟨0, by omega, rfl, zaa (HB0.out.cong (fun t _ => by simp [D1])), zaa (Cf.refl _ _)⟩
 case round =>
  obtain ⟨i, hi, rfl, HBi, HCi⟩ := hrel
  have hbx := HBi.out.box
  have c0 : wr.cell? ⟨bk, 0, none⟩ = some (.slice lo N lc) := by rw [cell_of_row _ _ 0 _ _ _ hbx]; rfl
  clear hbx
  by_cases hlt : i < N
  ·have hltI : (i : Int) < (N : Int) := by omega
   obtain ⟨u, hu⟩ := zbx HN.out hlt
   obtain ⟨R, rfl, hR⟩ : ∃ R, lo = some ⟨R, 0, none⟩ ∧ ∀ (wr : World) (D' : Nat → List Int), Bo9 wr B bk lv (.slice lo N lc) V D' → ∀ (t : Nat) (u : Value), V[t]? = some u → wr.cell? ⟨R, t, none⟩ = some u := by
    rcases HV.out with h0 | h0
    ·omega
    ·exact h0
   have cR := hR wr _ HBi.out i u hu
   have hdl : (D1 D i i).length = (D i).length := by simp [D1]
   obtain ⟨ho, _, hlb⟩ := HBi.out.own i u hu
   obtain ⟨ao, c, rfl, hsh⟩ := zcw ho
   rw [hdl] at hsh hlb
   obtain ⟨n, hn⟩ : ∃ n, (D i).length = n := ⟨_, rfl⟩
   rw [hdl, hn] at cR hu
   rw [hn] at hsh hlb
   have HNL := zaa hn
   have HU := zaa hu
   have hnI : (n : Int) ≤ 65536 := by omega
   have HB2 : Hid (Bo9 wr B bk lv (.slice (some ⟨R, 0, none⟩) N lc) V (D2 D i 0)) := zaa (HBi.out.cong (fun t _ => D2_first D i t))
   clear ho hdl hn hu HBi hR
   go_wp2_with fail
   go_loopw [5] (fun y wr2 => ∃ k : Nat, k ≤ n ∧ y = .int .i64 (k : Int) ∧ Hid (Bo9 wr2 B bk lv (.slice (some ⟨R, 0, none⟩) N lc) V (D2 D i k)) ∧ Hid (Cf (Fw F w) w wr2)) (fun y _ => n - (RowKit.intOf y).toNat)
   case atStart => exact ⟨0, by omega, rfl, HB2, HCi⟩
   case round =>
    obtain ⟨k, hk, rfl, HBk, HCk⟩ := hrel
    by_cases hkn : k < n
    ·have hkI : (k : Int) < (n : Int) := by omega
     obtain ⟨g, rfl, hgB⟩ : ∃ g, ao = some ⟨g, 0, none⟩ ∧ B ≤ g := by
      rcases hsh with h0 | h0
      ·omega
      ·exact h0
     obtain ⟨hok, _, _⟩ := HBk.out.own i _ HU.out
     have hl2 : (D2 D i k i).length = n := by rw [D2_len D i k (by rw [HNL.out]; exact hk), HNL.out]
     have ck : ∃ z, wr.cell? ⟨g, k, none⟩ = some z := ⟨_, own_cell hok hl2 hkn⟩
     obtain ⟨z, ck⟩ := ck
     have fk := own_free hok hl2 k
     obtain ⟨m1, m2⟩ := mark_run i k (by omega) (by omega)
     have m3 := mkB_ok i k
     have HST : Hid (Bo9 (wr.setCell ⟨g, k, none⟩ (.int .u8 (mkB i k))) B bk lv (.slice (some ⟨R, 0, none⟩) N lc) V (D2 D i (k + 1))) := zaa ((HBk.out.set HU.out hl2 hkn m3).cong (fun t _ => D2_set D i k (by rw [HNL.out]; exact hkn) t))
     have HCS : Hid (Cf (Fw F w) w (wr.setCell ⟨g, k, none⟩ (.int .u8 (mkB i k)))) := zaa (HCk.out.go (Cf.setCell (F := Fw F w) wr (p := ⟨g, k, none⟩) (HFO.out i _ HU.out g rfl) _))
     obtain ⟨q, hq⟩ : ∃ q, k / 251 = q := ⟨_, rfl⟩
     rw [hq] at m1 m2
     have hqk : (q : Int) ≤ (k : Int) := by have := Nat.div_le_self k 251; omega
     have m4 : IntKind.i64.wrap ((i : Int) + (q : Int)) = (i : Int) + (q : Int) := by rw [IntKind.wrap_i64]; omega
     have m5 : IntKind.i64.wrap (q : Int) = (q : Int) := by rw [IntKind.wrap_i64]; omega
     generalize mkB i k = y at *
     clear hok hq
     go_wp2
     go_roundw
     case rel => exact ⟨k + 1, by omega, by go_num, HST, HCS⟩
     case measure => simp [RowKit.intOf]; omega
    ·obtain rfl : k = n := by omega
     have hkI : ¬ (k : Int) < (k : Int) := by omega
     have HB3 : Hid (Bo9 wr B bk lv (.slice (some ⟨R, 0, none⟩) N lc) V (D1 D (i + 1))) := zaa (HBk.out.cong (fun t _ => by rw [← HNL.out]; exact D2_last D i t))
     go_wp2
     go_roundw
     case rel => exact ⟨i + 1, by omega, by go_num, HB3, HCk⟩
     case measure => simp [RowKit.intOf]; omega
  ·have hlI : ¬ (i : Int) < (N : Int) := by omega
   obtain ⟨nn, hnn⟩ : ∃ nn : Nat → Nat, (fun t => (D t).length) = nn := ⟨_, rfl⟩
   have HNN : Hid (∀ t, t < N → nn t ≤ 65536) := zaa (by
    intro t ht
    obtain ⟨u, hu⟩ := zbx HN.out ht
    rw [← hnn]
    exact (HB0.out.own t u hu).2.2)
   have HQ0 : Hid (Q9 wr B bk lv (.slice lo N lc) V nn 0 (.slice none 0 0) []) := zaa (by
    rw [← hnn]
    exact Bo9.start (HBi.out.cong (fun t ht => by unfold D1; rw [if_pos (by rw [HN.out] at ht; omega)])))
   have HNE := zaa HB0.out.ne
   clear HBi hnn HV
   go_wp2_with fail
   clear hlI hi
   go_loopw [6, 7] (fun vg x wr => ∃ (i : Nat) (H : List Value), i ≤ N ∧ x = .int .i64 (i : Int) ∧ Hid (Q9 wr B bk lv (.slice lo N lc) V nn i vg H) ∧ Hid (H.length = 5 * i) ∧ Hid (Cf (Fw F w) w wr) ∧ Hid (Fo F w vg)) (fun _ x _ => N - (RowKit.intOf x).toNat)
   case atStart => exact ⟨0, [], by omega, rfl, HQ0, zaa rfl, HCi, zaa (fun z hz => by cases hz)⟩
   case round =>
    obtain ⟨i, H, hi, rfl, HQ, HL, HC, HFG⟩ := hrel
    clear HQ0 HCi c0
    have hbx := HQ.out.box
    have c0 : wr.cell? ⟨bk, 0, none⟩ = some (.slice lo N lc) := by rw [cell_of_row _ _ 0 _ _ _ hbx]; rfl
    clear hbx
    by_cases hlt : i < N
    ·have hltI : (i : Int) < (N : Int) := by omega
     obtain ⟨u, hu⟩ := zbx HN.out hlt
     obtain ⟨R, rfl, cR⟩ : ∃ R, lo = some ⟨R, 0, none⟩ ∧ wr.cell? ⟨R, i, none⟩ = some u := by
      obtain ⟨ao, c, e, hc⟩ := HQ.out.row.cells
      injection e with e1 e2 _
      subst e1
      rcases hc with h0 | ⟨g, e3, _, hc⟩
      ·omega
      ·exact ⟨g, e3, hc i u hu⟩
     obtain ⟨xo0, xc0, rfl, _, _⟩ := HQ.out.lst i u hu
     have HP0 := zaa (HQ.out.into hu)
     have HFX0 := zaa (HFO.out i _ hu)
     have hni := HNN.out i hlt
     have hniI : (nn i : Int) ≤ 65536 := by omega
     clear hu HQ
     go_wp2_with fail
     go_loopw [6, 8, 9] (fun vg x kk wr => ∃ (k : Nat) (xo : Option Addr) (xc : Nat) (H : List Value), k ≤ 20 ∧ kk = .int .i64 (k : Int) ∧ x = .slice xo (nn i + k) xc ∧ Hid (P9 wr B bk lv (.slice (some ⟨R, 0, none⟩) N lc) V nn i k (.slice xo (nn i + k) xc) vg H) ∧ Hid (H.length = 5 * i + cnt k) ∧ Hid (Cf (Fw F w) w wr) ∧ Hid (Fo F w vg) ∧ Hid (Fo F w x)) (fun _ _ kk _ => 20 - (RowKit.intOf kk).toNat)
     case atStart => exact ⟨0, xo0, xc0, H, by omega, rfl, rfl, HP0, zaa HL.out, HC, HFG, HFX0⟩
     case round =>
      obtain ⟨k, xo, xc, H, hk, rfl, rfl, HP, HL2, HC2, HFG2, HFX⟩ := hrel
      clear HP0 HC HL c0 cR HFG HFX0
      by_cases hk20 : k < 20
      ·have hkI : (k : Int) < 20 := by omega
       obtain ⟨L, hL⟩ : ∃ L, nn i + k = L := ⟨_, rfl⟩
       have HLE := zaa hL
       have hL2 : L ≤ 65556 := by omega
       have hL2I : (L : Int) ≤ 65556 := by omega
       rw [hL] at HP HFX ⊢
       obtain ⟨m1, m2⟩ := mark_run i L (by omega) (by omega)
       have m3 := mkB_ok i L
       obtain ⟨q, hq⟩ : ∃ q, L / 251 = q := ⟨_, rfl⟩
       rw [hq] at m1 m2
       have hqk : (q : Int) ≤ (L : Int) := by have := Nat.div_le_self L 251; omega
       have m4 : IntKind.i64.wrap ((i : Int) + (q : Int)) = (i : Int) + (q : Int) := by rw [IntKind.wrap_i64]; omega
       have m5 : IntKind.i64.wrap (q : Int) = (q : Int) := by rw [IntKind.wrap_i64]; omega
       obtain ⟨x, hx⟩ : ∃ x, wr.alloc (.cells #[.int .u8 (mkB i L)] 5) = x := ⟨_, rfl⟩
       have hbx : Below wr.heap.size wr x := by rw [← hx]; exact zad Br Lr _
       have hcx : x.cell? ⟨wr.heap.size, 0, none⟩ = some (.int .u8 (mkB i L)) := by rw [← hx]; simp
       have hBx : B ≤ x.heap.size := zN hB (zN HC2.out.size hbx.size)
       have HPX := zaa (HP.out.on hbx)
       have hxo : OwnB x B (.slice xo L xc) (mkL i L) := by have := HPX.out.xo; rwa [hL] at this
       obtain ⟨v1, w1, hr, ho1, hcase⟩ := app_one x B 22 (.slice xo L xc) (mkL i L) (mkB i L) wr.heap.size hxo hcx (by rw [zax]; omega) hBx
       have ho2 : OwnB w1 B v1 (mkL i (L + 1)) := ho1
       obtain ⟨yo, yc, rfl, _⟩ := zcw ho2
       rw [zax] at ho2 hcase hr
       have HP1 : Hid (P9 w1 B bk lv (.slice (some ⟨R, 0, none⟩) N lc) V nn i (k + 1) (.slice yo (L + 1) yc) _ H) := zaa (HPX.out.appX (by rw [hL]; exact ho2) hcase)
       have HC1 : Hid (Cf (Fw F w) w w1) := zaa ((HC2.out.go (Cf.of_below hbx)).go (by
        rcases hcase with ⟨_, hg⟩ | ⟨hb, _⟩
        ·refine ⟨hg.os, hg.tape, hg.output, hg.size, fun z hz hf => hg.block z hz (fun e => hf ?_)⟩
         exact HFX.out z e.symm
        ·exact Cf.of_below hb))
       have HFY : Hid (Fo F w (.slice yo (L + 1) yc)) := zaa (fun z hz => by
        rcases hcase with ⟨e, _⟩ | ⟨_, hn⟩
        ·exact HFX.out z (by rw [← e]; exact hz)
        ·exact .inr (zN (zN HC2.out.size hbx.size) (hn z hz)))
       clear hcase ho1 ho2 hxo hbx hq hL HP HPX HC2
       generalize mkB i L = mb at *
       go_wp2_with (at_builtin; refine app_run9 rfl _ _ _ _ rfl _ _ rfl rfl hr ?_; refine Hid.out ?_)
       apply zaa
       clear hr hx hcx m1 m2 m3 m4 m5
       by_cases hkeep : k < 3 ∨ k = 8 ∨ k = 19
       ·have HCN : Hid (cnt (k + 1) = cnt k + 1) := zaa (by show cnt k + _ = _; rw [if_pos hkeep])
        have hcb := cnt_bound hk20 hkeep
        obtain ⟨y, hy⟩ : ∃ y, w1.alloc (.cells #[.slice yo (L + 1) yc] 22) = y := ⟨_, rfl⟩
        have hby : Below w1.heap.size w1 y := by rw [← hy]; exact zad Br Lr _
        have hcy : y.cell? ⟨w1.heap.size, 0, none⟩ = some (.slice yo (L + 1) yc) := by rw [← hy]; simp
        have HPY := zaa (HP1.out.on hby)
        have hBy : B ≤ y.heap.size := zN hB (zN HC1.out.size hby.size)
        have HCY : Hid (Cf (Fw F w) w y) := zaa (HC1.out.go (Cf.of_below hby))
        have hHl : H.length + 1 ≤ 6500000000000 := by rw [HL2.out]; omega
        have HDV : Hid (H.length / 5 = i) := zaa (by rw [HL2.out]; omega)
        clear hby HP1 HC1
        by_cases g1 : k < 3
        ·have d1 : decide ((k : Int) < 3) = true := by simp; omega
         have e1 : (k : Int) < 3 := by omega
         clear hkeep
         go_wp2_with (at_builtin; refine app_x _ rfl _ _ rfl B H _ (.slice yo (L + 1) yc) rfl rfl HPY.out.rowG w1.heap.size rfl hcy hHl hBy ?_; refine Hid.out ?_)
         apply zaa
         intro vG2 w2 hG2 hgr2
         have HP2 : Hid (P9 w2 B bk lv (.slice (some ⟨R, 0, none⟩) N lc) V nn i (k + 1) (.slice yo (L + 1) yc) vG2 (H ++ [.slice yo (L + 1) yc])) := zaa (HPY.out.appG hG2 hgr2 HDV.out (by omega) (by omega))
         have HC3 : Hid (Cf (Fw F w) w w2) := zaa (HCY.out.go ⟨hgr2.grow.os, hgr2.grow.tape, hgr2.grow.output, hgr2.grow.size, fun z hz hf => hgr2.grow.block z hz (fun e => hf (HFG2.out z e.symm))⟩)
         have HFG3 : Hid (Fo F w vG2) := zaa (fun z hz => by
          rcases hgr2.own with e | ⟨q, e, hq⟩
          ·exact HFG2.out z (by rw [← e]; exact hz)
          ·rw [e] at hz
           cases hz
           exact .inr (zN HCY.out.size hq))
         have HL3 : Hid ((H ++ [Value.slice yo (L + 1) yc]).length = 5 * i + cnt (k + 1)) := zaa (by rw [zG, HL2.out, HCN.out]; rfl)
         have HLK : Hid (nn i + (k + 1) = L + 1) := zaa (by have := HLE.out; omega)
         clear hG2 hgr2 hy hcy HPY
         go_wp2
         go_roundw
         case rel => exact ⟨k + 1, yo, yc, H ++ [.slice yo (L + 1) yc], by omega, by go_num, by rw [HLK.out], by rw [HLK.out]; exact HP2, HL3, HC3, HFG3, HFY⟩
         case measure => simp [RowKit.intOf]; omega
        ·have d1 : decide ((k : Int) < 3) = false := by simp; omega
         have e1 : ¬ (k : Int) < 3 := by omega
         by_cases g2 : k = 8
         ·have d2 : ((k : Int) == 8) = true := by rw [beq_iff_eq]; omega
          have e2 : (k : Int) = 8 := by omega
          clear hkeep
          go_wp2_with (at_builtin; refine app_x _ rfl _ _ rfl B H _ (.slice yo (L + 1) yc) rfl rfl HPY.out.rowG w1.heap.size rfl hcy hHl hBy ?_; refine Hid.out ?_)
          apply zaa
          intro vG2 w2 hG2 hgr2
          have HP2 : Hid (P9 w2 B bk lv (.slice (some ⟨R, 0, none⟩) N lc) V nn i (k + 1) (.slice yo (L + 1) yc) vG2 (H ++ [.slice yo (L + 1) yc])) := zaa (HPY.out.appG hG2 hgr2 HDV.out (by omega) (by omega))
          have HC3 : Hid (Cf (Fw F w) w w2) := zaa (HCY.out.go ⟨hgr2.grow.os, hgr2.grow.tape, hgr2.grow.output, hgr2.grow.size, fun z hz hf => hgr2.grow.block z hz (fun e => hf (HFG2.out z e.symm))⟩)
          have HFG3 : Hid (Fo F w vG2) := zaa (fun z hz => by
           rcases hgr2.own with e | ⟨q, e, hq⟩
           ·exact HFG2.out z (by rw [← e]; exact hz)
           ·rw [e] at hz
            cases hz
            exact .inr (zN HCY.out.size hq))
          have HL3 : Hid ((H ++ [Value.slice yo (L + 1) yc]).length = 5 * i + cnt (k + 1)) := zaa (by rw [zG, HL2.out, HCN.out]; rfl)
          have HLK : Hid (nn i + (k + 1) = L + 1) := zaa (by have := HLE.out; omega)
          clear hG2 hgr2 hy hcy HPY
          go_wp2
          go_roundw
          case rel => exact ⟨k + 1, yo, yc, H ++ [.slice yo (L + 1) yc], by omega, by go_num, by rw [HLK.out], by rw [HLK.out]; exact HP2, HL3, HC3, HFG3, HFY⟩
          case measure => simp [RowKit.intOf]; omega
         ·have d2 : ((k : Int) == 8) = false := by rw [beq_eq_false_iff_ne]; omega
          have d3 : ((k : Int) == 19) = true := by rw [beq_iff_eq]; omega
          have e2 : ¬ (k : Int) = 8 := by omega
          have e3 : (k : Int) = 19 := by omega
          clear hkeep
          go_wp2_with (at_builtin; refine app_x _ rfl _ _ rfl B H _ (.slice yo (L + 1) yc) rfl rfl HPY.out.rowG w1.heap.size rfl hcy hHl hBy ?_; refine Hid.out ?_)
          apply zaa
          intro vG2 w2 hG2 hgr2
          have HP2 : Hid (P9 w2 B bk lv (.slice (some ⟨R, 0, none⟩) N lc) V nn i (k + 1) (.slice yo (L + 1) yc) vG2 (H ++ [.slice yo (L + 1) yc])) := zaa (HPY.out.appG hG2 hgr2 HDV.out (by omega) (by omega))
          have HC3 : Hid (Cf (Fw F w) w w2) := zaa (HCY.out.go ⟨hgr2.grow.os, hgr2.grow.tape, hgr2.grow.output, hgr2.grow.size, fun z hz hf => hgr2.grow.block z hz (fun e => hf (HFG2.out z e.symm))⟩)
          have HFG3 : Hid (Fo F w vG2) := zaa (fun z hz => by
           rcases hgr2.own with e | ⟨q, e, hq⟩
           ·exact HFG2.out z (by rw [← e]; exact hz)
           ·rw [e] at hz
            cases hz
            exact .inr (zN HCY.out.size hq))
          have HL3 : Hid ((H ++ [Value.slice yo (L + 1) yc]).length = 5 * i + cnt (k + 1)) := zaa (by rw [zG, HL2.out, HCN.out]; rfl)
          have HLK : Hid (nn i + (k + 1) = L + 1) := zaa (by have := HLE.out; omega)
          clear hG2 hgr2 hy hcy HPY
          go_wp2
          go_roundw
          case rel => exact ⟨k + 1, yo, yc, H ++ [.slice yo (L + 1) yc], by omega, by go_num, by rw [HLK.out], by rw [HLK.out]; exact HP2, HL3, HC3, HFG3, HFY⟩
          case measure => simp [RowKit.intOf]; omega
       ·have HCN : Hid (cnt (k + 1) = cnt k) := zaa (by show cnt k + _ = _; rw [if_neg hkeep]; rfl)
        have d1 : decide ((k : Int) < 3) = false := by simp; omega
        have d2 : ((k : Int) == 8) = false := by rw [beq_eq_false_iff_ne]; omega
        have d3 : ((k : Int) == 19) = false := by rw [beq_eq_false_iff_ne]; omega
        have e1 : ¬ (k : Int) < 3 := by omega
        have e2 : ¬ (k : Int) = 8 := by omega
        have e3 : ¬ (k : Int) = 19 := by omega
        have HLK : Hid (nn i + (k + 1) = L + 1) := zaa (by have := HLE.out; omega)
        clear hkeep
        go_wp2
        go_roundw
        case rel => exact ⟨k + 1, yo, yc, H, by omega, by go_num, by rw [HLK.out], by rw [HLK.out]; exact HP1, by rw [HCN.out]; exact HL2, HC1, HFG2, HFY⟩
        case measure => simp [RowKit.intOf]; omega
      ·obtain rfl : k = 20 := by omega
       have HQ1 : Hid (Q9 wr B bk lv (.slice (some ⟨R, 0, none⟩) N lc) V nn (i + 1) _ H) := zaa (HP.out.out HNE.out)
       have HL3 : Hid (H.length = 5 * (i + 1)) := zaa (by rw [HL2.out, cnt_all]; omega)
       clear HP
       go_wp2
       go_roundw
       case rel => exact ⟨i + 1, H, by omega, by go_num, HQ1, HL3, HC2, HFG2⟩
       case measure => simp [RowKit.intOf]; omega
    ·have hlI : ¬ (i : Int) < (N : Int) := by omega
     obtain ⟨go, gc, rfl, hgc⟩ := HQ.out.rowG.cells
     have hHl : H.length ≤ 20000000 := by rw [HL.out]; omega
     have HGC := zaa hgc
     obtain ⟨hn, hhn⟩ : ∃ hn, H.length = hn := ⟨_, rfl⟩
     have HHN := zaa hhn
     have HQ2 := zaa HQ.out
     rw [hhn] at HGC HQ2 ⊢
     have hhnI : (hn : Int) ≤ 20000000 := by omega
     clear hgc HQ HL hhn
     go_wp2_with fail
     go_loop [10] (fun x => ∃ t : Nat, t ≤ N ∧ x = .int .i64 (t : Int)) (fun x => N - (RowKit.intOf x).toNat)
     case atStart => exact ⟨0, by omega, rfl⟩
     case round =>
      obtain ⟨t, ht, rfl⟩ := hrel
      by_cases htN : t < N
      ·have htI : (t : Int) < (N : Int) := by omega
       obtain ⟨u, hu⟩ := zbx HN.out htN
       obtain ⟨R, rfl, cR⟩ : ∃ R, lo = some ⟨R, 0, none⟩ ∧ wr.cell? ⟨R, t, none⟩ = some u := by
        obtain ⟨ao, c, e, hc⟩ := HQ2.out.row.cells
        injection e with e1 e2 _
        subst e1
        rcases hc with h0 | ⟨g, e3, _, hc⟩
        ·omega
        ·exact ⟨g, e3, hc t u hu⟩
       obtain ⟨ao, c, rfl, hs, _⟩ := HQ2.out.lst t u hu
       have HM := zaa (marked_any ao (nn t) c t wr hs (by omega))
       clear hs hu
       go_wp2_with (go_at_call 68; refine zac HM.out ?_)
       go_round
       case rel => exact ⟨t + 1, by omega, by go_num⟩
       case measure => simp [RowKit.intOf]; omega
      ·have htI : ¬ (t : Int) < (N : Int) := by omega
       go_wp2_with fail
       go_loop [12] (fun x => ∃ s : Nat, s ≤ hn ∧ x = .int .i64 (s : Int)) (fun x => hn - (RowKit.intOf x).toNat)
       case atStart => exact ⟨0, by omega, rfl⟩
       case round =>
        obtain ⟨s, hs, rfl⟩ := hrel
        by_cases hsN : s < hn
        ·have hsI : (s : Int) < (hn : Int) := by omega
         obtain ⟨u, hu⟩ := zbx HHN.out hsN
         obtain ⟨G, rfl, cG⟩ : ∃ G, go = some ⟨G, 0, none⟩ ∧ wr.cell? ⟨G, s, none⟩ = some u := by
          rcases HGC.out with h0 | ⟨g, e3, _, hc⟩
          ·omega
          ·exact ⟨g, e3, hc s u hu⟩
         obtain ⟨n, ao, c, rfl, hsl, _⟩ := HQ2.out.gr s u hu
         have HM := zaa (marked_any ao n c (s / 5) wr hsl (by omega))
         have hq5 : Int.tdiv (s : Int) 5 = ((s / 5 : Nat) : Int) := by
          rw [Int.tdiv_eq_ediv_of_nonneg (by omega)]
          rfl
         obtain ⟨q, hq⟩ : ∃ q, s / 5 = q := ⟨_, rfl⟩
         rw [hq] at HM hq5
         have hqs : (q : Int) ≤ 20000000 := by omega
         have hqw : IntKind.i64.wrap (q : Int) = (q : Int) := by rw [IntKind.wrap_i64]; omega
         clear hsl hu hq
         go_wp2_with (go_at_call 68; refine zac HM.out ?_)
         go_round
         case rel => exact ⟨s + 1, by omega, by go_num⟩
         case measure => simp [RowKit.intOf]; omega
        ·have hsI : ¬ (s : Int) < (hn : Int) := by omega
         go_wp2
         go_ret
         exact ⟨rfl, zaa HC.out.narrow⟩
end Six
end Go.Proofs.YtbkhjeacmmbabaaGreatDoor
namespace Go.Proofs.YtbkhjeacmmbabaaGreatDoor
set_option maxRecDepth 100000
set_option maxHeartbeats 8000000
open Go.RowKit
def DXt (w : World) (lo hi b off : Nat) (c : Cl) : Prop :=
 ∃ g1 g2, w.cell? ⟨b, off, none⟩ = some (.slice (some ⟨g1, 0, none⟩) c.key.length c.key.length) ∧ w.cell? ⟨b, off + 1, none⟩ = some (.int .i64 c.kd) ∧ w.cell? ⟨b, off + 2, none⟩ = some (.slice (some ⟨g2, 0, none⟩) c.val.length c.val.length) ∧ w.cell? ⟨b, off + 3, none⟩ = some (.int .i64 c.pg) ∧ w.cell? ⟨b, off + 4, none⟩ = some (.int .i64 c.ct) ∧ Bk w g1 c.key ∧ Bk w g2 c.val ∧ lo ≤ g1 ∧ lo ≤ g2 ∧ g1 < hi ∧ g2 < hi ∧ g1 ≠ g2
theorem DXt.on {w w' : World} {lo hi b off : Nat} {c : Cl} (h : DXt w lo hi b off c) (hb : b < w.heap.size) (hB : Below w.heap.size w w') : DXt w' lo hi b off c := by
 obtain ⟨g1, g2, h0, h1, h2, h3, h4, h5, h6, h7⟩ := h
 exact ⟨g1, g2, (hB.cell (p := ⟨b, off, none⟩) hb).trans h0, (hB.cell (p := ⟨b, off + 1, none⟩) hb).trans h1, (hB.cell (p := ⟨b, off + 2, none⟩) hb).trans h2, (hB.cell (p := ⟨b, off + 3, none⟩) hb).trans h3, (hB.cell (p := ⟨b, off + 4, none⟩) hb).trans h4, h5.on hB, h6.on hB, h7⟩
theorem DXt.put {w : World} {lo hi b N i j : Nat} {c : Cl} {vs : List Value} (h : DXt w lo hi b (i * 5) c) (hr : RowC w b N) (hij : i < j) : DXt (w.setCells b (j * 5) vs) lo hi b (i * 5) c := by
 obtain ⟨g1, g2, h0, h1, h2, h3, h4, h5, h6, h7⟩ := h
 have ho : ∀ d, d < 5 → (w.setCells b (j * 5) vs).cell? ⟨b, i * 5 + d, none⟩ = w.cell? ⟨b, i * 5 + d, none⟩ := fun d hd => World.cell?_setCells_out b _ _ w _ (fun _ _ => .inl (by simp only; omega))
 exact ⟨g1, g2, (ho 0 (by omega)).trans h0, (ho 1 (by omega)).trans h1, (ho 2 (by omega)).trans h2, (ho 3 (by omega)).trans h3, (ho 4 (by omega)).trans h4, h5.sets (hr.ne h5), h6.sets (hr.ne h6), h7⟩
theorem DXt.new {w : World} {lo hi b N j : Nat} {c : Cl} {g1 g2 : Nat} (hr : RowC w b N) (hj : j * 5 + 5 ≤ 5 * N) (h1 : Bk w g1 c.key) (h2 : Bk w g2 c.val) (h3 : lo ≤ g1) (h4 : lo ≤ g2) (hh : w.heap.size ≤ hi) (h5 : g1 ≠ g2) :
  DXt (w.setCells b (j * 5) [.slice (some ⟨g1, 0, none⟩) c.key.length c.key.length, .int .i64 c.kd, .slice (some ⟨g2, 0, none⟩) c.val.length c.val.length, .int .i64 c.pg, .int .i64 c.ct]) lo hi b (j * 5) c := by
 have h := World.rangeAt_setCells_same w b (j * 5) [.slice (some ⟨g1, 0, none⟩) c.key.length c.key.length, .int .i64 c.kd, .slice (some ⟨g2, 0, none⟩) c.val.length c.val.length, .int .i64 c.pg, .int .i64 c.ct] (hr.there hj)
 exact ⟨g1, g2, h 0 _ rfl, h 1 _ rfl, h 2 _ rfl, h 3 _ rfl, h 4 _ rfl, h1.sets (hr.ne h1), h2.sets (hr.ne h2), h3, h4, zO (zaf h1) hh, zO (zaf h2) hh, h5⟩
theorem sets_size : ∀ (vs : List Value) (w : World) (b j : Nat), (w.setCells b j vs).heap.size = w.heap.size
 | [], _, _, _ => rfl
 | v :: r, w, b, j => (sets_size r (w.setCell ⟨b, j, none⟩ v) b (j + 1)).trans (by simp)
structure OwnC (w : World) (B g : Nat) (cs : List Cl) (P : Nat → Nat) : Prop where
 row : RowC w g cs.length
 hg : B ≤ g
 p0 : B ≤ P 0
 up : ∀ i, i < cs.length → P i ≤ P (i + 1)
 top : P cs.length ≤ w.heap.size
 at_ : ∀ i d, cs[i]? = some d → DXt w (P i) (P (i + 1)) g (i * 5) d
def DecOw (l : List Int) (w : World) (e : Ending) (w' : World) : Prop :=
 ∃ k ao n cap c, e = .returned (.tuple #[.int .i64 k, .slice ao n cap, .int .i64 c]) ∧ Hid (Below w.heap.size w w') ∧
  Hid ((c = 60 ∧ k = 0 ∧ ao = none ∧ n = 0 ∧ cap = 0 ∧ ¬ ∃ cs, Is (l.getD 0 0) l.length cs l) ∨
   ∃ cs g P, c = 0 ∧ k = l.getD 0 0 ∧ ao = some ⟨g, 0, none⟩ ∧ n = cs.length ∧ cap = cs.length ∧ Is (l.getD 0 0) l.length cs l ∧ (∀ d ∈ cs, d.Wf) ∧ OwnC w' w.heap.size g cs P)
theorem decode_own (ao : Option Addr) (n cap : Nat) (l : List Int) (w : World) (hs : Sl w ao n cap l) (ht : Tab w) (h0 : 1 < w.heap.size) :
  Calls Tryz.prog 36 #[.slice ao n cap] w fun e w' => DecOw l w e w' := by
 obtain ⟨ic, hic, hz0, hz1, hz2⟩ := info_parts infoC
 have HO := zaa (open_any ao n cap l w hs ht h0)
 have HLEN := zaa hs.hlen
 clear hs ht
 go_enter Tryz.func36, Tryz.ntmps36
 go_wp2_with (go_at_call 41; refine HO.out.mono ?_; rintro e w1 ⟨po, ec, rfl, HB1, HQ⟩; refine Hid.out ?_)
 apply zaa
 clear HO
 rcases HQ.out with ⟨rfl, rfl, hno⟩ | ⟨a, bo, bn, bc, so, sn, sc, cs, rfl, rfl, hal, his, hwf, hpg⟩
 ·have HNO := zaa hno
  clear HQ hno
  go_wp2
  go_ret3
  exact ⟨0, none, 0, 0, 60, rfl, HB1, zaa (.inl ⟨rfl, rfl, rfl, rfl, rfl, HNO.out⟩)⟩
 ·have HPG := zaa hpg
  have HIS := zaa his
  have HWF := zaa hwf
  have HFIT : Hid (∀ c ∈ cs, c.fit) := zaa fun c hc => (zcv his.ok c hc).fit (by have := zao his.sz; omega)
  obtain ⟨hsn, hbn⟩ := hpg.sn_eq
  have hz := zbb cs
  have hfit := his.fit
  have hpn := zao his.sz
  have hs1 : sn ≤ 65536 := by omega
  have hb1 : bn ≤ 65536 := by omega
  have HSN := zaa hsn
  clear hpg his hwf HQ hsn hbn hz hfit hpn
  obtain ⟨c0, c1, c2, c3⟩ := HPG.out.cells
  have HL := zaa (len_any w1 a _ _ bo bn bc so sn sc cs HPG.out)
  go_wp2_with (first
   | (go_at_call 75; refine zac HL.out ?_)
   | (at_make; refine wpList_make_full _ rfl _ _ 29 rfl w.heap.size 50 ic _ 5 Tryz.underlying29 hic hz0 hz1 .i64 .i64 sn sn sn rfl rfl rfl rfl (by rw [hz2]; omega) (by unfold maxLen; omega) HB1.out.size ?_; refine Hid.out ?_))
  apply zaa
  intro w2 ho2 hg2
  have hb2 : Below w1.heap.size w1 w2 := Br.grown hg2 Lr (fun k hk => by cases hk)
  obtain ⟨g, hg⟩ : ∃ g, w1.heap.size = g := ⟨_, rfl⟩
  have HRW : Hid (RowC w2 g sn) := by
   rcases ho2.2 with ⟨h, _⟩ | ⟨q, c, cur, h, _, hh, _, _, hss, _⟩
   ·cases h
   ·cases h
    rw [← hg]
    exact zaa ⟨cur, hh, by rw [hss]; omega⟩
  have HWG : Hid (w.heap.size ≤ g) := zaa (by rw [← hg]; exact HB1.out.size)
  have HB2 := zaa hb2
  have hgs : Below g w1 w2 := by rw [← hg]; exact hb2
  have HGS := zaa hgs
  have HGW := zaa hg
  rw [hg]
  clear ho2 hg2 hb2 HL c0 c1 c2 c3 hgs
  go_wp2_with fail
  go_loopw [22] (fun i wr => ∃ (j : Nat) (P : Nat → Nat), j ≤ sn ∧ i = .int .i64 j ∧ Hid (RowC wr g sn) ∧ Hid (Below g w1 wr) ∧ Hid (∀ i d, i < j → cs[i]? = some d → DXt wr (P i) (P (i + 1)) g (i * 5) d) ∧ Hid (w.heap.size ≤ P 0 ∧ (∀ i, i < j → P i ≤ P (i + 1)) ∧ P j ≤ wr.heap.size)) (fun i _ => sn - (intOf i).toNat)
  case atStart => exact ⟨0, fun _ => w.heap.size, by omega, rfl, HRW, HGS, zaa fun i d hi => by omega, zaa ⟨Lr, fun i hi => by omega, zN HB1.out.size HB2.out.size⟩⟩
  case round =>
   obtain ⟨j, P, hj, rfl, HR, HG, HD, HP⟩ := hrel
   have HBE : Hid (Below w1.heap.size w1 wr) := zaa (by rw [HGW.out]; exact HG.out)
   have HPR := zaa (HPG.out.on HBE.out)
   have bj : (j : Int) ≤ 65536 := by omega
   clear HRW HGS
   by_cases hlt : j < sn
   ·have hltI : (j : Int) < (sn : Int) := by omega
    have hjc : j < cs.length := by rw [← HSN.out]; exact hlt
    obtain ⟨d, hd⟩ : ∃ d, cs[j]? = some d := ⟨_, zI hjc⟩
    have HDJ := zaa hd
    have HV := zaa (view_any wr a _ _ bo bn bc so sn sc cs HPR.out HFIT.out j hjc d hd hb1)
    clear hd hjc
    go_wp2_with (go_at_call 77; refine HV.out.mono ?_; rintro e u1 ⟨ko, kn, kc, vo, vn, vc, rfl, HK, HVV, HB3⟩; refine Hid.out ?_)
    apply zaa
    have hkl := HK.out.hlen
    have hvl := HVV.out.hlen
    have HKL := zaa hkl
    have HVL := zaa hvl
    clear hkl hvl HV
    have HC := zaa (copied_any ko kn kc d.kd vo vn vc d.pg d.ct d.key d.val u1 HK.out HVV.out)
    go_wp2_with (go_at_call 76; refine HC.out.mono ?_; rintro e u2 ⟨g1, g2, rfl, HGG, HB4⟩; refine Hid.out ?_)
    apply zaa
    have HBU : Hid (Below wr.heap.size wr u2) := zaa (zae HB3.out Lr HB4.out)
    have HR2 : Hid (RowC u2 g sn) := zaa (HR.out.on HBU.out)
    have HG2 : Hid (Below g w1 u2) := zaa (HG.out.trans (HBU.out.mono (Nat.le_of_lt HR.out.lt)))
    have hwg : wr.heap.size ≤ u1.heap.size := HB3.out.size
    have HU2S : Hid (u2.heap.size ≤ u2.heap.size ∧ wr.heap.size ≤ u2.heap.size) := zaa ⟨Lr, HBU.out.size⟩
    clear HC HK HVV
    go_wp2_with (refine put_cell (by rfl) _ _ (by rfl) g (j * 5) sn (some ⟨g1, 0, none⟩) (some ⟨g2, 0, none⟩) kn kn vn vn d.kd d.pg d.ct HR2.out (by rfl) (by rfl) (by omega) ?_; intro u3 HU3; refine Hid.out ?_)
    apply zaa
    have HR3 : Hid (RowC u3 g sn) := zaa (by rw [HU3.out]; exact RowC.sets _ _ _ HR2.out)
    have HG3 : Hid (Below g w1 u3) := zaa (by
     rw [HU3.out]
     simp only [World.setCells]
     refine ((((HG2.out.setCell ?_ _).setCell ?_ _).setCell ?_ _).setCell ?_ _).setCell ?_ _ <;> simp)
    obtain ⟨P3, hP3⟩ : ∃ P3 : Nat → Nat, P3 = fun i => if i ≤ j then P i else u2.heap.size := ⟨_, rfl⟩
    have HP3 : Hid (w.heap.size ≤ P3 0 ∧ (∀ i, i < j + 1 → P3 i ≤ P3 (i + 1)) ∧ P3 (j + 1) ≤ u3.heap.size) := zaa (by
     obtain ⟨q1, q2, q3⟩ := HP.out
     have q4 := HU2S.out.2
     rw [hP3]
     refine ⟨by simpa using q1, fun i hi => ?_, ?_⟩
     ·by_cases e : i = j
      ·simp only [e, Nat.le_refl, if_true, show ¬ j + 1 ≤ j by omega, if_false]
       omega
      ·simp only [show i ≤ j by omega, show i + 1 ≤ j by omega, if_true]
       exact q2 i (by omega)
     ·simp only [show ¬ j + 1 ≤ j by omega, if_false]
      rw [HU3.out, sets_size]
      exact Lr)
    have HD3 : Hid (∀ i d, i < j + 1 → cs[i]? = some d → DXt u3 (P3 i) (P3 (i + 1)) g (i * 5) d) := by
     refine zaa fun i d' hi hd' => ?_
     rw [HU3.out, hP3]
     by_cases e : i = j
     ·subst e
      rw [HDJ.out] at hd'
      injection hd' with hd'
      subst hd'
      simp only [Nat.le_refl, if_true, show ¬ i + 1 ≤ i by omega, if_false]
      have hp := HP.out.2.2
      have := DXt.new (lo := P i) (hi := u2.heap.size) (c := d) (j := i) HR2.out (by omega) HGG.out.1 HGG.out.2.1 (by have := HGG.out.2.2.1; omega) (by have := HGG.out.2.2.2.1; omega) Lr HGG.out.2.2.2.2
      rw [HKL.out, HVL.out] at this
      exact this
     ·simp only [show i ≤ j by omega, show i + 1 ≤ j by omega, if_true]
      exact ((HD.out i d' (by omega) hd').on HR.out.lt HBU.out).put HR2.out (by omega)
    clear hP3
    clear HU3 HR2 HG2 HR HG HD HGG HB3 HB4 HBU HPR HP HU2S
    go_wp2
    go_roundw
    case rel => exact ⟨j + 1, P3, by omega, by go_num, HR3, HG3, HD3, HP3⟩
    case measure => simp [intOf]; omega
   ·obtain rfl : j = sn := by omega
    have hlI : ¬ (j : Int) < (j : Int) := by omega
    obtain ⟨c0, c1, c2, c3⟩ := HPR.out.cells
    go_wp2
    go_ret3
    refine ⟨l.getD 0 0, some ⟨g, 0, none⟩, j, j, 0, rfl, zaa (zae HB1.out Lr HBE.out), zaa (.inr ⟨cs, g, P, rfl, rfl, rfl, HSN.out, HSN.out, HIS.out, HWF.out, ?_, HWG.out, HP.out.1, ?_, ?_, ?_⟩)⟩
    ·rw [← HSN.out]; exact HR.out
    ·rw [← HSN.out]; exact HP.out.2.1
    ·rw [← HSN.out]; exact HP.out.2.2
    ·intro i d hd
     refine HD.out i d ?_ hd
     have := (zH.1 hd).1
     rw [HSN.out]
     exact this
end Go.Proofs.YtbkhjeacmmbabaaGreatDoor
