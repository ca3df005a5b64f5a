import Derived.Test.YtfgffajgfgifhaaGreatDoorJ27
import Derived.Deep.OwnRows
import Derived.Laws.CopyOwn
namespace Go.Proofs.YtfgffajgfgifhaaGreatDoor
set_option maxRecDepth 100000
open Go.RowKit
def Fw (F : Nat → Prop) (w : World) (z : Nat) : Prop := F z ∨ w.heap.size ≤ z
theorem Cf.narrow {F : Nat → Prop} {w u : World} (h : Cf (Fw F w) w u) : Cf F w u := ⟨h.os, h.tape, h.output, h.size, fun k hk hf => h.block k hk (fun e => e.elim hf (fun e => by omega))⟩
def Fo (F : Nat → Prop) (w : World) (x : Value) : Prop := ∀ z, x.ownBlock = some z → Fw F w z
theorem box9 {w : World} {B bk : Nat} (h : w.heap[bk]? = some (.cells #[.slice none 0 0] 71 (0, 0))) : Bo9 w B bk (.slice none 0 0) [] (fun _ => []) :=
 ⟨h, OwnX.nil _ _, fun t u ht => by simp at ht, fun t t' u u' ht => by simp at ht⟩
set_option maxHeartbeats 8000000 in
theorem owned9F (F : Nat → Prop) (w : World) (B bk N : Nat) (v : Value) (V : List Value) (D : Nat → List Int) (h : Bo9 w B bk v V D) (hF : ∀ (t : Nat) (u : Value), V[t]? = some u → Fo F w u) (hN : V.length = N) (hN2 : N ≤ 1300000000000) (hB : B ≤ w.heap.size) :
  Calls Tryz.prog 41 #[.pointer (some ⟨bk, 0, none⟩)] w fun e u => e = .returned (.bool true) ∧ Hid (Cf F w u) := by
 have HB0 := zaa h
 have HFO := zaa hF
 clear hF
 have hNI : (N : Int) ≤ 1300000000000 := by omega
 obtain ⟨lo, lc, rfl, hcells⟩ := h.row.cells
 rw [hN] at hcells
 have HN := zaa hN
 have HV : Hid (N = 0 ∨ ∃ R, lo = some ⟨R, 0, none⟩ ∧ ∀ (wr : World) (D' : Nat → List Int), Bo9 wr B bk (.slice lo V.length lc) V D' → ∀ (t : Nat) (u : Value), V[t]? = some u → wr.cell? ⟨R, t, none⟩ = some u) := zaa (by
  rcases hcells with h0 | ⟨R, rfl, _, _⟩
  ·exact .inl h0
  ·refine .inr ⟨R, rfl, fun wr D' hb t u ht => ?_⟩
   obtain ⟨ao, c, e, hc⟩ := hb.row.cells
   injection e with e1 _ _
   subst e1
   rcases hc with h0 | ⟨g, e2, _, hc⟩
   ·have := (zH.1 ht).1
    omega
   ·cases e2
    exact hc t u ht)
 rw [hN] at HB0
 rw [hN] at HV
 clear h hcells hN
 go_enter Tryz.func41, Tryz.ntmps41
 go_wp2_with fail
 go_loopw [3] (fun x wr => ∃ i : Nat, i ≤ N ∧ x = .int .i64 (i : Int) ∧ Hid (Bo9 wr B bk (.slice lo N lc) V (D1 D i)) ∧ Hid (Cf (Fw F w) w wr)) (fun x _ => N - (RowKit.intOf x).toNat)
 case atStart => exact ⟨0, by omega, rfl, zaa (HB0.out.cong (fun t _ => by simp [D1])), zaa (Cf.refl _ _)⟩
 case round =>
  obtain ⟨i, hi, rfl, HBi, HCi⟩ := hrel
  have hbx := HBi.out.box
  have c0 : wr.cell? ⟨bk, 0, none⟩ = some (.slice lo N lc) := by rw [cell_of_row _ _ 0 _ _ _ hbx]; rfl
  clear hbx
  by_cases hlt : i < N
  ·have hltI : (i : Int) < (N : Int) := by omega
   obtain ⟨u, hu⟩ := cell_at HN.out hlt
   obtain ⟨R, rfl, hR⟩ : ∃ R, lo = some ⟨R, 0, none⟩ ∧ ∀ (wr : World) (D' : Nat → List Int), Bo9 wr B bk (.slice lo N lc) V D' → ∀ (t : Nat) (u : Value), V[t]? = some u → wr.cell? ⟨R, t, none⟩ = some u := by
    rcases HV.out with h0 | h0
    ·omega
    ·exact h0
   have cR := hR wr _ HBi.out i u hu
   have hdl : (D1 D i i).length = (D i).length := by simp [D1]
   obtain ⟨ho, _, hlb⟩ := HBi.out.own i u hu
   obtain ⟨ao, c, rfl, hsh⟩ := zcu ho
   rw [hdl] at hsh hlb
   obtain ⟨n, hn⟩ : ∃ n, (D i).length = n := ⟨_, rfl⟩
   rw [hdl, hn] at cR hu
   rw [hn] at hsh hlb
   have HNL := zaa hn
   have HU := zaa hu
   have hnI : (n : Int) ≤ 65536 := by omega
   have HB2 : Hid (Bo9 wr B bk (.slice (some ⟨R, 0, none⟩) N lc) V (D2 D i 0)) := zaa (HBi.out.cong (fun t _ => D2_first D i t))
   clear ho hdl hn hu HBi hR
   go_wp2_with fail
   go_loopw [5] (fun y wr2 => ∃ k : Nat, k ≤ n ∧ y = .int .i64 (k : Int) ∧ Hid (Bo9 wr2 B bk (.slice (some ⟨R, 0, none⟩) N lc) V (D2 D i k)) ∧ Hid (Cf (Fw F w) w wr2)) (fun y _ => n - (RowKit.intOf y).toNat)
   case atStart => exact ⟨0, by omega, rfl, HB2, HCi⟩
   case round =>
    obtain ⟨k, hk, rfl, HBk, HCk⟩ := hrel
    by_cases hkn : k < n
    ·have hkI : (k : Int) < (n : Int) := by omega
     obtain ⟨g, rfl, hgB⟩ : ∃ g, ao = some ⟨g, 0, none⟩ ∧ B ≤ g := by
      rcases hsh with h0 | h0
      ·omega
      ·exact h0
     obtain ⟨hok, _, _⟩ := HBk.out.own i _ HU.out
     have hl2 : (D2 D i k i).length = n := by rw [D2_len D i k (by rw [HNL.out]; exact hk), HNL.out]
     have ck : ∃ z, wr.cell? ⟨g, k, none⟩ = some z := ⟨_, zbm hok hl2 hkn⟩
     obtain ⟨z, ck⟩ := ck
     have fk := own_free hok hl2 k
     obtain ⟨m1, m2⟩ := mark_run i k (by omega) (by omega)
     have m3 := mkB_ok i k
     have HST : Hid (Bo9 (wr.setCell ⟨g, k, none⟩ (.int .u8 (mkB i k))) B bk (.slice (some ⟨R, 0, none⟩) N lc) V (D2 D i (k + 1))) := zaa ((HBk.out.set HU.out hl2 hkn m3).cong (fun t _ => D2_set D i k (by rw [HNL.out]; exact hkn) t))
     have HCS : Hid (Cf (Fw F w) w (wr.setCell ⟨g, k, none⟩ (.int .u8 (mkB i k)))) := zaa (HCk.out.go (Cf.setCell (F := Fw F w) wr (p := ⟨g, k, none⟩) (HFO.out i _ HU.out g rfl) _))
     obtain ⟨q, hq⟩ : ∃ q, k / 251 = q := ⟨_, rfl⟩
     rw [hq] at m1 m2
     have hqk : (q : Int) ≤ (k : Int) := by have := Nat.div_le_self k 251; omega
     have m4 : IntKind.i64.wrap ((i : Int) + (q : Int)) = (i : Int) + (q : Int) := by rw [IntKind.wrap_i64]; omega
     have m5 : IntKind.i64.wrap (q : Int) = (q : Int) := by rw [IntKind.wrap_i64]; omega
     generalize mkB i k = y at *
     clear hok hq
     go_wp2
     go_roundw
     case rel => exact ⟨k + 1, by omega, by go_num, HST, HCS⟩
     case measure => simp [RowKit.intOf]; omega
    ·obtain rfl : k = n := by omega
     have hkI : ¬ (k : Int) < (k : Int) := by omega
     have HB3 : Hid (Bo9 wr B bk (.slice (some ⟨R, 0, none⟩) N lc) V (D1 D (i + 1))) := zaa (HBk.out.cong (fun t _ => by rw [← HNL.out]; exact D2_last D i t))
     go_wp2
     go_roundw
     case rel => exact ⟨i + 1, by omega, by go_num, HB3, HCk⟩
     case measure => simp [RowKit.intOf]; omega
  ·have hlI : ¬ (i : Int) < (N : Int) := by omega
   obtain ⟨nn, hnn⟩ : ∃ nn : Nat → Nat, (fun t => (D t).length) = nn := ⟨_, rfl⟩
   have HNN : Hid (∀ t, t < N → nn t ≤ 65536) := zaa (by
    intro t ht
    obtain ⟨u, hu⟩ := cell_at HN.out ht
    rw [← hnn]
    exact (HB0.out.own t u hu).2.2)
   have HQ0 : Hid (Q9 wr B bk (.slice lo N lc) V nn 0 (.slice none 0 0) []) := zaa (by
    rw [← hnn]
    exact Bo9.start (HBi.out.cong (fun t ht => by unfold D1; rw [if_pos (by rw [HN.out] at ht; omega)])))
   have HNE := zaa HB0.out.ne
   clear HBi hnn HV
   go_wp2_with fail
   clear hlI hi
   go_loopw [6, 7] (fun vg x wr => ∃ (i : Nat) (H : List Value), i ≤ N ∧ x = .int .i64 (i : Int) ∧ Hid (Q9 wr B bk (.slice lo N lc) V nn i vg H) ∧ Hid (H.length = 5 * i) ∧ Hid (Cf (Fw F w) w wr) ∧ Hid (Fo F w vg)) (fun _ x _ => N - (RowKit.intOf x).toNat)
   case atStart => exact ⟨0, [], by omega, rfl, HQ0, zaa rfl, HCi, zaa (fun z hz => by cases hz)⟩
   case round =>
    obtain ⟨i, H, hi, rfl, HQ, HL, HC, HFG⟩ := hrel
    clear HQ0 HCi c0
    have hbx := HQ.out.box
    have c0 : wr.cell? ⟨bk, 0, none⟩ = some (.slice lo N lc) := by rw [cell_of_row _ _ 0 _ _ _ hbx]; rfl
    clear hbx
    by_cases hlt : i < N
    ·have hltI : (i : Int) < (N : Int) := by omega
     obtain ⟨u, hu⟩ := cell_at HN.out hlt
     obtain ⟨R, rfl, cR⟩ : ∃ R, lo = some ⟨R, 0, none⟩ ∧ wr.cell? ⟨R, i, none⟩ = some u := by
      obtain ⟨ao, c, e, hc⟩ := HQ.out.row.cells
      injection e with e1 e2 _
      subst e1
      rcases hc with h0 | ⟨g, e3, _, hc⟩
      ·omega
      ·exact ⟨g, e3, hc i u hu⟩
     obtain ⟨xo0, xc0, rfl, _, _⟩ := HQ.out.lst i u hu
     have HP0 := zaa (HQ.out.into hu)
     have HFX0 := zaa (HFO.out i _ hu)
     have hni := HNN.out i hlt
     have hniI : (nn i : Int) ≤ 65536 := by omega
     clear hu HQ
     go_wp2_with fail
     go_loopw [6, 8, 9] (fun vg x kk wr => ∃ (k : Nat) (xo : Option Addr) (xc : Nat) (H : List Value), k ≤ 20 ∧ kk = .int .i64 (k : Int) ∧ x = .slice xo (nn i + k) xc ∧ Hid (P9 wr B bk (.slice (some ⟨R, 0, none⟩) N lc) V nn i k (.slice xo (nn i + k) xc) vg H) ∧ Hid (H.length = 5 * i + cnt k) ∧ Hid (Cf (Fw F w) w wr) ∧ Hid (Fo F w vg) ∧ Hid (Fo F w x)) (fun _ _ kk _ => 20 - (RowKit.intOf kk).toNat)
     case atStart => exact ⟨0, xo0, xc0, H, by omega, rfl, rfl, HP0, zaa HL.out, HC, HFG, HFX0⟩
     case round =>
      obtain ⟨k, xo, xc, H, hk, rfl, rfl, HP, HL2, HC2, HFG2, HFX⟩ := hrel
      clear HP0 HC HL c0 cR HFG HFX0
      by_cases hk20 : k < 20
      ·have hkI : (k : Int) < 20 := by omega
       obtain ⟨L, hL⟩ : ∃ L, nn i + k = L := ⟨_, rfl⟩
       have HLE := zaa hL
       have hL2 : L ≤ 65556 := by omega
       have hL2I : (L : Int) ≤ 65556 := by omega
       rw [hL] at HP HFX ⊢
       obtain ⟨m1, m2⟩ := mark_run i L (by omega) (by omega)
       have m3 := mkB_ok i L
       obtain ⟨q, hq⟩ : ∃ q, L / 251 = q := ⟨_, rfl⟩
       rw [hq] at m1 m2
       have hqk : (q : Int) ≤ (L : Int) := by have := Nat.div_le_self L 251; omega
       have m4 : IntKind.i64.wrap ((i : Int) + (q : Int)) = (i : Int) + (q : Int) := by rw [IntKind.wrap_i64]; omega
       have m5 : IntKind.i64.wrap (q : Int) = (q : Int) := by rw [IntKind.wrap_i64]; omega
       obtain ⟨x, hx⟩ : ∃ x, wr.alloc (.cells #[.int .u8 (mkB i L)] 5) = x := ⟨_, rfl⟩
       have hbx : Below wr.heap.size wr x := by rw [← hx]; exact zac Br Lr _
       have hcx : x.cell? ⟨wr.heap.size, 0, none⟩ = some (.int .u8 (mkB i L)) := by rw [← hx]; simp
       have hBx : B ≤ x.heap.size := zN hB (zN HC2.out.size hbx.size)
       have HPX := zaa (HP.out.on hbx)
       have hxo : OwnB x B (.slice xo L xc) (mkL i L) := by have := HPX.out.xo; rwa [hL] at this
       obtain ⟨v1, w1, hr, ho1, hcase⟩ := app_one x B 37 (.slice xo L xc) (mkL i L) (mkB i L) wr.heap.size hxo hcx (by rw [zaz]; omega) hBx
       have ho2 : OwnB w1 B v1 (mkL i (L + 1)) := ho1
       obtain ⟨yo, yc, rfl, _⟩ := zcu ho2
       rw [zaz] at ho2 hcase hr
       have HP1 : Hid (P9 w1 B bk (.slice (some ⟨R, 0, none⟩) N lc) V nn i (k + 1) (.slice yo (L + 1) yc) _ H) := zaa (HPX.out.appX (by rw [hL]; exact ho2) hcase)
       have HC1 : Hid (Cf (Fw F w) w w1) := zaa ((HC2.out.go (Cf.of_below hbx)).go (by
        rcases hcase with ⟨_, hg⟩ | ⟨hb, _⟩
        ·refine ⟨hg.os, hg.tape, hg.output, hg.size, fun z hz hf => hg.block z hz (fun e => hf ?_)⟩
         exact HFX.out z e.symm
        ·exact Cf.of_below hb))
       have HFY : Hid (Fo F w (.slice yo (L + 1) yc)) := zaa (fun z hz => by
        rcases hcase with ⟨e, _⟩ | ⟨_, hn⟩
        ·exact HFX.out z (by rw [← e]; exact hz)
        ·exact .inr (zN (zN HC2.out.size hbx.size) (hn z hz)))
       clear hcase ho1 ho2 hxo hbx hq hL HP HPX HC2
       generalize mkB i L = mb at *
       go_wp2_with (at_builtin; refine app_run9 rfl _ _ _ _ rfl _ _ rfl rfl hr ?_; refine Hid.out ?_)
       apply zaa
       clear hr hx hcx m1 m2 m3 m4 m5
       by_cases hkeep : k < 3 ∨ k = 8 ∨ k = 19
       ·have HCN : Hid (cnt (k + 1) = cnt k + 1) := zaa (by show cnt k + _ = _; rw [if_pos hkeep])
        have hcb := cnt_bound hk20 hkeep
        obtain ⟨y, hy⟩ : ∃ y, w1.alloc (.cells #[.slice yo (L + 1) yc] 37) = y := ⟨_, rfl⟩
        have hby : Below w1.heap.size w1 y := by rw [← hy]; exact zac Br Lr _
        have hcy : y.cell? ⟨w1.heap.size, 0, none⟩ = some (.slice yo (L + 1) yc) := by rw [← hy]; simp
        have HPY := zaa (HP1.out.on hby)
        have hBy : B ≤ y.heap.size := zN hB (zN HC1.out.size hby.size)
        have HCY : Hid (Cf (Fw F w) w y) := zaa (HC1.out.go (Cf.of_below hby))
        have hHl : H.length + 1 ≤ 6500000000000 := by rw [HL2.out]; omega
        have HDV : Hid (H.length / 5 = i) := zaa (by rw [HL2.out]; omega)
        clear hby HP1 HC1
        by_cases g1 : k < 3
        ·have d1 : decide ((k : Int) < 3) = true := by simp; omega
         have e1 : (k : Int) < 3 := by omega
         clear hkeep
         go_wp2_with (at_builtin; refine app_x _ rfl _ _ rfl B H _ (.slice yo (L + 1) yc) rfl rfl HPY.out.rowG w1.heap.size rfl hcy hHl hBy ?_; refine Hid.out ?_)
         apply zaa
         intro vG2 w2 hG2 hgr2
         have HP2 : Hid (P9 w2 B bk (.slice (some ⟨R, 0, none⟩) N lc) V nn i (k + 1) (.slice yo (L + 1) yc) vG2 (H ++ [.slice yo (L + 1) yc])) := zaa (HPY.out.appG hG2 hgr2 HDV.out (by omega) (by omega))
         have HC3 : Hid (Cf (Fw F w) w w2) := zaa (HCY.out.go ⟨hgr2.grow.os, hgr2.grow.tape, hgr2.grow.output, hgr2.grow.size, fun z hz hf => hgr2.grow.block z hz (fun e => hf (HFG2.out z e.symm))⟩)
         have HFG3 : Hid (Fo F w vG2) := zaa (fun z hz => by
          rcases hgr2.own with e | ⟨q, e, hq⟩
          ·exact HFG2.out z (by rw [← e]; exact hz)
          ·rw [e] at hz
           cases hz
           exact .inr (zN HCY.out.size hq))
         have HL3 : Hid ((H ++ [Value.slice yo (L + 1) yc]).length = 5 * i + cnt (k + 1)) := zaa (by rw [zG, HL2.out, HCN.out]; rfl)
         have HLK : Hid (nn i + (k + 1) = L + 1) := zaa (by have := HLE.out; omega)
         clear hG2 hgr2 hy hcy HPY
         go_wp2
         go_roundw
         case rel => exact ⟨k + 1, yo, yc, H ++ [.slice yo (L + 1) yc], by omega, by go_num, by rw [HLK.out], by rw [HLK.out]; exact HP2, HL3, HC3, HFG3, HFY⟩
         case measure => simp [RowKit.intOf]; omega
        ·have d1 : decide ((k : Int) < 3) = false := by simp; omega
         have e1 : ¬ (k : Int) < 3 := by omega
         by_cases g2 : k = 8
         ·have d2 : ((k : Int) == 8) = true := by rw [beq_iff_eq]; omega
          have e2 : (k : Int) = 8 := by omega
          clear hkeep
          go_wp2_with (at_builtin; refine app_x _ rfl _ _ rfl B H _ (.slice yo (L + 1) yc) rfl rfl HPY.out.rowG w1.heap.size rfl hcy hHl hBy ?_; refine Hid.out ?_)
          apply zaa
          intro vG2 w2 hG2 hgr2
          have HP2 : Hid (P9 w2 B bk (.slice (some ⟨R, 0, none⟩) N lc) V nn i (k + 1) (.slice yo (L + 1) yc) vG2 (H ++ [.slice yo (L + 1) yc])) := zaa (HPY.out.appG hG2 hgr2 HDV.out (by omega) (by omega))
          have HC3 : Hid (Cf (Fw F w) w w2) := zaa (HCY.out.go ⟨hgr2.grow.os, hgr2.grow.tape, hgr2.grow.output, hgr2.grow.size, fun z hz hf => hgr2.grow.block z hz (fun e => hf (HFG2.out z e.symm))⟩)
          have HFG3 : Hid (Fo F w vG2) := zaa (fun z hz => by
           rcases hgr2.own with e | ⟨q, e, hq⟩
           ·exact HFG2.out z (by rw [← e]; exact hz)
           ·rw [e] at hz
            cases hz
            exact .inr (zN HCY.out.size hq))
          have HL3 : Hid ((H ++ [Value.slice yo (L + 1) yc]).length = 5 * i + cnt (k + 1)) := zaa (by rw [zG, HL2.out, HCN.out]; rfl)
          have HLK : Hid (nn i + (k + 1) = L + 1) := zaa (by have := HLE.out; omega)
          clear hG2 hgr2 hy hcy HPY
          go_wp2
          go_roundw
          case rel => exact ⟨k + 1, yo, yc, H ++ [.slice yo (L + 1) yc], by omega, by go_num, by rw [HLK.out], by rw [HLK.out]; exact HP2, HL3, HC3, HFG3, HFY⟩
          case measure => simp [RowKit.intOf]; omega
         ·have d2 : ((k : Int) == 8) = false := by rw [beq_eq_false_iff_ne]; omega
          have d3 : ((k : Int) == 19) = true := by rw [beq_iff_eq]; omega
          have e2 : ¬ (k : Int) = 8 := by omega
          have e3 : (k : Int) = 19 := by omega
          clear hkeep
          go_wp2_with (at_builtin; refine app_x _ rfl _ _ rfl B H _ (.slice yo (L + 1) yc) rfl rfl HPY.out.rowG w1.heap.size rfl hcy hHl hBy ?_; refine Hid.out ?_)
          apply zaa
          intro vG2 w2 hG2 hgr2
          have HP2 : Hid (P9 w2 B bk (.slice (some ⟨R, 0, none⟩) N lc) V nn i (k + 1) (.slice yo (L + 1) yc) vG2 (H ++ [.slice yo (L + 1) yc])) := zaa (HPY.out.appG hG2 hgr2 HDV.out (by omega) (by omega))
          have HC3 : Hid (Cf (Fw F w) w w2) := zaa (HCY.out.go ⟨hgr2.grow.os, hgr2.grow.tape, hgr2.grow.output, hgr2.grow.size, fun z hz hf => hgr2.grow.block z hz (fun e => hf (HFG2.out z e.symm))⟩)
          have HFG3 : Hid (Fo F w vG2) := zaa (fun z hz => by
           rcases hgr2.own with e | ⟨q, e, hq⟩
           ·exact HFG2.out z (by rw [← e]; exact hz)
           ·rw [e] at hz
            cases hz
            exact .inr (zN HCY.out.size hq))
          have HL3 : Hid ((H ++ [Value.slice yo (L + 1) yc]).length = 5 * i + cnt (k + 1)) := zaa (by rw [zG, HL2.out, HCN.out]; rfl)
          have HLK : Hid (nn i + (k + 1) = L + 1) := zaa (by have := HLE.out; omega)
          clear hG2 hgr2 hy hcy HPY
          go_wp2
          go_roundw
          case rel => exact ⟨k + 1, yo, yc, H ++ [.slice yo (L + 1) yc], by omega, by go_num, by rw [HLK.out], by rw [HLK.out]; exact HP2, HL3, HC3, HFG3, HFY⟩
          case measure => simp [RowKit.intOf]; omega
       ·have HCN : Hid (cnt (k + 1) = cnt k) := zaa (by show cnt k + _ = _; rw [if_neg hkeep]; rfl)
        have d1 : decide ((k : Int) < 3) = false := by simp; omega
        have d2 : ((k : Int) == 8) = false := by rw [beq_eq_false_iff_ne]; omega
        have d3 : ((k : Int) == 19) = false := by rw [beq_eq_false_iff_ne]; omega
        have e1 : ¬ (k : Int) < 3 := by omega
        have e2 : ¬ (k : Int) = 8 := by omega
        have e3 : ¬ (k : Int) = 19 := by omega
        have HLK : Hid (nn i + (k + 1) = L + 1) := zaa (by have := HLE.out; omega)
        clear hkeep
        go_wp2
        go_roundw
        case rel => exact ⟨k + 1, yo, yc, H, by omega, by go_num, by rw [HLK.out], by rw [HLK.out]; exact HP1, by rw [HCN.out]; exact HL2, HC1, HFG2, HFY⟩
        case measure => simp [RowKit.intOf]; omega
      ·obtain rfl : k = 20 := by omega
       have HQ1 : Hid (Q9 wr B bk (.slice (some ⟨R, 0, none⟩) N lc) V nn (i + 1) _ H) := zaa (HP.out.out HNE.out)
       have HL3 : Hid (H.length = 5 * (i + 1)) := zaa (by rw [HL2.out, cnt_all]; omega)
       clear HP
       go_wp2
       go_roundw
       case rel => exact ⟨i + 1, H, by omega, by go_num, HQ1, HL3, HC2, HFG2⟩
       case measure => simp [RowKit.intOf]; omega
    ·have hlI : ¬ (i : Int) < (N : Int) := by omega
     obtain ⟨go, gc, rfl, hgc⟩ := HQ.out.rowG.cells
     have hHl : H.length ≤ 6500000000000 := by rw [HL.out]; omega
     have HGC := zaa hgc
     obtain ⟨hn, hhn⟩ : ∃ hn, H.length = hn := ⟨_, rfl⟩
     have HHN := zaa hhn
     have HQ2 := zaa HQ.out
     rw [hhn] at HGC HQ2 ⊢
     have hhnI : (hn : Int) ≤ 6500000000000 := by omega
     clear hgc HQ HL hhn
     go_wp2_with fail
     go_loop [10] (fun x => ∃ t : Nat, t ≤ N ∧ x = .int .i64 (t : Int)) (fun x => N - (RowKit.intOf x).toNat)
     case atStart => exact ⟨0, by omega, rfl⟩
     case round =>
      obtain ⟨t, ht, rfl⟩ := hrel
      by_cases htN : t < N
      ·have htI : (t : Int) < (N : Int) := by omega
       obtain ⟨u, hu⟩ := cell_at HN.out htN
       obtain ⟨R, rfl, cR⟩ : ∃ R, lo = some ⟨R, 0, none⟩ ∧ wr.cell? ⟨R, t, none⟩ = some u := by
        obtain ⟨ao, c, e, hc⟩ := HQ2.out.row.cells
        injection e with e1 e2 _
        subst e1
        rcases hc with h0 | ⟨g, e3, _, hc⟩
        ·omega
        ·exact ⟨g, e3, hc t u hu⟩
       obtain ⟨ao, c, rfl, hs, _⟩ := HQ2.out.lst t u hu
       have HM := zaa (marked_any ao (nn t) c t wr hs (by omega))
       clear hs hu
       go_wp2_with (go_at_call 87; refine zae HM.out ?_)
       go_round
       case rel => exact ⟨t + 1, by omega, by go_num⟩
       case measure => simp [RowKit.intOf]; omega
      ·have htI : ¬ (t : Int) < (N : Int) := by omega
       go_wp2_with fail
       go_loop [12] (fun x => ∃ s : Nat, s ≤ hn ∧ x = .int .i64 (s : Int)) (fun x => hn - (RowKit.intOf x).toNat)
       case atStart => exact ⟨0, by omega, rfl⟩
       case round =>
        obtain ⟨s, hs, rfl⟩ := hrel
        by_cases hsN : s < hn
        ·have hsI : (s : Int) < (hn : Int) := by omega
         obtain ⟨u, hu⟩ := cell_at HHN.out hsN
         obtain ⟨G, rfl, cG⟩ : ∃ G, go = some ⟨G, 0, none⟩ ∧ wr.cell? ⟨G, s, none⟩ = some u := by
          rcases HGC.out with h0 | ⟨g, e3, _, hc⟩
          ·omega
          ·exact ⟨g, e3, hc s u hu⟩
         obtain ⟨n, ao, c, rfl, hsl, _⟩ := HQ2.out.gr s u hu
         have HM := zaa (marked_any ao n c (s / 5) wr hsl (by omega))
         have hq5 : Int.tdiv (s : Int) 5 = ((s / 5 : Nat) : Int) := by
          rw [Int.tdiv_eq_ediv_of_nonneg (by omega)]
          rfl
         obtain ⟨q, hq⟩ : ∃ q, s / 5 = q := ⟨_, rfl⟩
         rw [hq] at HM hq5
         have hqs : (q : Int) ≤ 6500000000000 := by omega
         have hqw : IntKind.i64.wrap (q : Int) = (q : Int) := by rw [IntKind.wrap_i64]; omega
         clear hsl hu hq
         go_wp2_with (go_at_call 87; refine zae HM.out ?_)
         go_round
         case rel => exact ⟨s + 1, by omega, by go_num⟩
         case measure => simp [RowKit.intOf]; omega
        ·have hsI : ¬ (s : Int) < (hn : Int) := by omega
         go_wp2
         go_ret
         exact ⟨rfl, zaa HC.out.narrow⟩
theorem zbg {w : World} {B : Nat} {e : TypeId} {s m : Nat} {v : Value} {xs : List Value} (h : w.ownsRow B e s v m xs) {g : Nat} {c : Array Value} {t : TypeId} {fz : Nat × Nat} (hg : w.heap[g]? = some (.cells c t fz)) (ht : t ≠ e) : v.ownBlock ≠ some g := by
 intro e1
 rcases h.2 with ⟨rfl, _⟩ | ⟨k, cap, cur, rfl, _, hk, _⟩
 ·cases e1
 ·injection e1 with e1
  have e' : k = g := e1
  rw [← e', hk] at hg
  injection hg with hg
  injection hg with _ h2 _
  exact ht h2.symm
theorem row_ex {w : World} {B : Nat} {e : TypeId} {s m : Nat} {v : Value} {xs : List Value} (h : w.ownsRow B e s v m xs) {g : Nat} (hv : v.ownBlock = some g) : ∃ cur fz, w.heap[g]? = some (.cells cur e fz) := by
 rcases h.2 with ⟨rfl, _⟩ | ⟨k, cap, cur, rfl, _, hk, _⟩
 ·cases hv
 ·injection hv with e1
  have e' : k = g := e1
  exact ⟨cur, _, e' ▸ hk⟩
theorem row_lt {w : World} {B : Nat} {e : TypeId} {s m : Nat} {v : Value} {xs : List Value} (h : w.ownsRow B e s v m xs) {g : Nat} (hv : v.ownBlock = some g) : g < w.heap.size := by
 obtain ⟨cur, fz, hh⟩ := row_ex h hv
 exact zag hh
theorem zcj {w : World} {B C : Nat} {e e' : TypeId} {s s' m m' : Nat} {v u : Value} {xs ys : List Value} (h : w.ownsRow B e s v m xs) (k : w.ownsRow C e' s' u m' ys) (hne : e' ≠ e) : v.ownBlock = none ∨ v.ownBlock ≠ u.ownBlock := by
 cases hv : v.ownBlock with
 | none => exact .inl rfl
 | some g =>
  refine .inr fun e1 => ?_
  obtain ⟨cur, fz, hh⟩ := row_ex k e1.symm
  exact zbg h hh hne hv
theorem zck {w : World} {B kb : Nat} {e : TypeId} {s m : Nat} {v : Value} {xs : List Value} (h : w.ownsRow B e s v m xs) (hk : v.ownBlock ≠ some kb) (i : Nat) (y : Value) : (w.setCell ⟨kb, i, none⟩ y).ownsRow B e s v m xs := by
 have hc2 : Cf (· = kb) w (w.setCell ⟨kb, i, none⟩ y) := Cf.setCell (F := (· = kb)) w (p := ⟨kb, i, none⟩) rfl _
 have hg : w.grownBy (w.setCell ⟨kb, i, none⟩ y) (some kb) := ⟨hc2.os, hc2.tape, hc2.output, hc2.size, fun q hq hne => hc2.block q hq (fun e => hne (by rw [e]))⟩
 exact World.ownsRow.kept h hg (.inr hk)
theorem row_on {w u : World} {B : Nat} {e : TypeId} {s m : Nat} {v : Value} {xs : List Value} (h : w.ownsRow B e s v m xs) (hb : Below w.heap.size w u) : u.ownsRow B e s v m xs :=
 World.ownsRow.kept (row := none) h ⟨hb.os, hb.tape, hb.output, hb.size, fun k hk _ => hb.block k hk⟩ (by
  cases v.ownBlock with
  | none => exact .inl rfl
  | some g => exact .inr (by simp))
theorem infoSt7 : (Tryz.prog.info? 9).map (fun i => (i.zero, i.size, i.bytes)) = some (some (.string ⟨#[]⟩), 1, 16) := by kernel_rfl
theorem one_cell7 {w : World} {b : Nat} {u : Value} (hc : w.cell? ⟨b, 0, none⟩ = some u) : ∀ j y, [u][j]? = some y → w.cell? ((⟨b, 0, none⟩ : Addr).add j) = some y := fun j y hy => by
 have hj : j = 0 := by
  have := (zH.1 hy).1
  simpa using this
 subst hj
 simp at hy
 subst hy
 simpa [Addr.add_lit] using hc
theorem run_b1 (w : World) (ty : TypeId) (B : Nat) (v : Value) (n : Nat) (xs : List Value) (u : Value) (b : Nat) (h : w.ownsRow B 37 1 v n xs) (hone : u.oneCell' = true) (hc : w.cell? ⟨b, 0, none⟩ = some u) (hn : n ≤ 1300000000000) (hB : B ≤ w.heap.size) :
  ∃ g c w', (Builtin.append_ #[32, 32] ty #[v, .slice (some ⟨b, 0, none⟩) 1 1]).run Tryz.prog w = .ok (.slice (some ⟨g, 0, none⟩) (n + 1) c) w' ∧ w'.ownsRow B 37 1 (.slice (some ⟨g, 0, none⟩) (n + 1) c) (n + 1) (xs ++ [u]) ∧ Gr w v w' (.slice (some ⟨g, 0, none⟩) (n + 1) c) := by
 obtain ⟨i0, hi, hz0, hz1, hz2⟩ := info_parts infoSl9
 obtain ⟨v', w', hr, h2, h3, h4, h5⟩ := run_append_own_at (P := Tryz.prog) w B 32 ty 37 i0 (.slice none 0 0) 1 24 Tryz.underlying32 hi hz0 hz1 hz2 rfl (by decide) v n xs h ⟨b, 0, none⟩ 1 1 [u] rfl
  (one_cell7 hc) (fun y hy => by simp at hy; subst hy; exact hone) (by unfold maxLen; omega) (by omega) hB
 rcases h2.2 with ⟨_, h0⟩ | ⟨g, c, cur, rfl, _⟩
 ·omega
 ·exact ⟨g, c, w', hr, h2, h3, h5.imp id fun e => ⟨_, e, Lr⟩⟩
theorem run_t1 (w : World) (ty : TypeId) (B : Nat) (v : Value) (n : Nat) (xs : List Value) (u : Value) (b : Nat) (h : w.ownsRow B 9 1 v n xs) (hone : u.oneCell' = true) (hc : w.cell? ⟨b, 0, none⟩ = some u) (hn : n ≤ 1300000000000) (hB : B ≤ w.heap.size) :
  ∃ g c w', (Builtin.append_ #[33, 33] ty #[v, .slice (some ⟨b, 0, none⟩) 1 1]).run Tryz.prog w = .ok (.slice (some ⟨g, 0, none⟩) (n + 1) c) w' ∧ w'.ownsRow B 9 1 (.slice (some ⟨g, 0, none⟩) (n + 1) c) (n + 1) (xs ++ [u]) ∧ Gr w v w' (.slice (some ⟨g, 0, none⟩) (n + 1) c) := by
 obtain ⟨i0, hi, hz0, hz1, hz2⟩ := info_parts infoSt7
 obtain ⟨v', w', hr, h2, h3, h4, h5⟩ := run_append_own_at (P := Tryz.prog) w B 33 ty 9 i0 _ 1 16 Tryz.underlying33 hi hz0 hz1 hz2 rfl (by decide) v n xs h ⟨b, 0, none⟩ 1 1 [u] rfl
  (one_cell7 hc) (fun y hy => by simp at hy; subst hy; exact hone) (by unfold maxLen; omega) (by omega) hB
 rcases h2.2 with ⟨_, h0⟩ | ⟨g, c, cur, rfl, _⟩
 ·omega
 ·exact ⟨g, c, w', hr, h2, h3, h5.imp id fun e => ⟨_, e, Lr⟩⟩
theorem step_app {ops : Array Oper} {o : Oper} {a : Act} {w : World} {K : Act → World → Prop} {Q : Exit → Act → World → Prop} {E : Prop}
  (hgd : o.guard = none) (s x : Operand) (t1 t2 : TypeId) (ho : o.op = .call { callee := .builtin .append, args := #[s, x], argTypes := #[t1, t2] }) (v u : Value) (hs : a.eval s = v) (hx : a.eval x = u) {v' : Value} {w' : World}
  (hr : (Builtin.append_ #[t1, t2] o.type #[v, u]).run Tryz.prog w = .ok v' w') (h : K (a.put o.dst v') w') :
  if Region.wanted o (yielded ops a.tmps) = true then Oper.wp Tryz.prog o a w K Q else E := by
 have hw : Region.wanted o (yielded ops a.tmps) = true := by simp [Region.wanted, hgd]
 rw [if_pos hw]
 unfold Oper.wp execOp
 simp only [ho, resolve, invoke, builtin, Sem.run_bind, Sem.run_pure, Result.andThen_ok, List.map_toArray, List.map_cons, List.map_nil, hs, hx, hr]
 exact h
theorem append_run {ops : Array Oper} {rest : List Oper} {o : Oper} {a : Act} {w : World} {Q : Exit → Act → World → Prop} (hgd : o.guard = none) (s x : Operand) (t1 t2 : TypeId)
  (ho : o.op = .call { callee := .builtin .append, args := #[s, x], argTypes := #[t1, t2] }) (v u : Value) (hs : a.eval s = v) (hx : a.eval x = u) {v' : Value} {w' : World}
  (hr : (Builtin.append_ #[t1, t2] o.type #[v, u]).run Tryz.prog w = .ok v' w') (h : wpList Tryz.prog ops Q rest (a.put o.dst v') w') : wpList Tryz.prog ops Q (o :: rest) a w := by
 refine wpList_plain hgd fun K hK => ?_
 unfold Oper.wp execOp
 simp only [ho, resolve, invoke, builtin, Sem.run_bind, Sem.run_pure, Result.andThen_ok, List.map_toArray, List.map_cons, List.map_nil, hs, hx, hr]
 exact hK _ _ h
theorem kp_ne8 : 35 ≠ 5 := by decide
theorem kp_neX : 35 ≠ 37 := by decide
theorem kp_neT : 35 ≠ 9 := by decide
theorem tx_ne8 : 9 ≠ 5 := by decide
theorem tx_neX : 9 ≠ 37 := by decide
structure Kq (w : World) (kb : Nat) (N : Nat) (v1 v2 : Value) (V ws : List Value) (D : Nat → List Int) : Prop where
 box : w.heap[kb]? = some (.cells #[.int .i64 (N : Int), v1, v2] 35 (0, 0))
 l1 : w.ownsRow 0 37 1 v1 V.length V
 l2 : w.ownsRow 0 9 1 v2 ws.length ws
 own : ∀ (t : Nat) (u : Value), V[t]? = some u → OwnB w 0 u (D t) ∧ Wf (D t) ∧ (D t).length ≤ 65536
 dif : ∀ (t t' : Nat) (u u' : Value), V[t]? = some u → V[t']? = some u' → t ≠ t' → u.ownBlock = none ∨ u.ownBlock ≠ u'.ownBlock
theorem Kq.on {w u : World} {kb N : Nat} {v1 v2 : Value} {V ws : List Value} {D : Nat → List Int} (h : Kq w kb N v1 v2 V ws D) (hb : Below w.heap.size w u) : Kq u kb N v1 v2 V ws D :=
 ⟨(hb.block kb (zag h.box)).trans h.box, row_on h.l1 hb, row_on h.l2 hb, fun t x hx => ⟨(h.own t x hx).1.on Lr hb, (h.own t x hx).2⟩, h.dif⟩
theorem Kq.cells {w : World} {kb N : Nat} {v1 v2 : Value} {V ws : List Value} {D : Nat → List Int} (h : Kq w kb N v1 v2 V ws D) : w.cell? ⟨kb, 0, none⟩ = some (.int .i64 (N : Int)) ∧ w.cell? ⟨kb, 1, none⟩ = some v1 ∧ w.cell? ⟨kb, 2, none⟩ = some v2 ∧ ∀ i, w.frozen? ⟨kb, i, none⟩ = false := by
 have hb := h.box
 refine ⟨?_, ?_, ?_, fun i => by simp [World.frozen?, hb]⟩
 ·rw [cell_of_row _ _ 0 _ _ _ hb]; rfl
 ·rw [cell_of_row _ _ 1 _ _ _ hb]; rfl
 ·rw [cell_of_row _ _ 2 _ _ _ hb]; rfl
def wsL (n : Nat) (D : Nat → List Int) : List Value := (List.range n).map fun t => .string (strOfNums (D t))
theorem wsL_length (n : Nat) (D : Nat → List Int) : (wsL n D).length = n := by simp [wsL]
theorem wsL_cong {n : Nat} {D E : Nat → List Int} (h : ∀ t, t < n → D t = E t) : wsL n D = wsL n E := by
 unfold wsL
 refine List.map_congr_left fun t ht => ?_
 rw [h t (List.mem_range.1 ht)]
theorem wsL_succ (n : Nat) (D : Nat → List Int) : wsL (n + 1) D = wsL n D ++ [.string (strOfNums (D n))] := by
 simp [wsL, List.range_succ]
theorem wsL_more (n : Nat) (D : Nat → List Int) (l : List Int) : wsL (n + 1) (fun t => if t < n then D t else l) = wsL n D ++ [.string (strOfNums l)] := by
 rw [wsL_succ]
 congr 1
 ·exact wsL_cong fun t ht => by simp [ht]
 ·simp
theorem Cf.grownBy {w w' : World} {g : Option Nat} (h : w.grownBy w' g) : Cf (fun b => g = some b) w w' := ⟨h.os, h.tape, h.output, h.size, fun k hk hf => h.block k hk (fun e => hf e.symm)⟩
theorem rem2_even {N : Nat} (h : N % 2 = 0) : Int.tmod ((N : Int) + 1) 2 = 1 := by
 rw [Int.tmod_eq_emod_of_nonneg (by omega)]
 omega
theorem rem2_odd {N : Nat} (h : N % 2 = 1) : Int.tmod ((N : Int) + 1) 2 = 0 := by
 rw [Int.tmod_eq_emod_of_nonneg (by omega)]
 omega
end Go.Proofs.YtfgffajgfgifhaaGreatDoor
