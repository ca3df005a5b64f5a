import Derived.Test.YtbkhjeacmmbabaaGreatDoorJ15
import Derived.Deep.OwnRows
import Derived.Laws.CopyOwn
namespace Go.Proofs.YtbkhjeacmmbabaaGreatDoor
set_option maxRecDepth 100000
open Go.RowKit
def Fw (F : Nat → Prop) (w : World) (z : Nat) : Prop := F z ∨ w.heap.size ≤ z
theorem Cf.narrow {F : Nat → Prop} {w u : World} (h : Cf (Fw F w) w u) : Cf F w u := ⟨h.os, h.tape, h.output, h.size, fun k hk hf => h.block k hk (fun e => e.elim hf (fun e => by omega))⟩
def Fo (F : Nat → Prop) (w : World) (x : Value) : Prop := ∀ z, x.ownBlock = some z → Fw F w z
theorem own_in {w : World} {B : Nat} {v : Value} {l : List Int} {k : Nat} (h : OwnB w B v l) (hk : v.ownBlock = some k) : B ≤ k ∧ k < w.heap.size := by
 unfold OwnB at h
 rcases h.2 with ⟨rfl, _⟩ | ⟨g, cap, cur, rfl, hg, hh, _⟩
 ·cases hk
 ·cases hk
  exact ⟨hg, zaf hh⟩
theorem ownX_in {w : World} {B : Nat} {v : Value} {l : List Value} {k : Nat} (h : OwnX w B v l) (hk : v.ownBlock = some k) : B ≤ k ∧ k < w.heap.size := by
 unfold OwnX at h
 rcases h.2 with ⟨rfl, _⟩ | ⟨g, cap, cur, rfl, hg, hh, _⟩
 ·cases hk
 ·cases hk
  exact ⟨hg, zaf hh⟩
theorem box9 {w : World} {B bk : Nat} (h : w.heap[bk]? = some (.cells #[.slice none 0 0] 39 (0, 0))) : Bo9 w B bk (.slice none 0 0) [] (fun _ => []) :=
 ⟨h, OwnX.nil _ _, fun t u ht => by simp at ht, fun t t' u u' ht => by simp at ht⟩
set_option maxHeartbeats 8000000 in
theorem owned9F (F : Nat → Prop) (w : World) (B bk N : Nat) (v : Value) (V : List Value) (D : Nat → List Int) (h : Bo9 w B bk v V D) (hF : ∀ (t : Nat) (u : Value), V[t]? = some u → Fo F w u) (hN : V.length = N) (hN2 : N ≤ 1300000000000) (hB : B ≤ w.heap.size) :
  Calls Tryz.prog 30 #[.pointer (some ⟨bk, 0, none⟩)] w fun e u => e = .returned (.bool true) ∧ Hid (Cf F w u) := by
 have HB0 := zaa h
 have HFO := zaa hF
 clear hF
 have hNI : (N : Int) ≤ 1300000000000 := by omega
 obtain ⟨lo, lc, rfl, hcells⟩ := h.row.cells
 rw [hN] at hcells
 have HN := zaa hN
 have HV : Hid (N = 0 ∨ ∃ R, lo = some ⟨R, 0, none⟩ ∧ ∀ (wr : World) (D' : Nat → List Int), Bo9 wr B bk (.slice lo V.length lc) V D' → ∀ (t : Nat) (u : Value), V[t]? = some u → wr.cell? ⟨R, t, none⟩ = some u) := zaa (by
  rcases hcells with h0 | ⟨R, rfl, _, _⟩
  ·exact .inl h0
  ·refine .inr ⟨R, rfl, fun wr D' hb t u ht => ?_⟩
   obtain ⟨ao, c, e, hc⟩ := hb.row.cells
   injection e with e1 _ _
   subst e1
   rcases hc with h0 | ⟨g, e2, _, hc⟩
   ·have := (zH.1 ht).1
    omega
   ·cases e2
    exact hc t u ht)
 rw [hN] at HB0
 rw [hN] at HV
 clear h hcells hN
 go_enter Tryz.func30, Tryz.ntmps30
 go_wp2_with fail
 go_loopw [3] (fun x wr => ∃ i : Nat, i ≤ N ∧ x = .int .i64 (i : Int) ∧ Hid (Bo9 wr B bk (.slice lo N lc) V (D1 D i)) ∧ Hid (Cf (Fw F w) w wr)) (fun x _ => N - (RowKit.intOf x).toNat)
 case atStart => exact ⟨0, by omega, rfl, zaa (HB0.out.cong (fun t _ => by simp [D1])), zaa (Cf.refl _ _)⟩
 case round =>
  obtain ⟨i, hi, rfl, HBi, HCi⟩ := hrel
  have hbx := HBi.out.box
  have c0 : wr.cell? ⟨bk, 0, none⟩ = some (.slice lo N lc) := by rw [cell_of_row _ _ 0 _ _ _ hbx]; rfl
  clear hbx
  by_cases hlt : i < N
  ·have hltI : (i : Int) < (N : Int) := by omega
   obtain ⟨u, hu⟩ := zbx HN.out hlt
   obtain ⟨R, rfl, hR⟩ : ∃ R, lo = some ⟨R, 0, none⟩ ∧ ∀ (wr : World) (D' : Nat → List Int), Bo9 wr B bk (.slice lo N lc) V D' → ∀ (t : Nat) (u : Value), V[t]? = some u → wr.cell? ⟨R, t, none⟩ = some u := by
    rcases HV.out with h0 | h0
    ·omega
    ·exact h0
   have cR := hR wr _ HBi.out i u hu
   have hdl : (D1 D i i).length = (D i).length := by simp [D1]
   obtain ⟨ho, _, hlb⟩ := HBi.out.own i u hu
   obtain ⟨ao, c, rfl, hsh⟩ := zcw ho
   rw [hdl] at hsh hlb
   obtain ⟨n, hn⟩ : ∃ n, (D i).length = n := ⟨_, rfl⟩
   rw [hdl, hn] at cR hu
   rw [hn] at hsh hlb
   have HNL := zaa hn
   have HU := zaa hu
   have hnI : (n : Int) ≤ 65536 := by omega
   have HB2 : Hid (Bo9 wr B bk (.slice (some ⟨R, 0, none⟩) N lc) V (D2 D i 0)) := zaa (HBi.out.cong (fun t _ => D2_first D i t))
   clear ho hdl hn hu HBi hR
   go_wp2_with fail
   go_loopw [5] (fun y wr2 => ∃ k : Nat, k ≤ n ∧ y = .int .i64 (k : Int) ∧ Hid (Bo9 wr2 B bk (.slice (some ⟨R, 0, none⟩) N lc) V (D2 D i k)) ∧ Hid (Cf (Fw F w) w wr2)) (fun y _ => n - (RowKit.intOf y).toNat)
   case atStart => exact ⟨0, by omega, rfl, HB2, HCi⟩
   case round =>
    obtain ⟨k, hk, rfl, HBk, HCk⟩ := hrel
    by_cases hkn : k < n
    ·have hkI : (k : Int) < (n : Int) := by omega
     obtain ⟨g, rfl, hgB⟩ : ∃ g, ao = some ⟨g, 0, none⟩ ∧ B ≤ g := by
      rcases hsh with h0 | h0
      ·omega
      ·exact h0
     obtain ⟨hok, _, _⟩ := HBk.out.own i _ HU.out
     have hl2 : (D2 D i k i).length = n := by rw [D2_len D i k (by rw [HNL.out]; exact hk), HNL.out]
     have ck : ∃ z, wr.cell? ⟨g, k, none⟩ = some z := ⟨_, own_cell hok hl2 hkn⟩
     obtain ⟨z, ck⟩ := ck
     have fk := own_free hok hl2 k
     obtain ⟨m1, m2⟩ := mark_run i k (by omega) (by omega)
     have m3 := mkB_ok i k
     have HST : Hid (Bo9 (wr.setCell ⟨g, k, none⟩ (.int .u8 (mkB i k))) B bk (.slice (some ⟨R, 0, none⟩) N lc) V (D2 D i (k + 1))) := zaa ((HBk.out.set HU.out hl2 hkn m3).cong (fun t _ => D2_set D i k (by rw [HNL.out]; exact hkn) t))
     have HCS : Hid (Cf (Fw F w) w (wr.setCell ⟨g, k, none⟩ (.int .u8 (mkB i k)))) := zaa (HCk.out.go (Cf.setCell (F := Fw F w) wr (p := ⟨g, k, none⟩) (HFO.out i _ HU.out g rfl) _))
     obtain ⟨q, hq⟩ : ∃ q, k / 251 = q := ⟨_, rfl⟩
     rw [hq] at m1 m2
     have hqk : (q : Int) ≤ (k : Int) := by have := Nat.div_le_self k 251; omega
     have m4 : IntKind.i64.wrap ((i : Int) + (q : Int)) = (i : Int) + (q : Int) := by rw [IntKind.wrap_i64]; omega
     have m5 : IntKind.i64.wrap (q : Int) = (q : Int) := by rw [IntKind.wrap_i64]; omega
     generalize mkB i k = y at *
     clear hok hq
     go_wp2
     go_roundw
     case rel => exact ⟨k + 1, by omega, by go_num, HST, HCS⟩
     case measure => simp [RowKit.intOf]; omega
    ·obtain rfl : k = n := by omega
     have hkI : ¬ (k : Int) < (k : Int) := by omega
     have HB3 : Hid (Bo9 wr B bk (.slice (some ⟨R, 0, none⟩) N lc) V (D1 D (i + 1))) := zaa (HBk.out.cong (fun t _ => by rw [← HNL.out]; exact D2_last D i t))
     go_wp2
     go_roundw
     case rel => exact ⟨i + 1, by omega, by go_num, HB3, HCk⟩
     case measure => simp [RowKit.intOf]; omega
  ·have hlI : ¬ (i : Int) < (N : Int) := by omega
   obtain ⟨nn, hnn⟩ : ∃ nn : Nat → Nat, (fun t => (D t).length) = nn := ⟨_, rfl⟩
   have HNN : Hid (∀ t, t < N → nn t ≤ 65536) := zaa (by
    intro t ht
    obtain ⟨u, hu⟩ := zbx HN.out ht
    rw [← hnn]
    exact (HB0.out.own t u hu).2.2)
   have HQ0 : Hid (Q9 wr B bk (.slice lo N lc) V nn 0 (.slice none 0 0) []) := zaa (by
    rw [← hnn]
    exact Bo9.start (HBi.out.cong (fun t ht => by unfold D1; rw [if_pos (by rw [HN.out] at ht; omega)])))
   have HNE := zaa HB0.out.ne
   clear HBi hnn HV
   go_wp2_with fail
   clear hlI hi
   go_loopw [6, 7] (fun vg x wr => ∃ (i : Nat) (H : List Value), i ≤ N ∧ x = .int .i64 (i : Int) ∧ Hid (Q9 wr B bk (.slice lo N lc) V nn i vg H) ∧ Hid (H.length = 5 * i) ∧ Hid (Cf (Fw F w) w wr) ∧ Hid (Fo F w vg)) (fun _ x _ => N - (RowKit.intOf x).toNat)
   case atStart => exact ⟨0, [], by omega, rfl, HQ0, zaa rfl, HCi, zaa (fun z hz => by cases hz)⟩
   case round =>
    obtain ⟨i, H, hi, rfl, HQ, HL, HC, HFG⟩ := hrel
    clear HQ0 HCi c0
    have hbx := HQ.out.box
    have c0 : wr.cell? ⟨bk, 0, none⟩ = some (.slice lo N lc) := by rw [cell_of_row _ _ 0 _ _ _ hbx]; rfl
    clear hbx
    by_cases hlt : i < N
    ·have hltI : (i : Int) < (N : Int) := by omega
     obtain ⟨u, hu⟩ := zbx HN.out hlt
     obtain ⟨R, rfl, cR⟩ : ∃ R, lo = some ⟨R, 0, none⟩ ∧ wr.cell? ⟨R, i, none⟩ = some u := by
      obtain ⟨ao, c, e, hc⟩ := HQ.out.row.cells
      injection e with e1 e2 _
      subst e1
      rcases hc with h0 | ⟨g, e3, _, hc⟩
      ·omega
      ·exact ⟨g, e3, hc i u hu⟩
     obtain ⟨xo0, xc0, rfl, _, _⟩ := HQ.out.lst i u hu
     have HP0 := zaa (HQ.out.into hu)
     have HFX0 := zaa (HFO.out i _ hu)
     have hni := HNN.out i hlt
     have hniI : (nn i : Int) ≤ 65536 := by omega
     clear hu HQ
     go_wp2_with fail
     go_loopw [6, 8, 9] (fun vg x kk wr => ∃ (k : Nat) (xo : Option Addr) (xc : Nat) (H : List Value), k ≤ 20 ∧ kk = .int .i64 (k : Int) ∧ x = .slice xo (nn i + k) xc ∧ Hid (P9 wr B bk (.slice (some ⟨R, 0, none⟩) N lc) V nn i k (.slice xo (nn i + k) xc) vg H) ∧ Hid (H.length = 5 * i + cnt k) ∧ Hid (Cf (Fw F w) w wr) ∧ Hid (Fo F w vg) ∧ Hid (Fo F w x)) (fun _ _ kk _ => 20 - (RowKit.intOf kk).toNat)
     case atStart => exact ⟨0, xo0, xc0, H, by omega, rfl, rfl, HP0, zaa HL.out, HC, HFG, HFX0⟩
     case round =>
      obtain ⟨k, xo, xc, H, hk, rfl, rfl, HP, HL2, HC2, HFG2, HFX⟩ := hrel
      clear HP0 HC HL c0 cR HFG HFX0
      by_cases hk20 : k < 20
      ·have hkI : (k : Int) < 20 := by omega
       obtain ⟨L, hL⟩ : ∃ L, nn i + k = L := ⟨_, rfl⟩
       have HLE := zaa hL
       have hL2 : L ≤ 65556 := by omega
       have hL2I : (L : Int) ≤ 65556 := by omega
       rw [hL] at HP HFX ⊢
       obtain ⟨m1, m2⟩ := mark_run i L (by omega) (by omega)
       have m3 := mkB_ok i L
       obtain ⟨q, hq⟩ : ∃ q, L / 251 = q := ⟨_, rfl⟩
       rw [hq] at m1 m2
       have hqk : (q : Int) ≤ (L : Int) := by have := Nat.div_le_self L 251; omega
       have m4 : IntKind.i64.wrap ((i : Int) + (q : Int)) = (i : Int) + (q : Int) := by rw [IntKind.wrap_i64]; omega
       have m5 : IntKind.i64.wrap (q : Int) = (q : Int) := by rw [IntKind.wrap_i64]; omega
       obtain ⟨x, hx⟩ : ∃ x, wr.alloc (.cells #[.int .u8 (mkB i L)] 5) = x := ⟨_, rfl⟩
       have hbx : Below wr.heap.size wr x := by rw [← hx]; exact zad Br Lr _
       have hcx : x.cell? ⟨wr.heap.size, 0, none⟩ = some (.int .u8 (mkB i L)) := by rw [← hx]; simp
       have hBx : B ≤ x.heap.size := zN hB (zN HC2.out.size hbx.size)
       have HPX := zaa (HP.out.on hbx)
       have hxo : OwnB x B (.slice xo L xc) (mkL i L) := by have := HPX.out.xo; rwa [hL] at this
       obtain ⟨v1, w1, hr, ho1, hcase⟩ := app_one x B 22 (.slice xo L xc) (mkL i L) (mkB i L) wr.heap.size hxo hcx (by rw [zax]; omega) hBx
       have ho2 : OwnB w1 B v1 (mkL i (L + 1)) := ho1
       obtain ⟨yo, yc, rfl, _⟩ := zcw ho2
       rw [zax] at ho2 hcase hr
       have HP1 : Hid (P9 w1 B bk (.slice (some ⟨R, 0, none⟩) N lc) V nn i (k + 1) (.slice yo (L + 1) yc) _ H) := zaa (HPX.out.appX (by rw [hL]; exact ho2) hcase)
       have HC1 : Hid (Cf (Fw F w) w w1) := zaa ((HC2.out.go (Cf.of_below hbx)).go (by
        rcases hcase with ⟨_, hg⟩ | ⟨hb, _⟩
        ·refine ⟨hg.os, hg.tape, hg.output, hg.size, fun z hz hf => hg.block z hz (fun e => hf ?_)⟩
         exact HFX.out z e.symm
        ·exact Cf.of_below hb))
       have HFY : Hid (Fo F w (.slice yo (L + 1) yc)) := zaa (fun z hz => by
        rcases hcase with ⟨e, _⟩ | ⟨_, hn⟩
        ·exact HFX.out z (by rw [← e]; exact hz)
        ·exact .inr (zN (zN HC2.out.size hbx.size) (hn z hz)))
       clear hcase ho1 ho2 hxo hbx hq hL HP HPX HC2
       generalize mkB i L = mb at *
       go_wp2_with (at_builtin; refine app_run9 rfl _ _ _ _ rfl _ _ rfl rfl hr ?_; refine Hid.out ?_)
       apply zaa
       clear hr hx hcx m1 m2 m3 m4 m5
       by_cases hkeep : k < 3 ∨ k = 8 ∨ k = 19
       ·have HCN : Hid (cnt (k + 1) = cnt k + 1) := zaa (by show cnt k + _ = _; rw [if_pos hkeep])
        have hcb := cnt_bound hk20 hkeep
        obtain ⟨y, hy⟩ : ∃ y, w1.alloc (.cells #[.slice yo (L + 1) yc] 22) = y := ⟨_, rfl⟩
        have hby : Below w1.heap.size w1 y := by rw [← hy]; exact zad Br Lr _
        have hcy : y.cell? ⟨w1.heap.size, 0, none⟩ = some (.slice yo (L + 1) yc) := by rw [← hy]; simp
        have HPY := zaa (HP1.out.on hby)
        have hBy : B ≤ y.heap.size := zN hB (zN HC1.out.size hby.size)
        have HCY : Hid (Cf (Fw F w) w y) := zaa (HC1.out.go (Cf.of_below hby))
        have hHl : H.length + 1 ≤ 6500000000000 := by rw [HL2.out]; omega
        have HDV : Hid (H.length / 5 = i) := zaa (by rw [HL2.out]; omega)
        clear hby HP1 HC1
        by_cases g1 : k < 3
        ·have d1 : decide ((k : Int) < 3) = true := by simp; omega
         have e1 : (k : Int) < 3 := by omega
         clear hkeep
         go_wp2_with (at_builtin; refine app_x _ rfl _ _ rfl B H _ (.slice yo (L + 1) yc) rfl rfl HPY.out.rowG w1.heap.size rfl hcy hHl hBy ?_; refine Hid.out ?_)
         apply zaa
         intro vG2 w2 hG2 hgr2
         have HP2 : Hid (P9 w2 B bk (.slice (some ⟨R, 0, none⟩) N lc) V nn i (k + 1) (.slice yo (L + 1) yc) vG2 (H ++ [.slice yo (L + 1) yc])) := zaa (HPY.out.appG hG2 hgr2 HDV.out (by omega) (by omega))
         have HC3 : Hid (Cf (Fw F w) w w2) := zaa (HCY.out.go ⟨hgr2.grow.os, hgr2.grow.tape, hgr2.grow.output, hgr2.grow.size, fun z hz hf => hgr2.grow.block z hz (fun e => hf (HFG2.out z e.symm))⟩)
         have HFG3 : Hid (Fo F w vG2) := zaa (fun z hz => by
          rcases hgr2.own with e | ⟨q, e, hq⟩
          ·exact HFG2.out z (by rw [← e]; exact hz)
          ·rw [e] at hz
           cases hz
           exact .inr (zN HCY.out.size hq))
         have HL3 : Hid ((H ++ [Value.slice yo (L + 1) yc]).length = 5 * i + cnt (k + 1)) := zaa (by rw [zG, HL2.out, HCN.out]; rfl)
         have HLK : Hid (nn i + (k + 1) = L + 1) := zaa (by have := HLE.out; omega)
         clear hG2 hgr2 hy hcy HPY
         go_wp2
         go_roundw
         case rel => exact ⟨k + 1, yo, yc, H ++ [.slice yo (L + 1) yc], by omega, by go_num, by rw [HLK.out], by rw [HLK.out]; exact HP2, HL3, HC3, HFG3, HFY⟩
         case measure => simp [RowKit.intOf]; omega
        ·have d1 : decide ((k : Int) < 3) = false := by simp; omega
         have e1 : ¬ (k : Int) < 3 := by omega
         by_cases g2 : k = 8
         ·have d2 : ((k : Int) == 8) = true := by rw [beq_iff_eq]; omega
          have e2 : (k : Int) = 8 := by omega
          clear hkeep
          go_wp2_with (at_builtin; refine app_x _ rfl _ _ rfl B H _ (.slice yo (L + 1) yc) rfl rfl HPY.out.rowG w1.heap.size rfl hcy hHl hBy ?_; refine Hid.out ?_)
          apply zaa
          intro vG2 w2 hG2 hgr2
          have HP2 : Hid (P9 w2 B bk (.slice (some ⟨R, 0, none⟩) N lc) V nn i (k + 1) (.slice yo (L + 1) yc) vG2 (H ++ [.slice yo (L + 1) yc])) := zaa (HPY.out.appG hG2 hgr2 HDV.out (by omega) (by omega))
          have HC3 : Hid (Cf (Fw F w) w w2) := zaa (HCY.out.go ⟨hgr2.grow.os, hgr2.grow.tape, hgr2.grow.output, hgr2.grow.size, fun z hz hf => hgr2.grow.block z hz (fun e => hf (HFG2.out z e.symm))⟩)
          have HFG3 : Hid (Fo F w vG2) := zaa (fun z hz => by
           rcases hgr2.own with e | ⟨q, e, hq⟩
           ·exact HFG2.out z (by rw [← e]; exact hz)
           ·rw [e] at hz
            cases hz
            exact .inr (zN HCY.out.size hq))
          have HL3 : Hid ((H ++ [Value.slice yo (L + 1) yc]).length = 5 * i + cnt (k + 1)) := zaa (by rw [zG, HL2.out, HCN.out]; rfl)
          have HLK : Hid (nn i + (k + 1) = L + 1) := zaa (by have := HLE.out; omega)
          clear hG2 hgr2 hy hcy HPY
          go_wp2
          go_roundw
          case rel => exact ⟨k + 1, yo, yc, H ++ [.slice yo (L + 1) yc], by omega, by go_num, by rw [HLK.out], by rw [HLK.out]; exact HP2, HL3, HC3, HFG3, HFY⟩
          case measure => simp [RowKit.intOf]; omega
         ·have d2 : ((k : Int) == 8) = false := by rw [beq_eq_false_iff_ne]; omega
          have d3 : ((k : Int) == 19) = true := by rw [beq_iff_eq]; omega
          have e2 : ¬ (k : Int) = 8 := by omega
          have e3 : (k : Int) = 19 := by omega
          clear hkeep
          go_wp2_with (at_builtin; refine app_x _ rfl _ _ rfl B H _ (.slice yo (L + 1) yc) rfl rfl HPY.out.rowG w1.heap.size rfl hcy hHl hBy ?_; refine Hid.out ?_)
          apply zaa
          intro vG2 w2 hG2 hgr2
          have HP2 : Hid (P9 w2 B bk (.slice (some ⟨R, 0, none⟩) N lc) V nn i (k + 1) (.slice yo (L + 1) yc) vG2 (H ++ [.slice yo (L + 1) yc])) := zaa (HPY.out.appG hG2 hgr2 HDV.out (by omega) (by omega))
          have HC3 : Hid (Cf (Fw F w) w w2) := zaa (HCY.out.go ⟨hgr2.grow.os, hgr2.grow.tape, hgr2.grow.output, hgr2.grow.size, fun z hz hf => hgr2.grow.block z hz (fun e => hf (HFG2.out z e.symm))⟩)
          have HFG3 : Hid (Fo F w vG2) := zaa (fun z hz => by
           rcases hgr2.own with e | ⟨q, e, hq⟩
           ·exact HFG2.out z (by rw [← e]; exact hz)
           ·rw [e] at hz
            cases hz
            exact .inr (zN HCY.out.size hq))
          have HL3 : Hid ((H ++ [Value.slice yo (L + 1) yc]).length = 5 * i + cnt (k + 1)) := zaa (by rw [zG, HL2.out, HCN.out]; rfl)
          have HLK : Hid (nn i + (k + 1) = L + 1) := zaa (by have := HLE.out; omega)
          clear hG2 hgr2 hy hcy HPY
          go_wp2
          go_roundw
          case rel => exact ⟨k + 1, yo, yc, H ++ [.slice yo (L + 1) yc], by omega, by go_num, by rw [HLK.out], by rw [HLK.out]; exact HP2, HL3, HC3, HFG3, HFY⟩
          case measure => simp [RowKit.intOf]; omega
       ·have HCN : Hid (cnt (k + 1) = cnt k) := zaa (by show cnt k + _ = _; rw [if_neg hkeep]; rfl)
        have d1 : decide ((k : Int) < 3) = false := by simp; omega
        have d2 : ((k : Int) == 8) = false := by rw [beq_eq_false_iff_ne]; omega
        have d3 : ((k : Int) == 19) = false := by rw [beq_eq_false_iff_ne]; omega
        have e1 : ¬ (k : Int) < 3 := by omega
        have e2 : ¬ (k : Int) = 8 := by omega
        have e3 : ¬ (k : Int) = 19 := by omega
        have HLK : Hid (nn i + (k + 1) = L + 1) := zaa (by have := HLE.out; omega)
        clear hkeep
        go_wp2
        go_roundw
        case rel => exact ⟨k + 1, yo, yc, H, by omega, by go_num, by rw [HLK.out], by rw [HLK.out]; exact HP1, by rw [HCN.out]; exact HL2, HC1, HFG2, HFY⟩
        case measure => simp [RowKit.intOf]; omega
      ·obtain rfl : k = 20 := by omega
       have HQ1 : Hid (Q9 wr B bk (.slice (some ⟨R, 0, none⟩) N lc) V nn (i + 1) _ H) := zaa (HP.out.out HNE.out)
       have HL3 : Hid (H.length = 5 * (i + 1)) := zaa (by rw [HL2.out, cnt_all]; omega)
       clear HP
       go_wp2
       go_roundw
       case rel => exact ⟨i + 1, H, by omega, by go_num, HQ1, HL3, HC2, HFG2⟩
       case measure => simp [RowKit.intOf]; omega
    ·have hlI : ¬ (i : Int) < (N : Int) := by omega
     obtain ⟨go, gc, rfl, hgc⟩ := HQ.out.rowG.cells
     have hHl : H.length ≤ 6500000000000 := by rw [HL.out]; omega
     have HGC := zaa hgc
     obtain ⟨hn, hhn⟩ : ∃ hn, H.length = hn := ⟨_, rfl⟩
     have HHN := zaa hhn
     have HQ2 := zaa HQ.out
     rw [hhn] at HGC HQ2 ⊢
     have hhnI : (hn : Int) ≤ 6500000000000 := by omega
     clear hgc HQ HL hhn
     go_wp2_with fail
     go_loop [10] (fun x => ∃ t : Nat, t ≤ N ∧ x = .int .i64 (t : Int)) (fun x => N - (RowKit.intOf x).toNat)
     case atStart => exact ⟨0, by omega, rfl⟩
     case round =>
      obtain ⟨t, ht, rfl⟩ := hrel
      by_cases htN : t < N
      ·have htI : (t : Int) < (N : Int) := by omega
       obtain ⟨u, hu⟩ := zbx HN.out htN
       obtain ⟨R, rfl, cR⟩ : ∃ R, lo = some ⟨R, 0, none⟩ ∧ wr.cell? ⟨R, t, none⟩ = some u := by
        obtain ⟨ao, c, e, hc⟩ := HQ2.out.row.cells
        injection e with e1 e2 _
        subst e1
        rcases hc with h0 | ⟨g, e3, _, hc⟩
        ·omega
        ·exact ⟨g, e3, hc t u hu⟩
       obtain ⟨ao, c, rfl, hs, _⟩ := HQ2.out.lst t u hu
       have HM := zaa (marked_any ao (nn t) c t wr hs (by omega))
       clear hs hu
       go_wp2_with (go_at_call 68; refine zac HM.out ?_)
       go_round
       case rel => exact ⟨t + 1, by omega, by go_num⟩
       case measure => simp [RowKit.intOf]; omega
      ·have htI : ¬ (t : Int) < (N : Int) := by omega
       go_wp2_with fail
       go_loop [12] (fun x => ∃ s : Nat, s ≤ hn ∧ x = .int .i64 (s : Int)) (fun x => hn - (RowKit.intOf x).toNat)
       case atStart => exact ⟨0, by omega, rfl⟩
       case round =>
        obtain ⟨s, hs, rfl⟩ := hrel
        by_cases hsN : s < hn
        ·have hsI : (s : Int) < (hn : Int) := by omega
         obtain ⟨u, hu⟩ := zbx HHN.out hsN
         obtain ⟨G, rfl, cG⟩ : ∃ G, go = some ⟨G, 0, none⟩ ∧ wr.cell? ⟨G, s, none⟩ = some u := by
          rcases HGC.out with h0 | ⟨g, e3, _, hc⟩
          ·omega
          ·exact ⟨g, e3, hc s u hu⟩
         obtain ⟨n, ao, c, rfl, hsl, _⟩ := HQ2.out.gr s u hu
         have HM := zaa (marked_any ao n c (s / 5) wr hsl (by omega))
         have hq5 : Int.tdiv (s : Int) 5 = ((s / 5 : Nat) : Int) := by
          rw [Int.tdiv_eq_ediv_of_nonneg (by omega)]
          rfl
         obtain ⟨q, hq⟩ : ∃ q, s / 5 = q := ⟨_, rfl⟩
         rw [hq] at HM hq5
         have hqs : (q : Int) ≤ 6500000000000 := by omega
         have hqw : IntKind.i64.wrap (q : Int) = (q : Int) := by rw [IntKind.wrap_i64]; omega
         clear hsl hu hq
         go_wp2_with (go_at_call 68; refine zac HM.out ?_)
         go_round
         case rel => exact ⟨s + 1, by omega, by go_num⟩
         case measure => simp [RowKit.intOf]; omega
        ·have hsI : ¬ (s : Int) < (hn : Int) := by omega
         go_wp2
         go_ret
         exact ⟨rfl, zaa HC.out.narrow⟩
end Go.Proofs.YtbkhjeacmmbabaaGreatDoor
namespace Go.Proofs.YtbkhjeacmmbabaaGreatDoor
set_option maxRecDepth 100000
open Go.RowKit
theorem bk6_neX : 42 ≠ 22 := by decide
theorem bk6_ne8 : 42 ≠ 5 := by decide
namespace Six
structure Bo9 (w : World) (B bk : Nat) (lv : Value) (v : Value) (V : List Value) (D : Nat → List Int) : Prop where
 box : w.heap[bk]? = some (.cells #[v, lv] 42 (0, 0))
 row : OwnX w B v V
 own : ∀ (t : Nat) (u : Value), V[t]? = some u → OwnB w B u (D t) ∧ Wf (D t) ∧ (D t).length ≤ 65536
 ne : ∀ (t t' : Nat) (u u' : Value), V[t]? = some u → V[t']? = some u' → t ≠ t' → u.ownBlock = none ∨ u.ownBlock ≠ u'.ownBlock
theorem Bo9.set {w : World} {B bk : Nat} {lv : Value} {v : Value} {V : List Value} {D : Nat → List Int} (h : Bo9 w B bk lv v V D) {i g n c k : Nat} {y : Int} (hi : V[i]? = some (.slice (some ⟨g, 0, none⟩) n c)) (hn : (D i).length = n) (hk : k < n) (hy : 0 ≤ y ∧ y ≤ 255) :
  Bo9 (w.setCell ⟨g, k, none⟩ (.int .u8 y)) B bk lv v V (fun t => if t = i then (D i).set k y else D t) := by
 obtain ⟨ho, hw, hl⟩ := h.own i _ hi
 have hgu : (Value.slice (some ⟨g, 0, none⟩) n c).ownBlock = some g := rfl
 have hc : Cf (· = g) w (w.setCell ⟨g, k, none⟩ (.int .u8 y)) := Cf.setCell (F := (· = g)) w (p := ⟨g, k, none⟩) rfl _
 have hgr : w.grownBy (w.setCell ⟨g, k, none⟩ (.int .u8 y)) (some g) := ⟨hc.os, hc.tape, hc.output, hc.size, fun q hq hne => hc.block q hq (fun e => hne (by rw [e]))⟩
 refine ⟨(hc.block bk (zaf h.box) (fun e => ho.noty h.box bk6_ne8 (by rw [hgu, e]))).trans h.box, h.row.kept hgr ?_, fun t u ht => ?_, h.ne⟩
 ·rcases h.row.noB ho with e | e
  ·exact .inl e
  ·exact .inr e
 ·by_cases e : t = i
  ·subst e
   rw [hi] at ht
   cases ht
   simp only [if_true]
   refine ⟨own_set ho hn hk, ?_, by rw [List.length_set]; exact hl⟩
   intro z hz
   rcases List.mem_or_eq_of_mem_set hz with hz | hz
   ·exact hw z hz
   ·rw [hz]; exact hy
  ·simp only [if_neg e]
   obtain ⟨o2, w2, l2⟩ := h.own t u ht
   exact ⟨World.ownsRow.kept o2 hgr (by
    rcases h.ne t i u _ ht hi e with e2 | e2
    ·exact .inl e2
    ·exact .inr e2), w2, l2⟩
theorem Bo9.on {w w' : World} {B bk : Nat} {lv : Value} {v : Value} {V : List Value} {D : Nat → List Int} (h : Bo9 w B bk lv v V D) (hb : Below w.heap.size w w') : Bo9 w' B bk lv v V D :=
 ⟨(hb.block _ (zaf h.box)).trans h.box, h.row.on hb, fun t u ht => ⟨(h.own t u ht).1.on Lr hb, (h.own t u ht).2⟩, h.ne⟩
theorem Bo9.cong {w : World} {B bk : Nat} {lv : Value} {v : Value} {V : List Value} {D E : Nat → List Int} (h : Bo9 w B bk lv v V D) (he : ∀ t, t < V.length → D t = E t) : Bo9 w B bk lv v V E :=
 ⟨h.box, h.row, fun t u ht => by rw [← he t (zH.1 ht).1]; exact h.own t u ht, h.ne⟩
theorem take9 (w : World) (B bk : Nat) (lv : Value) (v : Value) (V : List Value) (D : Nat → List Int) (ao : Option Addr) (n c : Nat) (l : List Int) (h : Bo9 w B bk lv v V D) (hn : V.length ≤ 4000000) (hB : B ≤ w.heap.size) (ho : OwnB w B (.slice ao n c) l) (hw : Wf l) (hl : l.length ≤ 65536)
  (hne : ∀ (t : Nat) (u : Value), V[t]? = some u → u.ownBlock = none ∨ u.ownBlock ≠ (Value.slice ao n c).ownBlock) :
  Calls Tryz.prog 60 #[.pointer (some ⟨bk, 0, none⟩), .slice ao n c] w fun e w' => e = .returned (.tuple #[]) ∧ Hid (∃ v', Bo9 w' B bk lv v' (V ++ [.slice ao n c]) (fun t => if t < V.length then D t else l) ∧ Cf (fun k => k = bk ∨ v.ownBlock = some k) w w') := by
 have hbx := h.box
 have c0 : w.cell? ⟨bk, 0, none⟩ = some v := by rw [cell_of_row _ _ 0 _ _ _ hbx]; rfl
 have f0 : w.frozen? ⟨bk, 0, none⟩ = false := by simp [World.frozen?, hbx]
 obtain ⟨x, hx⟩ : ∃ x, w.alloc (.cells #[.slice ao n c] 22) = x := ⟨_, rfl⟩
 have hbx2 : Below w.heap.size w x := by rw [← hx]; exact zad Br Lr _
 have hcx : x.cell? ⟨w.heap.size, 0, none⟩ = some (.slice ao n c) := by rw [← hx]; simp
 have HX := zaa (h.on hbx2)
 have HOX : Hid (OwnB x B (.slice ao n c) l) := zaa (ho.on Lr hbx2)
 have hxs : B ≤ x.heap.size := zN hB hbx2.size
 have HBX := zaa hbx2
 have HNE := zaa hne
 have c0x : x.cell? ⟨bk, 0, none⟩ = some v := (hbx2.cell (p := ⟨bk, 0, none⟩) (zaf hbx)).trans c0
 clear h ho hne hbx hbx2
 go_enter Tryz.func60, Tryz.ntmps60
 go_wp2_with (at_builtin; refine app_x _ rfl _ _ rfl B V v (.slice ao n c) rfl rfl HX.out.row w.heap.size rfl hcx (by omega) hxs ?_; refine Hid.out ?_)
 apply zaa
 intro v' w1 ho1 hg1
 obtain ⟨vo, vn, vc, rfl⟩ : ∃ vo vn vc, v' = .slice vo vn vc := by
  obtain ⟨vo, vc, e, _⟩ := ho1.cells
  exact ⟨vo, _, vc, e⟩
 have hbk1 : v.ownBlock ≠ some bk := HX.out.row.noty HX.out.box bk6_neX
 have hbox1 : w1.heap[bk]? = some (.cells #[v, lv] 42 (0, 0)) := (hg1.cf.block bk (zaf HX.out.box) hbk1).trans HX.out.box
 have c1 : ∃ z, w1.cell? ⟨bk, 0, none⟩ = some z := ⟨v, by rw [cell_of_row _ _ 0 _ _ _ hbox1]; rfl⟩
 obtain ⟨z, c1⟩ := c1
 have f1 : w1.frozen? ⟨bk, 0, none⟩ = false := by simp [World.frozen?, hbox1]
 have hbk2 : (Value.slice vo vn vc).ownBlock ≠ some bk := ho1.noty hbox1 bk6_neX
 have HF : Hid (Bo9 (w1.setCell ⟨bk, 0, none⟩ (.slice vo vn vc)) B bk lv (.slice vo vn vc) (V ++ [.slice ao n c]) (fun t => if t < V.length then D t else l) ∧ Cf (fun k => k = bk ∨ v.ownBlock = some k) w (w1.setCell ⟨bk, 0, none⟩ (.slice vo vn vc))) := zaa (by
  have hc2 : Cf (· = bk) w1 (w1.setCell ⟨bk, 0, none⟩ (.slice vo vn vc)) := Cf.setCell (F := (· = bk)) w1 (p := ⟨bk, 0, none⟩) rfl _
  have hgr2 : w1.grownBy (w1.setCell ⟨bk, 0, none⟩ (.slice vo vn vc)) (some bk) := ⟨hc2.os, hc2.tape, hc2.output, hc2.size, fun q hq hne => hc2.block q hq (fun e => hne (by rw [e]))⟩
  have keep : ∀ u d, OwnB x B u d → OwnB (w1.setCell ⟨bk, 0, none⟩ (.slice vo vn vc)) B u d := by
   intro u d hu
   have h1 : OwnB w1 B u d := World.ownsRow.kept hu hg1.grow (by
    rcases HX.out.row.noB hu with e | e
    ·rw [e]
     cases e2 : u.ownBlock with
     | none => exact .inl rfl
     | some _ => exact .inr (by simp)
    ·exact .inr fun e2 => e e2.symm)
   exact World.ownsRow.kept h1 hgr2 (.inr (h1.noty hbox1 bk6_ne8))
  refine ⟨⟨?_, ho1.kept hgr2 (.inr hbk2), fun t u ht => ?_, fun t t' u u' ht ht' hne => ?_⟩, ((Cf.of_below HBX.out).go (hg1.cf.wide (fun k hk => .inr hk))).go (hc2.wide (fun k hk => .inl hk))⟩
  ·have := zaw (w := w1) (a := bk) (cs := [v, lv]) (i := 0) (u := .slice vo vn vc) hbox1
   simpa using this
  ·by_cases e : t < V.length
   ·rw [zL e] at ht
    rw [if_pos e]
    obtain ⟨a1, a2, a3⟩ := HX.out.own t u ht
    exact ⟨keep u _ a1, a2, a3⟩
   ·have hlt := (zH.1 ht).1
    rw [zG] at hlt
    simp only [List.length_cons, List.length_nil] at hlt
    obtain rfl : t = V.length := by omega
    rw [List.getElem?_concat_length] at ht
    cases ht
    rw [if_neg e]
    exact ⟨keep _ _ HOX.out, hw, hl⟩
  ·have l1 := (zH.1 ht).1
   have l2 := (zH.1 ht').1
   rw [zG] at l1 l2
   simp only [List.length_cons, List.length_nil] at l1 l2
   by_cases e : t < V.length
   ·rw [zL e] at ht
    by_cases e' : t' < V.length
    ·rw [zL e'] at ht'
     exact HX.out.ne t t' u u' ht ht' hne
    ·obtain rfl : t' = V.length := by omega
     rw [List.getElem?_concat_length] at ht'
     cases ht'
     exact HNE.out t u ht
   ·obtain rfl : t = V.length := by omega
    rw [List.getElem?_concat_length] at ht
    cases ht
    have e' : t' < V.length := by omega
    rw [zL e'] at ht'
    rcases HNE.out t' u' ht' with e2 | e2
    ·rw [e2]
     cases e3 : (Value.slice ao n c).ownBlock with
     | none => exact .inl rfl
     | some _ => exact .inr (by simp)
    ·exact .inr fun e3 => e2 e3.symm)
 clear ho1 hg1 hx hcx c0 f0
 go_wp2
 go_end0
 exact ⟨rfl, zaa ⟨_, HF.out⟩⟩
structure P9 (w : World) (B bk : Nat) (lv : Value) (v : Value) (V : List Value) (nn : Nat → Nat) (i k : Nat) (x vG : Value) (H : List Value) : Prop where
 box : w.heap[bk]? = some (.cells #[v, lv] 42 (0, 0))
 row : OwnX w B v V
 rowG : OwnX w B vG H
 gne : v.ownBlock = none ∨ v.ownBlock ≠ vG.ownBlock
 xo : OwnB w B x (mkL i (nn i + k))
 lst : ∀ (t : Nat) (u : Value), V[t]? = some u → Ps w x i (nn i + k) u (nn t) t
 own : ∀ (t : Nat) (u : Value), V[t]? = some u → i < t → OwnB w B u (mkL t (nn t)) ∧ (u.ownBlock = none ∨ u.ownBlock ≠ x.ownBlock)
 gr : ∀ (s : Nat) (u : Value), H[s]? = some u → ∃ n, Ps w x i (nn i + k) u n (s / 5)
 gfar : ∀ (s : Nat) (y : Value), H[s]? = some y → ∀ (t : Nat) (u : Value), V[t]? = some u → i < t → y.ownBlock = none ∨ y.ownBlock ≠ u.ownBlock
theorem P9.on {w w' : World} {B bk : Nat} {lv : Value} {v : Value} {V : List Value} {nn : Nat → Nat} {i k : Nat} {x vG : Value} {H : List Value} (h : P9 w B bk lv v V nn i k x vG H) (hb : Below w.heap.size w w') : P9 w' B bk lv v V nn i k x vG H :=
 ⟨(hb.block _ (zaf h.box)).trans h.box, h.row.on hb, h.rowG.on hb, h.gne, h.xo.on Lr hb, fun t u ht => (h.lst t u ht).on hb, fun t u ht hi => ⟨(h.own t u ht hi).1.on Lr hb, (h.own t u ht hi).2⟩, fun s u hs => by
  obtain ⟨n, h1⟩ := h.gr s u hs
  exact ⟨n, h1.on hb⟩, h.gfar⟩
theorem P9.appX {w w' : World} {B bk : Nat} {lv : Value} {v : Value} {V : List Value} {nn : Nat → Nat} {i k : Nat} {x x' vG : Value} {H : List Value} (h : P9 w B bk lv v V nn i k x vG H) (ho : OwnB w' B x' (mkL i (nn i + k + 1)))
  (hc : (x'.ownBlock = x.ownBlock ∧ w.grownBy w' x.ownBlock) ∨ (Below w.heap.size w w' ∧ ∀ q, x'.ownBlock = some q → w.heap.size ≤ q)) : P9 w' B bk lv v V nn i (k + 1) x' vG H := by
 have hXx : ∀ {y : Value} {ys : List Value}, OwnX w B y ys → OwnX w' B y ys := by
  intro y ys hy
  rcases hc with ⟨_, hg⟩ | ⟨hb, _⟩
  ·exact hy.kept hg (hy.noB h.xo)
  ·exact hy.on hb
 refine ⟨?_, hXx h.row, hXx h.rowG, h.gne, ho, fun t u ht => (h.lst t u ht).app ho hc, fun t u ht hi => ?_, fun s u hs => ?_, h.gfar⟩
 ·rcases hc with ⟨_, hg⟩ | ⟨hb, _⟩
  ·exact (hg.block bk (zaf h.box) (fun e => h.xo.noty h.box bk6_ne8 e.symm)).trans h.box
  ·exact (hb.block _ (zaf h.box)).trans h.box
 ·obtain ⟨o1, n1⟩ := h.own t u ht hi
  rcases hc with ⟨e, hg⟩ | ⟨hb, hn⟩
  ·exact ⟨World.ownsRow.kept o1 hg n1, by rw [e]; exact n1⟩
  ·refine ⟨o1.on Lr hb, ?_⟩
   cases e : u.ownBlock with
   | none => exact .inl rfl
   | some q =>
    right
    intro e2
    have h1 := (o1.blk e).2
    have h2 := hn q e2.symm
    omega
 ·obtain ⟨n, h1⟩ := h.gr s u hs
  exact ⟨n, h1.app ho hc⟩
theorem P9.appG {w w' : World} {B bk : Nat} {lv : Value} {v : Value} {V : List Value} {nn : Nat → Nat} {i k : Nat} {x vG vG' : Value} {H : List Value} (h : P9 w B bk lv v V nn i k x vG H) (hG : OwnX w' B vG' (H ++ [x])) (hg : Gr w vG w' vG') (hs : H.length / 5 = i) (h0 : 0 < nn i + k) (hl : nn i + k ≤ 140737488355328) : P9 w' B bk lv v V nn i k x vG' (H ++ [x]) := by
 have hkeep : ∀ {y : Value} {l : List Int}, OwnB w B y l → OwnB w' B y l := by
  intro y l hy
  refine World.ownsRow.kept hy hg.grow ?_
  rcases h.rowG.noB hy with e | e
  ·rw [e]
   cases e2 : y.ownBlock with
   | none => exact .inl rfl
   | some _ => exact .inr (by simp)
  ·exact .inr fun e2 => e e2.symm
 have hxo := hkeep h.xo
 refine ⟨(hg.grow.block bk (zaf h.box) (fun e => h.rowG.noty h.box bk6_neX e.symm)).trans h.box, h.row.kept hg.grow h.gne, hG, ?_, hxo, fun t u ht => (h.lst t u ht).grow h.rowG hg, fun t u ht hi => ⟨hkeep (h.own t u ht hi).1, (h.own t u ht hi).2⟩, fun s u hsu => ?_, fun s y hsy t u ht hi => ?_⟩
 ·rcases h.gne with e | e
  ·exact .inl e
  ·rcases hg.own with e2 | ⟨q, e2, hq⟩
   ·rw [e2]; exact .inr e
   ·cases e3 : v.ownBlock with
    | none => exact .inl rfl
    | some z =>
     right
     rw [e2]
     intro e4
     injection e4 with e4
     have hr := h.row
     unfold OwnX at hr
     have := (hr.lt z e3).2
     omega
 ·by_cases e : s < H.length
  ·rw [zL e] at hsu
   obtain ⟨n, h1⟩ := h.gr s u hsu
   exact ⟨n, h1.grow h.rowG hg⟩
  ·have hlt := (zH.1 hsu).1
   rw [zG] at hlt
   simp only [List.length_cons, List.length_nil] at hlt
   obtain rfl : s = H.length := by omega
   rw [List.getElem?_concat_length] at hsu
   cases hsu
   obtain ⟨ao, c, e5, _, _⟩ := hxo.sl (mkL_wf _ _) (by rw [zax]; exact hl)
   rw [zax] at e5
   obtain ⟨ao2, c2, e6, h7⟩ := zcw hxo
   rw [zax] at e6 h7
   rcases h7 with h7 | ⟨g, rfl, _⟩
   ·omega
   have hob : x.ownBlock = some g := by rw [e6]; rfl
   have hcap : nn i + k ≤ c2 := by
    have h8 := hxo
    unfold OwnB at h8
    rcases h8.2 with ⟨e9, _⟩ | ⟨g', cap', cur, e9, _, _, hnc, _⟩
    ·rw [e6] at e9; cases e9
    ·rw [e6] at e9
     rw [zax] at hnc e9
     injection e9 with _ _ e10
     omega
   refine ⟨nn i + k, ⟨some ⟨g, 0, none⟩, c2, e6, ⟨?_, .inr ⟨hs, Lr, g, rfl, hob⟩⟩, .inr fun p hp => ?_⟩⟩
   ·rw [hs]
    exact hxo.marks hob Lr hcap hl
   ·cases hp
    exact hxo.u8 hob
 ·by_cases e : s < H.length
  ·rw [zL e] at hsy
   exact h.gfar s y hsy t u ht hi
  ·have hlt := (zH.1 hsy).1
   rw [zG] at hlt
   simp only [List.length_cons, List.length_nil] at hlt
   obtain rfl : s = H.length := by omega
   rw [List.getElem?_concat_length] at hsy
   cases hsy
   rcases (h.own t u ht hi).2 with e2 | e2
   ·rw [e2]
    cases e3 : x.ownBlock with
    | none => exact .inl rfl
    | some _ => exact .inr (by simp)
   ·exact .inr fun e3 => e2 e3.symm
structure Q9 (w : World) (B bk : Nat) (lv : Value) (v : Value) (V : List Value) (nn : Nat → Nat) (i : Nat) (vG : Value) (H : List Value) : Prop where
 box : w.heap[bk]? = some (.cells #[v, lv] 42 (0, 0))
 row : OwnX w B v V
 rowG : OwnX w B vG H
 gne : v.ownBlock = none ∨ v.ownBlock ≠ vG.ownBlock
 lst : ∀ (t : Nat) (u : Value), V[t]? = some u → Sq w u (nn t) t
 own : ∀ (t : Nat) (u : Value), V[t]? = some u → i ≤ t → OwnB w B u (mkL t (nn t))
 ne : ∀ (t t' : Nat) (u u' : Value), V[t]? = some u → V[t']? = some u' → t ≠ t' → u.ownBlock = none ∨ u.ownBlock ≠ u'.ownBlock
 gr : ∀ (s : Nat) (u : Value), H[s]? = some u → ∃ n, Sq w u n (s / 5)
 gfar : ∀ (s : Nat) (y : Value), H[s]? = some y → ∀ (t : Nat) (u : Value), V[t]? = some u → i ≤ t → y.ownBlock = none ∨ y.ownBlock ≠ u.ownBlock
theorem Q9.into {w : World} {B bk : Nat} {lv : Value} {v : Value} {V : List Value} {nn : Nat → Nat} {i : Nat} {vG : Value} {H : List Value} (h : Q9 w B bk lv v V nn i vG H) {x : Value} (hx : V[i]? = some x) : P9 w B bk lv v V nn i 0 x vG H := by
 have hxo := h.own i x hx Lr
 refine ⟨h.box, h.row, h.rowG, h.gne, hxo, fun t u ht => ?_, fun t u ht hi => ⟨h.own t u ht (by omega), h.ne t i u x ht hx (by omega)⟩, fun s u hs => ?_, fun s y hs t u ht hi => h.gfar s y hs t u ht (by omega)⟩
 ·obtain ⟨ao, c, rfl, h1, h2⟩ := h.lst t u ht
  refine ⟨ao, c, rfl, ⟨h1, ?_⟩, h2⟩
  by_cases e : t = i
  ·subst e
   rw [hx] at ht
   cases ht
   rcases zcw hxo with ⟨ao2, c2, e2, h3⟩
   injection e2 with e3 e4 e5
   rw [zax] at e4 h3
   rcases h3 with h3 | ⟨g, e6, _⟩
   ·exact .inl (.inl h3)
   ·refine .inr ⟨rfl, by omega, g, by rw [e3, e6], by rw [e3, e6]; rfl⟩
  ·exact .inl (far_of (h.ne t i _ x ht hx e))
 ·obtain ⟨n, ao, c, rfl, h1, h2⟩ := h.gr s u hs
  exact ⟨n, ⟨ao, c, rfl, ⟨h1, .inl (far_of (h.gfar s _ hs i x hx Lr))⟩, h2⟩⟩
theorem P9.out {w : World} {B bk : Nat} {lv : Value} {v : Value} {V : List Value} {nn : Nat → Nat} {i k : Nat} {x vG : Value} {H : List Value} (h : P9 w B bk lv v V nn i k x vG H) (hne : ∀ (t t' : Nat) (u u' : Value), V[t]? = some u → V[t']? = some u' → t ≠ t' → u.ownBlock = none ∨ u.ownBlock ≠ u'.ownBlock) : Q9 w B bk lv v V nn (i + 1) vG H :=
 ⟨h.box, h.row, h.rowG, h.gne, fun t u ht => by
  obtain ⟨ao, c, e, h1, h2⟩ := (h.lst t u ht).ex
  exact ⟨ao, c, e, h1.sl, h2⟩, fun t u ht hi => (h.own t u ht (by omega)).1, hne, fun s u hs => by
  obtain ⟨n, h0⟩ := h.gr s u hs
  obtain ⟨ao, c, e, h1, h2⟩ := h0.ex
  exact ⟨n, ao, c, e, h1.sl, h2⟩, fun s y hs t u ht hi => h.gfar s y hs t u ht (by omega)⟩
theorem Bo9.start {w : World} {B bk : Nat} {lv : Value} {v : Value} {V : List Value} {nn : Nat → Nat} (h : Bo9 w B bk lv v V (fun t => mkL t (nn t))) : Q9 w B bk lv v V nn 0 (.slice none 0 0) [] := by
 refine ⟨h.box, h.row, OwnX.nil _ _, ?_, fun t u ht => ?_, fun t u ht _ => (h.own t u ht).1, h.ne, fun s u hs => by simp at hs, fun s y hs => by simp at hs⟩
 ·cases e : v.ownBlock with
  | none => exact .inl rfl
  | some _ => exact .inr (by simp [Value.ownBlock])
 ·obtain ⟨o, w1, l1⟩ := h.own t u ht
  rw [zax] at l1
  obtain ⟨ao, c, e, hs, _⟩ := o.sl w1 (by rw [zax]; omega)
  rw [zax] at e hs
  refine ⟨ao, c, e, hs, ?_⟩
  right
  rintro p rfl
  exact o.u8 (by rw [e]; rfl)
end Six
end Go.Proofs.YtbkhjeacmmbabaaGreatDoor
