import Derived.Test.YtbkhjeacmmbabaaGreatDoorJ18
import Derived.Test.YtbkhjeacmmbabaaGreatDoorJ14
import Derived.Lib.Overlaps
import Derived.Lib.SliceRun
import Derived.Lib.AppendZerosOnto
import Derived.Laws.IdiomCopy
import Derived.Deep.AppendSrc
namespace Go.Proofs.YtbkhjeacmmbabaaGreatDoor
set_option maxRecDepth 100000
open Go.RowKit
namespace Six
theorem cf_grown {w w' : World} {B : Nat} {row : Option Nat} (h : w.grownBy w' row) (hr : ∀ z, row = some z → B ≤ z) : Cf (B ≤ ·) w w' := ⟨h.os, h.tape, h.output, h.size, fun k hk hf => h.block k hk (fun e => hf (hr k e.symm))⟩
set_option maxHeartbeats 8000000 in
theorem owned6 (w : World) (B bk N : Nat) (lv v : Value) (V LV : List Value) (D : Nat → List Int) (nn : Nat → Nat) (h : Bo9 w B bk lv v V D) (hV : V.length ≤ 4000000) (hY : OwnY w B lv LV) (hN : LV.length = N) (hN2 : N ≤ 1000) (hown : ∀ (t : Nat) (u : Value), LV[t]? = some u → OwnP w B u (nn t) 0 t)
  (hne : ∀ (t t' : Nat) (u u' : Value), LV[t]? = some u → LV[t']? = some u' → t ≠ t' → u.ownBlock = none ∨ u.ownBlock ≠ u'.ownBlock) (hnn : ∀ t, nn t ≤ 800000) (hB : B ≤ w.heap.size) :
  Calls Tryz.prog 12 #[.pointer (some ⟨bk, 0, none⟩)] w fun e u => e = .returned (.bool true) ∧ Hid (Cf (B ≤ ·) w u) := by
 have HOW := zaa (owned9F (fun z => ∃ (t : Nat) (u : Value), V[t]? = some u ∧ u.ownBlock = some z) w B bk V.length lv v V D h (fun t u ht z hz => .inl ⟨t, u, ht, hz⟩) rfl hV hB)
 have hnf : ∀ (k : Nat) (cs : Array Value) (ty : TypeId) (fz : Nat × Nat), w.heap[k]? = some (.cells cs ty fz) → ty ≠ 5 → ¬ ∃ (t : Nat) (u : Value), V[t]? = some u ∧ u.ownBlock = some k := by
  rintro k cs ty fz hk ht ⟨t, u, h1, h2⟩
  exact (h.own t u h1).1.noty hk ht h2
 have HNX : Hid (∀ u, Cf (fun z => ∃ (t : Nat) (u : Value), V[t]? = some u ∧ u.ownBlock = some z) w u → Bl u B bk v lv LV nn (fun t => if t < 0 then nn t else 0) ∧ Cf (B ≤ ·) w u) := zaa (by
  intro u hc
  have keep : ∀ (k : Nat) (cs : Array Value) (ty : TypeId) (fz : Nat × Nat), w.heap[k]? = some (.cells cs ty fz) → ty ≠ 5 → u.heap[k]? = some (.cells cs ty fz) := fun k cs ty fz hk ht => (hc.block k (zaf hk) (hnf k cs ty fz hk ht)).trans hk
  have rowk : ∀ {C s n : Nat} {e : TypeId} {y : Value} {xs : List Value}, w.ownsRow C e s y n xs → e ≠ 5 → u.ownsRow C e s y n xs := by
   intro C s n e y xs ho h1
   refine ⟨ho.1, ?_⟩
   rcases ho.2 with h0 | ⟨g, cap, cur, e1, hg, hh, rest⟩
   ·exact .inl h0
   ·exact .inr ⟨g, cap, cur, e1, hg, keep g _ _ _ hh h1, rest⟩
  refine ⟨⟨keep bk _ _ _ h.box bk6_ne8, rowk hY u8_neY.symm, fun t x ht => ?_, hne⟩, hc.wide ?_⟩
  ·obtain ⟨vs, h1, h2⟩ := hown t x ht
   exact ⟨vs, rowk h1 (by decide), fun a ha => by rw [if_neg (by omega)] at ha; omega⟩
  ·rintro k ⟨t, x, h1, h2⟩
   exact (own_in (h.own t x h1).1 h2).1)
 obtain ⟨lo, lc, rfl, hcells⟩ := hY.cells
 rw [hN] at HNX
 have HN := zaa hN
 have HNE := zaa hne
 have HNN := zaa hnn
 have hNI : (N : Int) ≤ 1000 := by omega
 clear h hcells hY hown hne hnn hnf hV
 go_enter Tryz.func12, Tryz.ntmps12
 go_wp2_with (go_at_call 30; refine HOW.out.mono ?_; rintro e w0 ⟨rfl, HCF⟩; refine Hid.out ?_)
 apply zaa
 obtain ⟨hbl, hcw⟩ := HNX.out w0 HCF.out
 have HBL := zaa hbl
 have HCW := zaa hcw
 clear HOW HNX HCF hbl hcw
 go_wp2_with fail
 go_loopw [4] (fun x wr => ∃ i : Nat, i ≤ N ∧ x = .int .i64 (i : Int) ∧ Hid (Bl wr B bk v (.slice lo N lc) LV nn (fun t => if t < i then nn t else 0)) ∧ Hid (Cf (B ≤ ·) w wr)) (fun x _ => N - (RowKit.intOf x).toNat)
 case atStart => exact ⟨0, by omega, rfl, HBL, HCW⟩
 case round =>
  obtain ⟨i, hi, rfl, HBi, HCi⟩ := hrel
  clear HBL HCW
  have hbx := HBi.out.box
  have c0 : wr.cell? ⟨bk, 1, none⟩ = some (.slice lo N lc) := by rw [cell_of_row _ _ 1 _ _ _ hbx]; rfl
  clear hbx
  by_cases hlt : i < N
  ·have hltI : (i : Int) < (N : Int) := by omega
   obtain ⟨u, hu⟩ := zbx HN.out hlt
   obtain ⟨R, rfl, cR⟩ : ∃ R, lo = some ⟨R, 0, none⟩ ∧ wr.cell? ⟨R, i, none⟩ = some u := by
    obtain ⟨ao, c, e, hc⟩ := HBi.out.row.cells
    injection e with e1 e2 _
    subst e1
    rcases hc with h0 | ⟨g, e3, _, hc⟩
    ·omega
    ·exact ⟨g, e3, hc i u hu⟩
   obtain ⟨ao, c, rfl, _⟩ := (HBi.out.own i u hu).shape
   have hlb := HNN.out i
   obtain ⟨n, hn⟩ : ∃ n, nn i = n := ⟨_, rfl⟩
   rw [hn] at cR hu hlb
   have HNL := zaa hn
   have HU := zaa hu
   have hnI : (n : Int) ≤ 800000 := by omega
   have HB2 : Hid (Bl wr B bk v (.slice (some ⟨R, 0, none⟩) N lc) LV nn (fun t => if t < i then nn t else if t = i then 0 else 0)) := zaa (HBi.out.cong (fun t _ => by
    by_cases e : t < i
    ·rw [if_pos e, if_pos e]
    ·rw [if_neg e, if_neg e]; split <;> rfl))
   clear hn hu HBi
   go_wp2_with fail
   go_loopw [6] (fun y wr2 => ∃ k : Nat, k ≤ n ∧ y = .int .i64 (k : Int) ∧ Hid (Bl wr2 B bk v (.slice (some ⟨R, 0, none⟩) N lc) LV nn (fun t => if t < i then nn t else if t = i then k else 0)) ∧ Hid (Cf (B ≤ ·) w wr2)) (fun y _ => n - (RowKit.intOf y).toNat)
   case atStart => exact ⟨0, by omega, rfl, HB2, HCi⟩
   case round =>
    obtain ⟨k, hk, rfl, HBk, HCk⟩ := hrel
    clear HB2 HCi c0 cR
    by_cases hkn : k < n
    ·have hkI : (k : Int) < (n : Int) := by omega
     have hok := HBk.out.own i _ HU.out
     obtain ⟨g, rfl, hgB, hrow, hnc⟩ : ∃ g, ao = some ⟨g, 0, none⟩ ∧ B ≤ g ∧ RowC wr g c ∧ n ≤ c := by
      obtain ⟨ao', c', e, hs⟩ := hok.shape
      injection e with e1 e2 e3
      rcases hs with hs | ⟨g, e4, h1, h2, h3⟩
      ·rw [HNL.out] at hs
       omega
      ·rw [HNL.out] at h3
       subst e1
       subst e3
       exact ⟨g, e4, h1, h2, h3⟩
     obtain ⟨hset, hgrow⟩ := HBk.out.set (k := k) HU.out HNL.out (by rw [if_neg (by omega), if_pos rfl]) hkn
     have HST : Hid (Bl (wr.setCells g (k * 5) (mkV i)) B bk v (.slice (some ⟨R, 0, none⟩) N lc) LV nn (fun t => if t < i then nn t else if t = i then k + 1 else 0)) := zaa (hset.cong (fun t _ => by
      by_cases e : t = i
      ·subst e
       simp
      ·simp only [if_neg e]))
     have HCS : Hid (Cf (B ≤ ·) w (wr.setCells g (k * 5) (mkV i))) := zaa (HCk.out.go (cf_grown hgrow (fun z hz => by injection hz with hz; rw [← hz]; exact hgB)))
     have HRW := zaa hrow
     have hiI : (i : Int) ≤ 1000 := by omega
     clear hok hset hgrow hrow
     go_wp2_with (refine put_cell (by rfl) _ _ (by rfl) g (k * 5) c none none 0 0 0 0 (1000 + (i : Int)) 0 0 HRW.out (by rfl) (by rfl) (by omega) ?_; intro w2 HU2; refine Hid.out ?_)
     apply zaa
     have HST2 : Hid (Bl w2 B bk v (.slice (some ⟨R, 0, none⟩) N lc) LV nn (fun t => if t < i then nn t else if t = i then k + 1 else 0)) := zaa (by rw [HU2.out]; exact HST.out)
     have HCS2 : Hid (Cf (B ≤ ·) w w2) := zaa (by rw [HU2.out]; exact HCS.out)
     clear HST HCS HU2 HBk HCk HRW
     go_wp2
     go_roundw
     case rel => exact ⟨k + 1, by omega, by go_num, HST2, HCS2⟩
     case measure => simp [RowKit.intOf]; omega
    ·obtain rfl : k = n := by omega
     have hkI : ¬ (k : Int) < (k : Int) := by omega
     have HB3 : Hid (Bl wr B bk v (.slice (some ⟨R, 0, none⟩) N lc) LV nn (fun t => if t < i + 1 then nn t else 0)) := zaa (HBk.out.cong (fun t _ => by
      by_cases e : t < i
      ·rw [if_pos e, if_pos (by omega)]
      ·rw [if_neg e]
       by_cases e2 : t = i
       ·rw [if_pos e2, if_pos (by omega), e2, HNL.out]
       ·rw [if_neg e2, if_neg (by omega)]))
     go_wp2
     go_roundw
     case rel => exact ⟨i + 1, by omega, by go_num, HB3, HCk⟩
     case measure => simp [RowKit.intOf]; omega
  ·have hlI : ¬ (i : Int) < (N : Int) := by omega
   have HQ0 : Hid (Q5 wr B bk v (.slice lo N lc) LV nn 0 (.slice none 0 0) []) := zaa (Bl.start (HBi.out.cong (fun t ht => by rw [if_pos (by rw [HN.out] at ht; omega)])))
   clear HBi
   go_wp2_with fail
   clear hlI hi
   go_loopw [7, 8] (fun vg x wr => ∃ (i : Nat) (H : List Value), i ≤ N ∧ x = .int .i64 (i : Int) ∧ Hid (Q5 wr B bk v (.slice lo N lc) LV nn i vg H) ∧ Hid (H.length = 5 * i) ∧ Hid (Cf (B ≤ ·) w wr)) (fun _ x _ => N - (RowKit.intOf x).toNat)
   case atStart => exact ⟨0, [], by omega, rfl, HQ0, zaa rfl, HCi⟩
   case round =>
    obtain ⟨i, H, hi, rfl, HQ, HL, HC⟩ := hrel
    clear HQ0 HCi c0
    have hbx := HQ.out.box
    have c0 : wr.cell? ⟨bk, 1, none⟩ = some (.slice lo N lc) := by rw [cell_of_row _ _ 1 _ _ _ hbx]; rfl
    clear hbx
    by_cases hlt : i < N
    ·have hltI : (i : Int) < (N : Int) := by omega
     have hiI : (i : Int) ≤ 1000 := by omega
     obtain ⟨u, hu⟩ := zbx HN.out hlt
     obtain ⟨R, rfl, cR⟩ : ∃ R, lo = some ⟨R, 0, none⟩ ∧ wr.cell? ⟨R, i, none⟩ = some u := by
      obtain ⟨ao, c, e, hc⟩ := HQ.out.row.cells
      injection e with e1 e2 _
      subst e1
      rcases hc with h0 | ⟨g, e3, _, hc⟩
      ·omega
      ·exact ⟨g, e3, hc i u hu⟩
     obtain ⟨xo0, xc0, rfl, _⟩ := (HQ.out.own i u hu Lr).shape
     have HP0 := zaa (HQ.out.into hu)
     have hni := HNN.out i
     have hniI : (nn i : Int) ≤ 800000 := by omega
     clear hu HQ
     go_wp2_with fail
     go_loopw [7, 9, 10] (fun vg x kk wr => ∃ (k : Nat) (xo : Option Addr) (xc : Nat) (H : List Value), k ≤ 5 ∧ kk = .int .i64 (k : Int) ∧ x = .slice xo (nn i + k) xc ∧ Hid (P5 wr B bk v (.slice (some ⟨R, 0, none⟩) N lc) LV nn i k (.slice xo (nn i + k) xc) vg H) ∧ Hid (H.length = 5 * i + k) ∧ Hid (Cf (B ≤ ·) w wr)) (fun _ _ kk _ => 5 - (RowKit.intOf kk).toNat)
     case atStart => exact ⟨0, xo0, xc0, H, by omega, rfl, rfl, HP0, zaa HL.out, HC⟩
     case round =>
      obtain ⟨k, xo, xc, H, hk, rfl, rfl, HP, HL2, HC2⟩ := hrel
      clear HP0 HC HL c0 cR
      by_cases hk5 : k < 5
      ·have hkI : (k : Int) < 5 := by omega
       obtain ⟨L, hL⟩ : ∃ L, nn i + k = L := ⟨_, rfl⟩
       have HLE := zaa hL
       have hL2 : L ≤ 800005 := by omega
       have hL2I : (L : Int) ≤ 800005 := by omega
       rw [hL] at HP ⊢
       obtain ⟨x, hx⟩ : ∃ x, wr.alloc (.cells #[.slice none 0 0, .int .i64 (1000 + (i : Int)), .slice none 0 0, .int .i64 0, .int .i64 0] 50) = x := ⟨_, rfl⟩
       have hbx : Below wr.heap.size wr x := by rw [← hx]; exact zad Br Lr _
       have hcx : ∀ t u, (mkV i)[t]? = some u → x.cell? ⟨wr.heap.size, t, none⟩ = some u := by
        intro t u ht
        rw [← hx, cell_of_row _ _ t _ _ _ (heap_alloc_last wr _)]
        simpa [mkV] using ht
       have hBx : B ≤ x.heap.size := zN hB (zN HC2.out.size hbx.size)
       have HPX := zaa (HP.out.on hbx)
       have hxo : OwnP x B (.slice xo L xc) L L i := by have := HPX.out.xo; rwa [hL] at this
       obtain ⟨v1, w1, hr, ho1, hcase⟩ := app_m x B 29 (.slice xo L xc) L i wr.heap.size hxo hcx (by omega) hBx
       obtain ⟨yo, yc, rfl, _⟩ := ho1.shape
       have HP1 : Hid (P5 w1 B bk v (.slice (some ⟨R, 0, none⟩) N lc) LV nn i (k + 1) (.slice yo (L + 1) yc) _ H) := zaa (HPX.out.appX (by rw [hL]; exact ho1) hcase)
       have HC1 : Hid (Cf (B ≤ ·) w w1) := zaa ((HC2.out.go (Cf.of_below hbx)).go (by
        rcases hcase with ⟨_, hg⟩ | ⟨hb, _⟩
        ·exact cf_grown hg (fun z hz => (hxo.lt hz).1)
        ·exact Cf.of_below hb))
       clear hcase ho1 hxo hbx hL HP HPX HC2 hcx
       go_wp2_with (at_builtin; refine app_run9 rfl _ _ _ _ rfl _ _ rfl rfl hr ?_; refine Hid.out ?_)
       apply zaa
       clear hr hx
       obtain ⟨y, hy⟩ : ∃ y, w1.alloc (.cells #[.slice yo (L + 1) yc] 29) = y := ⟨_, rfl⟩
       have hby : Below w1.heap.size w1 y := by rw [← hy]; exact zad Br Lr _
       have hcy : y.cell? ⟨w1.heap.size, 0, none⟩ = some (.slice yo (L + 1) yc) := by rw [← hy]; simp
       have HPY := zaa (HP1.out.on hby)
       have hBy : B ≤ y.heap.size := zN hB (zN HC1.out.size hby.size)
       have HCY : Hid (Cf (B ≤ ·) w y) := zaa (HC1.out.go (Cf.of_below hby))
       have hHl : H.length + 1 ≤ 100000000 := by rw [HL2.out]; omega
       have HDV : Hid (H.length / 5 = i) := zaa (by rw [HL2.out]; omega)
       clear hby HP1 HC1
       go_wp2_with (at_builtin; refine app_y _ rfl _ _ rfl B H _ (.slice yo (L + 1) yc) rfl rfl HPY.out.rowG w1.heap.size rfl hcy hHl hBy ?_; refine Hid.out ?_)
       apply zaa
       intro vG2 w2 hG2 hgr2
       have HP2 : Hid (P5 w2 B bk v (.slice (some ⟨R, 0, none⟩) N lc) LV nn i (k + 1) (.slice yo (L + 1) yc) vG2 (H ++ [.slice yo (L + 1) yc])) := zaa (HPY.out.appG hG2 hgr2 HDV.out (by have := HLE.out; omega))
       have HC3 : Hid (Cf (B ≤ ·) w w2) := zaa (HCY.out.go (cf_grown hgr2.grow (fun z hz => by
        have hrG := HPY.out.rowG
        unfold OwnY at hrG
        exact (hrG.lt z hz).1)))
       have HL3 : Hid ((H ++ [Value.slice yo (L + 1) yc]).length = 5 * i + (k + 1)) := zaa (by rw [zG, HL2.out]; rfl)
       have HLK : Hid (nn i + (k + 1) = L + 1) := zaa (by have := HLE.out; omega)
       clear hG2 hgr2 hy hcy HPY
       go_wp2
       go_roundw
       case rel => exact ⟨k + 1, yo, yc, H ++ [.slice yo (L + 1) yc], by omega, by go_num, by rw [HLK.out], by rw [HLK.out]; exact HP2, HL3, HC3⟩
       case measure => simp [RowKit.intOf]; omega
      ·obtain rfl : k = 5 := by omega
       have HQ1 : Hid (Q5 wr B bk v (.slice (some ⟨R, 0, none⟩) N lc) LV nn (i + 1) _ H) := zaa (HP.out.out HNE.out)
       have HL3 : Hid (H.length = 5 * (i + 1)) := zaa (by rw [HL2.out]; omega)
       clear HP
       go_wp2
       go_roundw
       case rel => exact ⟨i + 1, H, by omega, by go_num, HQ1, HL3, HC2⟩
       case measure => simp [RowKit.intOf]; omega
    ·have hlI : ¬ (i : Int) < (N : Int) := by omega
     obtain ⟨go, gc, rfl, hgc⟩ := HQ.out.rowG.cells
     have hHl : H.length ≤ 5000 := by rw [HL.out]; omega
     have HGC := zaa hgc
     obtain ⟨hn, hhn⟩ : ∃ hn, H.length = hn := ⟨_, rfl⟩
     have HHN := zaa hhn
     have HQ2 := zaa HQ.out
     rw [hhn] at HGC HQ2 ⊢
     have hhnI : (hn : Int) ≤ 5000 := by omega
     clear hgc HQ HL hhn
     go_wp2_with fail
     go_loop [11] (fun x => ∃ s : Nat, s ≤ hn ∧ x = .int .i64 (s : Int)) (fun x => hn - (RowKit.intOf x).toNat)
     case atStart => exact ⟨0, by omega, rfl⟩
     case round =>
      obtain ⟨s, hs, rfl⟩ := hrel
      by_cases hsN : s < hn
      ·have hsI : (s : Int) < (hn : Int) := by omega
       obtain ⟨u, hu⟩ := zbx HHN.out hsN
       obtain ⟨G, rfl, cG⟩ : ∃ G, go = some ⟨G, 0, none⟩ ∧ wr.cell? ⟨G, s, none⟩ = some u := by
        rcases HGC.out with h0 | ⟨g, e3, _, hc⟩
        ·omega
        ·exact ⟨g, e3, hc s u hu⟩
       obtain ⟨m, hm9, ao, c, rfl, hsl⟩ := HQ2.out.gr s u hu
       have hmI : (m : Int) ≤ 900000 := by omega
       have HSL := zaa hsl
       have hq5 : Int.tdiv (s : Int) 5 = ((s / 5 : Nat) : Int) := by
        rw [Int.tdiv_eq_ediv_of_nonneg (by omega)]
        rfl
       obtain ⟨q, hq⟩ : ∃ q, s / 5 = q := ⟨_, rfl⟩
       rw [hq] at HSL hq5
       have hqs : (q : Int) ≤ 5000 := by omega
       have hqw : IntKind.i64.wrap (q : Int) = (q : Int) := by rw [IntKind.wrap_i64]; omega
       clear hsl hu hq
       go_wp2_with fail
       go_loop [12] (fun x => ∃ k : Nat, k ≤ m ∧ x = .int .i64 (k : Int)) (fun x => m - (RowKit.intOf x).toNat)
       case atStart => exact ⟨0, by omega, rfl⟩
       case round =>
        obtain ⟨k, hk, rfl⟩ := hrel
        by_cases hkm : k < m
        ·have hkI : (k : Int) < (m : Int) := by omega
         obtain ⟨g, rfl, cK⟩ : ∃ g, ao = some ⟨g, 0, none⟩ ∧ wr.cell? ⟨g, k * 5 + 1, none⟩ = some (.int .i64 (1000 + (q : Int))) := by
          rcases HSL.out with h0 | ⟨g, e3, _, hc⟩
          ·omega
          ·exact ⟨g, e3, hc k hkm⟩
         have e0 : (1000 + (q : Int) != 1000 + (q : Int)) = false := by simp
         go_wp2
         go_round
         case rel => exact ⟨k + 1, by omega, by go_num⟩
         case measure => simp [RowKit.intOf]; omega
        ·have hkI : ¬ (k : Int) < (m : Int) := by omega
         go_wp2
         go_round
         case rel => exact ⟨s + 1, by omega, by go_num⟩
         case measure => simp [RowKit.intOf]; omega
      ·have hsI : ¬ (s : Int) < (hn : Int) := by omega
       go_wp2
       go_ret
       exact ⟨rfl, HC⟩
end Six
end Go.Proofs.YtbkhjeacmmbabaaGreatDoor
namespace Go.Proofs.YtbkhjeacmmbabaaGreatDoor
set_option maxRecDepth 100000
open Go.RowKit
def RowE (w : World) (g : Nat) (e : TypeId) (c : Nat) : Prop := ∃ cur : Array Value, w.heap[g]? = some (.cells cur e (0, 0)) ∧ cur.size = c
theorem RowE.there {w : World} {g c : Nat} {e : TypeId} (h : RowE w g e c) {j : Nat} (hj : j < c) : (w.cell? ⟨g, j, none⟩).isSome = true := by
 obtain ⟨cur, h1, h2⟩ := h
 rw [cell_of_row _ _ _ _ _ _ h1]
 simp [h2, hj]
theorem RowE.free {w : World} {g c : Nat} {e : TypeId} (h : RowE w g e c) (j : Nat) : w.frozen? ⟨g, j, none⟩ = false := by
 obtain ⟨cur, h1, h2⟩ := h
 simp [World.frozen?, h1]
theorem RowE.lt {w : World} {g c : Nat} {e : TypeId} (h : RowE w g e c) : g < w.heap.size := by
 obtain ⟨cur, h1, h2⟩ := h
 exact zaf h1
theorem RowE.set {w : World} {g c : Nat} {e : TypeId} (h : RowE w g e c) (j : Nat) (v : Value) : RowE (w.setCell ⟨g, j, none⟩ v) g e c := by
 obtain ⟨cur, h1, h2⟩ := h
 exact ⟨_, zaw h1, by simpa using h2⟩
theorem RowE.sets {g c : Nat} {e : TypeId} : ∀ (vs : List Value) (j : Nat) (w : World), RowE w g e c → RowE (w.setCells g j vs) g e c
 | [], _, _, h => h
 | v :: r, j, _, h => RowE.sets r (j + 1) _ (h.set j v)
theorem RowE.drewN {w : World} {g c : Nat} {e : TypeId} (h : RowE w g e c) (q : Nat) : RowE (w.drewN q) g e c := h
theorem RowE.cell {w : World} {g c : Nat} {e : TypeId} (h : RowE w g e c) (vs : List Value) (o : Nat) (ho : o + vs.length ≤ c) (k : Nat) :
  (w.setCells g o vs).cell? ⟨g, k, none⟩ = if o ≤ k ∧ k < o + vs.length then vs[k - o]? else w.cell? ⟨g, k, none⟩ := by
 by_cases hin : o ≤ k ∧ k < o + vs.length
 ·rw [if_pos hin]
  have := World.cell?_setCells_in g vs o w (fun j hj => h.there (by omega)) (k - o) (by omega)
  rw [show o + (k - o) = k by omega] at this
  rw [this]
  simp
 ·rw [if_neg hin]
  exact World.cell?_setCells_out g vs o w ⟨g, k, none⟩ (fun _ _ => by show k < o ∨ o + vs.length ≤ k; omega)
theorem zaz (g : Nat) : ∀ (vs : List Value) (j : Nat) (w : World), w.grownBy (w.setCells g j vs) (some g)
 | [], _, _ => ⟨rfl, rfl, rfl, Lr, fun _ _ _ => rfl⟩
 | v :: r, j, w => by
  have h1 : w.grownBy (w.setCell ⟨g, j, none⟩ v) (some g) := ⟨rfl, rfl, rfl, by simp, fun k _ hk => Below.heap_setCell _ _ _ _ (fun e => hk (by rw [e]))⟩
  have h2 := zaz g r (j + 1) (w.setCell ⟨g, j, none⟩ v)
  exact ⟨h2.os.trans h1.os, h2.tape.trans h1.tape, h2.output.trans h1.output, zN h1.size h2.size, fun z hz hne => (h2.block z (zO hz h1.size) hne).trans (h1.block z hz hne)⟩
theorem zbr {w w1 w2 : World} {row : Option Nat} (h : w.grownBy w1 row) (k : w1.grownBy w2 row) : w.grownBy w2 row :=
 ⟨k.os.trans h.os, k.tape.trans h.tape, k.output.trans h.output, zN h.size k.size, fun z hz hne => (k.block z (zO hz h.size) hne).trans (h.block z hz hne)⟩
theorem zcl {w w1 : World} {row : Option Nat} (h : w.grownBy w1 row) : w.grownBy w1.drew row := ⟨h.os, h.tape, h.output, h.size, h.block⟩
theorem zcx (w : World) (row : Option Nat) : w.grownBy w row := ⟨rfl, rfl, rfl, Lr, fun _ _ _ => rfl⟩
theorem RowE.own {w : World} {g c n B : Nat} {e : TypeId} {xs : List Value} (h : RowE w g e c) (hc : c ≤ maxLen) (hB : B ≤ g) (hn : n ≤ c) (hx : xs.length = n) (hcell : ∀ i v, xs[i]? = some v → w.cell? ⟨g, i, none⟩ = some v) : w.ownsRow B e 1 (.slice (some ⟨g, 0, none⟩) n c) n xs := by
 obtain ⟨cur, h1, h2⟩ := h
 refine ⟨by omega, .inr ⟨g, c, cur, rfl, hB, h1, hn, hc, by omega, ?_⟩⟩
 rw [Nat.mul_one]
 apply List.ext_getElem?
 intro i
 by_cases hi : i < n
 ·have e1 : xs[i]? = some (xs[i]'(by omega)) := zI _
  have := hcell i _ e1
  rw [cell_of_row _ _ _ _ _ _ h1] at this
  rw [List.getElem?_take_of_lt hi, e1, ← this]
  simp
 ·rw [List.getElem?_eq_none (by simp; omega), List.getElem?_eq_none (by omega)]
theorem zat {w : World} {B n g c : Nat} {e : TypeId} {xs : List Value} (h : w.ownsRow B e 1 (.slice (some ⟨g, 0, none⟩) n c) n xs) : RowE w g e c ∧ B ≤ g ∧ n ≤ c ∧ c ≤ maxLen ∧ xs.length = n ∧ ∀ i v, xs[i]? = some v → w.cell? ⟨g, i, none⟩ = some v := by
 have hl := h.1
 rcases h.2 with ⟨e1, _⟩ | ⟨g', cap, cur, e1, h1, h2, h3, h4, h5, h6⟩
 ·injection e1 with e1 _ _
  cases e1
 ·injection e1 with e1 _ e3
  injection e1 with e1
  injection e1 with e1 _ _
  subst e1
  subst e3
  refine ⟨⟨cur, h2, by omega⟩, h1, h3, h4, by omega, fun i v hv => ?_⟩
  have := h.cellAt i (by have := (zH.1 hv).1; omega)
  rw [this, hv]
theorem moved {xs ys : List Value} {n m i j : Nat} (hx : xs.length = n) (hy : ys.length = m) (hij : i ≤ j) (hj : j ≤ n) {f : Nat → Option Value}
  (h1 : ∀ k, k < i → f k = xs[k]?) (h2 : ∀ k, k < m → f (i + k) = ys[k]?) (h3 : ∀ k, k < n - j → f (i + m + k) = xs[j + k]?) : ∀ k v, (xs.take i ++ ys ++ xs.drop j)[k]? = some v → f k = some v := by
 intro k v hv
 have hti : (xs.take i).length = i := by simp; omega
 by_cases hk : k < i
 ·rw [zM, zL (by omega), List.getElem?_take_of_lt hk] at hv
  rw [h1 k hk, hv]
 ·by_cases hk2 : k < i + m
  ·rw [zM, List.getElem?_append_right (by omega), hti, zL (by omega)] at hv
   have := h2 (k - i) (by omega)
   rw [show i + (k - i) = k by omega] at this
   rw [this, hv]
  ·have hlt := (zH.1 hv).1
   rw [zM, List.getElem?_append_right (by omega), hti, List.getElem?_append_right (by omega), List.getElem?_drop, hy] at hv
   have hkl : k < i + m + (n - j) := by simp at hlt; omega
   have := h3 (k - i - m) (by omega)
   rw [show i + m + (k - i - m) = k by omega] at this
   rw [this, hv]
theorem zdr {xs ys : List Value} {n m i j : Nat} (hx : xs.length = n) (hy : ys.length = m) (hij : i ≤ j) (hj : j ≤ n) : (xs.take i ++ ys ++ xs.drop j).length = i + m + (n - j) := by
 simp
 omega
theorem zcd {ops : Array Oper} {rest : List Oper} {o : Oper} {a : Act} {w : World} {Q : Exit → Act → World → Prop} (hgd : o.guard = none) (s x : Operand) (t1 t2 : TypeId)
  (ho : o.op = .call { callee := .builtin .append, args := #[s, x], argTypes := #[t1, t2] }) (v u : Value) (hs : a.eval s = v) (hx : a.eval x = u) {v' : Value} {w' : World}
  (hr : (Builtin.append_ #[t1, t2] o.type #[v, u]).run Tryz.prog w = .ok v' w') (h : wpList Tryz.prog ops Q rest (a.put o.dst v') w') : wpList Tryz.prog ops Q (o :: rest) a w := by
 refine wpList_plain hgd fun K hK => ?_
 unfold Oper.wp execOp
 simp only [ho, resolve, invoke, builtin, Sem.run_bind, Sem.run_pure, Result.andThen_ok, List.map_toArray, List.map_cons, List.map_nil, hs, hx, hr]
 exact hK _ _ h
theorem zcy {ops : Array Oper} {rest : List Oper} {o : Oper} {a : Act} {w : World} {Q : Exit → Act → World → Prop} (hgd : o.guard = none) (d : Operand) (t : TypeId)
  (ho : o.op = .call { callee := .builtin .clear, args := #[d], argTypes := #[t] }) (v : Value) (hd : a.eval d = v) {v' : Value} {w' : World}
  (hr : (Builtin.clear_ #[t] o.type #[v]).run Tryz.prog w = .ok v' w') (h : wpList Tryz.prog ops Q rest (a.put o.dst v') w') : wpList Tryz.prog ops Q (o :: rest) a w := by
 refine wpList_plain hgd fun K hK => ?_
 unfold Oper.wp execOp
 simp only [ho, resolve, invoke, builtin, Sem.run_bind, Sem.run_pure, Result.andThen_ok, List.map_toArray, List.map_cons, List.map_nil, hd, hr]
 exact hK _ _ h
theorem clear_none (w : World) (t e ty : TypeId) (ht : Tryz.prog.underlying t = some (.slice e)) (a : Option Addr) (c : Nat) : (Builtin.clear_ #[t] ty #[.slice a 0 c]).run Tryz.prog w = .ok (.tuple #[]) w := by
 cases a <;> simp [Builtin.clear_, run_underlying ht]
end Go.Proofs.YtbkhjeacmmbabaaGreatDoor
