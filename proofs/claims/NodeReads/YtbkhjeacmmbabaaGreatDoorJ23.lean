import Derived.Test.YtbkhjeacmmbabaaGreatDoorJ22
import Derived.Deep.RegionWith
import Derived.Laws.MakeOwn
namespace Go.Proofs.YtbkhjeacmmbabaaGreatDoor
set_option maxRecDepth 100000
set_option maxHeartbeats 8000000
open Go.RowKit
namespace Six
theorem cf_grown {w w' : World} {B : Nat} {row : Option Nat} (h : w.grownBy w' row) (hr : ∀ z, row = some z → B ≤ z) : Cf (B ≤ ·) w w' := ⟨h.os, h.tape, h.output, h.size, fun k hk hf => h.block k hk (fun e => hf (hr k e.symm))⟩
theorem owned6 (w : World) (B bk N : Nat) (lv v : Value) (V LV : List Value) (D : Nat → List Int) (nn : Nat → Nat) (h : Bo9 w B bk lv v V D) (hV : V.length ≤ 4000000) (hY : OwnY w B lv LV) (hN : LV.length = N) (H1 : N ≤ 1000) (A8 : ∀ (t : Nat) (u : Value), LV[t]? = some u → OwnP w B u (nn t) 0 t)
  (X : ∀ (t t' : Nat) (u u' : Value), LV[t]? = some u → LV[t']? = some u' → t ≠ t' → u.ownBlock = none ∨ u.ownBlock ≠ u'.ownBlock) (B2 : ∀ t, nn t ≤ 800000) (hB : B ≤ w.heap.size) :
  Calls Tryz.prog 12 #[.pointer (some ⟨bk, 0, none⟩)] w fun e u => e = .returned (.bool true) ∧ Hid (Cf (B ≤ ·) w u) := by
 have B3 := zaa (owned9F (fun z => ∃ (t : Nat) (u : Value), V[t]? = some u ∧ u.ownBlock = some z) w B bk V.length lv v V D h (fun t u ht z hz => .inl ⟨t, u, ht, hz⟩) rfl hV hB)
 have B4 : ∀ (k : Nat) (cs : Array Value) (ty : TypeId) (fz : Nat × Nat), w.heap[k]? = some (.cells cs ty fz) → ty ≠ 5 → ¬ ∃ (t : Nat) (u : Value), V[t]? = some u ∧ u.ownBlock = some k := by
  rintro k cs ty fz hk ht ⟨t, u, h1, h2⟩
  exact (h.own t u h1).1.noty hk ht h2
 have Y : Hid (∀ u, Cf (fun z => ∃ (t : Nat) (u : Value), V[t]? = some u ∧ u.ownBlock = some z) w u → Bl u B bk v lv LV nn (fun t => if t < 0 then nn t else 0) ∧ Cf (B ≤ ·) w u) := zaa (by
  intro u hc
  have keep : ∀ (k : Nat) (cs : Array Value) (ty : TypeId) (fz : Nat × Nat), w.heap[k]? = some (.cells cs ty fz) → ty ≠ 5 → u.heap[k]? = some (.cells cs ty fz) := fun k cs ty fz hk ht => (hc.block k (zaf hk) (B4 k cs ty fz hk ht)).trans hk
  have rowk : ∀ {C s n : Nat} {e : TypeId} {y : Value} {xs : List Value}, w.ownsRow C e s y n xs → e ≠ 5 → u.ownsRow C e s y n xs := by
   intro C s n e y xs ho h1
   refine ⟨ho.1, ?_⟩
   rcases ho.2 with h0 | ⟨g, cap, cur, e1, hg, hh, rest⟩
   ·exact .inl h0
   ·exact .inr ⟨g, cap, cur, e1, hg, keep g _ _ _ hh h1, rest⟩
  refine ⟨⟨keep bk _ _ _ h.box bk6_ne8, rowk hY u8_neY.symm, fun t x ht => ?_, X⟩, hc.wide ?_⟩
  ·obtain ⟨vs, h1, h2⟩ := A8 t x ht
   exact ⟨vs, rowk h1 zd, fun a ha => by rw [if_neg zq] at ha; omega⟩
  ·rintro k ⟨t, x, h1, h2⟩
   exact (own_in (h.own t x h1).1 h2).1)
 obtain ⟨lo, lc, rfl, B1⟩ := hY.cells
 rw [hN] at Y
 have HN := zaa hN
 have F0 := zaa X
 have B5 := zaa B2
 have H2 : (N : Int) ≤ 1000 := zq
 clear h B1 hY A8 X B2 B4 hV
 go_enter Tryz.func12, Tryz.ntmps12
 go_wp2_with (go_at_call 30; refine B3.out.mono ?_; rintro e w0 ⟨rfl, B6⟩; refine Hid.out ?_)
 apply zaa
 obtain ⟨B7, B8⟩ := Y.out w0 B6.out
 have B9 := zaa B7
 have C0 := zaa B8
 clear B3 Y B6 B7 B8
 go_wp2_with fail
 go_loopw [4] (fun x wr => ∃ i : Nat, i ≤ N ∧ x = .int .i64 (i : Int) ∧ Hid (Bl wr B bk v (.slice lo N lc) LV nn (fun t => if t < i then nn t else 0)) ∧ Hid (Cf (B ≤ ·) w wr)) (fun x _ => N - (RowKit.intOf x).toNat)
 case atStart => exact ⟨0, zq, rfl, B9, C0⟩
 case round =>
  obtain ⟨i, hi, rfl, E, J⟩ := hrel
  clear B9 C0
  have A := E.out.box
  have c0 : wr.cell? ⟨bk, 1, none⟩ = some (.slice lo N lc) := by rw [cell_of_row _ _ 1 _ _ _ A]; rfl
  clear A
  by_cases Z : i < N
  ·have E7 : (i : Int) < (N : Int) := zq
   obtain ⟨u, hu⟩ := zbs HN.out Z
   obtain ⟨R, rfl, cR⟩ : ∃ R, lo = some ⟨R, 0, none⟩ ∧ wr.cell? ⟨R, i, none⟩ = some u := by
    obtain ⟨ao, c, e, hc⟩ := E.out.row.cells
    injection e with e1 e2 _
    subst e1
    rcases hc with h0 | ⟨g, e3, _, hc⟩
    ·omega
    ·exact ⟨g, e3, hc i u hu⟩
   obtain ⟨ao, c, rfl, _⟩ := (E.out.own i u hu).shape
   have F1 := B5.out i
   obtain ⟨n, hn⟩ : ∃ n, nn i = n := ⟨_, rfl⟩
   rw [hn] at cR hu F1
   have K := zaa hn
   have HU := zaa hu
   have H3 : (n : Int) ≤ 800000 := zq
   have C1 : Hid (Bl wr B bk v (.slice (some ⟨R, 0, none⟩) N lc) LV nn (fun t => if t < i then nn t else if t = i then 0 else 0)) := zaa (E.out.cong (fun t _ => by
    by_cases e : t < i
    ·rw [if_pos e, if_pos e]
    ·rw [if_neg e, if_neg e]; split <;> rfl))
   clear hn hu E
   go_wp2_with fail
   go_loopw [6] (fun y wr2 => ∃ k : Nat, k ≤ n ∧ y = .int .i64 (k : Int) ∧ Hid (Bl wr2 B bk v (.slice (some ⟨R, 0, none⟩) N lc) LV nn (fun t => if t < i then nn t else if t = i then k else 0)) ∧ Hid (Cf (B ≤ ·) w wr2)) (fun y _ => n - (RowKit.intOf y).toNat)
   case atStart => exact ⟨0, zq, rfl, C1, J⟩
   case round =>
    obtain ⟨k, hk, rfl, M, A0⟩ := hrel
    clear C1 J c0 cR
    by_cases F2 : k < n
    ·have O : (k : Int) < (n : Int) := zq
     have C2 := M.out.own i _ HU.out
     obtain ⟨g, rfl, F3, A9, H4⟩ : ∃ g, ao = some ⟨g, 0, none⟩ ∧ B ≤ g ∧ RowC wr g c ∧ n ≤ c := by
      obtain ⟨ao', c', e, hs⟩ := C2.shape
      injection e with e1 e2 e3
      rcases hs with hs | ⟨g, e4, h1, h2, h3⟩
      ·rw [K.out] at hs
       omega
      ·rw [K.out] at h3
       subst e1
       subst e3
       exact ⟨g, e4, h1, h2, h3⟩
     obtain ⟨B0, W⟩ := M.out.set (k := k) HU.out K.out (by rw [if_neg zq, if_pos rfl]) F2
     have C3 : Hid (Bl (wr.setCells g (k * 5) (mkV i)) B bk v (.slice (some ⟨R, 0, none⟩) N lc) LV nn (fun t => if t < i then nn t else if t = i then k + 1 else 0)) := zaa (B0.cong (fun t _ => by
      by_cases e : t = i
      ·subst e
       simp
      ·simp only [if_neg e]))
     have C4 : Hid (Cf (B ≤ ·) w (wr.setCells g (k * 5) (mkV i))) := zaa (A0.out.go (cf_grown W (fun z hz => by injection hz with hz; rw [← hz]; exact F3)))
     have C6 := zaa A9
     have F4 : (i : Int) ≤ 1000 := zq
     clear C2 B0 W A9
     go_wp2_with (refine put_cell zr _ _ zr g (k * 5) c none none 0 0 0 0 (1000 + (i : Int)) 0 0 C6.out zr zr zq ?_; intro w2 A1; refine Hid.out ?_)
     apply zaa
     have E8 : Hid (Bl w2 B bk v (.slice (some ⟨R, 0, none⟩) N lc) LV nn (fun t => if t < i then nn t else if t = i then k + 1 else 0)) := zaa (by rw [A1.out]; exact C3.out)
     have E9 : Hid (Cf (B ≤ ·) w w2) := zaa (by rw [A1.out]; exact C4.out)
     clear C3 C4 A1 M A0 C6
     go_wp2
     go_roundw
     case rel => exact ⟨k + 1, zq, by go_num, E8, E9⟩
     case measure => simp [RowKit.intOf]; omega
    ·obtain rfl : k = n := zq
     have O : ¬ (k : Int) < (k : Int) := zq
     have F5 : Hid (Bl wr B bk v (.slice (some ⟨R, 0, none⟩) N lc) LV nn (fun t => if t < i + 1 then nn t else 0)) := zaa (M.out.cong (fun t _ => by
      by_cases e : t < i
      ·rw [if_pos e, if_pos zq]
      ·rw [if_neg e]
       by_cases e2 : t = i
       ·rw [if_pos e2, if_pos zq, e2, K.out]
       ·rw [if_neg e2, if_neg zq]))
     go_wp2
     go_roundw
     case rel => exact ⟨i + 1, zq, by go_num, F5, A0⟩
     case measure => simp [RowKit.intOf]; omega
  ·have C7 : ¬ (i : Int) < (N : Int) := zq
   have C8 : Hid (Q5 wr B bk v (.slice lo N lc) LV nn 0 (.slice none 0 0) []) := zaa (Bl.start (E.out.cong (fun t ht => by rw [if_pos (by rw [HN.out] at ht; omega)])))
   clear E
   go_wp2_with fail
   clear C7 hi
   go_loopw [7, 8] (fun vg x wr => ∃ (i : Nat) (H : List Value), i ≤ N ∧ x = .int .i64 (i : Int) ∧ Hid (Q5 wr B bk v (.slice lo N lc) LV nn i vg H) ∧ Hid (H.length = 5 * i) ∧ Hid (Cf (B ≤ ·) w wr)) (fun _ x _ => N - (RowKit.intOf x).toNat)
   case atStart => exact ⟨0, [], zq, rfl, C8, zaa rfl, J⟩
   case round =>
    obtain ⟨i, H, hi, rfl, HQ, HL, HC⟩ := hrel
    clear C8 J c0
    have A := HQ.out.box
    have c0 : wr.cell? ⟨bk, 1, none⟩ = some (.slice lo N lc) := by rw [cell_of_row _ _ 1 _ _ _ A]; rfl
    clear A
    by_cases Z : i < N
    ·have E7 : (i : Int) < (N : Int) := zq
     have F4 : (i : Int) ≤ 1000 := zq
     obtain ⟨u, hu⟩ := zbs HN.out Z
     obtain ⟨R, rfl, cR⟩ : ∃ R, lo = some ⟨R, 0, none⟩ ∧ wr.cell? ⟨R, i, none⟩ = some u := by
      obtain ⟨ao, c, e, hc⟩ := HQ.out.row.cells
      injection e with e1 e2 _
      subst e1
      rcases hc with h0 | ⟨g, e3, _, hc⟩
      ·omega
      ·exact ⟨g, e3, hc i u hu⟩
     obtain ⟨xo0, xc0, rfl, _⟩ := (HQ.out.own i u hu Lr).shape
     have C9 := zaa (HQ.out.into hu)
     have H5 := B5.out i
     have G8 : (nn i : Int) ≤ 800000 := zq
     clear hu HQ
     go_wp2_with fail
     go_loopw [7, 9, 10] (fun vg x kk wr => ∃ (k : Nat) (xo : Option Addr) (xc : Nat) (H : List Value), k ≤ 5 ∧ kk = .int .i64 (k : Int) ∧ x = .slice xo (nn i + k) xc ∧ Hid (P5 wr B bk v (.slice (some ⟨R, 0, none⟩) N lc) LV nn i k (.slice xo (nn i + k) xc) vg H) ∧ Hid (H.length = 5 * i + k) ∧ Hid (Cf (B ≤ ·) w wr)) (fun _ _ kk _ => 5 - (RowKit.intOf kk).toNat)
     case atStart => exact ⟨0, xo0, xc0, H, zq, rfl, rfl, C9, zaa HL.out, HC⟩
     case round =>
      obtain ⟨k, xo, xc, H, hk, rfl, rfl, HP, P, Q⟩ := hrel
      clear C9 HC HL c0 cR
      by_cases H6 : k < 5
      ·have O : (k : Int) < 5 := zq
       obtain ⟨L, hL⟩ : ∃ L, nn i + k = L := ⟨_, rfl⟩
       have D0 := zaa hL
       have H7 : L ≤ 800005 := zq
       have G9 : (L : Int) ≤ 800005 := zq
       rw [hL] at HP ⊢
       obtain ⟨x, hx⟩ : ∃ x, wr.alloc (.cells #[.slice none 0 0, .int .i64 (1000 + (i : Int)), .slice none 0 0, .int .i64 0, .int .i64 0] 50) = x := ⟨_, rfl⟩
       have A : Below wr.heap.size wr x := by rw [← hx]; exact zab Br Lr _
       have D3 : ∀ t u, (mkV i)[t]? = some u → x.cell? ⟨wr.heap.size, t, none⟩ = some u := by
        intro t u ht
        rw [← hx, cell_of_row _ _ t _ _ _ (heap_alloc_last wr _)]
        simpa [mkV] using ht
       have F6 : B ≤ x.heap.size := zN hB (zN Q.out.size A.size)
       have A2 := zaa (HP.out.on A)
       have A3 : OwnP x B (.slice xo L xc) L L i := by have := A2.out.xo; rwa [hL] at this
       obtain ⟨v1, w1, hr, A4, F⟩ := app_m x B 29 (.slice xo L xc) L i wr.heap.size A3 D3 zq F6
       obtain ⟨yo, yc, rfl, _⟩ := A4.shape
       have D4 : Hid (P5 w1 B bk v (.slice (some ⟨R, 0, none⟩) N lc) LV nn i (k + 1) (.slice yo (L + 1) yc) _ H) := zaa (A2.out.appX (by rw [hL]; exact A4) F)
       have A5 : Hid (Cf (B ≤ ·) w w1) := zaa ((Q.out.go (Cf.of_below A)).go (by
        rcases F with ⟨_, hg⟩ | ⟨hb, _⟩
        ·exact cf_grown hg (fun z hz => (A3.lt hz).1)
        ·exact Cf.of_below hb))
       clear F A4 A3 A hL HP A2 Q D3
       go_wp2_with (at_builtin; refine app_run9 rfl _ _ _ _ rfl _ _ rfl rfl hr ?_; refine Hid.out ?_)
       apply zaa
       clear hr hx
       obtain ⟨y, hy⟩ : ∃ y, w1.alloc (.cells #[.slice yo (L + 1) yc] 29) = y := ⟨_, rfl⟩
       have T : Below w1.heap.size w1 y := by rw [← hy]; exact zab Br Lr _
       have D5 : y.cell? ⟨w1.heap.size, 0, none⟩ = some (.slice yo (L + 1) yc) := by rw [← hy]; simp
       have U := zaa (D4.out.on T)
       have F7 : B ≤ y.heap.size := zN hB (zN A5.out.size T.size)
       have F8 : Hid (Cf (B ≤ ·) w y) := zaa (A5.out.go (Cf.of_below T))
       have D7 : H.length + 1 ≤ 100000000 := by rw [P.out]; omega
       have F9 : Hid (H.length / 5 = i) := zaa (by rw [P.out]; omega)
       clear T D4 A5
       go_wp2_with (at_builtin; refine app_y _ rfl _ _ rfl B H _ (.slice yo (L + 1) yc) rfl rfl U.out.rowG w1.heap.size rfl D5 D7 F7 ?_; refine Hid.out ?_)
       apply zaa
       intro vG2 w2 D8 I
       have G0 : Hid (P5 w2 B bk v (.slice (some ⟨R, 0, none⟩) N lc) LV nn i (k + 1) (.slice yo (L + 1) yc) vG2 (H ++ [.slice yo (L + 1) yc])) := zaa (U.out.appG D8 I F9.out (by have := D0.out; omega))
       have G1 : Hid (Cf (B ≤ ·) w w2) := zaa (F8.out.go (cf_grown I.grow (fun z hz => by
        have D9 := U.out.rowG
        unfold OwnY at D9
        exact (D9.lt z hz).1)))
       have A6 : Hid ((H ++ [Value.slice yo (L + 1) yc]).length = 5 * i + (k + 1)) := zaa (by rw [zG, P.out]; rfl)
       have E0 : Hid (nn i + (k + 1) = L + 1) := zaa (by have := D0.out; omega)
       clear D8 I hy D5 U
       go_wp2
       go_roundw
       case rel => exact ⟨k + 1, yo, yc, H ++ [.slice yo (L + 1) yc], zq, by go_num, by rw [E0.out], by rw [E0.out]; exact G0, A6, G1⟩
       case measure => simp [RowKit.intOf]; omega
      ·obtain rfl : k = 5 := zq
       have G2 : Hid (Q5 wr B bk v (.slice (some ⟨R, 0, none⟩) N lc) LV nn (i + 1) _ H) := zaa (HP.out.out F0.out)
       have A6 : Hid (H.length = 5 * (i + 1)) := zaa (by rw [P.out]; omega)
       clear HP
       go_wp2
       go_roundw
       case rel => exact ⟨i + 1, H, zq, by go_num, G2, A6, Q⟩
       case measure => simp [RowKit.intOf]; omega
    ·have C7 : ¬ (i : Int) < (N : Int) := zq
     obtain ⟨go, gc, rfl, E1⟩ := HQ.out.rowG.cells
     have D7 : H.length ≤ 5000 := by rw [HL.out]; omega
     have E2 := zaa E1
     obtain ⟨hn, A7⟩ : ∃ hn, H.length = hn := ⟨_, rfl⟩
     have G3 := zaa A7
     have E3 := zaa HQ.out
     rw [A7] at E2 E3 ⊢
     have H0 : (hn : Int) ≤ 5000 := zq
     clear E1 HQ HL A7
     go_wp2_with fail
     go_loop [11] (fun x => ∃ s : Nat, s ≤ hn ∧ x = .int .i64 (s : Int)) (fun x => hn - (RowKit.intOf x).toNat)
     case atStart => exact ⟨0, zq, rfl⟩
     case round =>
      obtain ⟨s, hs, rfl⟩ := hrel
      by_cases G4 : s < hn
      ·have G5 : (s : Int) < (hn : Int) := zq
       obtain ⟨u, hu⟩ := zbs G3.out G4
       obtain ⟨G, rfl, cG⟩ : ∃ G, go = some ⟨G, 0, none⟩ ∧ wr.cell? ⟨G, s, none⟩ = some u := by
        rcases E2.out with h0 | ⟨g, e3, _, hc⟩
        ·omega
        ·exact ⟨g, e3, hc s u hu⟩
       obtain ⟨m, H8, ao, c, rfl, E4⟩ := E3.out.gr s u hu
       have H9 : (m : Int) ≤ 900000 := zq
       have E5 := zaa E4
       have G6 : Int.tdiv (s : Int) 5 = ((s / 5 : Nat) : Int) := by
        rw [Int.tdiv_eq_ediv_of_nonneg zq]
        rfl
       obtain ⟨q, hq⟩ : ∃ q, s / 5 = q := ⟨_, rfl⟩
       rw [hq] at E5 G6
       have I0 : (q : Int) ≤ 5000 := zq
       have I1 : IntKind.i64.wrap (q : Int) = (q : Int) := by rw [IntKind.wrap_i64]; omega
       clear E4 hu hq
       go_wp2_with fail
       go_loop [12] (fun x => ∃ k : Nat, k ≤ m ∧ x = .int .i64 (k : Int)) (fun x => m - (RowKit.intOf x).toNat)
       case atStart => exact ⟨0, zq, rfl⟩
       case round =>
        obtain ⟨k, hk, rfl⟩ := hrel
        by_cases G7 : k < m
        ·have O : (k : Int) < (m : Int) := zq
         obtain ⟨g, rfl, cK⟩ : ∃ g, ao = some ⟨g, 0, none⟩ ∧ wr.cell? ⟨g, k * 5 + 1, none⟩ = some (.int .i64 (1000 + (q : Int))) := by
          rcases E5.out with h0 | ⟨g, e3, _, hc⟩
          ·omega
          ·exact ⟨g, e3, hc k G7⟩
         have e0 : (1000 + (q : Int) != 1000 + (q : Int)) = false := by simp
         go_wp2
         go_round
         case rel => exact ⟨k + 1, zq, by go_num⟩
         case measure => simp [RowKit.intOf]; omega
        ·have O : ¬ (k : Int) < (m : Int) := zq
         go_wp2
         go_round
         case rel => exact ⟨s + 1, zq, by go_num⟩
         case measure => simp [RowKit.intOf]; omega
      ·have G5 : ¬ (s : Int) < (hn : Int) := zq
       go_wp2
       go_ret
       exact ⟨rfl, HC⟩
end Six
end Go.Proofs.YtbkhjeacmmbabaaGreatDoor
namespace Go.Proofs.YtbkhjeacmmbabaaGreatDoor
set_option maxRecDepth 100000
set_option maxHeartbeats 8000000
open Go.RowKit
theorem made_run (N : Nat) (hN : N ≤ 281474976710656) (u : World) : (Instr.makeSlice 22 (.int .i64 0) (.int .i64 (N : Int))).run Tryz.prog u = .ok (.slice (some ⟨u.heap.size, 0, none⟩) 0 N) (u.alloc (.cells (madeCells #[.int .u8 0] N) 5)) := by
 obtain ⟨i0, hi, A, B, C⟩ := info_parts info5
 have hr := run_make (P := Tryz.prog) u 22 5 i0 (.int .u8 0) Tryz.underlying22 hi A .i64 .i64 0 N (Int.le_refl _) zq (by rw [C]; omega) zq
 simp only [Int.toNat_zero, Int.toNat_natCast, B, Nat.mul_one] at hr
 exact hr
theorem own_made (N B : Nat) (hN : N ≤ 281474976710656) (u : World) (hB : B ≤ u.heap.size) : OwnB (u.alloc (.cells (madeCells #[.int .u8 0] N) 5)) B (.slice (some ⟨u.heap.size, 0, none⟩) 0 N) [] :=
 World.ownsRow_made u _ N hB zml (by rw [Nat.mul_one]; exact size_madeCells _ _)
theorem keyq_any (ho : Option Addr) (hn hc : Nat) (ko : Option Addr) (kn kc : Nat) (kd : Int) (vo : Option Addr) (vn vc : Nat) (pg ct : Int) (h key : List Int) (w : World)
  (hh : Sl w ho hn hc h) (hk : Sl w ko kn kc key) (hl : hn + kn ≤ 140737488355328) :
  Calls Tryz.prog 130 #[.agg (eV ho hn hc ko kn kc kd vo vn vc pg ct)] w fun e w' => ∃ v', e = .returned v' ∧ Hid (OwnB w' w.heap.size v' (h ++ key)) ∧ Hid (Below w.heap.size w w') := by
 unfold eV
 obtain ⟨x, hx⟩ : ∃ x, w.alloc (.cells #[.slice ho hn hc, .slice ko kn kc, .int .i64 kd, .slice vo vn vc, .int .i64 pg, .int .i64 ct] 123) = x := ⟨_, rfl⟩
 have A : Below w.heap.size w x := by rw [← hx]; exact zab Br Lr _
 have D : E6 x w.heap.size (.slice ho hn hc) (.slice ko kn kc) (.int .i64 kd) (.slice vo vn vc) (.int .i64 pg) (.int .i64 ct) := by rw [← hx]; exact E6.box w _ _ _ _ _ _
 obtain ⟨s, hs⟩ : ∃ s, w.heap.size = s := ⟨_, rfl⟩
 have J : s < x.heap.size := by rw [← hs]; exact zaf D
 rw [hs] at D
 obtain ⟨b0, b1, b2, b3, b4, b5⟩ := D.cells
 obtain ⟨N, hN⟩ : ∃ N, hn + kn = N := ⟨_, rfl⟩
 have K : (hn : Int) + (kn : Int) = (N : Int) := zq
 have L : N ≤ 140737488355328 := zq
 have i1 : (hn : Int) ≤ 140737488355328 := zq
 have i2 : (kn : Int) ≤ 140737488355328 := zq
 have M : IntKind.i64.wrap (N : Int) = (N : Int) := by rw [IntKind.wrap_i64]; omega
 have O := made_run N zq
 have HW : Hid (∀ u g, Below x.heap.size x u → OwnB u x.heap.size (.slice (some ⟨g, 0, none⟩) 0 N) [] → Calls Tryz.prog 167 #[.agg #[.slice ho hn hc, .slice ko kn kc, .int .i64 kd, .slice vo vn vc, .int .i64 pg, .int .i64 ct], .slice (some ⟨g, 0, none⟩) 0 N] u fun e w' => ∃ v', e = .returned v' ∧ Hid (OwnB w' w.heap.size v' (h ++ key)) ∧ Hid (Below w.heap.size w w')) := by
  refine zaa fun u g hu C => ?_
  have hg : x.heap.size ≤ g := (World.ownsRow.lt C g rfl).1
  have far : ∀ (ao : Option Addr) (n cap : Nat) (l : List Int), Sl x ao n cap l → Far ao n (.slice (some ⟨g, 0, none⟩) 0 N) := by
   intro ao n cap l G
   rcases G.hat with h0 | ⟨b, off, e, P, _⟩
   ·exact .inl h0
   ·refine .inr fun p hp e2 => ?_
    rw [e] at hp
    injection hp with hp
    subst hp
    injection e2 with e2
    have e3 : g = b := e2
    omega
  have E := hh.on Lr A
  have F := hk.on Lr A
  refine (withKey_any _ x.heap.size [] ho hn hc ko kn kc kd vo vn vc pg ct h key u C hu.size (E.on Lr hu) (F.on Lr hu) (far _ _ _ _ E) (far _ _ _ _ F) zso).mono ?_
  rintro e w' ⟨v', rfl, HO, HG⟩
  refine ⟨v', rfl, zaa ?_, zaa (A.trans ((hu.trans (HG.out.below C hu.size)).mono A.size))⟩
  have := HO.out.low (B := w.heap.size) A.size
  simpa using this
 clear hh hk A D hN
 go_enter Tryz.func130, Tryz.ntmps130
 go_wp2_with fail
 go_region_with (first | (go_at_call 167; refine (HW.out _ _ ?_ ?_).mono ?_; (repeat (first | exact Br | apply Below.drew | apply below_drewN | refine zab ?_ Lr _)); (first | exact own_made N _ zq _ zv | exact (own_made N _ zq _ zv).on Lr Br.drew | exact (own_made N _ zq _ zv).on Lr (zac Br _)); rintro e w1 ⟨v1, rfl, H, I⟩))
 all_goals
  go_wp2
  go_ret
  exact ⟨v1, rfl, H, I⟩
theorem RestTo.far {w : World} {ao ho : Option Addr} {n hn : Nat} {v : Value} (hf : Far ho hn v) (hb : ∀ q, ao = some q → ∃ o, ho = some o ∧ q.block = o.block) (B : n ≤ hn) (_ : w = w) : Far ao n v := by
 rcases hf with h0 | hf
 ·exact .inl zq
 ·refine .inr fun q hq e => ?_
  obtain ⟨o, ho, A⟩ := hb q hq
  rw [A] at e
  exact hf o ho e
theorem OwnB.slu {w : World} {B : Nat} {v : Value} {n : Int} (h : OwnB w B v (uB n)) (h0 : 0 ≤ n) (hn : n < 18446744073709551616) : ∃ ao m c, v = .slice ao m c ∧ Sl w ao m c (uB n) ∧ m ≤ 10 := by
 have hl := zba n
 obtain ⟨a1, c1, rfl, s1, _⟩ := h.sl (uB_wf h0 hn) zq
 exact ⟨a1, _, c1, rfl, s1, hl.1⟩
theorem eappended_any (v : Value) (B : Nat) (l : List Int) (ho : Option Addr) (hn hc : Nat) (ko : Option Addr) (kn kc : Nat) (kd : Int) (vo : Option Addr) (vn vc : Nat) (pg ct : Int) (h key val : List Int) (n : Nat) (w : World) (E4 : OwnB w B v l) (hB : B ≤ w.heap.size)
  (hh : Sl w ho hn hc h) (hk : Sl w ko kn kc key) (hv : Sl w vo vn vc val) (fh : Far ho hn v) (fk : Far ko kn v) (fv : Far vo vn v) (I7 : n ≤ hn + kn) (hl : l.length + hn + kn + vn ≤ 35184372088832) :
  Calls Tryz.prog 126 #[.agg (eV ho hn hc ko kn kc kd vo vn vc pg ct), v, .int .i64 (n : Int)] w fun e w' => ∃ v', e = .returned v' ∧ Hid (OwnB w' B v' (l ++ qB n ⟨h ++ key, kd, val, pg, ct⟩)) ∧ Hid (Gr w v w' v') := by
 obtain ⟨x, hx⟩ : ∃ x, w.alloc (.cells #[.slice ho hn hc, .slice ko kn kc, .int .i64 kd, .slice vo vn vc, .int .i64 pg, .int .i64 ct] 123) = x := ⟨_, rfl⟩
 have F : Below w.heap.size w x := by rw [← hx]; exact zab Br Lr _
 have A5 : E6 x w.heap.size (.slice ho hn hc) (.slice ko kn kc) (.int .i64 kd) (.slice vo vn vc) (.int .i64 pg) (.int .i64 ct) := by rw [← hx]; exact E6.box w _ _ _ _ _ _
 obtain ⟨s, hs⟩ : ∃ s, w.heap.size = s := ⟨_, rfl⟩
 rw [hs] at A5
 have E8 := zaa A5
 obtain ⟨b0, b1, b2, b3, b4, b5⟩ := A5.cells
 have HO : Hid (OwnB x B v l) := zaa (E4.on Lr F)
 have HK : Hid (Sl x ko kn kc key) := zaa (hk.on Lr F)
 have HH : Hid (Sl x ho hn hc h) := zaa (hh.on Lr F)
 have HV : Hid (Sl x vo vn vc val) := zaa (hv.on Lr F)
 have HG : Hid (Gr w v x v) := zaa (Gr.ofBelow v F)
 have I8 : B ≤ x.heap.size := zN hB F.size
 have I9 := zaa fh
 have J0 := zaa fk
 have B6 := zaa fv
 have HR := zaa (erest_any ho hn hc ko kn kc kd vo vn vc pg ct h key n x HH.out HK.out I7)
 have J1 : Hid (h.length = hn ∧ key.length = kn ∧ val.length = vn) := zaa ⟨hh.hlen, hk.hlen, hv.hlen⟩
 clear E4 hh hk hv fh fk fv F A5
 unfold eV at HR ⊢
 go_enter Tryz.func126, Tryz.ntmps126
 go_wp2_with (go_at_call 162; refine HR.out.mono ?_; rintro e w1 ⟨a1, n1, c1, a2, n2, c2, l1, l2, rfl, H, HQ⟩; refine Hid.out ?_)
 apply zaa
 obtain ⟨q1, q2, q3, q4, q5, q6, q7⟩ := HQ.out
 have G1 : Gr x v w1 v := Gr.ofBelow v H.out
 have E9 : Hid (Gr w v w1 v) := zaa (HG.out.trans G1)
 have A6 : Hid (E6 w1 s (.slice ho hn hc) (.slice ko kn kc) (.int .i64 kd) (.slice vo vn vc) (.int .i64 pg) (.int .i64 ct)) := zaa (zag E8.out H.out)
 have B7 : Hid (OwnB w1 B v l) := zaa (HO.out.on Lr H.out)
 have B8 : Hid (Sl w1 vo vn vc val) := zaa (HV.out.on Lr H.out)
 have F0 : B ≤ w1.heap.size := zN I8 H.out.size
 have F1 : Far a1 n1 v := RestTo.far (w := w) I9.out q4 q6 rfl
 have F2 : Far a2 n2 v := RestTo.far (w := w) J0.out q5 q7 rfl
 have B9 := zaa q1
 have C0 := zaa q2
 have C1 := zaa q3
 have C2 := zaa F1
 have C3 := zaa F2
 have K2 : n1 + n2 ≤ hn + kn := zq
 have j1 : (n1 : Int) ≤ 35184372088832 := zq
 have j2 : (n2 : Int) ≤ 35184372088832 := zq
 have D : Hid (l1.length = n1 ∧ l2.length = n2) := zaa ⟨q1.hlen, q2.hlen⟩
 clear HR HQ q1 q2 q3 q4 q5 q6 q7 G1 F1 F2 H E8 HH HK HV HO HG b0 b1 b2 b3 b4 b5 hx
 obtain ⟨b0, b1, b2, b3, b4, b5⟩ := A6.out.cells
 obtain ⟨y, hy⟩ : ∃ y, w1.alloc (.cells #[.int .u8 (kd % 256)] 5) = y := ⟨_, rfl⟩
 have I : Below w1.heap.size w1 y := by rw [← hy]; exact zab Br Lr _
 have F3 : Hid (Sl y (some ⟨w1.heap.size, 0, none⟩) 1 1 [kd % 256]) := zaa (by rw [← hy]; exact sl_one w1 _ zq)
 have F4 : Hid (OwnB y B v l) := zaa (B7.out.on Lr I)
 have F5 : B ≤ y.heap.size := zN F0 I.size
 have F6 := zaa (Gr.ofBelow v I)
 have J2 := zaa I
 clear I
 go_wp2_with (at_builtin; refine zat _ rfl _ _ rfl B l [kd % 256] v (some ⟨w1.heap.size, 0, none⟩) 1 1 rfl rfl F4.out F3.out zq F5 ?_; refine Hid.out ?_)
 apply zaa
 intro v2 w2 F7 g2
 have G2 : Gr w1 v w2 v2 := F6.out.trans g2
 have F8 := zaa (E9.out.trans G2)
 have A7 := zaa (A6.out.gr G2 (B7.out.apart6 A6.out))
 have C4 := zaa F7
 have C6 := zaa (B8.out.gr G2 B6.out)
 have V := zaa (B9.out.gr G2 C2.out)
 have W := zaa (C0.out.gr G2 C3.out)
 have X := zaa (C2.out.gr B9.out G2)
 have Y := zaa (C3.out.gr C0.out G2)
 have Z := zaa (B6.out.gr B8.out G2)
 have F9 : B ≤ w2.heap.size := zN F0 G2.grow.size
 clear F7 g2 G2 F6 F3 F4 J2 F5 b0 b1 b2 b3 b4 b5 A6 B7 B8 B9 C0 C2 C3 B6 E9 hy
 obtain ⟨b0, b1, b2, b3, b4, b5⟩ := A7.out.cells
 obtain ⟨M, hM⟩ : ∃ M, n1 + n2 = M := ⟨_, rfl⟩
 have K4 : (n1 : Int) + (n2 : Int) = (M : Int) := zq
 have K5 : (M : Int) ≤ 35184372088832 := zq
 have K6 : IntKind.u64.wrap (M : Int) = (M : Int) := by rw [IntKind.wrap_u64]; omega
 have HU := zaa (uint_any (M : Int) w2 zq zq)
 have G0 : Hid (((h ++ key).drop n).length = M) := zaa (by rw [← C1.out, zG, D.out.1, D.out.2]; exact hM)
 clear hM
 go_wp2_with (go_at_call 163; refine HU.out.mono ?_; rintro e w3 ⟨u3, rfl, G5, A8⟩; refine Hid.out ?_)
 apply zaa
 obtain ⟨ua, um, uc, rfl, us3, G6⟩ := G5.slu zq zq
 have G3 : Gr w2 v2 w3 v2 := Gr.ofBelow v2 A8
 have G7 : Hid (OwnB w3 B v2 (l ++ [kd % 256])) := zaa (C4.out.on Lr A8)
 have G9 := zaa us3
 have H0 : B ≤ w3.heap.size := zN F9 A8.size
 have H1 := zaa G3
 clear G5 us3 A8 G3 HU
 go_wp2_with (at_builtin; refine zat _ rfl _ _ rfl B (l ++ [kd % 256]) (uB (M : Int)) v2 ua um uc rfl rfl G7.out G9.out zso H0 ?_; refine Hid.out ?_)
 apply zaa
 intro v4 w4 H2 g4
 have G4 : Gr w2 v2 w4 v4 := H1.out.trans g4
 have H3 := zaa (F8.out.trans G4)
 have A9 := zaa (A7.out.gr G4 (C4.out.apart6 A7.out))
 have J := zaa H2
 have C7 := zaa (C6.out.gr G4 Z.out)
 have E5 := zaa (V.out.gr G4 X.out)
 have A0 := zaa (W.out.gr G4 Y.out)
 have I2 := zaa (X.out.gr V.out G4)
 have A1 := zaa (Y.out.gr W.out G4)
 have A2 := zaa (Z.out.gr C6.out G4)
 have H4 : B ≤ w4.heap.size := zN F9 G4.grow.size
 clear H2 g4 G4 H1 G7 G9 H0 b0 b1 b2 b3 b4 b5 A7 C4 C6 V W X Y Z F8
 obtain ⟨b0, b1, b2, b3, b4, b5⟩ := A9.out.cells
 obtain ⟨L4, B0⟩ : ∃ L, l ++ [kd % 256] ++ uB (M : Int) = L := ⟨_, rfl⟩
 have J8 : L4.length ≤ l.length + 11 := by
  have := (zba (M : Int)).1
  rw [← B0]
  simp only [zG, List.length_cons, List.length_nil]
  omega
 replace J : Hid (OwnB w4 B v4 L4) := zaa (by rw [← B0]; simpa using J.out)
 have H5 := zaa B0
 clear B0
 go_wp2_with (at_builtin; refine zat _ rfl _ _ rfl B L4 l1 v4 a1 n1 c1 rfl rfl J.out E5.out zq H4 ?_; refine Hid.out ?_)
 apply zaa
 intro v5 w5 H6 g5
 have H7 := zaa (H3.out.trans g5)
 have C8 := zaa (A9.out.gr g5 (J.out.apart6 A9.out))
 have C9 := zaa H6
 have D0 := zaa (C7.out.gr g5 A2.out)
 have E7 := zaa (A0.out.gr g5 A1.out)
 have I3 := zaa (A1.out.gr A0.out g5)
 have A3 := zaa (A2.out.gr C7.out g5)
 have H8 : B ≤ w5.heap.size := zN H4 g5.grow.size
 clear H6 g5 b0 b1 b2 b3 b4 b5 A9 J C7 E5 A0 I2 A1 A2 H3
 have I4 : (L4 ++ l1).length + n2 ≤ 140737488355328 := by rw [zG, D.out.1]; omega
 go_wp2_with (at_builtin; refine zat _ rfl _ _ rfl B (L4 ++ l1) l2 v5 a2 n2 c2 rfl rfl C9.out E7.out I4 H8 ?_; refine Hid.out ?_)
 apply zaa
 intro v6 w6 H9 g6
 have B1 := zaa (H7.out.trans g6)
 have G := zaa (C8.out.gr g6 (C9.out.apart6 C8.out))
 have E := zaa H9
 have D3 := zaa (D0.out.gr g6 A3.out)
 have A4 := zaa (A3.out.gr D0.out g6)
 have B2 : B ≤ w6.heap.size := zN H8 g6.grow.size
 clear H9 g6 C8 C9 D0 E7 I3 A3 H7
 obtain ⟨b0, b1, b2, b3, b4, b5⟩ := G.out.cells
 obtain ⟨L6, B3⟩ : ∃ L, L4 ++ l1 ++ l2 = L := ⟨_, rfl⟩
 have J9 : L6.length ≤ l.length + 11 + (hn + kn) := by
  rw [← B3]
  simp only [zG, D.out.1, D.out.2]
  omega
 replace E : Hid (OwnB w6 B v6 L6) := zaa (by rw [← B3]; simpa using E.out)
 have D4 : Hid (∀ T, (if kd = 1 then uB (val.length : Int) ++ val else uB (pg % 18446744073709551616) ++ uB (ct % 18446744073709551616)) = T → l ++ qB n ⟨h ++ key, kd, val, pg, ct⟩ = L6 ++ T) := zaa (by
  intro T hT
  unfold qB
  simp only [hT]
  rw [← B3, ← H5.out, ← C1.out]
  have e : (h ++ key).length - n = M := by have := G0.out; rwa [zK] at this
  rw [e]
  simp only [zM])
 clear B3 H5 C1 D G0
 have K7 : (vn : Int) ≤ 35184372088832 := zq
 by_cases D5 : kd = 1
 ·subst D5
  have K8 : IntKind.u64.wrap (vn : Int) = (vn : Int) := by rw [IntKind.wrap_u64]; omega
  have HU := zaa (uint_any (vn : Int) w6 zq zq)
  go_wp2_with (go_at_call 163; refine HU.out.mono ?_; rintro e w7 ⟨u7, rfl, K, A⟩; refine Hid.out ?_)
  apply zaa
  obtain ⟨ua, um, uc, rfl, us7, G6⟩ := K.slu zq zq
  have N := zaa (Gr.ofBelow v6 A)
  have O : Hid (OwnB w7 B v6 L6) := zaa (E.out.on Lr A)
  have Q := zaa us7
  have D7 : B ≤ w7.heap.size := zN B2 A.size
  clear K us7 A HU
  go_wp2_with (at_builtin; refine zat _ rfl _ _ rfl B L6 (uB (vn : Int)) v6 ua um uc rfl rfl O.out Q.out zq D7 ?_; refine Hid.out ?_)
  apply zaa
  intro v8 w8 R g8
  have G8 : Gr w6 v6 w8 v8 := N.out.trans g8
  have D8 := zaa (B1.out.trans G8)
  have D9 := zaa (G.out.gr G8 (E.out.apart6 G.out))
  have E0 := zaa R
  have J3 := zaa (D3.out.gr G8 A4.out)
  have E1 : B ≤ w8.heap.size := zN B2 G8.grow.size
  clear R g8 G8 N O Q b0 b1 b2 b3 b4 b5 G E D3 A4 B1
  obtain ⟨b0, b1, b2, b3, b4, b5⟩ := D9.out.cells
  have I5 : (L6 ++ uB (vn : Int)).length + vn ≤ 140737488355328 := by
   have := (zba (vn : Int)).1
   rw [zG]
   omega
  go_wp2_with (at_builtin; refine zat _ rfl _ _ rfl B (L6 ++ uB (vn : Int)) val v8 vo vn vc rfl rfl E0.out J3.out I5 E1 ?_; refine Hid.out ?_)
  apply zaa
  intro v9 w9 U g9
  have E2 := zaa (D8.out.trans g9)
  have E3 : Hid (OwnB w9 B v9 (l ++ qB n ⟨h ++ key, 1, val, pg, ct⟩)) := zaa (by
   rw [D4.out (uB (vn : Int) ++ val) (by simp [J1.out.2.2])]
   simpa using U)
  clear U g9
  go_wp2
  go_ret
  exact ⟨v9, rfl, E3, E2⟩
 ·obtain ⟨P, hP⟩ : ∃ P, pg % 18446744073709551616 = P := ⟨_, rfl⟩
  obtain ⟨C, hC⟩ : ∃ C, ct % 18446744073709551616 = C := ⟨_, rfl⟩
  have K9 : IntKind.u64.wrap pg = P := by rw [IntKind.wrap_u64, hP]
  have L0 : IntKind.u64.wrap ct = C := by rw [IntKind.wrap_u64, hC]
  have HT := zaa (D4.out (uB P ++ uB C) (by rw [if_neg D5, hP, hC]))
  have HU := zaa (uint_any P w6 zq zq)
  have I0 : 0 ≤ P ∧ P < 18446744073709551616 := zq
  have B4 : 0 ≤ C ∧ C < 18446744073709551616 := zq
  clear hP hC D4
  have K0 : (kd == 1) = false := by simpa using D5
  go_wp2_with (go_at_call 163; refine HU.out.mono ?_; rintro e w7 ⟨u7, rfl, K, A⟩; refine Hid.out ?_)
  apply zaa
  obtain ⟨ua, um, uc, rfl, us7, G6⟩ := K.slu I0.1 I0.2
  have N := zaa (Gr.ofBelow v6 A)
  have O : Hid (OwnB w7 B v6 L6) := zaa (E.out.on Lr A)
  have Q := zaa us7
  have D7 : B ≤ w7.heap.size := zN B2 A.size
  clear K us7 A HU
  go_wp2_with (at_builtin; refine zat _ rfl _ _ rfl B L6 (uB P) v6 ua um uc rfl rfl O.out Q.out zq D7 ?_; refine Hid.out ?_)
  apply zaa
  intro v8 w8 R g8
  have G8 : Gr w6 v6 w8 v8 := N.out.trans g8
  have D8 := zaa (B1.out.trans G8)
  have D9 := zaa (G.out.gr G8 (E.out.apart6 G.out))
  have E0 := zaa R
  have E1 : B ≤ w8.heap.size := zN B2 G8.grow.size
  clear R g8 G8 N O Q b0 b1 b2 b3 b4 b5 G E D3 A4 B1
  obtain ⟨b0, b1, b2, b3, b4, b5⟩ := D9.out.cells
  have HU := zaa (uint_any C w8 B4.1 B4.2)
  go_wp2_with (go_at_call 163; refine HU.out.mono ?_; rintro e w9 ⟨u9, rfl, U, B5⟩; refine Hid.out ?_)
  apply zaa
  obtain ⟨ua, um9, uc, rfl, us9, K1⟩ := U.slu B4.1 B4.2
  have E2 := zaa (D8.out.trans (Gr.ofBelow v8 B5))
  have E3 : Hid (OwnB w9 B v8 (L6 ++ uB P)) := zaa (E0.out.on Lr B5)
  have J4 := zaa us9
  have J5 : B ≤ w9.heap.size := zN E1 B5.size
  clear U us9 B5 HU
  have I6 : (L6 ++ uB P).length + um9 ≤ 140737488355328 := by
   have := (zba P).1
   rw [zG]
   omega
  go_wp2_with (at_builtin; refine zat _ rfl _ _ rfl B (L6 ++ uB P) (uB C) v8 ua um9 uc rfl rfl E3.out J4.out I6 J5 ?_; refine Hid.out ?_)
  apply zaa
  intro vA wA I1 gA
  have J6 := zaa (E2.out.trans gA)
  have J7 : Hid (OwnB wA B vA (l ++ qB n ⟨h ++ key, kd, val, pg, ct⟩)) := zaa (by
   rw [HT.out]
   simpa using I1)
  clear I1 gA
  go_wp2
  go_ret
  exact ⟨vA, rfl, J7, J6⟩
end Go.Proofs.YtbkhjeacmmbabaaGreatDoor
