import Derived.Test.YtbkhjeacmmbabaaGreatDoorJ45
import Derived.Lib.ConvBytes
import Derived.Lib.AtoiErrMem
import Derived.Lib.AppendStr
namespace Go.Proofs.YtbkhjeacmmbabaaGreatDoor
set_option maxRecDepth 100000
set_option maxHeartbeats 4000000
open Go.RowKit
theorem RX.cells {w : World} {x : Nat} {l : List Int} {cs : List Cl} (h : RX w x l cs) (hy : Yes l cs) (hw : ∀ c ∈ cs, c.Wf) :
  Calls Tryz.prog 26 #[.pointer (some ⟨x, 0, none⟩)] w fun e w' => ∃ co cc, e = .returned (.slice co cs.length cc) ∧ Hid (OwnD w' 0 (.slice co cs.length cc) cs) ∧ Hid (Below w.heap.size w w') := by
 obtain ⟨N, hN⟩ : ∃ N, cs.length = N := ⟨_, rfl⟩
 have A8 : N ≤ 65536 := by have := hy.len.1; omega
 have HN := zaa hN
 have Z := zaa (hy.small hw)
 have A0 : Hid (∀ u, Below w.heap.size w u → Calls Tryz.prog 28 #[.pointer (some ⟨x, 0, none⟩)] u fun e w' => e = .returned (.int .i64 (N : Int)) ∧ w' = u) := zaa fun u hu => by
  have := (h.on hu).len
  rw [hN] at this
  exact this
 have A1 : Hid (∀ (u : World) (i : Nat) (c : Cl), Below w.heap.size w u → cs[i]? = some c → Calls Tryz.prog 61 #[.pointer (some ⟨x, 0, none⟩), .int .i64 (i : Int)] u (RcTo c u)) := zaa fun u i c hu hc => (h.on hu).cell hy hw i c hc
 rw [hN]
 clear h hy hw hN
 go_enter Tryz.func26, Tryz.ntmps26
 go_wp2_with fail
 go_loopw [3, 4] (fun v i wr => ∃ (ov : Value) (j : Nat), ov = v ∧ j ≤ N ∧ i = .int .i64 j ∧ Hid (OwnD wr w.heap.size ov (cs.take j)) ∧ Hid (Below w.heap.size w wr)) (fun _ i _ => N - (RowKit.intOf i).toNat)
 case atStart => exact ⟨_, 0, rfl, zq, rfl, zaa (OwnD.nil _ _), zaa Br⟩
 case round =>
  obtain ⟨ov, j, A2, hj, rfl, HO, HB⟩ := hrel
  subst A2
  have bj : (j : Int) ≤ 65536 := zq
  have G := zaa (A0.out wr HB.out)
  by_cases A3 : j < N
  ·have Y : (j : Int) < (N : Int) := zq
   obtain ⟨c, hc⟩ : ∃ c, cs[j]? = some c := ⟨_, zI (by rw [HN.out]; exact A3)⟩
   have A4 : Hid (cs.take (j + 1) = cs.take j ++ [c]) := zaa (by rw [List.take_add_one, hc]; rfl)
   have K := zaa (A1.out wr j c HB.out hc)
   clear hc
   go_wp2_with (first | (go_at_call 28; refine zad G.out ?_) | (go_at_call 61; refine K.out.mono ?_; rintro e w3 ⟨ko, kn, kc, vo, vn, vc, rfl, HQ, L⟩; refine Hid.out ?_))
   apply zaa
   clear K G
   obtain ⟨key, kd, val, pg, ct⟩ := c
   obtain ⟨B, C, D, E⟩ := HQ.out
   simp only at B C D E ⊢
   have M : Hid (R5B w3 w.heap.size [.slice ko kn kc, .int .i64 kd, .slice vo vn vc, .int .i64 pg, .int .i64 ct] [⟨key, kd, val, pg, ct⟩]) := zaa ⟨ko, kc, vo, vc, [], by simp only [B, C], by rw [B] at D; exact D.low HB.out.size, by rw [C] at E; exact E.low HB.out.size, rfl⟩
   have A5 : Hid (Below w.heap.size w w3) := zaa (zae HB.out Lr L.out)
   have A6 : Hid ((cs.take j).length + 1 ≤ 200000) := zaa (by rw [zJ]; omega)
   obtain ⟨y1, F⟩ : ∃ y, w3.alloc (.cells #[.slice ko kn kc, .int .i64 kd, .slice vo vn vc, .int .i64 pg, .int .i64 ct] 50) = y := ⟨_, rfl⟩
   have O : y1.heap.size = w3.heap.size + 1 := by rw [← F]; simp
   have P : Below w3.heap.size w3 y1 := by rw [← F]; exact zab Br Lr _
   have Q : C5 y1 w3.heap.size (.slice ko kn kc) (.int .i64 kd) (.slice vo vn vc) (.int .i64 pg) (.int .i64 ct) := by rw [← F]; exact C5.box w3 _ _ _ _ _
   obtain ⟨y2, H⟩ : ∃ y, y1.alloc (.cells #[.slice ko kn kc, .int .i64 kd, .slice vo vn vc, .int .i64 pg, .int .i64 ct] 50) = y := ⟨_, rfl⟩
   have R : Below y1.heap.size y1 y2 := by rw [← H]; exact zab Br Lr _
   have A : Below w3.heap.size w3 y2 := zae P Lr R
   have T : Hid (OwnD y2 w.heap.size ov (cs.take j)) := zaa ((HO.out.on L.out).on A)
   have U : Hid (R5B y2 w.heap.size [.slice ko kn kc, .int .i64 kd, .slice vo vn vc, .int .i64 pg, .int .i64 ct] [⟨key, kd, val, pg, ct⟩]) := zaa (M.out.keep (fun v l h => h.on Lr A))
   have I : Hid (Below w.heap.size w y2) := zaa (zae A5.out Lr A)
   have V : Hid (∀ i u, ([.slice ko kn kc, .int .i64 kd, .slice vo vn vc, .int .i64 pg, .int .i64 ct] : List Value)[i]? = some u → y2.cell? ⟨w3.heap.size + 1, 0 + i, none⟩ = some u) := zaa (by
    obtain ⟨f0, f1, f2, f3, f4⟩ := (C5.box y1 (.slice ko kn kc) (.int .i64 kd) (.slice vo vn vc) (.int .i64 pg) (.int .i64 ct)).cells
    rw [H, O] at f0 f1 f2 f3 f4
    intro i u hu
    have A9 : i < 5 := (zH.1 hu).1
    have hj' : i = 0 ∨ i = 1 ∨ i = 2 ∨ i = 3 ∨ i = 4 := zq
    rcases hj' with rfl | rfl | rfl | rfl | rfl <;> (simp only [List.getElem?_cons_zero, List.getElem?_cons_succ, Option.some.injEq] at hu; subst hu; assumption))
   obtain ⟨c0, c1, c2, c3, c4⟩ := Q.cells
   clear HQ D E B C P R A M HO Q
   go_wp2_with (at_builtin; refine app_cd _ rfl _ _ rfl w.heap.size (cs.take j) ⟨key, kd, val, pg, ct⟩ ov (w3.heap.size + 1) _ rfl rfl T.out U.out V.out A6.out I.out.size ?_; intro v2 u2 W J; refine Hid.out ?_)
   apply zaa
   have A7 : Hid (Below w.heap.size w u2) := zaa (I.out.trans J.out)
   rw [← A4.out] at W
   clear T I V U F H O c0 c1 c2 c3 c4 J
   go_wp2
   go_roundw
   case rel => exact ⟨_, j + 1, rfl, zq, by go_num, W, A7⟩
   case measure => simp [RowKit.intOf]; omega
  ·obtain rfl : j = N := zq
   have Y : ¬ (j : Int) < (j : Int) := zq
   have X : Hid (OwnD wr w.heap.size ov cs) := zaa (by
    have := HO.out
    rw [List.take_of_length_le (by rw [HN.out]; exact Lr)] at this
    exact this)
   obtain ⟨co, cc, hv, _⟩ := X.out.slc Z.out (by rw [HN.out]; omega)
   rw [HN.out] at hv
   subst hv
   go_wp2_with (go_at_call 28; refine zad G.out ?_)
   go_ret
   exact ⟨co, cc, rfl, zaa X.out.low0, HB⟩
open Six
def Bx (w : World) (B bk : Nat) (LV : List Value) (N U : Nat) : Prop := ∃ lv v V D, Six.Bo9 w B bk lv v V D ∧ OwnY w B lv LV ∧ VB V U ∧ V.length = N
theorem Bx.on {w w' : World} {B bk N U : Nat} {LV : List Value} (h : Bx w B bk LV N U) (hb : Below w.heap.size w w') : Bx w' B bk LV N U := by
 obtain ⟨lv, v, V, D, h1, h2, h3⟩ := h
 exact ⟨lv, v, V, D, h1.on hb, h2.on hb, h3⟩
theorem takeAllB (w : World) (B bk : Nat) (LV : List Value) (N U lo hi : Nat) (ao : Option Addr) (n cap : Nat) (cs : List Cl) (h : Bx w B bk LV N U) (hn : N + 2 * n ≤ 4000000) (A : n ≤ 100000) (hL : LV.length ≤ 1000) (hB : B ≤ w.heap.size) (C : B ≤ bk)
  (hg : Got w lo hi ao n cap cs) (E : B ≤ lo) (hw : ∀ d ∈ cs, d.Wf) (hl : ∀ d ∈ cs, d.key.length ≤ 65536 ∧ d.val.length ≤ 65536) (hU : U ≤ lo) :
  Calls Tryz.prog 10 #[.pointer (some ⟨bk, 0, none⟩), .slice ao n cap] w fun e w' => e = .returned (.tuple #[]) ∧ Hid (Bx w' B bk (LV ++ [.slice ao n cap]) (N + 2 * n) hi) ∧ Hid (Cf (B ≤ ·) w w') ∧ Hid (K3 w w') := by
 obtain ⟨lv, v, V, D, h1, h2, h3, h4⟩ := h
 obtain ⟨P, g1, g2, g3⟩ := hg
 refine (takeAll9 w B bk lv v V LV D U ao n cap cs P h1 h2 zq A hL hB C (g1.low E) hw hl h3 (zN hU g1.p0)).mono ?_
 rintro e w' ⟨rfl, lv', v', V', D', k1, k2, k3, k4, k5⟩
 exact ⟨rfl, zaa ⟨lv', v', V', D', k1.out, k2.out, k3.out.1.up g2, by rw [k3.out.2, h4]⟩, k4, k5⟩
theorem rgG_ne {u v : Value} {a b c e : Nat} (h : RgG u a b) (k : RgG v c e) (ho : b ≤ c) : (u.ownBlock = none ∨ u.ownBlock ≠ v.ownBlock) ∧ (v.ownBlock = none ∨ v.ownBlock ≠ u.ownBlock) := by
 cases hu : u.ownBlock with
 | none =>
  refine ⟨.inl rfl, ?_⟩
  cases hv : v.ownBlock with
  | none => exact .inl rfl
  | some _ => exact .inr zv
 | some x =>
  cases hv : v.ownBlock with
  | none => exact ⟨.inr zv, .inl rfl⟩
  | some y =>
   have h1 := h x hu
   have h2 := k y hv
   refine ⟨.inr ?_, .inr ?_⟩ <;> (intro e; injection e with e; omega)
theorem ownedB (w : World) (B bk N U : Nat) (L : List (Option Addr × Nat × Nat × List Cl × Nat × Nat)) (h : Bx w B bk (L.map fun t => .slice t.1 t.2.1 t.2.2.1) N U) (hN : N ≤ 4000000) (hL : L.length ≤ 3) (hB : B ≤ w.heap.size)
  (hg : ∀ t ∈ L, Got w t.2.2.2.2.1 t.2.2.2.2.2 t.1 t.2.1 t.2.2.1 t.2.2.2.1 ∧ B ≤ t.2.2.2.2.1 ∧ t.2.2.2.1.length ≤ 65536) (hr : ∀ (i j : Nat) (s t : Option Addr × Nat × Nat × List Cl × Nat × Nat), L[i]? = some s → L[j]? = some t → i < j → s.2.2.2.2.2 ≤ t.2.2.2.2.1) :
  Calls Tryz.prog 12 #[.pointer (some ⟨bk, 0, none⟩)] w fun e u => e = .returned (.bool true) ∧ Hid (Cf (B ≤ ·) w u) := by
 obtain ⟨lv, v, V, D, h1, h2, h3, h4⟩ := h
 have A : ∀ (t : Nat) (u : Value), (L.map fun t => Value.slice t.1 t.2.1 t.2.2.1)[t]? = some u → ∃ s, L[t]? = some s ∧ u = .slice s.1 s.2.1 s.2.2.1 := by
  intro t u ht
  rw [List.getElem?_map] at ht
  cases hs : L[t]? with
  | none => rw [hs] at ht; cases ht
  | some s => rw [hs] at ht; exact ⟨s, rfl, (Option.some.inj ht).symm⟩
 have C : ∀ s ∈ L, RgG (.slice s.1 s.2.1 s.2.2.1) s.2.2.2.2.1 s.2.2.2.2.2 := fun s hs => by
  obtain ⟨⟨P, _, _, g⟩, _⟩ := hg s hs
  exact g
 refine owned6 w B bk L.length lv v V _ D (fun t => ((L[t]?).map fun s => s.2.1).getD 0) h1 zq h2 zv zq (fun t u ht => ?_) (fun t t' u u' ht ht' E => ?_) (fun t => ?_) hB
 ·obtain ⟨s, hs, rfl⟩ := A t u ht
  obtain ⟨⟨P, g1, _⟩, g4, g5⟩ := hg s (List.mem_of_getElem? hs)
  simp only [hs, Option.map_some, Option.getD_some]
  exact (g1.low g4).ownP g5
 ·obtain ⟨s, hs, rfl⟩ := A t u ht
  obtain ⟨s', hs', rfl⟩ := A t' u' ht'
  have r1 := C s (List.mem_of_getElem? hs)
  have r2 := C s' (List.mem_of_getElem? hs')
  by_cases e : t < t'
  ·exact (rgG_ne r1 r2 (hr t t' s s' hs hs' e)).1
  ·exact (rgG_ne r2 r1 (hr t' t s' s hs' hs zq)).2
 ·cases hs : L[t]? with
  | none => simp
  | some s =>
   obtain ⟨⟨P, g1, _⟩, _, g5⟩ := hg s (List.mem_of_getElem? hs)
   have := g1.1
   simp only [Option.map_some, Option.getD_some]
   omega
theorem alikeV_any (w : World) (B bk a x : Nat) (v : Value) (LV : List Value) (N U : Nat) (l : List Int) (cs : List Cl) (hA : (v = iP a ∧ ∀ u, Below B w u → AsksP u a l cs) ∨ (v = iQ a ∧ ∀ u, Below B w u → AsksQ u a l cs)) (hx : RX w x l cs) (hy : Yes l cs) (hw : ∀ c ∈ cs, c.Wf) (hb : Bx w B bk LV N U) (hN : N ≤ 1000000) (hL : LV.length ≤ 900) (hB : B ≤ w.heap.size) (B1 : B ≤ bk) (hU : U ≤ w.heap.size) :
  Calls Tryz.prog 11 #[v, .pointer (some ⟨x, 0, none⟩), .pointer (some ⟨bk, 0, none⟩)] w fun e w' => e = .returned (.bool true) ∧ ∃ co cc lo hi, Hid (Got w' lo hi co cs.length cc cs ∧ w.heap.size ≤ lo) ∧ Hid (Bx w' B bk (LV ++ [.slice co cs.length cc]) (N + 2 * cs.length) hi) ∧ Hid (Cf (B ≤ ·) w w') ∧ Hid (K3 w w') := by
 obtain ⟨n, hn⟩ : ∃ n, cs.length = n := ⟨_, rfl⟩
 have D9 : n ≤ 65536 := by have := hy.len.1; omega
 have D8 : Hid (cs.length ≤ 65536 ∧ ∀ d ∈ cs, d.key.length ≤ 65536 ∧ d.val.length ≤ 65536) := zaa hy.len
 have HW := zaa hw
 have HX := zaa hx
 have B2 := zaa hb
 have HS : Hid (N ≤ 1000000 ∧ LV.length ≤ 900 ∧ B ≤ w.heap.size ∧ B ≤ bk ∧ U ≤ w.heap.size) := zaa ⟨hN, hL, hB, B1, hU⟩
 have B3 : Hid (∀ u lo hi co cc, Got u lo hi co n cc cs → SlC u co n cc cs) := zaa fun u lo hi co cc h => h.slc hw hy.len.2 hy.len.1
 have B4 : Hid (∀ u co cc, OwnD u 0 (.slice co n cc) cs → SlC u co n cc cs) := zaa fun u co cc h => h.sl8 hy hw
 have HR : Hid (∀ u, RX u x l cs → Calls Tryz.prog 26 #[.pointer (some ⟨x, 0, none⟩)] u fun e w' => ∃ co cc, e = .returned (.slice co n cc) ∧ Hid (OwnD w' 0 (.slice co n cc) cs) ∧ Hid (Below u.heap.size u w')) := zaa fun u hu => by
  have := hu.cells hy hw
  rw [hn] at this
  exact this
 have B0 : Hid (∀ u, RX u x l cs → Calls Tryz.prog 28 #[.pointer (some ⟨x, 0, none⟩)] u fun e w' => e = .returned (.int .i64 (n : Int)) ∧ w' = u) := zaa fun u hu => by
  have := hu.len
  rw [hn] at this
  exact this
 obtain ⟨k, hk⟩ : ∃ k, l.getD 0 0 = k := ⟨_, rfl⟩
 obtain ⟨Z, hZ⟩ : ∃ Z : Nat, usX l cs = Z := ⟨_, rfl⟩
 have A8 : Hid (∀ u, RX u x l cs → Calls Tryz.prog 27 #[.pointer (some ⟨x, 0, none⟩)] u fun e w' => e = .returned (.int .i64 k) ∧ w' = u) := zaa fun u hu => by rw [← hk]; exact hu.kind
 have A9 : Hid (∀ u, RX u x l cs → Calls Tryz.prog 29 #[.pointer (some ⟨x, 0, none⟩)] u fun e w' => e = .returned (.int .i64 (Z : Int)) ∧ Hid (Below u.heap.size u w')) := zaa fun u hu => by rw [← hZ]; exact hu.used hy hw
 rw [hn]
 have HC := zaa (fun u (hu : Below B w u) => ncellsX u a v l cs (hA.imp (fun h => ⟨h.1, fun u' hu' => h.2 u' (hu.trans (hu'.mono (zN hB hu.size)))⟩) (fun h => ⟨h.1, fun u' hu' => h.2 u' (hu.trans (hu'.mono (zN hB hu.size)))⟩)) hy.len.1)
 unfold CelG at HC
 simp only [hn] at HC
 clear hx hy hw hb hN hL hB B1 hU
 rcases hA with ⟨rfl, hA⟩ | ⟨rfl, hA⟩
 all_goals
  have W := zaa (fun u (hu : Below B w u) => (hA u hu).len)
  simp only [hn] at W
  have M := zaa (fun u (hu : Below B w u) => (hA u hu).kind)
  simp only [hk] at M
  have O := zaa (fun u (hu : Below B w u) => (hA u hu).used)
  simp only [hZ] at O
  clear hA hn hk hZ
  have B5 := zaa (HC.out w Br)
  go_enter Tryz.func11, Tryz.ntmps11
  go_wp2_with (go_at_call 25; refine B5.out.mono ?_; rintro e u1 ⟨co, cc, rfl, B6, P⟩; refine Hid.out ?_)
  apply zaa
  have C9 : Hid (Below w.heap.size w u1) := P
  have B7 := zaa (HC.out u1 (P.out.mono HS.out.2.2.1))
  clear B5 P
  go_wp2_with (go_at_call 25; refine B7.out.mono ?_; rintro e u2 ⟨eo, ec, rfl, B8, Q⟩; refine Hid.out ?_)
  apply zaa
  have H : Hid (Below w.heap.size w u2) := zaa (zae C9.out Lr Q.out)
  have X := zaa (B6.out.on Q.out)
  have B9 := zaa (HR.out u2 (HX.out.on H.out))
  clear B7 Q B6
  go_wp2_with (go_at_call 26; refine B9.out.mono ?_; rintro e u3 ⟨wo, wc, rfl, R, K⟩; refine Hid.out ?_)
  apply zaa
  have Y : Hid (Below w.heap.size w u3) := zaa (zae H.out Lr K.out)
  have I := zaa (X.out.on K.out)
  have A0 := zaa (B8.out.on K.out)
  have D := zaa (zde co wo n cc wc cs u3 (B3.out _ _ _ _ _ I.out) (B4.out _ _ _ R.out))
  clear B9 K X B8 H
  go_wp2_with (go_at_call 9; refine D.out.mono ?_; rintro e u4 ⟨rfl, E⟩; refine Hid.out ?_)
  apply zaa
  have A : Hid (Below w.heap.size w u4) := zaa (zae Y.out Lr E.out)
  have J := zaa (I.out.on E.out)
  have A1 := zaa (A0.out.on E.out)
  have C0 := zaa (R.out.on E.out)
  have C1 := zaa (takeAllB u4 B bk LV N U w.heap.size u1.heap.size co n cc cs (B2.out.on A.out) (by have := HS.out.1; omega) zq (by have := HS.out.2.1; omega) (zN HS.out.2.2.1 A.out.size) HS.out.2.2.2.1 J.out HS.out.2.2.1 HW.out D8.out.2 HS.out.2.2.2.2)
  clear D E I A0 R Y
  go_wp2_with (go_at_call 10; refine C1.out.mono ?_; rintro e u5 ⟨rfl, A2, C2, F⟩; refine Hid.out ?_)
  apply zaa
  have A3 : Hid (Cf (B ≤ ·) w u5) := zaa ((Cf.of_below A.out).go C2.out)
  have A4 : Hid (K3 w u5) := zaa ((K3.of_below A.out).trans F.out)
  have A5 := zaa (J.out.k3 F.out)
  have A6 := zaa (A1.out.k3 F.out)
  have C3 := zaa (C0.out.k3 F.out)
  have D := zaa (zde eo wo n ec wc cs u5 (B3.out _ _ _ _ _ A6.out) (B4.out _ _ _ C3.out))
  clear C1 C2 F J A1 C0 A B2
  go_wp2_with (go_at_call 9; refine D.out.mono ?_; rintro e u6 ⟨rfl, G⟩; refine Hid.out ?_)
  apply zaa
  have C : Hid (Cf (B ≤ ·) w u6) := zaa (A3.out.go (Cf.of_below G.out))
  have A7 : Hid (K3 w u6) := zaa (A4.out.trans (K3.of_below G.out))
  have D0 := zaa (A5.out.on G.out)
  have D3 := zaa (A2.out.on G.out)
  have T : Hid (∀ u, Cf (B ≤ ·) w u → Below B w u) := zaa fun u hc => hc.below HS.out.2.2.1 (fun k hk e => zq)
  have C4 := zaa (W.out u6 (T.out _ C.out))
  have C6 := zaa (M.out u6 (T.out _ C.out))
  have C7 := zaa (O.out u6 (T.out _ C.out))
  have V : Hid (RX u6 x l cs) := zaa (HX.out.k3 A7.out)
  have D4 := zaa (B0.out u6 V.out)
  have D5 := zaa (A8.out u6 V.out)
  have D7 : Hid (∀ u, Below u6.heap.size u6 u → Calls Tryz.prog 29 #[.pointer (some ⟨x, 0, none⟩)] u fun e w' => e = .returned (.int .i64 (Z : Int)) ∧ Hid (Below u6.heap.size u6 w')) := zaa fun u hu => (A9.out u (V.out.on hu)).mono fun e w' h => ⟨h.1, zaa (zae hu Lr h.2.out)⟩
  have e1 : (k == k) = true := by simp
  have e2 : ((n : Int) == (n : Int)) = true := by simp
  have e3 : ((Z : Int) == (Z : Int)) = true := by simp
  clear D G A3 A4 A5 A6 C3 A2
  go_wp2_with (first
   | (go_at_call 219; refine zad C6.out ?_)
   | (go_at_call 232; refine zad C6.out ?_)
   | (go_at_call 27; refine zad D5.out ?_)
   | (go_at_call 75; refine zad C4.out ?_)
   | (go_at_call 88; refine zad C4.out ?_)
   | (go_at_call 28; refine zad D4.out ?_)
   | (go_at_call 222; refine C7.out.mono ?_; rintro e u7 ⟨rfl, C8⟩)
   | (go_at_call 236; refine C7.out.mono ?_; rintro e u7 ⟨rfl, C8⟩)
   | (go_at_call 29; refine (D7.out _ C8.out).mono ?_; rintro e u8 ⟨rfl, L⟩))
  go_ret
  exact ⟨by first | rfl | simp, co, cc, w.heap.size, u1.heap.size, zaa ⟨D0.out.on L.out, Lr⟩, zaa (D3.out.on L.out), zaa (C.out.go (Cf.of_below L.out)), zaa (A7.out.trans (K3.of_below L.out))⟩
def nB (t : ByteArray) : List Int := t.data.toList.map fun b => (b.toNat : Int)
theorem zdh (t : ByteArray) : (nB t).length = t.size := by unfold nB; rw [List.length_map, Array.length_toList]; rfl
theorem nB_wf (t : ByteArray) : Wf (nB t) := by
 intro x hx
 simp only [nB, List.mem_map] at hx
 obtain ⟨b, _, rfl⟩ := hx
 have := b.toNat_lt
 omega
theorem nB_getD (t : ByteArray) (j : Nat) : (nB t).getD j 0 = ((t.data.toList.getD j 0).toNat : Int) := by
 simp only [nB, List.getD, List.getElem?_map]
 cases t.data.toList[j]? <;> simp
theorem conv8 (w : World) (t : ByteArray) (h : t.size ≤ 140737488355328) : ∃ c W, (convert 9 22 (.string t)).run Tryz.prog w = .ok (.slice (some ⟨w.heap.size, 0, none⟩) t.size c) W ∧ Sl W (some ⟨w.heap.size, 0, none⟩) t.size c (nB t) ∧ Below w.heap.size w W ∧ w.heap.size < W.heap.size := by
 refine ⟨_, _, Lib.run_convert_string_bytes w 9 22 5 t Tryz.underlying9 Tryz.underlying22 Tryz.underlying5, ?_, Lib.bytesWorld_below w 5 t, by rw [Lib.bytesWorld_size]; omega⟩
 refine ⟨zdh t, grownCap_ge _ _ _ _, h, nB_wf t, (by intro h; cases h), .inr ⟨w.heap.size, 0, rfl, by rw [Lib.bytesWorld_size]; omega, fun i hi => ?_⟩⟩
 rw [Nat.zero_add, Lib.bytesWorld_cell w 5 t i hi, nB_getD]
def ValTo (k v : ByteArray) (w : World) (e : Ending) (w' : World) : Prop :=
 ∃ g1 c1 g2 c2, e = .returned (.agg #[.slice (some ⟨g1, 0, none⟩) k.size c1, .int .i64 1, .slice (some ⟨g2, 0, none⟩) v.size c2, .int .i64 0, .int .i64 0]) ∧ Hid (Sl w' (some ⟨g1, 0, none⟩) k.size c1 (nB k) ∧ Sl w' (some ⟨g2, 0, none⟩) v.size c2 (nB v) ∧ w.heap.size ≤ g1 ∧ w.heap.size ≤ g2) ∧ Hid (Below w.heap.size w w')
theorem value8_any (k v : ByteArray) (hk : k.size ≤ 140737488355328) (hv : v.size ≤ 140737488355328) (w : World) : Calls Tryz.prog 14 #[.string k, .string v] w (ValTo k v w) := by
 obtain ⟨y, hy⟩ : ∃ y, w.alloc (.cells #[.slice none 0 0, .int .i64 0, .slice none 0 0, .int .i64 0, .int .i64 0] 50) = y := ⟨_, rfl⟩
 have C : Below w.heap.size w y := by rw [← hy]; exact zab Br Lr _
 obtain ⟨s, hs⟩ : ∃ s, w.heap.size = s := ⟨_, rfl⟩
 have h5 : C5 y s (.slice none 0 0) (.int .i64 0) (.slice none 0 0) (.int .i64 0) (.int .i64 0) := by rw [← hy, ← hs]; exact C5.box _ _ _ _ _ _
 obtain ⟨c1, W1, k1, s1, b1, l1⟩ := conv8 y k hk
 obtain ⟨c2, W2, k2, s2, b2, l2⟩ := conv8 W1 v hv
 obtain ⟨g1, D⟩ : ∃ g1, y.heap.size = g1 := ⟨_, rfl⟩
 obtain ⟨g2, E⟩ : ∃ g2, W1.heap.size = g2 := ⟨_, rfl⟩
 have hsz : y.heap.size = s + 1 := by rw [← hy, ← hs]; simp
 rw [D] at k1 s1
 rw [E] at k2 s2
 have A : C5 W2 s (.slice none 0 0) (.int .i64 0) (.slice none 0 0) (.int .i64 0) (.int .i64 0) := zag (zag h5 b1) b2
 obtain ⟨f0, f1, f2, f3, f4⟩ := A.free
 obtain ⟨d0, d1, d2, d3, d4⟩ := A.cells
 have H5 := zaa A
 have F := zaa (s1.on Lr b2)
 have G := zaa s2
 have HB : Hid (Below w.heap.size w W2) := zaa (zae (zae C Lr b1) Lr b2)
 have HN : Hid (s < g1 ∧ s < g2 ∧ w.heap.size = s) := zaa (by have := b1.size; omega)
 clear h5 A s1 s2 b1 b2 l1 l2 C hsz D E
 go_enter Tryz.func14, Tryz.ntmps14
 go_wp2_with fail
 refine bodyPost_ret (results_cell_row rfl _ _ s 50 #[.slice (some ⟨g1, 0, none⟩) k.size c1, .int .i64 1, .slice (some ⟨g2, 0, none⟩) v.size c2, .int .i64 0, .int .i64 0] (0, 0) _ zr (H5.out.put _ _ _ _ _) Tryz.underlying50 rfl zal) rfl ?_
 have B := zaq W2 s (.slice (some ⟨g1, 0, none⟩) k.size c1) (.int .i64 1) (.slice (some ⟨g2, 0, none⟩) v.size c2) (.int .i64 0) (.int .i64 0)
 obtain ⟨n1, n2, n3⟩ := HN.out
 refine ⟨g1, c1, g2, c2, rfl, zaa ⟨F.out.cf B (.inr fun p hp => ?_), G.out.cf B (.inr fun p hp => ?_), zq, zq⟩, zaa (HB.out.trans (B.below HB.out.size (fun i hi e => zq)))⟩
 ·injection hp with hp; subst hp; simp only; omega
 ·injection hp with hp; subst hp; simp only; omega
theorem nB_str {l : List Int} (h : Wf l) : nB (strOfNums l) = l := by
 unfold nB
 rw [strOfNums_data, List.map_map]
 conv => rhs; rw [← List.map_id l]
 refine List.map_congr_left fun x hx => ?_
 have := h x hx
 simp only [Function.comp_apply, UInt8.toNat_ofNat', id_eq]
 omega
def Al (w : World) (g C : Nat) (l : List Int) : Prop :=
 g < w.heap.size ∧ l.length ≤ C ∧ (∀ j, j < C → (w.cell? ⟨g, j, none⟩).isSome = true ∧ w.frozen? ⟨g, j, none⟩ = false) ∧ ∀ j, j < l.length → w.cell? ⟨g, j, none⟩ = some (.int .u8 (l.getD j 0))
theorem frozen_block {w w' : World} {a : Addr} (e : w'.heap[a.block]? = w.heap[a.block]?) : w'.frozen? a = w.frozen? a := by
 unfold World.frozen?
 rw [e]
theorem Al.cf {F : Nat → Prop} {w w' : World} {g C : Nat} {l : List Int} (h : Al w g C l) (hc : Cf F w w') (hf : ¬ F g) : Al w' g C l := by
 have e := hc.block g h.1 hf
 refine ⟨zO h.1 hc.size, h.2.1, fun j hj => ⟨?_, ?_⟩, fun j hj => ?_⟩
 ·rw [World.cell?_of_block (a := ⟨g, j, none⟩) e]
  exact (h.2.2.1 j hj).1
 ·rw [frozen_block (a := ⟨g, j, none⟩) e]
  exact (h.2.2.1 j hj).2
 ·rw [World.cell?_of_block (a := ⟨g, j, none⟩) e]
  exact h.2.2.2 j hj
theorem Al.on {w w' : World} {g C : Nat} {l : List Int} (h : Al w g C l) (hb : Below w.heap.size w w') : Al w' g C l := h.cf (Cf.of_below (F := fun _ => False) hb) (fun e => e)
theorem Al.set {w : World} {g C : Nat} {l : List Int} (h : Al w g C l) {k : Nat} (hk : k < l.length) (y : Int) : Al (w.setCell ⟨g, k, none⟩ (.int .u8 y)) g C (l.set k y) := by
 obtain ⟨h1, h2, h3, h4⟩ := h
 refine ⟨by simpa using h1, by simpa using h2, fun j hj => ⟨?_, ?_⟩, fun j hj => ?_⟩
 ·by_cases e : j = k
  ·subst e
   obtain ⟨u, hu⟩ := Option.isSome_iff_exists.1 (h3 j hj).1
   rw [World.cell?_setCell_same _ _ _ hu]
   rfl
  ·rw [World.cell?_setCell_other _ _ _ _ zv]
   exact (h3 j hj).1
 ·rw [World.frozen?_setCell]
  exact (h3 j hj).2
 ·rw [List.length_set] at hj
  by_cases e : j = k
  ·subst e
   rw [World.cell?_setCell_same _ _ _ (h4 j hj)]
   simp [List.getD, hj]
  ·rw [World.cell?_setCell_other _ _ _ _ zv, h4 j hj]
   simp [List.getD, Ne.symm e]
theorem Al.sl {w : World} {g C : Nat} {l : List Int} (h : Al w g C l) (hw : Wf l) (m : Nat) (hm : m ≤ l.length) (h8 : m ≤ 140737488355328) : Sl w (some ⟨g, 0, none⟩) m C (l.take m) := by
 refine ⟨by rw [zJ]; omega, zN hm h.2.1, h8, hw.take _, (by intro h; cases h), .inr ⟨g, 0, rfl, h.1, fun i hi => ?_⟩⟩
 rw [Nat.zero_add, h.2.2.2 i zq]
 simp [List.getD, hi]
theorem al_conv (w : World) (t : ByteArray) : ∃ c W, (convert 9 22 (.string t)).run Tryz.prog w = .ok (.slice (some ⟨w.heap.size, 0, none⟩) t.size c) W ∧ Al W w.heap.size c (nB t) ∧ Below w.heap.size w W := by
 have A : t.size ≤ grownCap w t.size 0 5 := grownCap_ge _ _ _ _
 refine ⟨_, _, Lib.run_convert_string_bytes w 9 22 5 t Tryz.underlying9 Tryz.underlying22 Tryz.underlying5, ⟨by rw [Lib.bytesWorld_size]; omega, by rw [zdh]; exact A, fun j hj => ?_, fun j hj => ?_⟩, Lib.bytesWorld_below w 5 t⟩
 ·have hz : (Lib.bytesCells w 5 t).size = grownCap w t.size 0 5 := by
   have e : t.data.size = t.size := rfl
   simp only [Lib.bytesCells, Array.size_append, Array.size_map, Array.size_replicate, e]
   omega
  constructor
  ·simp only [World.cell?, Lib.bytesWorld_at_new]
   rw [Array.getElem?_eq_getElem (by rw [hz]; exact hj)]
   rfl
  ·simp only [World.frozen?, Lib.bytesWorld_at_new, Bool.and_eq_false_iff, zP]
   left
   rw [hz]
   omega
 ·rw [zdh] at hj
  rw [Lib.bytesWorld_cell w 5 t j hj, nB_getD]
theorem str_nB (s : ByteArray) : Lib.strCells s = By (nB s) := by
 unfold Lib.strCells By nB
 rw [List.map_map]
 rfl
theorem al_tail (W : World) (g C n : Nat) (l : List Int) (h : Al W g C l) (hn : l.length = n) (s : ByteArray) (m : Nat) (hm : s.size = m) (h8 : n + m ≤ 140737488355328) (ty : TypeId) :
  ∃ g2 C2 W2, (Builtin.append_ #[22, 9] ty #[.slice (some ⟨g, 0, none⟩) n C, .string s]).run Tryz.prog W = .ok (.slice (some ⟨g2, 0, none⟩) (n + m) C2) W2 ∧ Al W2 g2 C2 (l ++ nB s) ∧ g ≤ g2 ∧ Below g W W2 := by
 obtain ⟨i0, hi, H, E, I⟩ := info_parts info5
 subst hm
 obtain ⟨h1, h2, h3, h4⟩ := h
 have hf := Lib.run_firstCells_string (P := Tryz.prog) W i0.size s
 have F : (l ++ nB s).length = n + s.size := by rw [zG, zdh, hn]
 by_cases B : n + s.size ≤ C
 ·have G := run_storeCells_cells (P := Tryz.prog) g n (Lib.strCells s) 0 W (fun j hj => (h3 _ (by rw [Lib.strCells_length] at hj; omega)).1) (fun j hj => (h3 _ (by rw [Lib.strCells_length] at hj; omega)).2) (Lib.strCells_oneCell s)
  rw [Nat.add_zero] at G
  have ha : (⟨g, 0, none⟩ : Addr).add (n * i0.size) = ⟨g, n, none⟩ := by rw [E, Addr.add_lit]; simp
  refine ⟨g, C, W.setCells g n (Lib.strCells s), ?_, ⟨?_, zq, fun j hj => ⟨World.isSome_setCells g _ _ _ _ (h3 j hj).1, ?_⟩, fun j hj => ?_⟩, Lr, below_sets g g n _ W Lr (Nat.le_of_lt h1)⟩
  ·simp [Builtin.append_, run_underlying Tryz.underlying22, run_underlying Tryz.underlying9, sizeOf, typeInfo, hi, Builtin.lenOf, B, hf, ha, G]
  ·exact zO h1 (below_sets g g n _ W Lr (Nat.le_of_lt h1)).size
  ·rw [World.frozen?_setCells]
   exact (h3 j hj).2
  ·rw [F] at hj
   by_cases N : j < n
   ·rw [World.cell?_setCells_out g _ _ W _ (fun i hi => .inl (by simp only; omega)), h4 j zq]
    simp only [List.getD]
    rw [zL zq]
   ·have := World.cell?_setCells_in g (Lib.strCells s) n W (fun i hi => (h3 _ (by rw [Lib.strCells_length] at hi; omega)).1) (j - n) (by rw [Lib.strCells_length]; omega)
    rw [show n + (j - n) = j by omega] at this
    rw [this]
    simp only [List.getD]
    rw [List.getElem?_append_right zq, hn]
    have A : j - n < (nB s).length := by rw [zdh]; omega
    simp [str_nB, By, zI A]
 ·have J : (By l).length = n * i0.size := by rw [E]; simp [By, hn]
  have D : ∀ j v, (By l)[j]? = some v → W.cell? ((⟨g, 0, none⟩ : Addr).add j) = some v := fun j v hv => by
   obtain ⟨hj, rfl⟩ := getElem?_By l j v hv
   rw [Addr.add_lit, Nat.zero_add]
   exact h4 j hj
  have hr := Lib.run_append_grow_string (P := Tryz.prog) W 22 9 ty 5 i0 (.int .u8 0) Tryz.underlying22 Tryz.underlying9 hi H ⟨g, 0, none⟩ n C (By l) J D s zq zq (by rw [I]; exact growslice_fits zq zq)
  have O := grownCap_ge W (n + s.size) C 5
  have K : Below W.heap.size W (W.drew.alloc (.cells ((By l).toArray ++ (Lib.strCells s).toArray ++ Builtin.zeroCells (Value.int .u8 0).cells (grownCap W (n + s.size) C 5 - (n + s.size))) 5)) := (Below.refl _ W).drew.alloc Lr _
  have hb := heap_alloc_last W.drew (.cells ((By l).toArray ++ (Lib.strCells s).toArray ++ Builtin.zeroCells (Value.int .u8 0).cells (grownCap W (n + s.size) C 5 - (n + s.size))) 5)
  have hsz : ((By l).toArray ++ (Lib.strCells s).toArray ++ Builtin.zeroCells (Value.int .u8 0).cells (grownCap W (n + s.size) C 5 - (n + s.size))).size = grownCap W (n + s.size) C 5 := by
   have hq : (Value.int IntKind.u8 0).cells.size = 1 := rfl
   have L : (By l).length = n := by simp [By, hn]
   simp only [Array.size_append, List.size_toArray, size_zeroCells, hq, L, Lib.strCells_length]
   omega
  have M : W.drew.heap.size = W.heap.size := rfl
  rw [M] at hb
  refine ⟨W.heap.size, _, _, hr, ⟨?_, zq, fun j hj => ⟨?_, ?_⟩, fun j hj => ?_⟩, Nat.le_of_lt h1, K.mono (Nat.le_of_lt h1)⟩
  ·exact zaf hb
  ·simp only [World.cell?, hb]
   rw [Array.getElem?_eq_getElem (by rw [hsz]; exact hj)]
   rfl
  ·simp only [World.frozen?, hb, Bool.and_eq_false_iff, zP]
   right
   omega
  ·rw [F] at hj
   rw [cell_of_row _ _ j _ _ _ hb]
   rw [str_nB, Array.getElem?_append_left (by simp [By, zdh, hn]; omega), List.append_toArray, List.getElem?_toArray]
   have A : j < (l ++ nB s).length := zq
   have e : By l ++ By (nB s) = By (l ++ nB s) := by simp [By]
   rw [e]
   unfold By
   have e2 : (l ++ nB s).getD j 0 = (l ++ nB s)[j] := by
    unfold List.getD
    rw [zI A]
    rfl
   rw [List.getElem?_map, zI A, e2]
   rfl
end Go.Proofs.YtbkhjeacmmbabaaGreatDoor
