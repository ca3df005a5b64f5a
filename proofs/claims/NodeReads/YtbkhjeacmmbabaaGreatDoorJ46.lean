import Derived.Test.YtbkhjeacmmbabaaGreatDoorJ45
import Derived.Lib.ConvBytes
import Derived.Lib.AtoiErrMem
import Derived.Lib.AppendStr
namespace Go.Proofs.YtbkhjeacmmbabaaGreatDoor
set_option maxRecDepth 100000
set_option maxHeartbeats 4000000
open Go.RowKit
theorem RX.cells {w : World} {x : Nat} {l : List Int} {cs : List Cl} (h : RX w x l cs) (hy : Yes l cs) (hw : ∀ c ∈ cs, c.Wf) :
  Calls Tryz.prog 26 #[.pointer (some ⟨x, 0, none⟩)] w fun e w' => ∃ co cc, e = .returned (.slice co cs.length cc) ∧ Hid (OwnD w' 0 (.slice co cs.length cc) cs) ∧ Hid (Below w.heap.size w w') := by
 obtain ⟨N, hN⟩ : ∃ N, cs.length = N := ⟨_, rfl⟩
 have hN6 : N ≤ 65536 := by have := hy.len.1; omega
 have HN := zaa hN
 have HSM := zaa (hy.small hw)
 have HLN : Hid (∀ u, Below w.heap.size w u → Calls Tryz.prog 28 #[.pointer (some ⟨x, 0, none⟩)] u fun e w' => e = .returned (.int .i64 (N : Int)) ∧ w' = u) := zaa fun u hu => by
  have := (h.on hu).len
  rw [hN] at this
  exact this
 have HCL : Hid (∀ (u : World) (i : Nat) (c : Cl), Below w.heap.size w u → cs[i]? = some c → Calls Tryz.prog 61 #[.pointer (some ⟨x, 0, none⟩), .int .i64 (i : Int)] u (RcTo c u)) := zaa fun u i c hu hc => (h.on hu).cell hy hw i c hc
 rw [hN]
 clear h hy hw hN
 go_enter Tryz.func26, Tryz.ntmps26
 go_wp2_with fail
 go_loopw [3, 4] (fun v i wr => ∃ (ov : Value) (j : Nat), ov = v ∧ j ≤ N ∧ i = .int .i64 j ∧ Hid (OwnD wr w.heap.size ov (cs.take j)) ∧ Hid (Below w.heap.size w wr)) (fun _ i _ => N - (RowKit.intOf i).toNat)
 case atStart => exact ⟨_, 0, rfl, by omega, rfl, zaa (OwnD.nil _ _), zaa Br⟩
 case round =>
  obtain ⟨ov, j, hov, hj, rfl, HO, HB⟩ := hrel
  subst hov
  have bj : (j : Int) ≤ 65536 := by omega
  have HL1 := zaa (HLN.out wr HB.out)
  by_cases hlt : j < N
  ·have hltI : (j : Int) < (N : Int) := by omega
   obtain ⟨c, hc⟩ : ∃ c, cs[j]? = some c := ⟨_, zI (by rw [HN.out]; exact hlt)⟩
   have HTK : Hid (cs.take (j + 1) = cs.take j ++ [c]) := zaa (by rw [List.take_add_one, hc]; rfl)
   have HCC := zaa (HCL.out wr j c HB.out hc)
   clear hc
   go_wp2_with (first | (go_at_call 28; refine zac HL1.out ?_) | (go_at_call 61; refine HCC.out.mono ?_; rintro e w3 ⟨ko, kn, kc, vo, vn, vc, rfl, HQ, HBc⟩; refine Hid.out ?_))
   apply zaa
   clear HCC HL1
   obtain ⟨key, kd, val, pg, ct⟩ := c
   obtain ⟨hkn, hvn, ho1, ho2⟩ := HQ.out
   simp only at hkn hvn ho1 ho2 ⊢
   have HRO : Hid (R5B w3 w.heap.size [.slice ko kn kc, .int .i64 kd, .slice vo vn vc, .int .i64 pg, .int .i64 ct] [⟨key, kd, val, pg, ct⟩]) := zaa ⟨ko, kc, vo, vc, [], by simp only [hkn, hvn], by rw [hkn] at ho1; exact ho1.low HB.out.size, by rw [hvn] at ho2; exact ho2.low HB.out.size, rfl⟩
   have HB3 : Hid (Below w.heap.size w w3) := zaa (zae HB.out Lr HBc.out)
   have HBN : Hid ((cs.take j).length + 1 ≤ 200000) := zaa (by rw [zJ]; omega)
   obtain ⟨y1, hy1⟩ : ∃ y, w3.alloc (.cells #[.slice ko kn kc, .int .i64 kd, .slice vo vn vc, .int .i64 pg, .int .i64 ct] 50) = y := ⟨_, rfl⟩
   have hz1 : y1.heap.size = w3.heap.size + 1 := by rw [← hy1]; simp
   have hb1 : Below w3.heap.size w3 y1 := by rw [← hy1]; exact zad Br Lr _
   have hc1 : C5 y1 w3.heap.size (.slice ko kn kc) (.int .i64 kd) (.slice vo vn vc) (.int .i64 pg) (.int .i64 ct) := by rw [← hy1]; exact C5.box w3 _ _ _ _ _
   obtain ⟨y2, hy2⟩ : ∃ y, y1.alloc (.cells #[.slice ko kn kc, .int .i64 kd, .slice vo vn vc, .int .i64 pg, .int .i64 ct] 50) = y := ⟨_, rfl⟩
   have hb2 : Below y1.heap.size y1 y2 := by rw [← hy2]; exact zad Br Lr _
   have hb12 : Below w3.heap.size w3 y2 := zae hb1 Lr hb2
   have HOY : Hid (OwnD y2 w.heap.size ov (cs.take j)) := zaa ((HO.out.on HBc.out).on hb12)
   have HRY : Hid (R5B y2 w.heap.size [.slice ko kn kc, .int .i64 kd, .slice vo vn vc, .int .i64 pg, .int .i64 ct] [⟨key, kd, val, pg, ct⟩]) := zaa (HRO.out.keep (fun v l h => h.on Lr hb12))
   have HBY : Hid (Below w.heap.size w y2) := zaa (zae HB3.out Lr hb12)
   have HXY : Hid (∀ i u, ([.slice ko kn kc, .int .i64 kd, .slice vo vn vc, .int .i64 pg, .int .i64 ct] : List Value)[i]? = some u → y2.cell? ⟨w3.heap.size + 1, 0 + i, none⟩ = some u) := zaa (by
    obtain ⟨f0, f1, f2, f3, f4⟩ := (C5.box y1 (.slice ko kn kc) (.int .i64 kd) (.slice vo vn vc) (.int .i64 pg) (.int .i64 ct)).cells
    rw [hy2, hz1] at f0 f1 f2 f3 f4
    intro i u hu
    have hj5 : i < 5 := (zH.1 hu).1
    have hj' : i = 0 ∨ i = 1 ∨ i = 2 ∨ i = 3 ∨ i = 4 := by omega
    rcases hj' with rfl | rfl | rfl | rfl | rfl <;> (simp only [List.getElem?_cons_zero, List.getElem?_cons_succ, Option.some.injEq] at hu; subst hu; assumption))
   obtain ⟨c0, c1, c2, c3, c4⟩ := hc1.cells
   clear HQ ho1 ho2 hkn hvn hb1 hb2 hb12 HRO HO hc1
   go_wp2_with (at_builtin; refine app_cd _ rfl _ _ rfl w.heap.size (cs.take j) ⟨key, kd, val, pg, ct⟩ ov (w3.heap.size + 1) _ rfl rfl HOY.out HRY.out HXY.out HBN.out HBY.out.size ?_; intro v2 u2 HO2 HBU2; refine Hid.out ?_)
   apply zaa
   have HBU : Hid (Below w.heap.size w u2) := zaa (HBY.out.trans HBU2.out)
   rw [← HTK.out] at HO2
   clear HOY HBY HXY HRY hy1 hy2 hz1 c0 c1 c2 c3 c4 HBU2
   go_wp2
   go_roundw
   case rel => exact ⟨_, j + 1, rfl, by omega, by go_num, HO2, HBU⟩
   case measure => simp [RowKit.intOf]; omega
  ·obtain rfl : j = N := by omega
   have hltI : ¬ (j : Int) < (j : Int) := by omega
   have HOW : Hid (OwnD wr w.heap.size ov cs) := zaa (by
    have := HO.out
    rw [List.take_of_length_le (by rw [HN.out]; exact Lr)] at this
    exact this)
   obtain ⟨co, cc, hv, _⟩ := HOW.out.slc HSM.out (by rw [HN.out]; omega)
   rw [HN.out] at hv
   subst hv
   go_wp2_with (go_at_call 28; refine zac HL1.out ?_)
   go_ret
   exact ⟨co, cc, rfl, zaa HOW.out.low0, HB⟩
open Six
def Bx (w : World) (B bk : Nat) (LV : List Value) (N U : Nat) : Prop := ∃ lv v V D, Six.Bo9 w B bk lv v V D ∧ OwnY w B lv LV ∧ VB V U ∧ V.length = N
theorem Bx.on {w w' : World} {B bk N U : Nat} {LV : List Value} (h : Bx w B bk LV N U) (hb : Below w.heap.size w w') : Bx w' B bk LV N U := by
 obtain ⟨lv, v, V, D, h1, h2, h3⟩ := h
 exact ⟨lv, v, V, D, h1.on hb, h2.on hb, h3⟩
theorem zdd (w : World) (B bk : Nat) (LV : List Value) (N U lo hi : Nat) (ao : Option Addr) (n cap : Nat) (cs : List Cl) (h : Bx w B bk LV N U) (hn : N + 2 * n ≤ 4000000) (hn2 : n ≤ 100000) (hL : LV.length ≤ 1000) (hB : B ≤ w.heap.size) (hbk : B ≤ bk)
  (hg : Got w lo hi ao n cap cs) (hlo : B ≤ lo) (hw : ∀ d ∈ cs, d.Wf) (hl : ∀ d ∈ cs, d.key.length ≤ 65536 ∧ d.val.length ≤ 65536) (hU : U ≤ lo) :
  Calls Tryz.prog 10 #[.pointer (some ⟨bk, 0, none⟩), .slice ao n cap] w fun e w' => e = .returned (.tuple #[]) ∧ Hid (Bx w' B bk (LV ++ [.slice ao n cap]) (N + 2 * n) hi) ∧ Hid (Cf (B ≤ ·) w w') ∧ Hid (K3 w w') := by
 obtain ⟨lv, v, V, D, h1, h2, h3, h4⟩ := h
 obtain ⟨P, g1, g2, g3⟩ := hg
 refine (takeAll9 w B bk lv v V LV D U ao n cap cs P h1 h2 (by omega) hn2 hL hB hbk (g1.low hlo) hw hl h3 (zN hU g1.p0)).mono ?_
 rintro e w' ⟨rfl, lv', v', V', D', k1, k2, k3, k4, k5⟩
 exact ⟨rfl, zaa ⟨lv', v', V', D', k1.out, k2.out, k3.out.1.up g2, by rw [k3.out.2, h4]⟩, k4, k5⟩
theorem rgG_ne {u v : Value} {a b c e : Nat} (h : RgG u a b) (k : RgG v c e) (ho : b ≤ c) : (u.ownBlock = none ∨ u.ownBlock ≠ v.ownBlock) ∧ (v.ownBlock = none ∨ v.ownBlock ≠ u.ownBlock) := by
 cases hu : u.ownBlock with
 | none =>
  refine ⟨.inl rfl, ?_⟩
  cases hv : v.ownBlock with
  | none => exact .inl rfl
  | some _ => exact .inr (by simp)
 | some x =>
  cases hv : v.ownBlock with
  | none => exact ⟨.inr (by simp), .inl rfl⟩
  | some y =>
   have h1 := h x hu
   have h2 := k y hv
   refine ⟨.inr ?_, .inr ?_⟩ <;> (intro e; injection e with e; omega)
theorem ownedB (w : World) (B bk N U : Nat) (L : List (Option Addr × Nat × Nat × List Cl × Nat × Nat)) (h : Bx w B bk (L.map fun t => .slice t.1 t.2.1 t.2.2.1) N U) (hN : N ≤ 4000000) (hL : L.length ≤ 3) (hB : B ≤ w.heap.size)
  (hg : ∀ t ∈ L, Got w t.2.2.2.2.1 t.2.2.2.2.2 t.1 t.2.1 t.2.2.1 t.2.2.2.1 ∧ B ≤ t.2.2.2.2.1 ∧ t.2.2.2.1.length ≤ 65536) (hr : ∀ (i j : Nat) (s t : Option Addr × Nat × Nat × List Cl × Nat × Nat), L[i]? = some s → L[j]? = some t → i < j → s.2.2.2.2.2 ≤ t.2.2.2.2.1) :
  Calls Tryz.prog 12 #[.pointer (some ⟨bk, 0, none⟩)] w fun e u => e = .returned (.bool true) ∧ Hid (Cf (B ≤ ·) w u) := by
 obtain ⟨lv, v, V, D, h1, h2, h3, h4⟩ := h
 have hml : ∀ (t : Nat) (u : Value), (L.map fun t => Value.slice t.1 t.2.1 t.2.2.1)[t]? = some u → ∃ s, L[t]? = some s ∧ u = .slice s.1 s.2.1 s.2.2.1 := by
  intro t u ht
  rw [List.getElem?_map] at ht
  cases hs : L[t]? with
  | none => rw [hs] at ht; cases ht
  | some s => rw [hs] at ht; exact ⟨s, rfl, (Option.some.inj ht).symm⟩
 have hrg : ∀ s ∈ L, RgG (.slice s.1 s.2.1 s.2.2.1) s.2.2.2.2.1 s.2.2.2.2.2 := fun s hs => by
  obtain ⟨⟨P, _, _, g⟩, _⟩ := hg s hs
  exact g
 refine owned6 w B bk L.length lv v V _ D (fun t => ((L[t]?).map fun s => s.2.1).getD 0) h1 (by omega) h2 (by simp) (by omega) (fun t u ht => ?_) (fun t t' u u' ht ht' hne => ?_) (fun t => ?_) hB
 ·obtain ⟨s, hs, rfl⟩ := hml t u ht
  obtain ⟨⟨P, g1, _⟩, g4, g5⟩ := hg s (List.mem_of_getElem? hs)
  simp only [hs, Option.map_some, Option.getD_some]
  exact (g1.low g4).ownP g5
 ·obtain ⟨s, hs, rfl⟩ := hml t u ht
  obtain ⟨s', hs', rfl⟩ := hml t' u' ht'
  have r1 := hrg s (List.mem_of_getElem? hs)
  have r2 := hrg s' (List.mem_of_getElem? hs')
  by_cases e : t < t'
  ·exact (rgG_ne r1 r2 (hr t t' s s' hs hs' e)).1
  ·exact (rgG_ne r2 r1 (hr t' t s' s hs' hs (by omega))).2
 ·cases hs : L[t]? with
  | none => simp
  | some s =>
   obtain ⟨⟨P, g1, _⟩, _, g5⟩ := hg s (List.mem_of_getElem? hs)
   have := g1.1
   simp only [Option.map_some, Option.getD_some]
   omega
theorem alikeP_any (w : World) (B bk a x : Nat) (LV : List Value) (N U : Nat) (l : List Int) (cs : List Cl) (hA : ∀ u, Below B w u → AsksP u a l cs) (hx : RX w x l cs) (hy : Yes l cs) (hw : ∀ c ∈ cs, c.Wf) (hb : Bx w B bk LV N U) (hN : N ≤ 1000000) (hL : LV.length ≤ 900) (hB : B ≤ w.heap.size) (hbk : B ≤ bk) (hU : U ≤ w.heap.size) :
  Calls Tryz.prog 11 #[iP a, .pointer (some ⟨x, 0, none⟩), .pointer (some ⟨bk, 0, none⟩)] w fun e w' => e = .returned (.bool true) ∧ ∃ co cc lo hi, Hid (Got w' lo hi co cs.length cc cs ∧ w.heap.size ≤ lo) ∧ Hid (Bx w' B bk (LV ++ [.slice co cs.length cc]) (N + 2 * cs.length) hi) ∧ Hid (Cf (B ≤ ·) w w') ∧ Hid (K3 w w') := by
 obtain ⟨n, hn⟩ : ∃ n, cs.length = n := ⟨_, rfl⟩
 have hn6 : n ≤ 65536 := by have := hy.len.1; omega
 have HLN : Hid (cs.length ≤ 65536 ∧ ∀ d ∈ cs, d.key.length ≤ 65536 ∧ d.val.length ≤ 65536) := zaa hy.len
 have HW := zaa hw
 have HA := zaa hA
 have HX := zaa hx
 have HBX := zaa hb
 have HS : Hid (N ≤ 1000000 ∧ LV.length ≤ 900 ∧ B ≤ w.heap.size ∧ B ≤ bk ∧ U ≤ w.heap.size) := zaa ⟨hN, hL, hB, hbk, hU⟩
 have HSL : Hid (∀ u lo hi co cc, Got u lo hi co n cc cs → SlC u co n cc cs) := zaa fun u lo hi co cc h => h.slc hw hy.len.2 hy.len.1
 have HSD : Hid (∀ u co cc, OwnD u 0 (.slice co n cc) cs → SlC u co n cc cs) := zaa fun u co cc h => h.sl8 hy hw
 have HC : Hid (∀ u, Below B w u → Calls Tryz.prog 25 #[iP a] u fun e w' => ∃ co cc, e = .returned (.slice co n cc) ∧ Hid (Got w' u.heap.size w'.heap.size co n cc cs) ∧ Hid (Below u.heap.size u w')) := zaa fun u hu => by
  have := ncellsPX u a l cs (fun u' hu' => hA u' (hu.trans (hu'.mono (zN hB hu.size)))) hy.len.1
  unfold CelG at this
  rw [hn] at this
  exact this
 have HR : Hid (∀ u, RX u x l cs → Calls Tryz.prog 26 #[.pointer (some ⟨x, 0, none⟩)] u fun e w' => ∃ co cc, e = .returned (.slice co n cc) ∧ Hid (OwnD w' 0 (.slice co n cc) cs) ∧ Hid (Below u.heap.size u w')) := zaa fun u hu => by
  have := hu.cells hy hw
  rw [hn] at this
  exact this
 have HLEN : Hid (∀ u, Below B w u → Calls Tryz.prog 75 #[.pointer (some ⟨a, 0, none⟩)] u fun e w' => e = .returned (.int .i64 (n : Int)) ∧ w' = u) := zaa fun u hu => by
  have := (hA u hu).len
  rw [hn] at this
  exact this
 have HRLEN : Hid (∀ u, RX u x l cs → Calls Tryz.prog 28 #[.pointer (some ⟨x, 0, none⟩)] u fun e w' => e = .returned (.int .i64 (n : Int)) ∧ w' = u) := zaa fun u hu => by
  have := hu.len
  rw [hn] at this
  exact this
 obtain ⟨k, hk⟩ : ∃ k, l.getD 0 0 = k := ⟨_, rfl⟩
 obtain ⟨Z, hZ⟩ : ∃ Z : Nat, usX l cs = Z := ⟨_, rfl⟩
 have HKIND : Hid (∀ u, Below B w u → Calls Tryz.prog 219 #[.pointer (some ⟨a, 0, none⟩)] u fun e w' => e = .returned (.int .i64 k) ∧ w' = u) := zaa fun u hu => by rw [← hk]; exact (hA u hu).kind
 have HRKIND : Hid (∀ u, RX u x l cs → Calls Tryz.prog 27 #[.pointer (some ⟨x, 0, none⟩)] u fun e w' => e = .returned (.int .i64 k) ∧ w' = u) := zaa fun u hu => by rw [← hk]; exact hu.kind
 have HUSED : Hid (∀ u, Below B w u → Calls Tryz.prog 222 #[.pointer (some ⟨a, 0, none⟩)] u fun e w' => e = .returned (.int .i64 (Z : Int)) ∧ Hid (Below u.heap.size u w')) := zaa fun u hu => by rw [← hZ]; exact (hA u hu).used
 have HRUSED : Hid (∀ u, RX u x l cs → Calls Tryz.prog 29 #[.pointer (some ⟨x, 0, none⟩)] u fun e w' => e = .returned (.int .i64 (Z : Int)) ∧ Hid (Below u.heap.size u w')) := zaa fun u hu => by rw [← hZ]; exact hu.used hy hw
 rw [hn]
 clear hA hx hy hw hb hN hL hB hbk hU hn hk hZ
 have HC1 := zaa (HC.out w Br)
 go_enter Tryz.func11, Tryz.ntmps11
 go_wp2_with (go_at_call 25; refine HC1.out.mono ?_; rintro e u1 ⟨co, cc, rfl, HG1, HB1⟩; refine Hid.out ?_)
 apply zaa
 have HBw1 : Hid (Below w.heap.size w u1) := HB1
 have HC2 := zaa (HC.out u1 (HB1.out.mono HS.out.2.2.1))
 clear HC1 HB1
 go_wp2_with (go_at_call 25; refine HC2.out.mono ?_; rintro e u2 ⟨eo, ec, rfl, HG2, HB2⟩; refine Hid.out ?_)
 apply zaa
 have HBw2 : Hid (Below w.heap.size w u2) := zaa (zae HBw1.out Lr HB2.out)
 have HG12 := zaa (HG1.out.on HB2.out)
 have HR2 := zaa (HR.out u2 (HX.out.on HBw2.out))
 clear HC2 HB2 HG1
 go_wp2_with (go_at_call 26; refine HR2.out.mono ?_; rintro e u3 ⟨wo, wc, rfl, HW3, HB3⟩; refine Hid.out ?_)
 apply zaa
 have HBw3 : Hid (Below w.heap.size w u3) := zaa (zae HBw2.out Lr HB3.out)
 have HG13 := zaa (HG12.out.on HB3.out)
 have HG23 := zaa (HG2.out.on HB3.out)
 have HSM := zaa (zck co wo n cc wc cs u3 (HSL.out _ _ _ _ _ HG13.out) (HSD.out _ _ _ HW3.out))
 clear HR2 HB3 HG12 HG2 HBw2
 go_wp2_with (go_at_call 9; refine HSM.out.mono ?_; rintro e u4 ⟨rfl, HB4⟩; refine Hid.out ?_)
 apply zaa
 have HBw4 : Hid (Below w.heap.size w u4) := zaa (zae HBw3.out Lr HB4.out)
 have HG14 := zaa (HG13.out.on HB4.out)
 have HG24 := zaa (HG23.out.on HB4.out)
 have HW4 := zaa (HW3.out.on HB4.out)
 have HTA := zaa (zdd u4 B bk LV N U w.heap.size u1.heap.size co n cc cs (HBX.out.on HBw4.out) (by have := HS.out.1; omega) (by omega) (by have := HS.out.2.1; omega) (zN HS.out.2.2.1 HBw4.out.size) HS.out.2.2.2.1 HG14.out HS.out.2.2.1 HW.out HLN.out.2 HS.out.2.2.2.2)
 clear HSM HB4 HG13 HG23 HW3 HBw3
 go_wp2_with (go_at_call 10; refine HTA.out.mono ?_; rintro e u5 ⟨rfl, HBX5, HC5, HK5⟩; refine Hid.out ?_)
 apply zaa
 have HCF5 : Hid (Cf (B ≤ ·) w u5) := zaa ((Cf.of_below HBw4.out).go HC5.out)
 have HKK5 : Hid (K3 w u5) := zaa ((K3.of_below HBw4.out).trans HK5.out)
 have HG15 := zaa (HG14.out.k3 HK5.out)
 have HG25 := zaa (HG24.out.k3 HK5.out)
 have HW5 := zaa (HW4.out.k3 HK5.out)
 have HSM := zaa (zck eo wo n ec wc cs u5 (HSL.out _ _ _ _ _ HG25.out) (HSD.out _ _ _ HW5.out))
 clear HTA HC5 HK5 HG14 HG24 HW4 HBw4 HBX
 go_wp2_with (go_at_call 9; refine HSM.out.mono ?_; rintro e u6 ⟨rfl, HB6⟩; refine Hid.out ?_)
 apply zaa
 have HCF6 : Hid (Cf (B ≤ ·) w u6) := zaa (HCF5.out.go (Cf.of_below HB6.out))
 have HKK6 : Hid (K3 w u6) := zaa (HKK5.out.trans (K3.of_below HB6.out))
 have HG16 := zaa (HG15.out.on HB6.out)
 have HBX6 := zaa (HBX5.out.on HB6.out)
 have HBB : Hid (∀ u, Cf (B ≤ ·) w u → Below B w u) := zaa fun u hc => hc.below HS.out.2.2.1 (fun k hk e => by omega)
 have HL6 := zaa (HLEN.out u6 (HBB.out _ HCF6.out))
 have HK6 := zaa (HKIND.out u6 (HBB.out _ HCF6.out))
 have HU6 := zaa (HUSED.out u6 (HBB.out _ HCF6.out))
 have HX6 : Hid (RX u6 x l cs) := zaa (HX.out.k3 HKK6.out)
 have HRL6 := zaa (HRLEN.out u6 HX6.out)
 have HRK6 := zaa (HRKIND.out u6 HX6.out)
 have HRU6 : Hid (∀ u, Below u6.heap.size u6 u → Calls Tryz.prog 29 #[.pointer (some ⟨x, 0, none⟩)] u fun e w' => e = .returned (.int .i64 (Z : Int)) ∧ Hid (Below u6.heap.size u6 w')) := zaa fun u hu => (HRUSED.out u (HX6.out.on hu)).mono fun e w' h => ⟨h.1, zaa (zae hu Lr h.2.out)⟩
 have e1 : (k == k) = true := by simp
 have e2 : ((n : Int) == (n : Int)) = true := by simp
 have e3 : ((Z : Int) == (Z : Int)) = true := by simp
 clear HSM HB6 HCF5 HKK5 HG15 HG25 HW5 HBX5
 go_wp2_with (first
  | (go_at_call 219; refine zac HK6.out ?_)
  | (go_at_call 27; refine zac HRK6.out ?_)
  | (go_at_call 75; refine zac HL6.out ?_)
  | (go_at_call 28; refine zac HRL6.out ?_)
  | (go_at_call 222; refine HU6.out.mono ?_; rintro e u7 ⟨rfl, HB7⟩)
  | (go_at_call 29; refine (HRU6.out _ HB7.out).mono ?_; rintro e u8 ⟨rfl, HB8⟩))
 go_ret
 exact ⟨by first | rfl | simp, co, cc, w.heap.size, u1.heap.size, zaa ⟨HG16.out.on HB8.out, Lr⟩, zaa (HBX6.out.on HB8.out), zaa (HCF6.out.go (Cf.of_below HB8.out)), zaa (HKK6.out.trans (K3.of_below HB8.out))⟩
theorem alikeQ_any (w : World) (B bk a x : Nat) (LV : List Value) (N U : Nat) (l : List Int) (cs : List Cl) (hA : ∀ u, Below B w u → AsksQ u a l cs) (hx : RX w x l cs) (hy : Yes l cs) (hw : ∀ c ∈ cs, c.Wf) (hb : Bx w B bk LV N U) (hN : N ≤ 1000000) (hL : LV.length ≤ 900) (hB : B ≤ w.heap.size) (hbk : B ≤ bk) (hU : U ≤ w.heap.size) :
  Calls Tryz.prog 11 #[iQ a, .pointer (some ⟨x, 0, none⟩), .pointer (some ⟨bk, 0, none⟩)] w fun e w' => e = .returned (.bool true) ∧ ∃ co cc lo hi, Hid (Got w' lo hi co cs.length cc cs ∧ w.heap.size ≤ lo) ∧ Hid (Bx w' B bk (LV ++ [.slice co cs.length cc]) (N + 2 * cs.length) hi) ∧ Hid (Cf (B ≤ ·) w w') ∧ Hid (K3 w w') := by
 obtain ⟨n, hn⟩ : ∃ n, cs.length = n := ⟨_, rfl⟩
 have hn6 : n ≤ 65536 := by have := hy.len.1; omega
 have HLN : Hid (cs.length ≤ 65536 ∧ ∀ d ∈ cs, d.key.length ≤ 65536 ∧ d.val.length ≤ 65536) := zaa hy.len
 have HW := zaa hw
 have HA := zaa hA
 have HX := zaa hx
 have HBX := zaa hb
 have HS : Hid (N ≤ 1000000 ∧ LV.length ≤ 900 ∧ B ≤ w.heap.size ∧ B ≤ bk ∧ U ≤ w.heap.size) := zaa ⟨hN, hL, hB, hbk, hU⟩
 have HSL : Hid (∀ u lo hi co cc, Got u lo hi co n cc cs → SlC u co n cc cs) := zaa fun u lo hi co cc h => h.slc hw hy.len.2 hy.len.1
 have HSD : Hid (∀ u co cc, OwnD u 0 (.slice co n cc) cs → SlC u co n cc cs) := zaa fun u co cc h => h.sl8 hy hw
 have HC : Hid (∀ u, Below B w u → Calls Tryz.prog 25 #[iQ a] u fun e w' => ∃ co cc, e = .returned (.slice co n cc) ∧ Hid (Got w' u.heap.size w'.heap.size co n cc cs) ∧ Hid (Below u.heap.size u w')) := zaa fun u hu => by
  have := ncellsQX u a l cs (fun u' hu' => hA u' (hu.trans (hu'.mono (zN hB hu.size)))) hy.len.1
  unfold CelG at this
  rw [hn] at this
  exact this
 have HR : Hid (∀ u, RX u x l cs → Calls Tryz.prog 26 #[.pointer (some ⟨x, 0, none⟩)] u fun e w' => ∃ co cc, e = .returned (.slice co n cc) ∧ Hid (OwnD w' 0 (.slice co n cc) cs) ∧ Hid (Below u.heap.size u w')) := zaa fun u hu => by
  have := hu.cells hy hw
  rw [hn] at this
  exact this
 have HLEN : Hid (∀ u, Below B w u → Calls Tryz.prog 88 #[.pointer (some ⟨a, 0, none⟩)] u fun e w' => e = .returned (.int .i64 (n : Int)) ∧ w' = u) := zaa fun u hu => by
  have := (hA u hu).len
  rw [hn] at this
  exact this
 have HRLEN : Hid (∀ u, RX u x l cs → Calls Tryz.prog 28 #[.pointer (some ⟨x, 0, none⟩)] u fun e w' => e = .returned (.int .i64 (n : Int)) ∧ w' = u) := zaa fun u hu => by
  have := hu.len
  rw [hn] at this
  exact this
 obtain ⟨k, hk⟩ : ∃ k, l.getD 0 0 = k := ⟨_, rfl⟩
 obtain ⟨Z, hZ⟩ : ∃ Z : Nat, usX l cs = Z := ⟨_, rfl⟩
 have HKIND : Hid (∀ u, Below B w u → Calls Tryz.prog 232 #[.pointer (some ⟨a, 0, none⟩)] u fun e w' => e = .returned (.int .i64 k) ∧ w' = u) := zaa fun u hu => by rw [← hk]; exact (hA u hu).kind
 have HRKIND : Hid (∀ u, RX u x l cs → Calls Tryz.prog 27 #[.pointer (some ⟨x, 0, none⟩)] u fun e w' => e = .returned (.int .i64 k) ∧ w' = u) := zaa fun u hu => by rw [← hk]; exact hu.kind
 have HUSED : Hid (∀ u, Below B w u → Calls Tryz.prog 236 #[.pointer (some ⟨a, 0, none⟩)] u fun e w' => e = .returned (.int .i64 (Z : Int)) ∧ Hid (Below u.heap.size u w')) := zaa fun u hu => by rw [← hZ]; exact (hA u hu).used
 have HRUSED : Hid (∀ u, RX u x l cs → Calls Tryz.prog 29 #[.pointer (some ⟨x, 0, none⟩)] u fun e w' => e = .returned (.int .i64 (Z : Int)) ∧ Hid (Below u.heap.size u w')) := zaa fun u hu => by rw [← hZ]; exact hu.used hy hw
 rw [hn]
 clear hA hx hy hw hb hN hL hB hbk hU hn hk hZ
 have HC1 := zaa (HC.out w Br)
 go_enter Tryz.func11, Tryz.ntmps11
 go_wp2_with (go_at_call 25; refine HC1.out.mono ?_; rintro e u1 ⟨co, cc, rfl, HG1, HB1⟩; refine Hid.out ?_)
 apply zaa
 have HBw1 : Hid (Below w.heap.size w u1) := HB1
 have HC2 := zaa (HC.out u1 (HB1.out.mono HS.out.2.2.1))
 clear HC1 HB1
 go_wp2_with (go_at_call 25; refine HC2.out.mono ?_; rintro e u2 ⟨eo, ec, rfl, HG2, HB2⟩; refine Hid.out ?_)
 apply zaa
 have HBw2 : Hid (Below w.heap.size w u2) := zaa (zae HBw1.out Lr HB2.out)
 have HG12 := zaa (HG1.out.on HB2.out)
 have HR2 := zaa (HR.out u2 (HX.out.on HBw2.out))
 clear HC2 HB2 HG1
 go_wp2_with (go_at_call 26; refine HR2.out.mono ?_; rintro e u3 ⟨wo, wc, rfl, HW3, HB3⟩; refine Hid.out ?_)
 apply zaa
 have HBw3 : Hid (Below w.heap.size w u3) := zaa (zae HBw2.out Lr HB3.out)
 have HG13 := zaa (HG12.out.on HB3.out)
 have HG23 := zaa (HG2.out.on HB3.out)
 have HSM := zaa (zck co wo n cc wc cs u3 (HSL.out _ _ _ _ _ HG13.out) (HSD.out _ _ _ HW3.out))
 clear HR2 HB3 HG12 HG2 HBw2
 go_wp2_with (go_at_call 9; refine HSM.out.mono ?_; rintro e u4 ⟨rfl, HB4⟩; refine Hid.out ?_)
 apply zaa
 have HBw4 : Hid (Below w.heap.size w u4) := zaa (zae HBw3.out Lr HB4.out)
 have HG14 := zaa (HG13.out.on HB4.out)
 have HG24 := zaa (HG23.out.on HB4.out)
 have HW4 := zaa (HW3.out.on HB4.out)
 have HTA := zaa (zdd u4 B bk LV N U w.heap.size u1.heap.size co n cc cs (HBX.out.on HBw4.out) (by have := HS.out.1; omega) (by omega) (by have := HS.out.2.1; omega) (zN HS.out.2.2.1 HBw4.out.size) HS.out.2.2.2.1 HG14.out HS.out.2.2.1 HW.out HLN.out.2 HS.out.2.2.2.2)
 clear HSM HB4 HG13 HG23 HW3 HBw3
 go_wp2_with (go_at_call 10; refine HTA.out.mono ?_; rintro e u5 ⟨rfl, HBX5, HC5, HK5⟩; refine Hid.out ?_)
 apply zaa
 have HCF5 : Hid (Cf (B ≤ ·) w u5) := zaa ((Cf.of_below HBw4.out).go HC5.out)
 have HKK5 : Hid (K3 w u5) := zaa ((K3.of_below HBw4.out).trans HK5.out)
 have HG15 := zaa (HG14.out.k3 HK5.out)
 have HG25 := zaa (HG24.out.k3 HK5.out)
 have HW5 := zaa (HW4.out.k3 HK5.out)
 have HSM := zaa (zck eo wo n ec wc cs u5 (HSL.out _ _ _ _ _ HG25.out) (HSD.out _ _ _ HW5.out))
 clear HTA HC5 HK5 HG14 HG24 HW4 HBw4 HBX
 go_wp2_with (go_at_call 9; refine HSM.out.mono ?_; rintro e u6 ⟨rfl, HB6⟩; refine Hid.out ?_)
 apply zaa
 have HCF6 : Hid (Cf (B ≤ ·) w u6) := zaa (HCF5.out.go (Cf.of_below HB6.out))
 have HKK6 : Hid (K3 w u6) := zaa (HKK5.out.trans (K3.of_below HB6.out))
 have HG16 := zaa (HG15.out.on HB6.out)
 have HBX6 := zaa (HBX5.out.on HB6.out)
 have HBB : Hid (∀ u, Cf (B ≤ ·) w u → Below B w u) := zaa fun u hc => hc.below HS.out.2.2.1 (fun k hk e => by omega)
 have HL6 := zaa (HLEN.out u6 (HBB.out _ HCF6.out))
 have HK6 := zaa (HKIND.out u6 (HBB.out _ HCF6.out))
 have HU6 := zaa (HUSED.out u6 (HBB.out _ HCF6.out))
 have HX6 : Hid (RX u6 x l cs) := zaa (HX.out.k3 HKK6.out)
 have HRL6 := zaa (HRLEN.out u6 HX6.out)
 have HRK6 := zaa (HRKIND.out u6 HX6.out)
 have HRU6 : Hid (∀ u, Below u6.heap.size u6 u → Calls Tryz.prog 29 #[.pointer (some ⟨x, 0, none⟩)] u fun e w' => e = .returned (.int .i64 (Z : Int)) ∧ Hid (Below u6.heap.size u6 w')) := zaa fun u hu => (HRUSED.out u (HX6.out.on hu)).mono fun e w' h => ⟨h.1, zaa (zae hu Lr h.2.out)⟩
 have e1 : (k == k) = true := by simp
 have e2 : ((n : Int) == (n : Int)) = true := by simp
 have e3 : ((Z : Int) == (Z : Int)) = true := by simp
 clear HSM HB6 HCF5 HKK5 HG15 HG25 HW5 HBX5
 go_wp2_with (first
  | (go_at_call 232; refine zac HK6.out ?_)
  | (go_at_call 27; refine zac HRK6.out ?_)
  | (go_at_call 88; refine zac HL6.out ?_)
  | (go_at_call 28; refine zac HRL6.out ?_)
  | (go_at_call 236; refine HU6.out.mono ?_; rintro e u7 ⟨rfl, HB7⟩)
  | (go_at_call 29; refine (HRU6.out _ HB7.out).mono ?_; rintro e u8 ⟨rfl, HB8⟩))
 go_ret
 exact ⟨by first | rfl | simp, co, cc, w.heap.size, u1.heap.size, zaa ⟨HG16.out.on HB8.out, Lr⟩, zaa (HBX6.out.on HB8.out), zaa (HCF6.out.go (Cf.of_below HB8.out)), zaa (HKK6.out.trans (K3.of_below HB8.out))⟩
def nB (t : ByteArray) : List Int := t.data.toList.map fun b => (b.toNat : Int)
theorem zdt (t : ByteArray) : (nB t).length = t.size := by unfold nB; rw [List.length_map, Array.length_toList]; rfl
theorem nB_wf (t : ByteArray) : Wf (nB t) := by
 intro x hx
 simp only [nB, List.mem_map] at hx
 obtain ⟨b, _, rfl⟩ := hx
 have := b.toNat_lt
 omega
theorem nB_getD (t : ByteArray) (j : Nat) : (nB t).getD j 0 = ((t.data.toList.getD j 0).toNat : Int) := by
 simp only [nB, List.getD, List.getElem?_map]
 cases t.data.toList[j]? <;> simp
theorem conv8 (w : World) (t : ByteArray) (h : t.size ≤ 140737488355328) : ∃ c W, (convert 9 22 (.string t)).run Tryz.prog w = .ok (.slice (some ⟨w.heap.size, 0, none⟩) t.size c) W ∧ Sl W (some ⟨w.heap.size, 0, none⟩) t.size c (nB t) ∧ Below w.heap.size w W ∧ w.heap.size < W.heap.size := by
 refine ⟨_, _, Lib.run_convert_string_bytes w 9 22 5 t Tryz.underlying9 Tryz.underlying22 Tryz.underlying5, ?_, Lib.bytesWorld_below w 5 t, by rw [Lib.bytesWorld_size]; omega⟩
 refine ⟨zdt t, grownCap_ge _ _ _ _, h, nB_wf t, (by intro h; cases h), .inr ⟨w.heap.size, 0, rfl, by rw [Lib.bytesWorld_size]; omega, fun i hi => ?_⟩⟩
 rw [Nat.zero_add, Lib.bytesWorld_cell w 5 t i hi, nB_getD]
def ValTo (k v : ByteArray) (w : World) (e : Ending) (w' : World) : Prop :=
 ∃ g1 c1 g2 c2, e = .returned (.agg #[.slice (some ⟨g1, 0, none⟩) k.size c1, .int .i64 1, .slice (some ⟨g2, 0, none⟩) v.size c2, .int .i64 0, .int .i64 0]) ∧ Hid (Sl w' (some ⟨g1, 0, none⟩) k.size c1 (nB k) ∧ Sl w' (some ⟨g2, 0, none⟩) v.size c2 (nB v) ∧ w.heap.size ≤ g1 ∧ w.heap.size ≤ g2) ∧ Hid (Below w.heap.size w w')
theorem value8_any (k v : ByteArray) (hk : k.size ≤ 140737488355328) (hv : v.size ≤ 140737488355328) (w : World) : Calls Tryz.prog 14 #[.string k, .string v] w (ValTo k v w) := by
 obtain ⟨y, hy⟩ : ∃ y, w.alloc (.cells #[.slice none 0 0, .int .i64 0, .slice none 0 0, .int .i64 0, .int .i64 0] 50) = y := ⟨_, rfl⟩
 have hby : Below w.heap.size w y := by rw [← hy]; exact zad Br Lr _
 obtain ⟨s, hs⟩ : ∃ s, w.heap.size = s := ⟨_, rfl⟩
 have h5 : C5 y s (.slice none 0 0) (.int .i64 0) (.slice none 0 0) (.int .i64 0) (.int .i64 0) := by rw [← hy, ← hs]; exact C5.box _ _ _ _ _ _
 obtain ⟨c1, W1, k1, s1, b1, l1⟩ := conv8 y k hk
 obtain ⟨c2, W2, k2, s2, b2, l2⟩ := conv8 W1 v hv
 obtain ⟨g1, hg1⟩ : ∃ g1, y.heap.size = g1 := ⟨_, rfl⟩
 obtain ⟨g2, hg2⟩ : ∃ g2, W1.heap.size = g2 := ⟨_, rfl⟩
 have hsz : y.heap.size = s + 1 := by rw [← hy, ← hs]; simp
 rw [hg1] at k1 s1
 rw [hg2] at k2 s2
 have h52 : C5 W2 s (.slice none 0 0) (.int .i64 0) (.slice none 0 0) (.int .i64 0) (.int .i64 0) := zag (zag h5 b1) b2
 obtain ⟨f0, f1, f2, f3, f4⟩ := h52.free
 obtain ⟨d0, d1, d2, d3, d4⟩ := h52.cells
 have H5 := zaa h52
 have HS1 := zaa (s1.on Lr b2)
 have HS2 := zaa s2
 have HB : Hid (Below w.heap.size w W2) := zaa (zae (zae hby Lr b1) Lr b2)
 have HN : Hid (s < g1 ∧ s < g2 ∧ w.heap.size = s) := zaa (by have := b1.size; omega)
 clear h5 h52 s1 s2 b1 b2 l1 l2 hby hsz hg1 hg2
 go_enter Tryz.func14, Tryz.ntmps14
 go_wp2_with fail
 refine bodyPost_ret (results_cell_row rfl _ _ s 50 #[.slice (some ⟨g1, 0, none⟩) k.size c1, .int .i64 1, .slice (some ⟨g2, 0, none⟩) v.size c2, .int .i64 0, .int .i64 0] (0, 0) _ (by rfl) (H5.out.put _ _ _ _ _) Tryz.underlying50 rfl zal) rfl ?_
 have hcf := zas W2 s (.slice (some ⟨g1, 0, none⟩) k.size c1) (.int .i64 1) (.slice (some ⟨g2, 0, none⟩) v.size c2) (.int .i64 0) (.int .i64 0)
 obtain ⟨n1, n2, n3⟩ := HN.out
 refine ⟨g1, c1, g2, c2, rfl, zaa ⟨HS1.out.cf hcf (.inr fun p hp => ?_), HS2.out.cf hcf (.inr fun p hp => ?_), by omega, by omega⟩, zaa (HB.out.trans (hcf.below HB.out.size (fun i hi e => by omega)))⟩
 ·injection hp with hp; subst hp; simp only; omega
 ·injection hp with hp; subst hp; simp only; omega
theorem nB_str {l : List Int} (h : Wf l) : nB (strOfNums l) = l := by
 unfold nB
 rw [strOfNums_data, List.map_map]
 conv => rhs; rw [← List.map_id l]
 refine List.map_congr_left fun x hx => ?_
 have := h x hx
 simp only [Function.comp_apply, UInt8.toNat_ofNat', id_eq]
 omega
def Al (w : World) (g C : Nat) (l : List Int) : Prop :=
 g < w.heap.size ∧ l.length ≤ C ∧ (∀ j, j < C → (w.cell? ⟨g, j, none⟩).isSome = true ∧ w.frozen? ⟨g, j, none⟩ = false) ∧ ∀ j, j < l.length → w.cell? ⟨g, j, none⟩ = some (.int .u8 (l.getD j 0))
theorem frozen_block {w w' : World} {a : Addr} (e : w'.heap[a.block]? = w.heap[a.block]?) : w'.frozen? a = w.frozen? a := by
 unfold World.frozen?
 rw [e]
theorem Al.cf {F : Nat → Prop} {w w' : World} {g C : Nat} {l : List Int} (h : Al w g C l) (hc : Cf F w w') (hf : ¬ F g) : Al w' g C l := by
 have e := hc.block g h.1 hf
 refine ⟨zO h.1 hc.size, h.2.1, fun j hj => ⟨?_, ?_⟩, fun j hj => ?_⟩
 ·rw [World.cell?_of_block (a := ⟨g, j, none⟩) e]
  exact (h.2.2.1 j hj).1
 ·rw [frozen_block (a := ⟨g, j, none⟩) e]
  exact (h.2.2.1 j hj).2
 ·rw [World.cell?_of_block (a := ⟨g, j, none⟩) e]
  exact h.2.2.2 j hj
theorem Al.on {w w' : World} {g C : Nat} {l : List Int} (h : Al w g C l) (hb : Below w.heap.size w w') : Al w' g C l := h.cf (Cf.of_below (F := fun _ => False) hb) (fun e => e)
theorem Al.set {w : World} {g C : Nat} {l : List Int} (h : Al w g C l) {k : Nat} (hk : k < l.length) (y : Int) : Al (w.setCell ⟨g, k, none⟩ (.int .u8 y)) g C (l.set k y) := by
 obtain ⟨h1, h2, h3, h4⟩ := h
 refine ⟨by simpa using h1, by simpa using h2, fun j hj => ⟨?_, ?_⟩, fun j hj => ?_⟩
 ·by_cases e : j = k
  ·subst e
   obtain ⟨u, hu⟩ := Option.isSome_iff_exists.1 (h3 j hj).1
   rw [World.cell?_setCell_same _ _ _ hu]
   rfl
  ·rw [World.cell?_setCell_other _ _ _ _ (by simp)]
   exact (h3 j hj).1
 ·rw [World.frozen?_setCell]
  exact (h3 j hj).2
 ·rw [List.length_set] at hj
  by_cases e : j = k
  ·subst e
   rw [World.cell?_setCell_same _ _ _ (h4 j hj)]
   simp [List.getD, hj]
  ·rw [World.cell?_setCell_other _ _ _ _ (by simp), h4 j hj]
   simp [List.getD, Ne.symm e]
theorem Al.sl {w : World} {g C : Nat} {l : List Int} (h : Al w g C l) (hw : Wf l) (m : Nat) (hm : m ≤ l.length) (h8 : m ≤ 140737488355328) : Sl w (some ⟨g, 0, none⟩) m C (l.take m) := by
 refine ⟨by rw [zJ]; omega, zN hm h.2.1, h8, hw.take _, (by intro h; cases h), .inr ⟨g, 0, rfl, h.1, fun i hi => ?_⟩⟩
 rw [Nat.zero_add, h.2.2.2 i (by omega)]
 simp [List.getD, hi]
theorem al_conv (w : World) (t : ByteArray) : ∃ c W, (convert 9 22 (.string t)).run Tryz.prog w = .ok (.slice (some ⟨w.heap.size, 0, none⟩) t.size c) W ∧ Al W w.heap.size c (nB t) ∧ Below w.heap.size w W := by
 have hge : t.size ≤ grownCap w t.size 0 5 := grownCap_ge _ _ _ _
 refine ⟨_, _, Lib.run_convert_string_bytes w 9 22 5 t Tryz.underlying9 Tryz.underlying22 Tryz.underlying5, ⟨by rw [Lib.bytesWorld_size]; omega, by rw [zdt]; exact hge, fun j hj => ?_, fun j hj => ?_⟩, Lib.bytesWorld_below w 5 t⟩
 ·have hz : (Lib.bytesCells w 5 t).size = grownCap w t.size 0 5 := by
   have e : t.data.size = t.size := rfl
   simp only [Lib.bytesCells, Array.size_append, Array.size_map, Array.size_replicate, e]
   omega
  constructor
  ·simp only [World.cell?, Lib.bytesWorld_at_new]
   rw [Array.getElem?_eq_getElem (by rw [hz]; exact hj)]
   rfl
  ·simp only [World.frozen?, Lib.bytesWorld_at_new, Bool.and_eq_false_iff, zP]
   left
   rw [hz]
   omega
 ·rw [zdt] at hj
  rw [Lib.bytesWorld_cell w 5 t j hj, nB_getD]
theorem str_nB (s : ByteArray) : Lib.strCells s = By (nB s) := by
 unfold Lib.strCells By nB
 rw [List.map_map]
 rfl
theorem al_tail (W : World) (g C n : Nat) (l : List Int) (h : Al W g C l) (hn : l.length = n) (s : ByteArray) (m : Nat) (hm : s.size = m) (h8 : n + m ≤ 140737488355328) (ty : TypeId) :
  ∃ g2 C2 W2, (Builtin.append_ #[22, 9] ty #[.slice (some ⟨g, 0, none⟩) n C, .string s]).run Tryz.prog W = .ok (.slice (some ⟨g2, 0, none⟩) (n + m) C2) W2 ∧ Al W2 g2 C2 (l ++ nB s) ∧ g ≤ g2 ∧ Below g W W2 := by
 obtain ⟨i0, hi, hz0, hz1, hz2⟩ := info_parts zbj
 subst hm
 obtain ⟨h1, h2, h3, h4⟩ := h
 have hf := Lib.run_firstCells_string (P := Tryz.prog) W i0.size s
 have hnl : (l ++ nB s).length = n + s.size := by rw [zG, zdt, hn]
 by_cases hroom : n + s.size ≤ C
 ·have hst := run_storeCells_cells (P := Tryz.prog) g n (Lib.strCells s) 0 W (fun j hj => (h3 _ (by rw [Lib.strCells_length] at hj; omega)).1) (fun j hj => (h3 _ (by rw [Lib.strCells_length] at hj; omega)).2) (Lib.strCells_oneCell s)
  rw [Nat.add_zero] at hst
  have ha : (⟨g, 0, none⟩ : Addr).add (n * i0.size) = ⟨g, n, none⟩ := by rw [hz1, Addr.add_lit]; simp
  refine ⟨g, C, W.setCells g n (Lib.strCells s), ?_, ⟨?_, by omega, fun j hj => ⟨World.isSome_setCells g _ _ _ _ (h3 j hj).1, ?_⟩, fun j hj => ?_⟩, Lr, below_sets g g n _ W Lr (Nat.le_of_lt h1)⟩
  ·simp [Builtin.append_, run_underlying Tryz.underlying22, run_underlying Tryz.underlying9, sizeOf, typeInfo, hi, Builtin.lenOf, hroom, hf, ha, hst]
  ·exact zO h1 (below_sets g g n _ W Lr (Nat.le_of_lt h1)).size
  ·rw [World.frozen?_setCells]
   exact (h3 j hj).2
  ·rw [hnl] at hj
   by_cases hjn : j < n
   ·rw [World.cell?_setCells_out g _ _ W _ (fun i hi => .inl (by simp only; omega)), h4 j (by omega)]
    simp only [List.getD]
    rw [zL (by omega)]
   ·have := World.cell?_setCells_in g (Lib.strCells s) n W (fun i hi => (h3 _ (by rw [Lib.strCells_length] at hi; omega)).1) (j - n) (by rw [Lib.strCells_length]; omega)
    rw [show n + (j - n) = j by omega] at this
    rw [this]
    simp only [List.getD]
    rw [List.getElem?_append_right (by omega), hn]
    have hjl : j - n < (nB s).length := by rw [zdt]; omega
    simp [str_nB, By, zI hjl]
 ·have hlo : (By l).length = n * i0.size := by rw [hz1]; simp [By, hn]
  have holds : ∀ j v, (By l)[j]? = some v → W.cell? ((⟨g, 0, none⟩ : Addr).add j) = some v := fun j v hv => by
   obtain ⟨hj, rfl⟩ := getElem?_By l j v hv
   rw [Addr.add_lit, Nat.zero_add]
   exact h4 j hj
  have hr := Lib.run_append_grow_string (P := Tryz.prog) W 22 9 ty 5 i0 (.int .u8 0) Tryz.underlying22 Tryz.underlying9 hi hz0 ⟨g, 0, none⟩ n C (By l) hlo holds s (by omega) (by omega) (by rw [hz2]; exact growslice_fits (by omega) (by omega))
  have hge := grownCap_ge W (n + s.size) C 5
  have hal : Below W.heap.size W (W.drew.alloc (.cells ((By l).toArray ++ (Lib.strCells s).toArray ++ Builtin.zeroCells (Value.int .u8 0).cells (grownCap W (n + s.size) C 5 - (n + s.size))) 5)) := (Below.refl _ W).drew.alloc Lr _
  have hb := heap_alloc_last W.drew (.cells ((By l).toArray ++ (Lib.strCells s).toArray ++ Builtin.zeroCells (Value.int .u8 0).cells (grownCap W (n + s.size) C 5 - (n + s.size))) 5)
  have hsz : ((By l).toArray ++ (Lib.strCells s).toArray ++ Builtin.zeroCells (Value.int .u8 0).cells (grownCap W (n + s.size) C 5 - (n + s.size))).size = grownCap W (n + s.size) C 5 := by
   have hq : (Value.int IntKind.u8 0).cells.size = 1 := rfl
   have hbl : (By l).length = n := by simp [By, hn]
   simp only [Array.size_append, List.size_toArray, size_zeroCells, hq, hbl, Lib.strCells_length]
   omega
  have hds : W.drew.heap.size = W.heap.size := rfl
  rw [hds] at hb
  refine ⟨W.heap.size, _, _, hr, ⟨?_, by omega, fun j hj => ⟨?_, ?_⟩, fun j hj => ?_⟩, Nat.le_of_lt h1, hal.mono (Nat.le_of_lt h1)⟩
  ·exact zaf hb
  ·simp only [World.cell?, hb]
   rw [Array.getElem?_eq_getElem (by rw [hsz]; exact hj)]
   rfl
  ·simp only [World.frozen?, hb, Bool.and_eq_false_iff, zP]
   right
   omega
  ·rw [hnl] at hj
   rw [cell_of_row _ _ j _ _ _ hb]
   rw [str_nB, Array.getElem?_append_left (by simp [By, zdt, hn]; omega), List.append_toArray, List.getElem?_toArray]
   have hjl : j < (l ++ nB s).length := by omega
   have e : By l ++ By (nB s) = By (l ++ nB s) := by simp [By]
   rw [e]
   unfold By
   have e2 : (l ++ nB s).getD j 0 = (l ++ nB s)[j] := by
    unfold List.getD
    rw [zI hjl]
    rfl
   rw [List.getElem?_map, zI hjl, e2]
   rfl
end Go.Proofs.YtbkhjeacmmbabaaGreatDoor
