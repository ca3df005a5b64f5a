import Derived.Test.YtfgffajgfgifhaaGreatDoorJ35
namespace Go.Proofs.YtfgffajgfgifhaaGreatDoor
set_option maxRecDepth 100000
set_option maxHeartbeats 8000000
open Go.RowKit
theorem radd_nil (ao : Option Addr) (n c : Nat) (l : List Int) (w : World) (hs : Sl w ao n c l) :
  Calls Tryz.prog 117 #[.slice none 0 0, .slice ao n c] w fun e w' => ∃ a' c', e = .returned (.slice a' n c') ∧ Hid (OwnB w' w.heap.size (.slice a' n c') l) ∧ Hid (Below w.heap.size w w') := by
 have hroom := hs.hroom
 have hlen := hs.hlen
 refine (zct (.slice none 0 0) w.heap.size [] l ao n c w (OwnB.nil _ _) hs (.inr fun p _ e => by cases e) (by simpa using hroom) Lr).mono ?_
 rintro e w' ⟨v, rfl, HO, HG⟩
 have ho := HO.out
 rw [List.nil_append] at ho
 obtain ⟨a', c', rfl⟩ := zbw ho
 rw [hlen] at ho ⊢
 exact ⟨a', c', rfl, zaa ho, zaa (HG.out.below (OwnB.nil w w.heap.size) Lr)⟩
theorem dcopied_any (c : Cl) (ka va : Option Addr) (kc vc : Nat) (w : World) (hk : Sl w ka c.key.length kc c.key) (hv : Sl w va c.val.length vc c.val) :
  Calls Tryz.prog 112 #[.agg #[.slice ka c.key.length kc, .int .i64 c.kd, .slice va c.val.length vc, .int .i64 c.pg, .int .i64 c.ct]] w fun e w' => ∃ ao a2 bo b2, e = .returned (.agg #[.slice ao c.key.length a2, .int .i64 c.kd, .slice bo c.val.length b2, .int .i64 c.pg, .int .i64 c.ct]) ∧ Hid (OwnB w' w.heap.size (.slice ao c.key.length a2) c.key ∧ OwnB w' w.heap.size (.slice bo c.val.length b2) c.val ∧ ∀ z, (Value.slice ao c.key.length a2).ownBlock = some z → ¬ (Value.slice bo c.val.length b2).ownBlock = some z) ∧ Hid (Below w.heap.size w w') := by
 obtain ⟨key, kd, val, pg, ct⟩ := c
 simp only at hk hv ⊢
 obtain ⟨kn, hkn⟩ : ∃ kn, key.length = kn := ⟨_, rfl⟩
 obtain ⟨vn, hvn⟩ : ∃ vn, val.length = vn := ⟨_, rfl⟩
 rw [hkn] at hk ⊢
 rw [hvn] at hv ⊢
 clear hkn hvn
 obtain ⟨s, hs⟩ : ∃ s, w.heap.size = s := ⟨_, rfl⟩
 have hz : (w.alloc (.cells #[.slice ka kn kc, .int .i64 kd, .slice va vn vc, .int .i64 pg, .int .i64 ct] 39)).heap.size = s + 1 := by rw [← hs]; simp
 obtain ⟨x, hx⟩ : ∃ x, (w.alloc (.cells #[.slice ka kn kc, .int .i64 kd, .slice va vn vc, .int .i64 pg, .int .i64 ct] 39)).alloc (.cells #[.slice none 0 0, .int .i64 0, .slice none 0 0, .int .i64 0, .int .i64 0] 39) = x := ⟨_, rfl⟩
 have hbx : Below w.heap.size w x := by rw [← hx]; exact zac (zac Br Lr _) Lr _
 have HBOX : Hid (C5 x s (.slice ka kn kc) (.int .i64 kd) (.slice va vn vc) (.int .i64 pg) (.int .i64 ct)) := by
  have h1 := heap_alloc_last w (.cells #[.slice ka kn kc, .int .i64 kd, .slice va vn vc, .int .i64 pg, .int .i64 ct] 39)
  rw [hs] at h1
  rw [← hx]
  exact zaa ((Below.heap_alloc _ _ _ (by rw [hz]; exact Nat.lt_succ_self _)).trans h1)
 have HRES : Hid (C5 x (s + 1) (.slice none 0 0) (.int .i64 0) (.slice none 0 0) (.int .i64 0) (.int .i64 0)) := by
  have := heap_alloc_last (w.alloc (.cells #[.slice ka kn kc, .int .i64 kd, .slice va vn vc, .int .i64 pg, .int .i64 ct] 39)) (.cells #[.slice none 0 0, .int .i64 0, .slice none 0 0, .int .i64 0, .int .i64 0] 39)
  rw [hz, hx] at this
  exact zaa this
 have HXS : Hid (x.heap.size = s + 2 ∧ w.heap.size = s) := zaa ⟨by rw [← hx, ← hs]; simp, hs⟩
 have HV0 := zaa hv
 have HBX := zaa hbx
 have HA1 := zaa (radd_nil ka kn kc key x (hk.on Lr hbx))
 obtain ⟨c0, c1, c2, c3, c4⟩ := HBOX.out.cells
 clear hk hv hbx hz
 go_enter Tryz.func112, Tryz.ntmps112
 go_wp2_with (go_at_call 117; refine HA1.out.mono ?_; rintro e u1 ⟨ao, a2, rfl, HO1, HB1⟩; refine Hid.out ?_)
 apply zaa
 clear HA1 c0 c1 c2 c3 c4 hx hs
 have hbox1 : C5 u1 s (.slice ka kn kc) (.int .i64 kd) (.slice va vn vc) (.int .i64 pg) (.int .i64 ct) := zaf HBOX.out HB1.out
 obtain ⟨y1, hy1⟩ : ∃ y, u1.setCell ⟨s, 0, none⟩ (.slice ao kn a2) = y := ⟨_, rfl⟩
 have hc1 : Cf (· = s) u1 y1 := by rw [← hy1]; exact Cf.set _ _ _ _
 have HY1 : Hid (C5 y1 s (.slice ao kn a2) (.int .i64 kd) (.slice va vn vc) (.int .i64 pg) (.int .i64 ct) ∧ C5 y1 (s + 1) (.slice none 0 0) (.int .i64 0) (.slice none 0 0) (.int .i64 0) (.int .i64 0) ∧ OwnB y1 (s + 2) (.slice ao kn a2) key ∧ Below w.heap.size w y1 ∧ s + 2 ≤ y1.heap.size) := zaa (by
  obtain ⟨hxs, hws⟩ := HXS.out
  have ho := HO1.out
  rw [hxs] at ho
  refine ⟨by rw [← hy1]; exact (hbox1.set _).1, C5.cf (w := u1) (zaf HRES.out HB1.out) hc1 (by omega), ho.cfX hc1 (fun k hk e => by have := (ho.blk hk).1; omega), ?_, ?_⟩
  ·exact (zab HBX.out Lr HB1.out).trans (hc1.below (zab HBX.out Lr HB1.out).size (by intro i hi e; omega))
  ·have := hc1.size
   have := HB1.out.size
   omega)
 obtain ⟨d0, d1, d2, d3, d4⟩ := hbox1.cells
 obtain ⟨f0, f1, f2, f3, f4⟩ := hbox1.free
 obtain ⟨e0, e1, e2, e3, e4⟩ := HY1.out.1.cells
 have HA2 := zaa (radd_nil va vn vc val y1 (HV0.out.on Lr HY1.out.2.2.2.1))
 clear hbox1 hc1 HBOX HRES HO1 HB1
 go_wp2_with (go_at_call 117; refine HA2.out.mono ?_; rintro e u2 ⟨bo, b2, rfl, HO2, HB2⟩; refine Hid.out ?_)
 apply zaa
 clear HA2 d0 d1 d2 d3 d4 f0 f1 f2 f3 f4 e0 e1 e2 e3 e4 hy1
 have hbox2 : C5 u2 s (.slice ao kn a2) (.int .i64 kd) (.slice va vn vc) (.int .i64 pg) (.int .i64 ct) := zaf HY1.out.1 HB2.out
 obtain ⟨y2, hy2⟩ : ∃ y, u2.setCell ⟨s, 2, none⟩ (.slice bo vn b2) = y := ⟨_, rfl⟩
 have hc2 : Cf (· = s) u2 y2 := by rw [← hy2]; exact Cf.set _ _ _ _
 have HY2 : Hid (C5 y2 s (.slice ao kn a2) (.int .i64 kd) (.slice bo vn b2) (.int .i64 pg) (.int .i64 ct) ∧ C5 y2 (s + 1) (.slice none 0 0) (.int .i64 0) (.slice none 0 0) (.int .i64 0) (.int .i64 0) ∧ OwnB y2 (s + 2) (.slice ao kn a2) key ∧ OwnB y2 y1.heap.size (.slice bo vn b2) val ∧ Below w.heap.size w y2 ∧ (∀ z, (Value.slice ao kn a2).ownBlock = some z → z < y1.heap.size)) := zaa (by
  obtain ⟨hxs, hws⟩ := HXS.out
  obtain ⟨q1, q2, q3, q4, q5⟩ := HY1.out
  have ho := HO2.out
  have q3' := q3.on Lr HB2.out
  refine ⟨by rw [← hy2]; exact (hbox2.set _).2.2.1, C5.cf (w := u2) (zaf q2 HB2.out) hc2 (by omega), q3'.cfX hc2 (fun k hk e => by have := (q3.blk hk).1; omega), ho.cfX hc2 (fun k hk e => by have := (ho.blk hk).1; omega), ?_, fun z hz => (q3.blk hz).2⟩
  exact (zab q4 Lr HB2.out).trans (hc2.below (zab q4 Lr HB2.out).size (by intro i hi e; omega)))
 obtain ⟨i0, i1, i2, i3, i4⟩ := hbox2.cells
 obtain ⟨j0, j1, j2, j3, j4⟩ := hbox2.free
 obtain ⟨g0, g1, g2, g3, g4⟩ := HY2.out.1.cells
 obtain ⟨b0, b1, b2', b3, b4⟩ := HY2.out.2.1.cells
 obtain ⟨h0, h1, h2, h3, h4⟩ := HY2.out.2.1.free
 clear hbox2 hc2 HO2 HB2
 go_wp2
 obtain ⟨q1, q2, q3, q4, q5, q6⟩ := HY2.out
 refine bodyPost_ret (results_cell_row rfl _ _ (s + 1) 39 #[.slice ao kn a2, .int .i64 kd, .slice bo vn b2, .int .i64 pg, .int .i64 ct] (0, 0) _ (by rfl) (q2.put _ _ _ _ _) Tryz.underlying39 rfl zbu) rfl ?_
 have hf := zce y2 (s + 1) (.slice ao kn a2) (.int .i64 kd) (.slice bo vn b2) (.int .i64 pg) (.int .i64 ct)
 obtain ⟨hxs, hws⟩ := HXS.out
 have hy1s := HY1.out.2.2.2.2
 refine ⟨ao, a2, bo, b2, rfl, zaa ⟨?_, ?_, fun z hz1 hz2 => ?_⟩, zaa (q5.trans (hf.below q5.size (by intro i hi e; omega)))⟩
 ·exact (q3.cfX hf (fun k hk e => by have := (q3.blk hk).1; omega)).low (by omega)
 ·exact (q4.cfX hf (fun k hk e => by have := (q4.blk hk).1; omega)).low (by omega)
 ·have := q6 z hz1
  have := (q4.blk hz2).1
  omega
def DchTo (w : World) (i j N : Nat) (vs : List Value) (c : Cl) (e : Ending) (w' : World) : Prop :=
 ∃ v ao a2 bo b2, e = .returned v ∧ Hid (w'.ownsRow w.heap.size 39 5 v (i + 1 + (N - j)) (vs.take (i * 5) ++ [.slice ao c.key.length a2, .int .i64 c.kd, .slice bo c.val.length b2, .int .i64 c.pg, .int .i64 c.ct] ++ vs.drop (j * 5))) ∧ Hid (OwnB w' w.heap.size (.slice ao c.key.length a2) c.key ∧ OwnB w' w.heap.size (.slice bo c.val.length b2) c.val) ∧ Hid (Below w.heap.size w w')
theorem dchanged_any (w : World) (K : Nat → Prop) (r : Nat) (k : Int) (n : Nat) (lo : Option Addr) (N lc : Nat) (sv : Value) (ws : Int) (vs : List Value) (cs : List Cl) (h : QD w r k n (.slice lo N lc) sv ws) (hr : RwK w K lo N lc vs cs) (hkl : ∀ b, K b → b < w.heap.size) (hN : N ≤ 65536) (i j : Nat) (hij : i ≤ j) (hj : j ≤ N)
  (c : Cl) (ka va : Option Addr) (kc vc : Nat) (hk : Sl w ka c.key.length kc c.key) (hv : Sl w va c.val.length vc c.val) :
  Calls Tryz.prog 69 #[.pointer (some ⟨r, 0, none⟩), .int .i64 (i : Int), .int .i64 (j : Int), .agg #[.slice ka c.key.length kc, .int .i64 c.kd, .slice va c.val.length vc, .int .i64 c.pg, .int .i64 c.ct]] w (DchTo w i j N vs c) := by
 have hvl : vs.length = N * 5 := hr.own.1
 obtain ⟨x, hx⟩ : ∃ x, w.alloc (.cells #[.slice ka c.key.length kc, .int .i64 c.kd, .slice va c.val.length vc, .int .i64 c.pg, .int .i64 c.ct] 39) = x := ⟨_, rfl⟩
 have hbx : Below w.heap.size w x := by rw [← hx]; exact zac Br Lr _
 have HC5 : Hid (C5 x w.heap.size (.slice ka c.key.length kc) (.int .i64 c.kd) (.slice va c.val.length vc) (.int .i64 c.pg) (.int .i64 c.ct)) := zaa (by rw [← hx]; exact C5.box _ _ _ _ _ _)
 have HU : Hid (∀ u, Below x.heap.size x u → QD u r k n (.slice lo N lc) sv ws ∧ RwK u K lo N lc vs cs ∧ C5 u w.heap.size (.slice ka c.key.length kc) (.int .i64 c.kd) (.slice va c.val.length vc) (.int .i64 c.pg) (.int .i64 c.ct) ∧ Sl u ka c.key.length kc c.key ∧ Sl u va c.val.length vc c.val ∧ Below w.heap.size w u) := zaa fun u hu => by
  have hb := zab hbx Lr hu
  exact ⟨zaf h hb, hr.keep (Agr.below hkl hb), zaf HC5.out hu, hk.on Lr hb, hv.on Lr hb, hb⟩
 have HBX := zaa hbx
 have HVL := zaa hvl
 have iI : (i : Int) ≤ 65536 := by omega
 have NI : (N : Int) ≤ 65536 := by omega
 have jI : (j : Int) ≤ 65536 := by omega
 clear h hr hkl hk hv hbx hvl
 go_enter Tryz.func69, Tryz.ntmps69
 go_wp2_with fail
 go_loopw [9, 10] (fun o kv wr => ∃ (q : Nat) (ov : Value), ov = o ∧ q ≤ i ∧ kv = .int .i64 (q : Int) ∧ Hid (wr.ownsRow x.heap.size 39 5 ov q (vs.take (q * 5))) ∧ Hid (Below x.heap.size x wr)) (fun _ kv _ => i - (intOf kv).toNat)
 case atStart => exact ⟨0, _, rfl, by omega, rfl, zaa (by simpa using World.ownsRow_nil _ _ _ _), zaa Br⟩
 case round =>
  obtain ⟨q, ov, rfl, hq, rfl, HO, HB⟩ := hrel
  have qI : (q : Int) ≤ 65536 := by omega
  obtain ⟨hqd, hrw, hc5, hk, hv, hb⟩ := HU.out wr HB.out
  obtain ⟨t0, t1, t2, t3, t4⟩ := hqd.cells
  by_cases hlt : q < i
  ·have hltI : (q : Int) < (i : Int) := by omega
   have hqN : (q : Int) < (N : Int) := by omega
   obtain ⟨g, e, ka', kc', va', vc', rfl, hci, d0, d1, d2, d3, d4, hvs, hk', hv'⟩ := hrw.item q (by omega)
   obtain ⟨kn, hkn⟩ : ∃ kn, e.key.length = kn := ⟨_, rfl⟩
   obtain ⟨vn, hvn⟩ : ∃ vn, e.val.length = vn := ⟨_, rfl⟩
   obtain ⟨kd', hkd⟩ : ∃ kd', e.kd = kd' := ⟨_, rfl⟩
   obtain ⟨pg, hpg⟩ : ∃ pg, e.pg = pg := ⟨_, rfl⟩
   obtain ⟨ct, hct⟩ : ∃ ct, e.ct = ct := ⟨_, rfl⟩
   rw [hkn] at d0 hvs
   rw [hkd] at d1 hvs
   rw [hvn] at d2 hvs
   rw [hpg] at d3 hvs
   rw [hct] at d4 hvs
   obtain ⟨y, hy⟩ : ∃ y, wr.alloc (.cells #[.slice ka' kn kc', .int .i64 kd', .slice va' vn vc', .int .i64 pg, .int .i64 ct] 39) = y := ⟨_, rfl⟩
   have hby : Below wr.heap.size wr y := by rw [← hy]; exact zac Br Lr _
   have HOY := zaa (own_go HO.out hby)
   have HBY : Hid (Below x.heap.size x y) := zaa (zab HB.out Lr hby)
   have HXY := zaa (five_at hy)
   have HTK : Hid (vs.take ((q + 1) * 5) = vs.take (q * 5) ++ [.slice ka' kn kc', .int .i64 kd', .slice va' vn vc', .int .i64 pg, .int .i64 ct]) := zaa (by rw [take_five, hvs])
   clear hby HO HB hk' hv' hci hkn hvn hkd hpg hct hvs hqd hrw hc5 hk hv hb
   go_wp2_with (at_builtin; refine app_v _ x.heap.size rfl _ _ rfl q (vs.take (q * 5)) ov wr.heap.size _ rfl rfl HOY.out rfl (five_one _ _ _ _ _ _ _ _ _) HXY.out (by omega) HBY.out.size ?_; intro v2 u2 HO2 HBU2 HG2; refine Hid.out ?_)
   apply zaa
   have HBU : Hid (Below x.heap.size x u2) := zaa (HBY.out.trans HBU2.out)
   rw [← HTK.out] at HO2
   clear HOY HBY HXY hy d0 d1 d2 d3 d4 HBU2 HG2 t0 t1 t2 t3 t4
   go_wp2
   go_roundw
   case rel => exact ⟨q + 1, _, rfl, by omega, by go_num, HO2, HBU⟩
   case measure => simp [intOf]; omega
  ·obtain rfl : q = i := by omega
   have hltI : ¬ (q : Int) < (q : Int) := by omega
   obtain ⟨z0, z1, z2, z3, z4⟩ := hc5.cells
   have HCO := zaa (dcopied_any c ka va kc vc wr hk hv)
   clear hqd hrw hc5 hk hv hb
   go_wp2_with (go_at_call 112; refine HCO.out.mono ?_; rintro e u1 ⟨ao, a2, bo, b2, rfl, HOK, HB1⟩; refine Hid.out ?_)
   apply zaa
   clear z0 z1 z2 z3 z4 t0 t1 t2 t3 t4 HCO
   obtain ⟨x1, hx1⟩ : ∃ x1, u1.alloc (.cells #[.slice ao c.key.length a2, .int .i64 c.kd, .slice bo c.val.length b2, .int .i64 c.pg, .int .i64 c.ct] 39) = x1 := ⟨_, rfl⟩
   have hbx1 : Below u1.heap.size u1 x1 := by rw [← hx1]; exact zac Br Lr _
   have hc51 : C5 x1 u1.heap.size (.slice ao c.key.length a2) (.int .i64 c.kd) (.slice bo c.val.length b2) (.int .i64 c.pg) (.int .i64 c.ct) := by rw [← hx1]; exact C5.box _ _ _ _ _ _
   obtain ⟨z0, z1, z2, z3, z4⟩ := hc51.cells
   go_upto_region 7 with fail
   clear hx1
   obtain ⟨y, hy⟩ : ∃ y, x1.alloc (.cells #[.slice ao c.key.length a2, .int .i64 c.kd, .slice bo c.val.length b2, .int .i64 c.pg, .int .i64 c.ct] 39) = y := ⟨_, rfl⟩
   have hby : Below x1.heap.size x1 y := by rw [← hy]; exact zac Br Lr _
   have hb1y := zab (zab HB1.out Lr hbx1) Lr hby
   have HOY := zaa (own_go HO.out hb1y)
   have HBY : Hid (Below x.heap.size x y) := zaa (zab HB.out Lr hb1y)
   have HXY := zaa (five_at hy)
   have HKV : Hid (OwnB y w.heap.size (.slice ao c.key.length a2) c.key ∧ OwnB y w.heap.size (.slice bo c.val.length b2) c.val) := zaa (by
    have hle : w.heap.size ≤ wr.heap.size := zN HBX.out.size HB.out.size
    have hb1 := zab hbx1 Lr hby
    exact ⟨(HOK.out.1.on Lr hb1).low hle, (HOK.out.2.1.on Lr hb1).low hle⟩)
   clear hbx1 hc51 hby hb1y HOK HO HB HB1
   go_wp2_with (at_builtin; refine app_v _ x.heap.size rfl _ _ rfl q (vs.take (q * 5)) ov x1.heap.size _ rfl rfl HOY.out rfl (five_one _ _ _ _ _ _ _ _ _) HXY.out (by omega) HBY.out.size ?_; intro v2 u2 HO2 HBU2 HG2; refine Hid.out ?_)
   apply zaa
   have HBU : Hid (Below x.heap.size x u2) := zaa (HBY.out.trans HBU2.out)
   have HKU : Hid (OwnB u2 w.heap.size (.slice ao c.key.length a2) c.key ∧ OwnB u2 w.heap.size (.slice bo c.val.length b2) c.val) := zaa ⟨HKV.out.1.growC HOY.out HG2.out, HKV.out.2.growC HOY.out HG2.out⟩
   obtain ⟨F, hF⟩ : ∃ F : List Value, vs.take (q * 5) ++ [.slice ao c.key.length a2, .int .i64 c.kd, .slice bo c.val.length b2, .int .i64 c.pg, .int .i64 c.ct] = F := ⟨_, rfl⟩
   rw [hF] at HO2
   have HFF := zaa hF
   clear HOY HBY HXY hy z0 z1 z2 z3 z4 HBU2 HG2 HKV hF
   go_wp2_with fail
   go_loopw [9, 12] (fun o kv wr => ∃ (p : Nat) (ov : Value), ov = o ∧ j ≤ p ∧ p ≤ N ∧ kv = .int .i64 (p : Int) ∧ Hid (wr.ownsRow x.heap.size 39 5 ov (q + 1 + (p - j)) (F ++ (vs.drop (j * 5)).take ((p - j) * 5))) ∧ Hid (Below x.heap.size x wr) ∧ Hid (OwnB wr w.heap.size (.slice ao c.key.length a2) c.key ∧ OwnB wr w.heap.size (.slice bo c.val.length b2) c.val)) (fun _ kv _ => N - (intOf kv).toNat)
   case atStart => exact ⟨j, _, rfl, Lr, hj, rfl, zaa (by rw [Nat.sub_self, Nat.zero_mul, List.take_zero, List.append_nil]; exact HO2.out), HBU, HKU⟩
   case round =>
    clear HO2 HBU HKU
    obtain ⟨p, ov, rfl, hp1, hp2, rfl, HO, HB, HKV⟩ := hrel
    have pI : (p : Int) ≤ 65536 := by omega
    obtain ⟨hqd, hrw, hc5, hk, hv, hb⟩ := HU.out wr HB.out
    obtain ⟨t0, t1, t2, t3, t4⟩ := hqd.cells
    by_cases hpl : p < N
    ·have hplI : (p : Int) < (N : Int) := by omega
     obtain ⟨g, e, ka', kc', va', vc', rfl, hci, d0, d1, d2, d3, d4, hvs, hk', hv'⟩ := hrw.item p hpl
     obtain ⟨kn, hkn⟩ : ∃ kn, e.key.length = kn := ⟨_, rfl⟩
     obtain ⟨vn, hvn⟩ : ∃ vn, e.val.length = vn := ⟨_, rfl⟩
     obtain ⟨kd', hkd⟩ : ∃ kd', e.kd = kd' := ⟨_, rfl⟩
     obtain ⟨pg, hpg⟩ : ∃ pg, e.pg = pg := ⟨_, rfl⟩
     obtain ⟨ct, hct⟩ : ∃ ct, e.ct = ct := ⟨_, rfl⟩
     rw [hkn] at d0 hvs
     rw [hkd] at d1 hvs
     rw [hvn] at d2 hvs
     rw [hpg] at d3 hvs
     rw [hct] at d4 hvs
     obtain ⟨y, hy⟩ : ∃ y, wr.alloc (.cells #[.slice ka' kn kc', .int .i64 kd', .slice va' vn vc', .int .i64 pg, .int .i64 ct] 39) = y := ⟨_, rfl⟩
     have hby : Below wr.heap.size wr y := by rw [← hy]; exact zac Br Lr _
     have HOY := zaa (own_go HO.out hby)
     have HBY : Hid (Below x.heap.size x y) := zaa (zab HB.out Lr hby)
     have HKY : Hid (OwnB y w.heap.size (.slice ao c.key.length a2) c.key ∧ OwnB y w.heap.size (.slice bo c.val.length b2) c.val) := zaa ⟨HKV.out.1.on Lr hby, HKV.out.2.on Lr hby⟩
     have HXY := zaa (five_at hy)
     have HTK : Hid (F ++ (vs.drop (j * 5)).take ((p + 1 - j) * 5) = F ++ (vs.drop (j * 5)).take ((p - j) * 5) ++ [.slice ka' kn kc', .int .i64 kd', .slice va' vn vc', .int .i64 pg, .int .i64 ct] ∧ q + 1 + (p + 1 - j) = q + 1 + (p - j) + 1) := zaa (by
      refine ⟨?_, by omega⟩
      rw [zM, show p + 1 - j = p - j + 1 by omega, take_five, List.drop_drop, show j * 5 + (p - j) * 5 = p * 5 by omega, hvs])
     obtain ⟨M, hM⟩ : ∃ M, q + 1 + (p - j) = M := ⟨_, rfl⟩
     rw [hM] at HOY HTK
     have hMb : M + 1 ≤ 1000000 := by omega
     clear hby HO HB hk' hv' hci hkn hvn hkd hpg hct hvs hqd hrw hc5 hk hv hb hM HKV
     go_wp2_with (at_builtin; refine app_v _ x.heap.size rfl _ _ rfl M (F ++ (vs.drop (j * 5)).take ((p - j) * 5)) ov wr.heap.size _ rfl rfl HOY.out rfl (five_one _ _ _ _ _ _ _ _ _) HXY.out hMb HBY.out.size ?_; intro v2 u2 HO2 HBU2 HG2; refine Hid.out ?_)
     apply zaa
     have HBU : Hid (Below x.heap.size x u2) := zaa (HBY.out.trans HBU2.out)
     have HKU : Hid (OwnB u2 w.heap.size (.slice ao c.key.length a2) c.key ∧ OwnB u2 w.heap.size (.slice bo c.val.length b2) c.val) := zaa ⟨HKY.out.1.growC HOY.out HG2.out, HKY.out.2.growC HOY.out HG2.out⟩
     rw [← HTK.out.1, ← HTK.out.2] at HO2
     clear HOY HBY HXY hy d0 d1 d2 d3 d4 HBU2 HG2 HKY t0 t1 t2 t3 t4 hMb
     go_wp2
     go_roundw
     case rel => exact ⟨p + 1, _, rfl, by omega, by omega, by go_num, HO2, HBU, HKU⟩
     case measure => simp [intOf]; omega
    ·have hplI : ¬ (p : Int) < (N : Int) := by omega
     clear hqd hrw hc5 hk hv hb
     go_wp2
     go_ret
     obtain rfl : p = N := by omega
     refine ⟨_, ao, a2, bo, b2, rfl, zaa ?_, HKV, zaa (zab HBX.out Lr HB.out)⟩
     have e1 : (vs.drop (j * 5)).take ((p - j) * 5) = vs.drop (j * 5) := List.take_of_length_le (by rw [zK, HVL.out]; omega)
     have h1 := HO.out
     rw [e1, ← HFF.out] at h1
     refine ⟨h1.1, ?_⟩
     rcases h1.2 with h3 | ⟨g, cap, cur, e, hg, rr⟩
     ·exact .inl h3
     ·exact .inr ⟨g, cap, cur, e, zN HBX.out.size hg, rr⟩
end Go.Proofs.YtfgffajgfgifhaaGreatDoor
