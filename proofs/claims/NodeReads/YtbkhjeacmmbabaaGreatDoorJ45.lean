import Derived.Test.YtbkhjeacmmbabaaGreatDoorJ44
import Derived.Test.YtbkhjeacmmbabaaGreatDoorJ43
namespace Go.Proofs.YtbkhjeacmmbabaaGreatDoor
set_option maxRecDepth 100000
set_option maxHeartbeats 4000000
open Go.RowKit
def insE (k : Int) (n : Nat) (cs : List Cl) (x : Int) (c : Cl) : Int := if 0 ≤ x ∧ x ≤ (cs.length : Int) then putE k n cs x.toNat x.toNat c else 64
theorem insert_any (w : World) (B a : Nat) (k : Int) (n : Nat) (vb vs : Value) (cs : List Cl) (x : Int) (ka : Option Addr) (kn kc : Nat) (kd : Int) (va : Option Addr) (vn vc : Nat) (pg ct : Int) (key val : List Int) (hp : Po w B a k n vb vs cs) (hn : n ≤ 65536) (hw : ∀ c ∈ cs, c.Wf) (hft : ∀ c ∈ cs, c.fit) (hz : szN cs ≤ n) (hk : Sl w ka kn kc key) (hv : Sl w va vn vc val) (hB : B ≤ w.heap.size) :
  Calls Tryz.prog 218 #[.pointer (some ⟨a, 0, none⟩), .int .i64 x, .agg #[.slice ka kn kc, .int .i64 kd, .slice va vn vc, .int .i64 pg, .int .i64 ct]] w (PuTo w B a k n vb vs cs (cs.take x.toNat ++ [⟨key, kd, val, pg, ct⟩] ++ cs.drop x.toNat) (insE k n cs x ⟨key, kd, val, pg, ct⟩)) := by
 have hzc := zbb cs
 obtain ⟨bo, bc, rfl⟩ := hp.body.slice
 obtain ⟨so, sc, rfl⟩ := hp.starts.shape
 rw [zak] at hp ⊢
 obtain ⟨bl, hbl⟩ : ∃ bl, (bdy cs).length = bl := ⟨_, rfl⟩
 obtain ⟨sn, hsn⟩ : ∃ sn, cs.length = sn := ⟨_, rfl⟩
 rw [hbl, hsn] at hp
 rw [hbl, hsn]
 unfold insE
 rw [hsn]
 obtain ⟨y, hy⟩ : ∃ y, w.alloc (.cells #[.slice ka kn kc, .int .i64 kd, .slice va vn vc, .int .i64 pg, .int .i64 ct] 50) = y := ⟨_, rfl⟩
 have hby : Below w.heap.size w y := by rw [← hy]; exact zad Br Lr _
 obtain ⟨s, hs⟩ : ∃ s, w.heap.size = s := ⟨_, rfl⟩
 have HBOX : Hid (C5 y s (.slice ka kn kc) (.int .i64 kd) (.slice va vn vc) (.int .i64 pg) (.int .i64 ct)) := by rw [← hy, ← hs]; exact zaa (C5.box _ _ _ _ _ _)
 have hpy := hp.on hby
 have HL : Hid (Calls Tryz.prog 75 #[.pointer (some ⟨a, 0, none⟩)] y fun e w' => e = .returned (.int .i64 (sn : Int)) ∧ w' = y) := zaa (lenR_any y a k n _ so sn sc hpy.row)
 have HBY := zaa hby
 have HP := zaa hp
 obtain ⟨z0, z1, z2, z3, z4⟩ := HBOX.out.cells
 by_cases hx : 0 ≤ x ∧ x ≤ (sn : Int)
 ·rw [if_pos hx]
  obtain ⟨i, rfl⟩ : ∃ i : Nat, x = (i : Int) := ⟨x.toNat, by omega⟩
  rw [Int.toNat_natCast]
  by_cases hl : i = sn
  ·have hlI : (i : Int) = (sn : Int) := by omega
   rw [hlI]
   have hlN : i = sn := hl
   subst hl
   have HPT := zaa (put_any y B a k n _ _ cs i i ka kn kc kd va vn vc pg ct key val hpy (by omega) (by omega) hn hw hft hz (hk.on Lr hby) (hv.on Lr hby) (zN hB hby.size))
   generalize putE k n cs i i ⟨key, kd, val, pg, ct⟩ = R at *
   have hiI : (i : Int) ≤ 65536 := by omega
   clear hp hpy hk hv hby hw hft hzc hz hbl
   go_enter Tryz.func218, Tryz.ntmps218
   go_wp2_with (first | (go_at_call 75; refine zac HL.out ?_) | (go_at_call 227; refine HPT.out.mono ?_; rintro e w2 ⟨rfl, HP2, HC2⟩; refine Hid.out ?_))
   apply zaa
   clear HPT
   go_wp2
   go_ret
   refine ⟨rfl, zaa ?_, zaa ((Cf.of_below HBY.out).go HC2.out)⟩
   obtain ⟨vb', vs', p1, p2, p3⟩ := HP2.out
   exact ⟨vb', vs', p1, p2.imp id (fun ⟨q, h1, h2⟩ => ⟨q, h1, zN HBY.out.size h2⟩), p3.imp id (fun ⟨q, h1, h2⟩ => ⟨q, h1, zN HBY.out.size h2⟩)⟩
  ·have hlI : ¬ (i : Int) = (sn : Int) := by omega
   have HPT := zaa (put_any y B a k n _ _ cs i i ka kn kc kd va vn vc pg ct key val hpy (by omega) (by omega) hn hw hft hz (hk.on Lr hby) (hv.on Lr hby) (zN hB hby.size))
   have HH := zaa (has_any y a k n _ so sn sc hpy.row (i : Int) true (by unfold hasP; simp; omega))
   generalize putE k n cs i i ⟨key, kd, val, pg, ct⟩ = R at *
   have hiI : (i : Int) ≤ 65536 := by omega
   clear hp hpy hk hv hby hw hft hzc hz hbl
   go_enter Tryz.func218, Tryz.ntmps218
   go_wp2_with (first | (go_at_call 75; refine zac HL.out ?_) | (go_at_call 223; refine zac HH.out ?_) | (go_at_call 227; refine HPT.out.mono ?_; rintro e w2 ⟨rfl, HP2, HC2⟩; refine Hid.out ?_))
   apply zaa
   clear HPT
   go_wp2
   go_ret
   refine ⟨rfl, zaa ?_, zaa ((Cf.of_below HBY.out).go HC2.out)⟩
   obtain ⟨vb', vs', p1, p2, p3⟩ := HP2.out
   exact ⟨vb', vs', p1, p2.imp id (fun ⟨q, h1, h2⟩ => ⟨q, h1, zN HBY.out.size h2⟩), p3.imp id (fun ⟨q, h1, h2⟩ => ⟨q, h1, zN HBY.out.size h2⟩)⟩
 ·rw [if_neg hx]
  have hxl : ¬ x = (sn : Int) := by omega
  have HH := zaa (has_any y a k n _ so sn sc hpy.row x false (by unfold hasP; simp; omega))
  clear hp hpy hk hv hby hw hft hzc hz hbl
  go_enter Tryz.func218, Tryz.ntmps218
  go_wp2_with (first | (go_at_call 75; refine zac HL.out ?_) | (go_at_call 223; refine zac HH.out ?_))
  go_ret
  exact PuTo.same HP.out HBY.out (by decide)
theorem OwnB.lowE {w : World} {B C : Nat} {v : Value} {l : List Int} (h : OwnB w C v l) (hB : B ≤ C) : OwnB w B v l := by
 unfold OwnB at *
 refine ⟨h.1, ?_⟩
 rcases h.2 with h2 | ⟨g, c, cur, e, hg, h4⟩
 ·exact .inl h2
 ·exact .inr ⟨g, c, cur, e, zN hB hg, h4⟩
theorem OwnB.geE {w : World} {C k : Nat} {v : Value} {l : List Int} (h : OwnB w C v l) (hv : v.ownBlock = some k) : C ≤ k := by
 unfold OwnB at h
 rcases h.2 with ⟨rfl, _⟩ | ⟨g, c, cur, rfl, hg, h4⟩
 ·simp [Value.ownBlock] at hv
 ·have : g = k := by simpa [Value.ownBlock] using hv
  omega
theorem rcopied_any (key val : List Int) (kd pg ct : Int) (ka va : Option Addr) (kn vn kc vc : Nat) (w : World) (hk : Sl w ka kn kc key) (hv : Sl w va vn vc val) :
  Calls Tryz.prog 143 #[.agg #[.slice ka kn kc, .int .i64 kd, .slice va vn vc, .int .i64 pg, .int .i64 ct]] w fun e w' => ∃ ao a2 bo b2, e = .returned (.agg #[.slice ao key.length a2, .int .i64 kd, .slice bo val.length b2, .int .i64 pg, .int .i64 ct]) ∧ Hid (OwnB w' w.heap.size (.slice ao key.length a2) key ∧ OwnB w' w.heap.size (.slice bo val.length b2) val) ∧ Hid (Below w.heap.size w w') := by
 obtain ⟨s, hs⟩ : ∃ s, w.heap.size = s := ⟨_, rfl⟩
 have hz : (w.alloc (.cells #[.slice ka kn kc, .int .i64 kd, .slice va vn vc, .int .i64 pg, .int .i64 ct] 50)).heap.size = s + 1 := by rw [← hs]; simp
 obtain ⟨x, hx⟩ : ∃ x, (w.alloc (.cells #[.slice ka kn kc, .int .i64 kd, .slice va vn vc, .int .i64 pg, .int .i64 ct] 50)).alloc (.cells #[.slice none 0 0, .int .i64 0, .slice none 0 0, .int .i64 0, .int .i64 0] 50) = x := ⟨_, rfl⟩
 have hbx : Below w.heap.size w x := by rw [← hx]; exact zad (zad Br Lr _) Lr _
 have HBOX : Hid (C5 x s (.slice ka kn kc) (.int .i64 kd) (.slice va vn vc) (.int .i64 pg) (.int .i64 ct)) := by
  have h1 := heap_alloc_last w (.cells #[.slice ka kn kc, .int .i64 kd, .slice va vn vc, .int .i64 pg, .int .i64 ct] 50)
  rw [hs] at h1
  rw [← hx]
  exact zaa ((Below.heap_alloc _ _ _ (by rw [hz]; exact Nat.lt_succ_self _)).trans h1)
 have HRES : Hid (C5 x (s + 1) (.slice none 0 0) (.int .i64 0) (.slice none 0 0) (.int .i64 0) (.int .i64 0)) := by
  have := heap_alloc_last (w.alloc (.cells #[.slice ka kn kc, .int .i64 kd, .slice va vn vc, .int .i64 pg, .int .i64 ct] 50)) (.cells #[.slice none 0 0, .int .i64 0, .slice none 0 0, .int .i64 0, .int .i64 0] 50)
  rw [hz, hx] at this
  exact zaa this
 have HV0 := zaa hv
 have HBX := zaa hbx
 have hxs : x.heap.size = s + 2 := by rw [← hx, ← hs]; simp
 have hnilB : ∀ (u : World) (C : Nat), OwnB u C (.slice none 0 0) [] := fun u C => World.ownsRow_nil _ _ _ _
 obtain ⟨v1, u1, hr1, ho1, hg1⟩ := run_app_sl x 22 x.heap.size [] key (.slice none 0 0) ka kn kc (hnilB _ _) (hk.on Lr hbx) (by have := hk.hroom; simp; omega) Lr
 have hb1 : Below x.heap.size x u1 := hg1.below (hnilB _ _) Lr
 rw [List.nil_append] at ho1
 obtain ⟨ao, a2, rfl⟩ := ho1.slice
 have hbox1 : C5 u1 s (.slice ka kn kc) (.int .i64 kd) (.slice va vn vc) (.int .i64 pg) (.int .i64 ct) := zag HBOX.out hb1
 have hres1 : C5 u1 (s + 1) (.slice none 0 0) (.int .i64 0) (.slice none 0 0) (.int .i64 0) (.int .i64 0) := zag HRES.out hb1
 obtain ⟨X, hX⟩ : ∃ X, Value.slice ao key.length a2 = X := ⟨_, rfl⟩
 rw [hX] at hr1 ho1
 obtain ⟨y1, hy1⟩ : ∃ y, u1.setCell ⟨s, 0, none⟩ X = y := ⟨_, rfl⟩
 have hc1 : Cf (· = s) u1 y1 := by rw [← hy1]; exact Cf.set _ _ _ _
 have HB1 : Hid (C5 y1 s X (.int .i64 kd) (.slice va vn vc) (.int .i64 pg) (.int .i64 ct)) := zaa (by rw [← hy1]; exact (hbox1.set X).1)
 have HR1 : Hid (C5 y1 (s + 1) (.slice none 0 0) (.int .i64 0) (.slice none 0 0) (.int .i64 0) (.int .i64 0)) := zaa (hres1.cf hc1 (by omega))
 have HO1 : Hid (OwnB y1 x.heap.size X key) := zaa (ho1.cfX hc1 (fun k hk e => by have := ho1.geE hk; omega))
 have HBY : Hid (Below w.heap.size w y1) := zaa ((HBX.out.trans (hb1.mono HBX.out.size)).trans (hc1.below (zN HBX.out.size hb1.size) (by intro i hi e; omega)))
 have HVY : Hid (Sl y1 va vn vc val) := zaa (HV0.out.on Lr HBY.out)
 have hsy : s + 2 ≤ y1.heap.size := by have := hc1.size; have := hb1.size; omega
 obtain ⟨v2, u2, hr2, ho2, hg2⟩ := run_app_sl y1 22 y1.heap.size [] val (.slice none 0 0) va vn vc (hnilB _ _) HVY.out (by have := hv.hroom; simp; omega) Lr
 have hb2 : Below y1.heap.size y1 u2 := hg2.below (hnilB _ _) Lr
 rw [List.nil_append] at ho2
 obtain ⟨bo, b2, rfl⟩ := ho2.slice
 have hbox2 : C5 u2 s X (.int .i64 kd) (.slice va vn vc) (.int .i64 pg) (.int .i64 ct) := zag HB1.out hb2
 have hres2 : C5 u2 (s + 1) (.slice none 0 0) (.int .i64 0) (.slice none 0 0) (.int .i64 0) (.int .i64 0) := zag HR1.out hb2
 obtain ⟨Y, hY⟩ : ∃ Y, Value.slice bo val.length b2 = Y := ⟨_, rfl⟩
 rw [hY] at hr2 ho2
 obtain ⟨y2, hy2⟩ : ∃ y, u2.setCell ⟨s, 2, none⟩ Y = y := ⟨_, rfl⟩
 have hc2 : Cf (· = s) u2 y2 := by rw [← hy2]; exact Cf.set _ _ _ _
 have HB2 : Hid (C5 y2 s X (.int .i64 kd) Y (.int .i64 pg) (.int .i64 ct)) := zaa (by rw [← hy2]; exact (hbox2.set Y).2.2.1)
 have HR2 : Hid (C5 y2 (s + 1) (.slice none 0 0) (.int .i64 0) (.slice none 0 0) (.int .i64 0) (.int .i64 0)) := zaa (hres2.cf hc2 (by omega))
 have HO2 : Hid (OwnB y2 x.heap.size X key) := zaa ((HO1.out.on Lr hb2).cfX hc2 (fun k hk e => by have := ho1.geE hk; omega))
 have HP2 : Hid (OwnB y2 y1.heap.size Y val) := zaa (ho2.cfX hc2 (fun k hk e => by have := ho2.geE hk; omega))
 have HBZ : Hid (Below w.heap.size w y2) := zaa ((HBY.out.trans (hb2.mono HBY.out.size)).trans (hc2.below (zN HBY.out.size hb2.size) (by intro i hi e; omega)))
 obtain ⟨c0, c1, c2, c3, c4⟩ := HBOX.out.cells
 obtain ⟨d0, d1, d2, d3, d4⟩ := hbox1.cells
 obtain ⟨f0, f1, f2, f3, f4⟩ := hbox1.free
 obtain ⟨e0, e1, e2, e3, e4⟩ := HB1.out.cells
 obtain ⟨i0, i1, i2, i3, i4⟩ := hbox2.cells
 obtain ⟨j0, j1, j2, j3, j4⟩ := hbox2.free
 obtain ⟨g0, g1, g2, g3, g4⟩ := HB2.out.cells
 obtain ⟨b0, b1, b2', b3, b4⟩ := HR2.out.cells
 obtain ⟨h0, h1, h2, h3, h4⟩ := HR2.out.free
 subst hX
 subst hY
 have HXS := zaa hxs
 have HSY := zaa hsy
 have HSW := zaa hs
 clear hk hv hbx hnilB ho1 ho2 hg1 hg2 hb1 hb2 hbox1 hbox2 hres1 hres2 hc1 hc2 hxs hsy hz HV0 HVY HBY
 go_enter Tryz.func143, Tryz.ntmps143
 go_wp2_with (at_builtin; refine zcd rfl _ _ _ _ rfl _ _ rfl rfl hr1 ?_; refine Hid.out ?_)
 apply zaa
 clear hr1
 go_wp2_with (at_builtin; refine zcd rfl _ _ _ _ rfl _ _ rfl rfl hr2 ?_; refine Hid.out ?_)
 apply zaa
 clear hr2
 go_wp2
 refine bodyPost_ret (results_cell_row rfl _ _ (s + 1) 50 #[.slice ao key.length a2, .int .i64 kd, .slice bo val.length b2, .int .i64 pg, .int .i64 ct] (0, 0) _ (by rfl) (HR2.out.put _ _ _ _ _) Tryz.underlying50 rfl zal) rfl ?_
 have hf := zas y2 (s + 1) (.slice ao key.length a2) (.int .i64 kd) (.slice bo val.length b2) (.int .i64 pg) (.int .i64 ct)
 have hxs := HXS.out
 have hsy := HSY.out
 have hsw := HSW.out
 refine ⟨ao, a2, bo, b2, rfl, zaa ⟨?_, ?_⟩, zaa (HBZ.out.trans (hf.below HBZ.out.size (by intro i hi e; omega)))⟩
 ·exact (HO2.out.cfX hf (fun k hk e => by have := HO2.out.geE hk; omega)).lowE (by omega)
 ·exact (HP2.out.cfX hf (fun k hk e => by have := HP2.out.geE hk; omega)).lowE (by omega)
theorem radd_nil (ao : Option Addr) (n c : Nat) (l : List Int) (w : World) (hs : Sl w ao n c l) :
  Calls Tryz.prog 101 #[.slice none 0 0, .slice ao n c] w fun e w' => ∃ a' c', e = .returned (.slice a' n c') ∧ Hid (OwnB w' w.heap.size (.slice a' n c') l) ∧ Hid (Below w.heap.size w w') := by
 have hroom := hs.hroom
 have hlen := hs.hlen
 refine (zcf (.slice none 0 0) w.heap.size [] l ao n c w (OwnB.nil _ _) hs (.inr fun p _ e => by cases e) (by simpa using hroom) Lr).mono ?_
 rintro e w' ⟨v, rfl, HO, HG⟩
 have ho := HO.out
 rw [List.nil_append] at ho
 obtain ⟨a', c', rfl⟩ := zcn ho
 rw [hlen] at ho ⊢
 exact ⟨a', c', rfl, zaa ho, zaa (HG.out.below (OwnB.nil w w.heap.size) Lr)⟩
theorem dcopied_any (c : Cl) (ka va : Option Addr) (kc vc : Nat) (w : World) (hk : Sl w ka c.key.length kc c.key) (hv : Sl w va c.val.length vc c.val) :
  Calls Tryz.prog 144 #[.agg #[.slice ka c.key.length kc, .int .i64 c.kd, .slice va c.val.length vc, .int .i64 c.pg, .int .i64 c.ct]] w fun e w' => ∃ ao a2 bo b2, e = .returned (.agg #[.slice ao c.key.length a2, .int .i64 c.kd, .slice bo c.val.length b2, .int .i64 c.pg, .int .i64 c.ct]) ∧ Hid (OwnB w' w.heap.size (.slice ao c.key.length a2) c.key ∧ OwnB w' w.heap.size (.slice bo c.val.length b2) c.val ∧ ∀ z, (Value.slice ao c.key.length a2).ownBlock = some z → ¬ (Value.slice bo c.val.length b2).ownBlock = some z) ∧ Hid (Below w.heap.size w w') := by
 obtain ⟨key, kd, val, pg, ct⟩ := c
 simp only at hk hv ⊢
 obtain ⟨kn, hkn⟩ : ∃ kn, key.length = kn := ⟨_, rfl⟩
 obtain ⟨vn, hvn⟩ : ∃ vn, val.length = vn := ⟨_, rfl⟩
 rw [hkn] at hk ⊢
 rw [hvn] at hv ⊢
 clear hkn hvn
 obtain ⟨s, hs⟩ : ∃ s, w.heap.size = s := ⟨_, rfl⟩
 have hz : (w.alloc (.cells #[.slice ka kn kc, .int .i64 kd, .slice va vn vc, .int .i64 pg, .int .i64 ct] 50)).heap.size = s + 1 := by rw [← hs]; simp
 obtain ⟨x, hx⟩ : ∃ x, (w.alloc (.cells #[.slice ka kn kc, .int .i64 kd, .slice va vn vc, .int .i64 pg, .int .i64 ct] 50)).alloc (.cells #[.slice none 0 0, .int .i64 0, .slice none 0 0, .int .i64 0, .int .i64 0] 50) = x := ⟨_, rfl⟩
 have hbx : Below w.heap.size w x := by rw [← hx]; exact zad (zad Br Lr _) Lr _
 have HBOX : Hid (C5 x s (.slice ka kn kc) (.int .i64 kd) (.slice va vn vc) (.int .i64 pg) (.int .i64 ct)) := by
  have h1 := heap_alloc_last w (.cells #[.slice ka kn kc, .int .i64 kd, .slice va vn vc, .int .i64 pg, .int .i64 ct] 50)
  rw [hs] at h1
  rw [← hx]
  exact zaa ((Below.heap_alloc _ _ _ (by rw [hz]; exact Nat.lt_succ_self _)).trans h1)
 have HRES : Hid (C5 x (s + 1) (.slice none 0 0) (.int .i64 0) (.slice none 0 0) (.int .i64 0) (.int .i64 0)) := by
  have := heap_alloc_last (w.alloc (.cells #[.slice ka kn kc, .int .i64 kd, .slice va vn vc, .int .i64 pg, .int .i64 ct] 50)) (.cells #[.slice none 0 0, .int .i64 0, .slice none 0 0, .int .i64 0, .int .i64 0] 50)
  rw [hz, hx] at this
  exact zaa this
 have HXS : Hid (x.heap.size = s + 2 ∧ w.heap.size = s) := zaa ⟨by rw [← hx, ← hs]; simp, hs⟩
 have HV0 := zaa hv
 have HBX := zaa hbx
 have HA1 := zaa (radd_nil ka kn kc key x (hk.on Lr hbx))
 obtain ⟨c0, c1, c2, c3, c4⟩ := HBOX.out.cells
 clear hk hv hbx hz
 go_enter Tryz.func144, Tryz.ntmps144
 go_wp2_with (go_at_call 101; refine HA1.out.mono ?_; rintro e u1 ⟨ao, a2, rfl, HO1, HB1⟩; refine Hid.out ?_)
 apply zaa
 clear HA1 c0 c1 c2 c3 c4 hx hs
 have hbox1 : C5 u1 s (.slice ka kn kc) (.int .i64 kd) (.slice va vn vc) (.int .i64 pg) (.int .i64 ct) := zag HBOX.out HB1.out
 obtain ⟨y1, hy1⟩ : ∃ y, u1.setCell ⟨s, 0, none⟩ (.slice ao kn a2) = y := ⟨_, rfl⟩
 have hc1 : Cf (· = s) u1 y1 := by rw [← hy1]; exact Cf.set _ _ _ _
 have HY1 : Hid (C5 y1 s (.slice ao kn a2) (.int .i64 kd) (.slice va vn vc) (.int .i64 pg) (.int .i64 ct) ∧ C5 y1 (s + 1) (.slice none 0 0) (.int .i64 0) (.slice none 0 0) (.int .i64 0) (.int .i64 0) ∧ OwnB y1 (s + 2) (.slice ao kn a2) key ∧ Below w.heap.size w y1 ∧ s + 2 ≤ y1.heap.size) := zaa (by
  obtain ⟨hxs, hws⟩ := HXS.out
  have ho := HO1.out
  rw [hxs] at ho
  refine ⟨by rw [← hy1]; exact (hbox1.set _).1, C5.cf (w := u1) (zag HRES.out HB1.out) hc1 (by omega), ho.cfX hc1 (fun k hk e => by have := (ho.blk hk).1; omega), ?_, ?_⟩
  ·exact (zae HBX.out Lr HB1.out).trans (hc1.below (zae HBX.out Lr HB1.out).size (by intro i hi e; omega))
  ·have := hc1.size
   have := HB1.out.size
   omega)
 obtain ⟨d0, d1, d2, d3, d4⟩ := hbox1.cells
 obtain ⟨f0, f1, f2, f3, f4⟩ := hbox1.free
 obtain ⟨e0, e1, e2, e3, e4⟩ := HY1.out.1.cells
 have HA2 := zaa (radd_nil va vn vc val y1 (HV0.out.on Lr HY1.out.2.2.2.1))
 clear hbox1 hc1 HBOX HRES HO1 HB1
 go_wp2_with (go_at_call 101; refine HA2.out.mono ?_; rintro e u2 ⟨bo, b2, rfl, HO2, HB2⟩; refine Hid.out ?_)
 apply zaa
 clear HA2 d0 d1 d2 d3 d4 f0 f1 f2 f3 f4 e0 e1 e2 e3 e4 hy1
 have hbox2 : C5 u2 s (.slice ao kn a2) (.int .i64 kd) (.slice va vn vc) (.int .i64 pg) (.int .i64 ct) := zag HY1.out.1 HB2.out
 obtain ⟨y2, hy2⟩ : ∃ y, u2.setCell ⟨s, 2, none⟩ (.slice bo vn b2) = y := ⟨_, rfl⟩
 have hc2 : Cf (· = s) u2 y2 := by rw [← hy2]; exact Cf.set _ _ _ _
 have HY2 : Hid (C5 y2 s (.slice ao kn a2) (.int .i64 kd) (.slice bo vn b2) (.int .i64 pg) (.int .i64 ct) ∧ C5 y2 (s + 1) (.slice none 0 0) (.int .i64 0) (.slice none 0 0) (.int .i64 0) (.int .i64 0) ∧ OwnB y2 (s + 2) (.slice ao kn a2) key ∧ OwnB y2 y1.heap.size (.slice bo vn b2) val ∧ Below w.heap.size w y2 ∧ (∀ z, (Value.slice ao kn a2).ownBlock = some z → z < y1.heap.size)) := zaa (by
  obtain ⟨hxs, hws⟩ := HXS.out
  obtain ⟨q1, q2, q3, q4, q5⟩ := HY1.out
  have ho := HO2.out
  have q3' := q3.on Lr HB2.out
  refine ⟨by rw [← hy2]; exact (hbox2.set _).2.2.1, C5.cf (w := u2) (zag q2 HB2.out) hc2 (by omega), q3'.cfX hc2 (fun k hk e => by have := (q3.blk hk).1; omega), ho.cfX hc2 (fun k hk e => by have := (ho.blk hk).1; omega), ?_, fun z hz => (q3.blk hz).2⟩
  exact (zae q4 Lr HB2.out).trans (hc2.below (zae q4 Lr HB2.out).size (by intro i hi e; omega)))
 obtain ⟨i0, i1, i2, i3, i4⟩ := hbox2.cells
 obtain ⟨j0, j1, j2, j3, j4⟩ := hbox2.free
 obtain ⟨g0, g1, g2, g3, g4⟩ := HY2.out.1.cells
 obtain ⟨b0, b1, b2', b3, b4⟩ := HY2.out.2.1.cells
 obtain ⟨h0, h1, h2, h3, h4⟩ := HY2.out.2.1.free
 clear hbox2 hc2 HO2 HB2
 go_wp2
 obtain ⟨q1, q2, q3, q4, q5, q6⟩ := HY2.out
 refine bodyPost_ret (results_cell_row rfl _ _ (s + 1) 50 #[.slice ao kn a2, .int .i64 kd, .slice bo vn b2, .int .i64 pg, .int .i64 ct] (0, 0) _ (by rfl) (q2.put _ _ _ _ _) Tryz.underlying50 rfl zal) rfl ?_
 have hf := zas y2 (s + 1) (.slice ao kn a2) (.int .i64 kd) (.slice bo vn b2) (.int .i64 pg) (.int .i64 ct)
 obtain ⟨hxs, hws⟩ := HXS.out
 have hy1s := HY1.out.2.2.2.2
 refine ⟨ao, a2, bo, b2, rfl, zaa ⟨?_, ?_, fun z hz1 hz2 => ?_⟩, zaa (q5.trans (hf.below q5.size (by intro i hi e; omega)))⟩
 ·exact (q3.cfX hf (fun k hk e => by have := (q3.blk hk).1; omega)).low (by omega)
 ·exact (q4.cfX hf (fun k hk e => by have := (q4.blk hk).1; omega)).low (by omega)
 ·have := q6 z hz1
  have := (q4.blk hz2).1
  omega
def RcTo (c : Cl) (w : World) (e : Ending) (w' : World) : Prop :=
 ∃ ka kn kc va vn vc, e = .returned (.tuple #[.agg #[.slice ka kn kc, .int .i64 c.kd, .slice va vn vc, .int .i64 c.pg, .int .i64 c.ct], .int .i64 0]) ∧ Hid (kn = c.key.length ∧ vn = c.val.length ∧ OwnB w' w.heap.size (.slice ka kn kc) c.key ∧ OwnB w' w.heap.size (.slice va vn vc) c.val) ∧ Hid (Below w.heap.size w w')
theorem r6kind_any (w : World) (r : Nat) (k : Int) (n : Nat) (v : Value) (h : D6 w r k n v) :
  Calls Tryz.prog 62 #[.pointer (some ⟨r, 0, none⟩)] w fun e w' => e = .returned (.int .i64 k) ∧ w' = w := by
 obtain ⟨p0, p1, p2⟩ := h.cells
 clear h
 go_enter Tryz.func62, Tryz.ntmps62
 go_wp2_with fail
 go_ret
 exact ⟨rfl, rfl⟩
theorem r6len_any (w : World) (r : Nat) (k : Int) (n : Nat) (so : Option Addr) (sn sc : Nat) (h : D6 w r k n (.slice so sn sc)) :
  Calls Tryz.prog 64 #[.pointer (some ⟨r, 0, none⟩)] w fun e w' => e = .returned (.int .i64 (sn : Int)) ∧ w' = w := by
 obtain ⟨p0, p1, p2⟩ := h.cells
 clear h
 go_enter Tryz.func64, Tryz.ntmps64
 go_wp2_with fail
 go_ret
 exact ⟨rfl, rfl⟩
theorem r6used_any (w : World) (r : Nat) (k : Int) (n : Nat) (so : Option Addr) (sn sc : Nat) (cs : List Cl) (h : D6 w r k n (.slice so sn sc)) (hs : SlC w so sn sc cs) (hz : szN cs ≤ 65536) :
  Calls Tryz.prog 66 #[.pointer (some ⟨r, 0, none⟩)] w fun e w' => e = .returned (.int .i64 (szN cs : Int)) ∧ Hid (Below w.heap.size w w') := by
 obtain ⟨p0, p1, p2⟩ := h.cells
 have HZ : Hid (∀ u, Below w.heap.size w u → Calls Tryz.prog 96 #[.int .i64 k, .slice so sn sc] u fun e u' => e = .returned (.int .i64 (szN cs : Int)) ∧ Hid (Below w.heap.size w u')) := by
  refine zaa fun u hu => (rsize6_any k so sn sc cs u (hs.on hu) (by omega)).mono ?_
  rintro e u' ⟨rfl, h⟩
  exact ⟨rfl, zaa (zae hu Lr h.out)⟩
 generalize szN cs = Z at *
 clear h hs
 go_enter Tryz.func66, Tryz.ntmps66
 go_wp2_with fail
 go_region_law (first
  | (go_simp; go_at_call 96; refine (HZ.out _ (by first | exact Br | exact Br.drew | exact zab Br _)).mono ?_; rintro e u1 ⟨rfl, HU1⟩))
 all_goals (try go_wp2_with fail)
 all_goals go_ret
 all_goals exact ⟨rfl, HU1⟩
theorem r6cell_any (w : World) (r : Nat) (k : Int) (n : Nat) (so : Option Addr) (sn sc : Nat) (cs : List Cl) (h : D6 w r k n (.slice so sn sc)) (hs : SlC w so sn sc cs) (i : Nat) (c : Cl) (hci : cs[i]? = some c) :
  Calls Tryz.prog 106 #[.pointer (some ⟨r, 0, none⟩), .int .i64 (i : Int)] w (RcTo c w) := by
 obtain ⟨s, hsz⟩ : ∃ s, w.heap.size = s := ⟨_, rfl⟩
 obtain ⟨y, hy⟩ : ∃ y, w.alloc (.cells #[.slice none 0 0, .int .i64 0, .slice none 0 0, .int .i64 0, .int .i64 0] 50) = y := ⟨_, rfl⟩
 have hby : Below w.heap.size w y := by rw [← hy]; exact zad Br Lr _
 have HRES : Hid (C5 y s (.slice none 0 0) (.int .i64 0) (.slice none 0 0) (.int .i64 0) (.int .i64 0)) := by rw [← hy, ← hsz]; exact zaa (C5.box _ _ _ _ _ _)
 have HBY := zaa hby
 have hqy : D6 y r k n (.slice so sn sc) := (hby.block r (zaf h)).trans h
 have hsl := hs.on hby
 have hroom := hs.hroom
 have hil : i < sn := by rw [← hs.hlen]; exact (zH.1 hci).1
 obtain ⟨p0, p1, p2⟩ := hqy.cells
 have hys : s + 1 ≤ y.heap.size := by rw [← hy, ← hsz]; simp
 obtain ⟨b, off, c', ka, kc, va, vc, rfl, hb, hci', d0, d1, d2, d3, d4, hk, hv⟩ := hsl.item i hil
 rw [hci] at hci'
 injection hci' with hci'
 subst hci'
 have HC := zaa (rcopied_any c.key c.val c.kd c.pg c.ct ka va c.key.length c.val.length kc vc y hk hv)
 unfold RcTo
 obtain ⟨key, kd, val, pg, ct⟩ := c
 simp only at d0 d1 d2 d3 d4 HC ⊢
 obtain ⟨kn, hkn⟩ : ∃ kn, key.length = kn := ⟨_, rfl⟩
 obtain ⟨vn, hvn⟩ : ∃ vn, val.length = vn := ⟨_, rfl⟩
 rw [hkn] at d0 HC ⊢
 rw [hvn] at d2 HC ⊢
 have HYS := zaa hys
 have HSW := zaa hsz
 have hiI : (i : Int) < (sn : Int) := by omega
 have hi0 : ¬ (i : Int) < 0 := by omega
 have hiN : ¬ (sn : Int) ≤ (i : Int) := by omega
 have hxb : decide ((i : Int) < 0) = false := by simp
 have hxc : decide ((sn : Int) ≤ (i : Int)) = false := by simp; omega
 clear h hs hqy hsl hci hby hys hk hv hkn hvn hb
 go_enter Tryz.func106, Tryz.ntmps106
 go_wp2_with (go_at_call 143; refine HC.out.mono ?_; rintro e u2 ⟨ao, a2, bo, b2, rfl, HG, HU2⟩; refine Hid.out ?_)
 apply zaa
 have hres1 : C5 u2 s (.slice none 0 0) (.int .i64 0) (.slice none 0 0) (.int .i64 0) (.int .i64 0) := zag HRES.out HU2.out
 have HR2 := zaa hres1
 obtain ⟨b0, b1, b2', b3, b4⟩ := hres1.cells
 obtain ⟨h0, h1, h2, h3, h4⟩ := hres1.free
 clear hres1 HC p0 p1 p2 d0 d1 d2 d3 d4
 go_wp2
 refine bodyPost_ret (zbd rfl _ _ s 50 #[.slice ao kn a2, .int .i64 kd, .slice bo vn b2, .int .i64 pg, .int .i64 ct] (0, 0) _ (.int .i64 0) (by rfl) (by rfl) (HR2.out.put _ _ _ _ _) Tryz.underlying50 rfl zal) rfl ?_
 have hf := zas u2 s (.slice ao kn a2) (.int .i64 kd) (.slice bo vn b2) (.int .i64 pg) (.int .i64 ct)
 have hys := HYS.out
 have hsw := HSW.out
 have hg1 := HG.out.1
 have hg2 := HG.out.2
 have hbu := zae HBY.out Lr HU2.out
 refine ⟨ao, kn, a2, bo, vn, b2, rfl, zaa ⟨rfl, rfl, ?_, ?_⟩, zaa (hbu.trans (hf.below hbu.size (by intro i hi e; omega)))⟩
 ·exact (hg1.cfX hf (fun z hz e => by have := (hg1.blk hz).1; omega)).low (by omega)
 ·exact (hg2.cfX hf (fun z hz e => by have := (hg2.blk hz).1; omega)).low (by omega)
theorem r7cell_any (w : World) (r : Nat) (k : Int) (n : Nat) (so : Option Addr) (sn sc : Nat) (sv : Value) (ws : Int) (cs : List Cl) (h : QD w r k n (.slice so sn sc) sv ws) (hs : SlC w so sn sc cs) (i : Nat) (c : Cl) (hci : cs[i]? = some c) :
  Calls Tryz.prog 107 #[.pointer (some ⟨r, 0, none⟩), .int .i64 (i : Int)] w (RcTo c w) := by
 obtain ⟨s, hsz⟩ : ∃ s, w.heap.size = s := ⟨_, rfl⟩
 obtain ⟨y, hy⟩ : ∃ y, w.alloc (.cells #[.slice none 0 0, .int .i64 0, .slice none 0 0, .int .i64 0, .int .i64 0] 50) = y := ⟨_, rfl⟩
 have hby : Below w.heap.size w y := by rw [← hy]; exact zad Br Lr _
 have HRES : Hid (C5 y s (.slice none 0 0) (.int .i64 0) (.slice none 0 0) (.int .i64 0) (.int .i64 0)) := by rw [← hy, ← hsz]; exact zaa (C5.box _ _ _ _ _ _)
 have HBY := zaa hby
 have hqy : QD y r k n (.slice so sn sc) sv ws := (hby.block r (zaf h)).trans h
 have hsl := hs.on hby
 have hroom := hs.hroom
 have hil : i < sn := by rw [← hs.hlen]; exact (zH.1 hci).1
 obtain ⟨p0, p1, p2, p3, p4⟩ := hqy.cells
 have hys : s + 1 ≤ y.heap.size := by rw [← hy, ← hsz]; simp
 obtain ⟨b, off, c', ka, kc, va, vc, rfl, hb, hci', d0, d1, d2, d3, d4, hk, hv⟩ := hsl.item i hil
 rw [hci] at hci'
 injection hci' with hci'
 subst hci'
 have HC := zaa (dcopied_any c ka va kc vc y hk hv)
 unfold RcTo
 obtain ⟨key, kd, val, pg, ct⟩ := c
 simp only at d0 d1 d2 d3 d4 HC ⊢
 obtain ⟨kn, hkn⟩ : ∃ kn, key.length = kn := ⟨_, rfl⟩
 obtain ⟨vn, hvn⟩ : ∃ vn, val.length = vn := ⟨_, rfl⟩
 rw [hkn] at d0 HC ⊢
 rw [hvn] at d2 HC ⊢
 have HYS := zaa hys
 have HSW := zaa hsz
 have hiI : (i : Int) < (sn : Int) := by omega
 have hi0 : ¬ (i : Int) < 0 := by omega
 have hiN : ¬ (sn : Int) ≤ (i : Int) := by omega
 have hxb : decide ((i : Int) < 0) = false := by simp
 have hxc : decide ((sn : Int) ≤ (i : Int)) = false := by simp; omega
 clear h hs hqy hsl hci hby hys hk hv hkn hvn hb
 go_enter Tryz.func107, Tryz.ntmps107
 go_wp2_with (go_at_call 144; refine HC.out.mono ?_; rintro e u2 ⟨ao, a2, bo, b2, rfl, HG, HU2⟩; refine Hid.out ?_)
 apply zaa
 have hres1 : C5 u2 s (.slice none 0 0) (.int .i64 0) (.slice none 0 0) (.int .i64 0) (.int .i64 0) := zag HRES.out HU2.out
 have HR2 := zaa hres1
 obtain ⟨b0, b1, b2', b3, b4⟩ := hres1.cells
 obtain ⟨h0, h1, h2, h3, h4⟩ := hres1.free
 clear hres1 HC p0 p1 p2 p3 p4 d0 d1 d2 d3 d4
 go_wp2
 refine bodyPost_ret (zbd rfl _ _ s 50 #[.slice ao kn a2, .int .i64 kd, .slice bo vn b2, .int .i64 pg, .int .i64 ct] (0, 0) _ (.int .i64 0) (by rfl) (by rfl) (HR2.out.put _ _ _ _ _) Tryz.underlying50 rfl zal) rfl ?_
 have hf := zas u2 s (.slice ao kn a2) (.int .i64 kd) (.slice bo vn b2) (.int .i64 pg) (.int .i64 ct)
 have hys := HYS.out
 have hsw := HSW.out
 have hg1 := HG.out.1
 have hg2 := HG.out.2.1
 have hbu := zae HBY.out Lr HU2.out
 refine ⟨ao, kn, a2, bo, vn, b2, rfl, zaa ⟨rfl, rfl, ?_, ?_⟩, zaa (hbu.trans (hf.below hbu.size (by intro i hi e; omega)))⟩
 ·exact (hg1.cfX hf (fun z hz e => by have := (hg1.blk hz).1; omega)).low (by omega)
 ·exact (hg2.cfX hf (fun z hz e => by have := (hg2.blk hz).1; omega)).low (by omega)
theorem Yes.small {l : List Int} {cs : List Cl} (h : Yes l cs) (hw : ∀ c ∈ cs, c.Wf) : ∀ c ∈ cs, c.Wf ∧ c.key.length ≤ 140737488355328 ∧ c.val.length ≤ 140737488355328 := fun c hc => ⟨hw c hc, by have := (h.len.2 c hc).1; omega, by have := (h.len.2 c hc).2; omega⟩
theorem OwnD.sl8 {w : World} {co : Option Addr} {cn cc : Nat} {l : List Int} {cs : List Cl} (h : OwnD w 0 (.slice co cn cc) cs) (hy : Yes l cs) (hw : ∀ c ∈ cs, c.Wf) : SlC w co cn cc cs := by
 obtain ⟨ao, cap, e, hs⟩ := h.slc (hy.small hw) (by have := hy.len.1; omega)
 injection e with e1 e2 e3
 rw [e1, e2, e3]
 exact hs
theorem zdc {w : World} {x : Nat} {a b c : Value} (h : w.heap[x]? = some (.cells #[a, b, c] 71 (0, 0))) : w.cell? ⟨x, 0, none⟩ = some a ∧ w.cell? ⟨x, 1, none⟩ = some b ∧ w.cell? ⟨x, 2, none⟩ = some c := by
 refine ⟨?_, ?_, ?_⟩ <;> (rw [cell_of_row _ _ _ _ _ _ h]; rfl)
theorem RX.kind {w : World} {x : Nat} {l : List Int} {cs : List Cl} (h : RX w x l cs) :
  Calls Tryz.prog 27 #[.pointer (some ⟨x, 0, none⟩)] w fun e w' => e = .returned (.int .i64 (l.getD 0 0)) ∧ w' = w := by
 rcases h with ⟨e, r, co, cc, h1, h2, h3⟩ | ⟨e, r, co, cc, sv, h1, h2, h3, h4⟩
 ·obtain ⟨c0, c1, c2⟩ := zdc h1
  have HK := zaa (r6kind_any w r _ _ _ h2)
  generalize l.getD 0 0 = k at *
  clear h1 h2 h3 e
  go_enter Tryz.func27, Tryz.ntmps27
  go_wp2_with (go_at_call 62; refine zac HK.out ?_)
  go_ret
  exact ⟨rfl, rfl⟩
 ·obtain ⟨c0, c1, c2⟩ := zdc h1
  have HK := zaa (dkind_any w r _ _ _ _ _ h2)
  generalize l.getD 0 0 = k at *
  clear h1 h2 h3 h4 e
  go_enter Tryz.func27, Tryz.ntmps27
  go_wp2_with (go_at_call 63; refine zac HK.out ?_)
  go_ret
  exact ⟨rfl, rfl⟩
theorem RX.len {w : World} {x : Nat} {l : List Int} {cs : List Cl} (h : RX w x l cs) :
  Calls Tryz.prog 28 #[.pointer (some ⟨x, 0, none⟩)] w fun e w' => e = .returned (.int .i64 (cs.length : Int)) ∧ w' = w := by
 rcases h with ⟨e, r, co, cc, h1, h2, h3⟩ | ⟨e, r, co, cc, sv, h1, h2, h3, h4⟩
 ·obtain ⟨c0, c1, c2⟩ := zdc h1
  have HK := zaa (r6len_any w r _ _ _ _ _ h2)
  generalize cs.length = N at *
  clear h1 h2 h3 e
  go_enter Tryz.func28, Tryz.ntmps28
  go_wp2_with (go_at_call 64; refine zac HK.out ?_)
  go_ret
  exact ⟨rfl, rfl⟩
 ·obtain ⟨c0, c1, c2⟩ := zdc h1
  have HK := zaa (dlen_any w r _ _ _ _ _ _ _ h2)
  generalize cs.length = N at *
  clear h1 h2 h3 h4 e
  go_enter Tryz.func28, Tryz.ntmps28
  go_wp2_with (go_at_call 65; refine zac HK.out ?_)
  go_ret
  exact ⟨rfl, rfl⟩
theorem RX.used {w : World} {x : Nat} {l : List Int} {cs : List Cl} (h : RX w x l cs) (hy : Yes l cs) (hw : ∀ c ∈ cs, c.Wf) :
  Calls Tryz.prog 29 #[.pointer (some ⟨x, 0, none⟩)] w fun e w' => e = .returned (.int .i64 ((usX l cs : Nat) : Int)) ∧ Hid (Below w.heap.size w w') := by
 rcases h with ⟨e, r, co, cc, h1, h2, h3⟩ | ⟨e, r, co, cc, sv, h1, h2, h3, h4⟩
 ·obtain ⟨c0, c1, c2⟩ := zdc h1
  have hi : Is (l.getD 0 0) l.length cs l := by rcases hy with ⟨_, h⟩ | ⟨h, _⟩; exact h; omega
  have hu : usX l cs = szN cs := by unfold usX; rw [if_pos e]
  have HK := zaa (r6used_any w r _ _ _ _ _ cs h2 (h3.sl8 hy hw) (by have := hi.fit; have := zao hi.sz; omega))
  rw [hu]
  generalize szN cs = Z at *
  clear h1 h2 h3 e hi hu hy hw
  go_enter Tryz.func29, Tryz.ntmps29
  go_wp2_with (go_at_call 66; refine HK.out.mono ?_; rintro e w1 ⟨rfl, HB⟩)
  go_ret
  exact ⟨rfl, HB⟩
 ·obtain ⟨c0, c1, c2⟩ := zdc h1
  have hi : IsQ (l.getD 0 0) l.length cs l := by rcases hy with ⟨h, _⟩ | ⟨_, h⟩; omega; exact h
  have hu : usX l cs = szQ (l.getD 0 0) (shP (l.getD 0 0) cs).length cs := by unfold usX; rw [if_neg (by omega)]
  have hz := zbn (l.getD 0 0) (shP (l.getD 0 0) cs).length cs
  have hp := zao hi.sz
  have hf := hi.fit
  obtain ⟨so, sc, rfl⟩ := h4.shape
  have hbeg : ∀ (j : Nat) (c : Cl), cs[j]? = some c → ¬ (l.getD 0 0 = 3 ∧ j = 0) → (shP (l.getD 0 0) cs).length ≤ c.key.length := by
   intro j c hj hnk
   have hm : c ∈ ktl (l.getD 0 0) cs := by
    unfold ktl
    split
    ·rename_i hk3
     obtain ⟨j', rfl⟩ : ∃ j', j = j' + 1 := ⟨j - 1, by have : j ≠ 0 := fun e => hnk ⟨hk3, e⟩; omega⟩
     exact List.mem_of_getElem? (i := j') (by rw [List.getElem?_tail]; exact hj)
    ·exact List.mem_of_getElem? hj
   have := congrArg List.length (zce (l.getD 0 0) cs c hm)
   rw [zJ] at this
   omega
  have HK := zaa (dused_any w r _ _ _ _ _ so _ sc _ cs h2 (h3.sl8 hy hw) hbeg (zda hi.ok hi.sz) (by have := hy.len.1; omega) (by omega))
  rw [hu]
  generalize szQ (l.getD 0 0) (shP (l.getD 0 0) cs).length cs = Z at *
  clear h1 h2 h3 h4 e hi hu hy hw hz hp hf hbeg
  go_enter Tryz.func29, Tryz.ntmps29
  go_wp2_with (go_at_call 67; refine HK.out.mono ?_; rintro e w1 ⟨rfl, HB⟩)
  go_ret
  exact ⟨rfl, HB⟩
theorem RX.cell {w : World} {x : Nat} {l : List Int} {cs : List Cl} (h : RX w x l cs) (hy : Yes l cs) (hw : ∀ c ∈ cs, c.Wf) (i : Nat) (c : Cl) (hc : cs[i]? = some c) :
  Calls Tryz.prog 61 #[.pointer (some ⟨x, 0, none⟩), .int .i64 (i : Int)] w (RcTo c w) := by
 obtain ⟨s, hsz⟩ : ∃ s, w.heap.size = s := ⟨_, rfl⟩
 obtain ⟨y, hyy⟩ : ∃ y, w.alloc (.cells #[.slice none 0 0, .int .i64 0, .slice none 0 0, .int .i64 0, .int .i64 0] 50) = y := ⟨_, rfl⟩
 have hby : Below w.heap.size w y := by rw [← hyy]; exact zad Br Lr _
 have HRES : Hid (C5 y s (.slice none 0 0) (.int .i64 0) (.slice none 0 0) (.int .i64 0) (.int .i64 0)) := by rw [← hyy, ← hsz]; exact zaa (C5.box _ _ _ _ _ _)
 have HBY := zaa hby
 have HYS : Hid (s + 1 ≤ y.heap.size) := zaa (by rw [← hyy, ← hsz]; simp)
 have HSW := zaa hsz
 have hl := hy.len.1
 have hiB : (i : Int) ≤ 65536 := by have := (zH.1 hc).1; omega
 rcases h.on hby with ⟨e, r, co, cc, h1, h2, h3⟩ | ⟨e, r, co, cc, sv, h1, h2, h3, h4⟩
 ·obtain ⟨c0, c1, c2⟩ := zdc h1
  have HC := zaa (r6cell_any y r _ _ co _ cc cs h2 (h3.sl8 hy hw) i c hc)
  unfold RcTo at HC ⊢
  obtain ⟨kd, hkd⟩ : ∃ kd, c.kd = kd := ⟨_, rfl⟩
  obtain ⟨pg, hpg⟩ : ∃ pg, c.pg = pg := ⟨_, rfl⟩
  obtain ⟨ct, hct⟩ : ∃ ct, c.ct = ct := ⟨_, rfl⟩
  rw [hkd, hpg, hct] at HC ⊢
  clear h1 h2 h3 h e hc hy hw hby hl hkd hpg hct
  go_enter Tryz.func61, Tryz.ntmps61
  go_wp2_with (go_at_call 106; refine HC.out.mono ?_; rintro e u2 ⟨ka, kn, kc, va, vn, vc, rfl, HG, HU2⟩; refine Hid.out ?_)
  apply zaa
  have hres1 : C5 u2 s (.slice none 0 0) (.int .i64 0) (.slice none 0 0) (.int .i64 0) (.int .i64 0) := zag HRES.out HU2.out
  have HR2 := zaa hres1
  obtain ⟨b0, b1, b2', b3, b4⟩ := hres1.cells
  obtain ⟨h0, h1, h2, h3, h4⟩ := hres1.free
  clear hres1 HC c0 c1 c2
  go_wp2
  refine bodyPost_ret (zbd rfl _ _ s 50 #[.slice ka kn kc, .int .i64 kd, .slice va vn vc, .int .i64 pg, .int .i64 ct] (0, 0) _ (.int .i64 0) (by rfl) (by rfl) (HR2.out.put _ _ _ _ _) Tryz.underlying50 rfl zal) rfl ?_
  have hf := zas u2 s (.slice ka kn kc) (.int .i64 kd) (.slice va vn vc) (.int .i64 pg) (.int .i64 ct)
  have hys := HYS.out
  have hsw := HSW.out
  obtain ⟨g1, g2, hg1, hg2⟩ := HG.out
  have hbu := zae HBY.out Lr HU2.out
  refine ⟨ka, kn, kc, va, vn, vc, rfl, zaa ⟨g1, g2, ?_, ?_⟩, zaa (hbu.trans (hf.below hbu.size (by intro i hi e; omega)))⟩
  ·exact (hg1.cfX hf (fun z hz e => by have := (hg1.blk hz).1; omega)).low (by omega)
  ·exact (hg2.cfX hf (fun z hz e => by have := (hg2.blk hz).1; omega)).low (by omega)
 ·obtain ⟨c0, c1, c2⟩ := zdc h1
  have HC := zaa (r7cell_any y r _ _ co _ cc sv 0 cs h2 (h3.sl8 hy hw) i c hc)
  unfold RcTo at HC ⊢
  obtain ⟨kd, hkd⟩ : ∃ kd, c.kd = kd := ⟨_, rfl⟩
  obtain ⟨pg, hpg⟩ : ∃ pg, c.pg = pg := ⟨_, rfl⟩
  obtain ⟨ct, hct⟩ : ∃ ct, c.ct = ct := ⟨_, rfl⟩
  rw [hkd, hpg, hct] at HC ⊢
  clear h1 h2 h3 h4 h e hc hy hw hby hl hkd hpg hct
  go_enter Tryz.func61, Tryz.ntmps61
  go_wp2_with (go_at_call 107; refine HC.out.mono ?_; rintro e u2 ⟨ka, kn, kc, va, vn, vc, rfl, HG, HU2⟩; refine Hid.out ?_)
  apply zaa
  have hres1 : C5 u2 s (.slice none 0 0) (.int .i64 0) (.slice none 0 0) (.int .i64 0) (.int .i64 0) := zag HRES.out HU2.out
  have HR2 := zaa hres1
  obtain ⟨b0, b1, b2', b3, b4⟩ := hres1.cells
  obtain ⟨h0, h1, h2, h3, h4⟩ := hres1.free
  clear hres1 HC c0 c1 c2
  go_wp2
  refine bodyPost_ret (zbd rfl _ _ s 50 #[.slice ka kn kc, .int .i64 kd, .slice va vn vc, .int .i64 pg, .int .i64 ct] (0, 0) _ (.int .i64 0) (by rfl) (by rfl) (HR2.out.put _ _ _ _ _) Tryz.underlying50 rfl zal) rfl ?_
  have hf := zas u2 s (.slice ka kn kc) (.int .i64 kd) (.slice va vn vc) (.int .i64 pg) (.int .i64 ct)
  have hys := HYS.out
  have hsw := HSW.out
  obtain ⟨g1, g2, hg1, hg2⟩ := HG.out
  have hbu := zae HBY.out Lr HU2.out
  refine ⟨ka, kn, kc, va, vn, vc, rfl, zaa ⟨g1, g2, ?_, ?_⟩, zaa (hbu.trans (hf.below hbu.size (by intro i hi e; omega)))⟩
  ·exact (hg1.cfX hf (fun z hz e => by have := (hg1.blk hz).1; omega)).low (by omega)
  ·exact (hg2.cfX hf (fun z hz e => by have := (hg2.blk hz).1; omega)).low (by omega)
end Go.Proofs.YtbkhjeacmmbabaaGreatDoor
