import Derived.Test.YtofafbmpbkjhnaaGreatDoorJ41
import Derived.Test.YtofafbmpbkjhnaaGreatDoorJ48
import Derived.Test.YtofafbmpbkjhnaaGreatDoorJ42
namespace Go.Proofs.YtofafbmpbkjhnaaGreatDoor
set_option maxRecDepth 100000
set_option maxHeartbeats 4000000
open Go.RowKit
def ChTo (R : Int → Qs → Prop) (K : Nat → Prop) (a : Nat) (k : Int) (n : Nat) (w : World) (e : Ending) (w' : World) : Prop :=
 ∃ code t, e = .returned (.int .i64 code) ∧ Hid (R code t) ∧ Hid (Pk w' (Zk K w w') a k n t) ∧ Hid (Cf K w w')
theorem Zk.from {K : Nat → Prop} {w x w' : World} (hs : w.heap.size ≤ x.heap.size) : ∀ b, Zk K x w' b → Zk K w w' b := by
 rintro b (e | e)
 ·exact .inl e
 ·exact .inr ⟨zN hs e.1, e.2⟩
theorem ChTo.from {R S : Int → Qs → Prop} {K : Nat → Prop} {a : Nat} {k : Int} {n : Nat} {w x w' : World} {e : Ending} (hb : Below w.heap.size w x) (hK : ∀ b, K b → b < w.heap.size) (hR : ∀ code t, R code t → S code t) (h : ChTo R K a k n x e w') : ChTo S K a k n w e w' := by
 obtain ⟨code, t, rfl, HR, HP, HC⟩ := h
 have hc : Cf K w w' := (Cf.of_below hb).go HC.out
 exact ⟨code, t, rfl, zaa (hR code t HR.out), zaa (HP.out.wide (Zk.from hb.size) (Zk.lt hK hc.size)), zaa hc⟩
theorem ChTo.stay {R : Int → Qs → Prop} {K : Nat → Prop} {a : Nat} {k : Int} {n : Nat} {s : Qs} {w w' : World} {code : Int} (h : Pk w K a k n s) (hb : Below w.heap.size w w') (hR : R code s) : ChTo R K a k n w (.returned (.int .i64 code)) w' :=
 ⟨code, s, rfl, zaa hR, zaa (h.go hb).zk, zaa (Cf.of_below hb)⟩
def InsR (k : Int) (n : Nat) (s : Qs) (I : Int) (c : Cl) (code : Int) (t : Qs) : Prop :=
 (¬ (0 ≤ I ∧ I ≤ (s.cs.length : Int)) ∧ code = 64 ∧ t = s) ∨ ∃ i : Nat, I = (i : Int) ∧ i ≤ s.cs.length ∧ PutR k n s i i c code t
def SetR (k : Int) (n : Nat) (s : Qs) (I : Int) (c : Cl) (code : Int) (t : Qs) : Prop :=
 (¬ (0 ≤ I ∧ I < (s.cs.length : Int)) ∧ code = 64 ∧ t = s) ∨ ∃ i : Nat, I = (i : Int) ∧ i < s.cs.length ∧ PutR k n s i (i + 1) c code t
theorem insertQ_any (w : World) (K : Nat → Prop) (a : Nat) (k : Int) (n : Nat) (s : Qs) (h : Pk w K a k n s) (I : Int) (hn : pw n)
  (c : Cl) (ka va : Option Addr) (kc vc : Nat) (hk : Sl w ka c.key.length kc c.key) (hv : Sl w va c.val.length vc c.val) (fk : OutK K ka c.key.length) (fv : OutK K va c.val.length) :
  Calls Tryz.prog 272 #[.pointer (some ⟨a, 0, none⟩), .int .i64 I, .agg #[.slice ka c.key.length kc, .int .i64 c.kd, .slice va c.val.length vc, .int .i64 c.pg, .int .i64 c.ct]] w (ChTo (InsR k n s I c) K a k n w) := by
 obtain ⟨x, hx⟩ : ∃ x, w.alloc (.cells #[.slice ka c.key.length kc, .int .i64 c.kd, .slice va c.val.length vc, .int .i64 c.pg, .int .i64 c.ct] 43) = x := ⟨_, rfl⟩
 have hbx : Below w.heap.size w x := by rw [← hx]; exact zac Br Lr _
 have hc5 : C5 x w.heap.size (.slice ka c.key.length kc) (.int .i64 c.kd) (.slice va c.val.length vc) (.int .i64 c.pg) (.int .i64 c.ct) := by rw [← hx]; exact C5.box _ _ _ _ _ _
 obtain ⟨z0, z1, z2, z3, z4⟩ := hc5.cells
 have hn2 := zak hn
 have hPx := h.go hbx
 have hkl := h.kl
 obtain ⟨po, pn, pc, bo, bn, bc, so, sn, sc, body, st, hA⟩ := hPx
 obtain ⟨l1, l2, l3, l4, l5⟩ := hA.lens
 have hpg := hA.pgq hn2.2
 have hfit := hA.ok.fit
 have HLN := zaa (zbl x a k n po pn pc bo bn bc so sn sc _ s.P body st hpg)
 have HP := zaa (And.intro h (And.intro hbx hkl))
 have hsI : (sn : Int) ≤ 65536 := by omega
 by_cases hin : 0 ≤ I ∧ I ≤ (s.cs.length : Int)
 ·obtain ⟨i, rfl⟩ : ∃ i : Nat, I = (i : Int) := ⟨I.toNat, by omega⟩
  have HPT := zaa (putq_any x K a k n s (h.go hbx) i i (.inl rfl) (by omega) hn c ka va kc vc (hk.on Lr hbx) (hv.on Lr hbx) fk fv)
  have HI : Hid (i ≤ s.cs.length) := zaa (by omega)
  by_cases he : i = sn
  ·have heI : (i : Int) = (sn : Int) := by omega
   subst he
   clear h hk hv fk fv hbx hc5 hn hkl hA l1 l2 l3 l4 l5 hpg hfit hin heI hn2
   go_enter Tryz.func272, Tryz.ntmps272
   go_wp2_with (first | (go_at_call 159; refine zae HLN.out ?_) | (go_at_call 281; refine HPT.out.mono ?_; rintro e w2 ⟨code, t, rfl, HR2, HP2, HC2⟩))
   go_ret
   exact ChTo.from HP.out.2.1 HP.out.2.2 (fun code t h => .inr ⟨i, rfl, HI.out, h⟩) ⟨code, t, rfl, HR2, HP2, HC2⟩
  ·have heI : ¬ (i : Int) = (sn : Int) := by omega
   have HHS := zaa (hasQ x a k n po pn pc bo bn bc so sn sc _ s.P body st hpg i (by omega))
   clear h hk hv fk fv hbx hc5 hn hkl hA l1 l2 l3 l4 l5 hpg hfit hin hn2 he
   go_enter Tryz.func272, Tryz.ntmps272
   go_wp2_with (first | (go_at_call 159; refine zae HLN.out ?_) | (go_at_call 278; refine zae HHS.out ?_) | (go_at_call 281; refine HPT.out.mono ?_; rintro e w2 ⟨code, t, rfl, HR2, HP2, HC2⟩))
   go_ret
   exact ChTo.from HP.out.2.1 HP.out.2.2 (fun code t h => .inr ⟨i, rfl, HI.out, h⟩) ⟨code, t, rfl, HR2, HP2, HC2⟩
 ·have heI : ¬ I = (sn : Int) := by omega
  have HHS := zaa (hasQ_no x a k n po pn pc bo bn bc so sn sc _ s.P body st hpg I (by omega))
  have HN := zaa hin
  clear h hk hv fk fv hbx hc5 hn hkl hA l1 l2 l3 l4 l5 hpg hfit hin hn2
  go_enter Tryz.func272, Tryz.ntmps272
  go_wp2_with (first | (go_at_call 159; refine zae HLN.out ?_) | (go_at_call 278; refine zae HHS.out ?_))
  go_ret
  exact ChTo.stay HP.out.1 HP.out.2.1 (.inl ⟨HN.out, rfl, rfl⟩)
theorem setQ_any (w : World) (K : Nat → Prop) (a : Nat) (k : Int) (n : Nat) (s : Qs) (h : Pk w K a k n s) (I : Int) (hn : pw n)
  (c : Cl) (ka va : Option Addr) (kc vc : Nat) (hk : Sl w ka c.key.length kc c.key) (hv : Sl w va c.val.length vc c.val) (fk : OutK K ka c.key.length) (fv : OutK K va c.val.length) :
  Calls Tryz.prog 275 #[.pointer (some ⟨a, 0, none⟩), .int .i64 I, .agg #[.slice ka c.key.length kc, .int .i64 c.kd, .slice va c.val.length vc, .int .i64 c.pg, .int .i64 c.ct]] w (ChTo (SetR k n s I c) K a k n w) := by
 obtain ⟨x, hx⟩ : ∃ x, w.alloc (.cells #[.slice ka c.key.length kc, .int .i64 c.kd, .slice va c.val.length vc, .int .i64 c.pg, .int .i64 c.ct] 43) = x := ⟨_, rfl⟩
 have hbx : Below w.heap.size w x := by rw [← hx]; exact zac Br Lr _
 have hc5 : C5 x w.heap.size (.slice ka c.key.length kc) (.int .i64 c.kd) (.slice va c.val.length vc) (.int .i64 c.pg) (.int .i64 c.ct) := by rw [← hx]; exact C5.box _ _ _ _ _ _
 obtain ⟨z0, z1, z2, z3, z4⟩ := hc5.cells
 have hn2 := zak hn
 have hPx := h.go hbx
 have hkl := h.kl
 obtain ⟨po, pn, pc, bo, bn, bc, so, sn, sc, body, st, hA⟩ := hPx
 obtain ⟨l1, l2, l3, l4, l5⟩ := hA.lens
 have hpg := hA.pgq hn2.2
 have hfit := hA.ok.fit
 have HP := zaa (And.intro h (And.intro hbx hkl))
 by_cases hin : 0 ≤ I ∧ I < (s.cs.length : Int)
 ·obtain ⟨i, rfl⟩ : ∃ i : Nat, I = (i : Int) := ⟨I.toNat, by omega⟩
  obtain ⟨j, hj⟩ : ∃ j, i + 1 = j := ⟨_, rfl⟩
  have HPT := zaa (putq_any x K a k n s (h.go hbx) i j (.inr hj.symm) (by omega) hn c ka va kc vc (hk.on Lr hbx) (hv.on Lr hbx) fk fv)
  have HI : Hid (i < s.cs.length ∧ j = i + 1) := zaa (by omega)
  have HHS := zaa (hasQ x a k n po pn pc bo bn bc so sn sc _ s.P body st hpg i (by omega))
  have hjI : (i : Int) + 1 = (j : Int) := by omega
  have hjb : (j : Int) ≤ 65536 := by omega
  clear h hk hv fk fv hbx hc5 hn hkl hA l1 l2 l3 l4 l5 hpg hfit hin hn2 hj
  go_enter Tryz.func275, Tryz.ntmps275
  go_wp2_with (first | (go_at_call 278; refine zae HHS.out ?_) | (go_at_call 281; refine HPT.out.mono ?_; rintro e w2 ⟨code, t, rfl, HR2, HP2, HC2⟩))
  go_ret
  exact ChTo.from HP.out.2.1 HP.out.2.2 (fun code t h => .inr ⟨i, rfl, HI.out.1, by rw [← HI.out.2]; exact h⟩) ⟨code, t, rfl, HR2, HP2, HC2⟩
 ·have HHS := zaa (hasQ_no x a k n po pn pc bo bn bc so sn sc _ s.P body st hpg I (by omega))
  have HN := zaa hin
  clear h hk hv fk fv hbx hc5 hn hkl hA l1 l2 l3 l4 l5 hpg hfit hin hn2
  go_enter Tryz.func275, Tryz.ntmps275
  go_wp2_with (go_at_call 278; refine zae HHS.out ?_)
  go_ret
  exact ChTo.stay HP.out.1 HP.out.2.1 (.inl ⟨HN.out, rfl, rfl⟩)
theorem delE_all (u : World) (g sn : Nat) (cs : List Cl) (hE : SlE u g (some ⟨g, 0, none⟩) sn sn cs) (hR : zag u g sn) (hsn : sn ≤ 65535) (i j : Nat) (hij : i + 1 = j) (hj : j ≤ sn) :
  Calls Tryz.prog 283 #[.slice (some ⟨g, 0, none⟩) sn sn, .int .i64 (i : Int), .int .i64 (j : Int)] u fun e w' => ∃ d, e = .returned (.slice (some ⟨g, 0, none⟩) d sn) ∧ Hid (SlE w' g (some ⟨g, 0, none⟩) d sn (cs.take i ++ cs.drop j) ∧ d ≤ 65536) ∧ Hid (Below g u w') := by
 have hlen := hE.hlen
 have hgl := hR.lt
 obtain ⟨xs, hx6, hxo⟩ := hE.row6 hR
 have h6 : Row6 u g (xs.take (i * 6) ++ xs.drop (j * 6)) (cs.take i ++ cs.drop j) := Row6.append (hx6.drop j) (hx6.take i)
 have key : ∀ (e : Ending) (w' : World), (e = .returned (.slice (some ⟨g, 0, none⟩) (i + (sn - j)) sn) ∧ Hid (zag w' g sn ∧ ∀ q v, (xs.take (i * 6) ++ xs.drop (j * 6))[q]? = some v → w'.cell? ⟨g, q, none⟩ = some v) ∧ Hid (Cf (· = g) u w')) → ∃ d, e = .returned (.slice (some ⟨g, 0, none⟩) d sn) ∧ Hid (SlE w' g (some ⟨g, 0, none⟩) d sn (cs.take i ++ cs.drop j) ∧ d ≤ 65536) ∧ Hid (Below g u w') := by
  rintro e w' ⟨rfl, HO, HC⟩
  have hB : Below g u w' := HC.out.below (Nat.le_of_lt hgl) (fun k hk e => by omega)
  exact ⟨_, rfl, zaa ⟨SlE.of6 h6 hB (by simp; omega) (by omega) (by omega) HO.out.1.lt HO.out.2, by omega⟩, zaa hB⟩
 by_cases hr : sn - j = 0
 ·exact (delE_end u g sn i j (sn - j) _ xs hxo hij (by omega) hr rfl hsn).mono key
 ·exact (delE_mid u g sn i j (sn - j) _ xs hxo hij (by omega) (by omega) rfl hsn).mono key
theorem own_eq (so : Option Addr) (m n c d : Nat) : (Value.slice so m c).ownBlock = (Value.slice so n d).ownBlock := by cases so <;> rfl
theorem Far.len {po so : Option Addr} {pn m n c d : Nat} (h : Far po pn (.slice so m c)) : Far po pn (.slice so n d) := by
 unfold Far at *
 rw [own_eq so n m d c]
 exact h
def RemR (k : Int) (n : Nat) (s : Qs) (I : Int) (code : Int) (t : Qs) : Prop :=
 (¬ (0 ≤ I ∧ I < (s.cs.length : Int)) ∧ code = 64 ∧ t = s) ∨ ∃ (i : Nat) (d : Cl), I = (i : Int) ∧ s.cs[i]? = some d ∧ ((((k = 3 ∧ i = 0) ∨ s.cs.length = 1) ∧ LayR k n s (s.cs.take i ++ s.cs.drop (i + 1)) code t) ∨ (¬ ((k = 3 ∧ i = 0) ∨ s.cs.length = 1) ∧ code = 0 ∧ t = ⟨s.P, s.cs.take i ++ s.cs.drop (i + 1), s.ws + (qB s.P.length d).length⟩))
theorem ChTo.lay {w u w' : World} {K : Nat → Prop} {a : Nat} {k : Int} {n : Nat} {s : Qs} {cs : List Cl} {S : Int → Qs → Prop} {e : Ending} (hb : Below w.heap.size w u) (hK : ∀ b, K b → b < w.heap.size) (hS : ∀ code t, LayR k n s cs code t → S code t) (h : ∃ code t, e = .returned (.int .i64 code) ∧ Hid (LayR k n s cs code t) ∧ Hid (Pk w' (Zk K u w') a k n t) ∧ Hid (Cf K u w')) : ChTo S K a k n w e w' :=
 ChTo.from (R := LayR k n s cs) hb hK hS h
theorem rem_lay (w : World) (K : Nat → Prop) (a : Nat) (k : Int) (n : Nat) (s : Qs) (h : Pk w K a k n s) (hn : pw n) (i : Nat) (d : Cl) (hd : s.cs[i]? = some d) (hlay : (k = 3 ∧ i = 0) ∨ s.cs.length = 1) :
  Calls Tryz.prog 274 #[.pointer (some ⟨a, 0, none⟩), .int .i64 (i : Int)] w (ChTo (LayR k n s (s.cs.take i ++ s.cs.drop (i + 1))) K a k n w) := by
 have hn2 := zak hn
 have hkl := h.kl
 obtain ⟨po, pn, pc, bo, bn, bc, so, sn, sc, body, st, hA⟩ := h
 obtain ⟨l1, l2, l3, l4, l5⟩ := hA.lens
 have hfit := hA.ok.fit
 have hpg := hA.pgq hn2.2
 have hil := (zH.1 hd).1
 obtain ⟨j, hj⟩ : ∃ j, i + 1 = j := ⟨_, rfl⟩
 rw [hj]
 have HHS := zaa (hasQ w a k n po pn pc bo bn bc so sn sc _ s.P body st hpg i (by omega))
 have HLN := zaa (zbl w a k n po pn pc bo bn bc so sn sc _ s.P body st hpg)
 have EN : Hid (Calls Tryz.prog 206 #[.pointer (some ⟨a, 0, none⟩)] w fun e w' => ∃ q, e = .returned (.slice (some ⟨q, 0, none⟩) sn sn) ∧ Hid (SlE w' q (some ⟨q, 0, none⟩) sn sn s.cs ∧ zag w' q sn ∧ w.heap.size ≤ q ∧ q < w'.heap.size) ∧ Hid (Below w.heap.size w w')) := by
  refine zaa ((entriesR_any w a k n po pn pc bo bn bc so sn sc _ s.P body st s.cs hpg hA.lay (by omega)).mono ?_)
  rintro e w' ⟨q, rfl, HS, HB⟩
  exact ⟨q, rfl, zaa ⟨HS.out.1, HS.out.2, HB.out.2.1, HB.out.2.2⟩, zaa HB.out.1⟩
 have HP := zaa (show Pk w K a k n s from ⟨_, _, _, _, _, _, _, _, _, _, _, hA⟩)
 have HN : Hid (Rs (s.cs.take i ++ s.cs.drop j) ∧ (∀ d ∈ s.cs.take i ++ s.cs.drop j, mayP k n d) ∧ (∀ d ∈ s.cs.take i ++ s.cs.drop j, d.Wf)) := zaa (by
  have hmem : ∀ d ∈ s.cs.take i ++ s.cs.drop j, d ∈ s.cs := fun d hd => by
   rcases List.mem_append.1 hd with e | e
   ·exact List.mem_of_mem_take e
   ·exact List.mem_of_mem_drop e
  exact ⟨rs_cut i j (by omega) hA.ok.rs, fun d hd => hA.ok.may d (hmem d hd), fun d hd => hA.ok.wf d (hmem d hd)⟩)
 have HIJ : Hid (i + 1 = j ∧ j ≤ sn ∧ sn ≤ 65535 ∧ n ≤ 65536) := zaa (by omega)
 have HKL := zaa hkl
 have hIJ : (i : Int) + 1 = (j : Int) := by omega
 have hJI : (j : Int) ≤ 65536 := by omega
 obtain ⟨c0, c1, c2, c3, c4, c5⟩ := hA.pg.row.cells
 obtain ⟨bw, hbw⟩ : ∃ bw, decide (k = 3 ∧ (i : Int) = 0) = bw := ⟨_, rfl⟩
 have HSW : Hid (Calls Tryz.prog 153 #[.int .i64 k, .int .i64 (i : Int)] w fun e w' => e = .returned (.bool bw) ∧ w' = w) := zaa (by
  have := zba k (i : Int) w
  rwa [hbw] at this)
 have HL1 : bw = false → Hid ((sn : Int) = 1) := fun e => zaa (by
  rw [e] at hbw
  have := of_decide_eq_false hbw
  omega)
 clear hA hpg l1 l2 l3 l4 l5 hfit hkl hd hil hlay hn hn2 hj hbw
 cases bw with
 | true =>
  clear HL1 HLN
  go_enter Tryz.func274, Tryz.ntmps274
  go_wp2_with (first | (go_at_call 278; refine zae HHS.out ?_) | (go_at_call 153; refine zae HSW.out ?_) | (go_at_call 206; refine EN.out.mono ?_; rintro e w1 ⟨q, rfl, HQ, HB1⟩; refine Hid.out ?_))
  apply zaa
  have HDL := zaa (delE_all w1 q sn s.cs HQ.out.1 HQ.out.2.1 HIJ.out.2.2.1 i j HIJ.out.1 HIJ.out.2.1)
  go_wp2_with (go_at_call 283; refine HDL.out.mono ?_; rintro e w2 ⟨dd, rfl, HS2, HB2⟩; refine Hid.out ?_)
  apply zaa
  have HBW : Hid (Below w.heap.size w w2) := zaa (HB1.out.trans (HB2.out.mono HQ.out.2.2.1))
  have HLY := zaa (lay_any w2 K a k n s (HP.out.go HBW.out) q _ dd sn _ HS2.out.1 (zN (Nat.le_of_lt HQ.out.2.2.2) HB2.out.size) HN.out.1 HN.out.2.1 HN.out.2.2 HIJ.out.2.2.2 HS2.out.2)
  clear HDL
  go_wp2_with (go_at_call 282; refine HLY.out.mono ?_; rintro e w3 ⟨code, t, rfl, HR3, HP3, HC3⟩)
  go_ret
  exact ChTo.lay HBW.out HKL.out (fun _ _ h => h) ⟨code, t, rfl, HR3, HP3, HC3⟩
 | false =>
  rw [(HL1 rfl).out] at HLN
  clear HL1
  go_enter Tryz.func274, Tryz.ntmps274
  go_wp2_with (first | (go_at_call 278; refine zae HHS.out ?_) | (go_at_call 153; refine zae HSW.out ?_) | (go_at_call 159; refine zae HLN.out ?_) | (go_at_call 206; refine EN.out.mono ?_; rintro e w1 ⟨q, rfl, HQ, HB1⟩; refine Hid.out ?_))
  apply zaa
  have HDL := zaa (delE_all w1 q sn s.cs HQ.out.1 HQ.out.2.1 HIJ.out.2.2.1 i j HIJ.out.1 HIJ.out.2.1)
  go_wp2_with (go_at_call 283; refine HDL.out.mono ?_; rintro e w2 ⟨dd, rfl, HS2, HB2⟩; refine Hid.out ?_)
  apply zaa
  have HBW : Hid (Below w.heap.size w w2) := zaa (HB1.out.trans (HB2.out.mono HQ.out.2.2.1))
  have HLY := zaa (lay_any w2 K a k n s (HP.out.go HBW.out) q _ dd sn _ HS2.out.1 (zN (Nat.le_of_lt HQ.out.2.2.2) HB2.out.size) HN.out.1 HN.out.2.1 HN.out.2.2 HIJ.out.2.2.2 HS2.out.2)
  clear HDL
  go_wp2_with (go_at_call 282; refine HLY.out.mono ?_; rintro e w3 ⟨code, t, rfl, HR3, HP3, HC3⟩)
  go_ret
  exact ChTo.lay HBW.out HKL.out (fun _ _ h => h) ⟨code, t, rfl, HR3, HP3, HC3⟩
theorem removeQ_any (w : World) (K : Nat → Prop) (a : Nat) (k : Int) (n : Nat) (s : Qs) (h : Pk w K a k n s) (I : Int) (hn : pw n) :
  Calls Tryz.prog 274 #[.pointer (some ⟨a, 0, none⟩), .int .i64 I] w (ChTo (RemR k n s I) K a k n w) := by
 have hn2 := zak hn
 have hkl := h.kl
 by_cases hin : 0 ≤ I ∧ I < (s.cs.length : Int)
 ·obtain ⟨i, rfl⟩ : ∃ i : Nat, I = (i : Int) := ⟨I.toNat, by omega⟩
  obtain ⟨d, hd⟩ : ∃ d, s.cs[i]? = some d := ⟨_, zI (by omega)⟩
  by_cases hlay : (k = 3 ∧ i = 0) ∨ s.cs.length = 1
  ·exact (rem_lay w K a k n s h hn i d hd hlay).mono fun e w' hq => ChTo.from Br hkl (fun code t hr => .inr ⟨i, d, rfl, hd, .inl ⟨hlay, hr⟩⟩) hq
  ·obtain ⟨po, pn, pc, bo, bn, bc, so, sn, sc, body, st, hA⟩ := h
   obtain ⟨l1, l2, l3, l4, l5⟩ := hA.lens
   have hfit := hA.ok.fit
   have hk0 : ¬ (k = 3 ∧ i = 0) := fun e => hlay (.inl e)
   have hs1 : ¬ s.cs.length = 1 := fun e => hlay (.inr e)
   have hsum := hA.sum
   refine (rem_in w 0 a k n po pn pc bo bn bc so sn sc _ s.P body st hA.pg (by omega) (by omega) i (i + 1) (sn - 1) rfl (by omega) (by omega) (by omega) hk0 s.cs hA.lay d hd hA.wf (by omega) (by omega) _ rfl hA.far).mono ?_
   rintro e w' ⟨rfl, HPO, HC⟩
   have hlv := lvQ_rem k s.P s.cs i (i + 1) d rfl hd hk0
   have hll := hA.lay.rem (i := i) (j := i + 1) rfl (by omega) hk0
   have hmem : ∀ d ∈ s.cs.take i ++ s.cs.drop (i + 1), d ∈ s.cs := fun d hd => by
    rcases List.mem_append.1 hd with e | e
    ·exact List.mem_of_mem_take e
    ·exact List.mem_of_mem_drop e
   refine ⟨0, ⟨s.P, s.cs.take i ++ s.cs.drop (i + 1), s.ws + (qB s.P.length d).length⟩, rfl, zaa (.inr ⟨i, d, rfl, hd, .inr ⟨hlay, rfl, rfl⟩⟩), zaa (hA.put (vb' := .slice bo bn bc) (vs' := .slice so (sn - 1) sc) rfl ?_ hA.far.len (.inl rfl) (.inl (own_eq _ _ _ _ _)) hll hA.wf ⟨hll.beg, rs_cut i (i + 1) (by omega) hA.ok.rs, fun d hd => hA.ok.may d (hmem d hd), fun d hd => hA.ok.wf d (hmem d hd), ?_⟩ ?_ HC.out.size), zaa (hA.cfq HC.out)⟩
   ·have := HPO.out
    rw [show (s.ws : Int) + ((qB s.P.length d).length : Int) = ((s.ws + (qB s.P.length d).length : Nat) : Int) by omega] at this
    exact this
   ·unfold filQ at *
    have : (s.cs.take i ++ s.cs.drop (i + 1)).length + 1 = s.cs.length := by simp; omega
    simp only
    omega
   ·simp only
    omega
 ·obtain ⟨po, pn, pc, bo, bn, bc, so, sn, sc, body, st, hA⟩ := h
  obtain ⟨l1, l2, l3, l4, l5⟩ := hA.lens
  refine (rem_no w a k n po pn pc bo bn bc so sn sc _ s.P body st (hA.pgq hn2.2) I (by omega)).mono ?_
  rintro e w' ⟨rfl, rfl⟩
  exact ChTo.stay ⟨_, _, _, _, _, _, _, _, _, _, _, hA⟩ Br (.inl ⟨hin, rfl, rfl⟩)
theorem Qok.lay {k : Int} {n : Nat} {s : Qs} (h : Qok k n s) : szQ k (shP k s.cs).length s.cs ≤ n := by
 have h1 := szQ_less h.beg
 have h2 := filQ_eq k s
 have h3 := h.fit
 omega
structure AskP (w : World) (a : Nat) (k : Int) (n : Nat) (s : Qs) : Prop where
 len : Calls Tryz.prog 159 #[.pointer (some ⟨a, 0, none⟩)] w fun e w' => e = .returned (.int .i64 (s.cs.length : Int)) ∧ w' = w
 kind : Calls Tryz.prog 273 #[.pointer (some ⟨a, 0, none⟩)] w fun e w' => e = .returned (.int .i64 k) ∧ w' = w
 used : Calls Tryz.prog 277 #[.pointer (some ⟨a, 0, none⟩)] w fun e w' => e = .returned (.int .i64 ((szQ k s.P.length s.cs : Nat) : Int)) ∧ Hid (Below w.heap.size w w')
 cell : ∀ x : Int, Calls Tryz.prog 270 #[.pointer (some ⟨a, 0, none⟩), .int .i64 x] w (CelO (cellE s.cs x) (remE s.cs x) w)
 find : ∀ (qo : Option Addr) (qn qc : Nat) (q : List Int), Sl w qo qn qc q → Calls Tryz.prog 271 #[.pointer (some ⟨a, 0, none⟩), .slice qo qn qc] w fun e w' => FindTo s.cs q w e w'
theorem Pk.askp {w : World} {K : Nat → Prop} {a : Nat} {k : Int} {n : Nat} {s : Qs} (h : Pk w K a k n s) (hn : pw n) : AskP w a k n s := by
 have hn2 := zak hn
 obtain ⟨po, pn, pc, bo, bn, bc, so, sn, sc, body, st, hA⟩ := h
 obtain ⟨l1, l2, l3, l4, l5⟩ := hA.lens
 have hpg := hA.pgq hn2.2
 have hfit := hA.ok.fit
 have hfe := filQ_eq k s
 refine ⟨?_, kindW_any w a k n _ _ _ _ hA.pg.row, ?_, fun x => cellQ_any w a k n po pn pc bo bn bc so sn sc _ s.P body st s.cs hpg hA.lay x, fun qo qn qc q hq => findQ_any w a k n po pn pc bo bn bc so sn sc _ s.P body st s.cs hpg hA.lay hA.ok.rs (by omega) (by omega) qo qn qc q hq⟩
 ·rw [l4]
  exact zbl w a k n po pn pc bo bn bc so sn sc _ s.P body st hpg
 ·exact usedW_any w a k n po pn pc bo bn bc so sn sc s.ws hA.pg.row (by omega) (by omega) (by omega) (filQ k s) _ (by omega) hfe
theorem Qok.few {k : Int} {n : Nat} {s : Qs} (h : Qok k n s) (hn : pw n) : s.cs.length ≤ 65536 := by
 have h1 := h.fit
 have h2 := zak hn
 unfold filQ at h1
 omega
theorem ncells_Q (w : World) (K : Nat → Prop) (a : Nat) (k : Int) (n : Nat) (s : Qs) (cs : List Cl) (hcs : s.cs = cs) (hp : Pk w K a k n s) (hn : pw n) :
  Calls Tryz.prog 10 #[iQ a] w (CelsTo cs w) := by
 obtain ⟨ic, hic, hz0, hz1, hz2⟩ := info_parts infoC
 obtain ⟨sn, hsn⟩ : ∃ sn, cs.length = sn := ⟨_, rfl⟩
 have hs1 : sn ≤ 65536 := by have := hp.ok.few hn; rw [hcs] at this; omega
 have HSN := zaa hsn
 have HAS : Hid (∀ u, Below w.heap.size w u → AskP u a k n s) := zaa fun u hu => (hp.go hu).askp hn
 have HLN : Hid (Calls Tryz.prog 159 #[.pointer (some ⟨a, 0, none⟩)] w fun e w' => e = .returned (.int .i64 (sn : Int)) ∧ w' = w) := zaa (by
  have := (HAS.out w Br).len
  rw [hcs, hsn] at this
  exact this)
 have HCS := zaa hcs
 unfold CelsTo
 rw [hsn]
 clear hp hn hsn hcs
 go_enter Tryz.func10, Tryz.ntmps10
 go_wp2_with (first
  | (go_at_call 159; refine zae HLN.out ?_)
  | (at_make; refine wpList_make_full _ rfl _ _ 32 rfl w.heap.size 43 ic _ 5 Tryz.underlying32 hic hz0 hz1 .i64 .i64 sn sn sn rfl rfl rfl rfl (by rw [hz2]; omega) (by unfold maxLen; omega) Lr ?_; refine Hid.out ?_))
 apply zaa
 intro w2 ho2 hg2
 have hb2 : Below w.heap.size w w2 := Br.grown hg2 Lr (fun k hk => by cases hk)
 obtain ⟨g, hg⟩ : ∃ g, w.heap.size = g := ⟨_, rfl⟩
 have HRW : Hid (RowC w2 g sn) := by
  rcases ho2.2 with ⟨h, _⟩ | ⟨q, c, cur, h, _, hh, _, _, hss, _⟩
  ·cases h
  ·cases h
   rw [← hg]
   exact zaa ⟨cur, hh, by rw [hss]; omega⟩
 have hgs : Below g w w2 := by rw [← hg]; exact hb2
 have HGS := zaa hgs
 have HGW := zaa hg
 rw [hg]
 clear ho2 hg2 hb2 HLN hgs
 go_wp2_with fail
 go_loopw [4, 12, 15, 20] (fun s4 i s15 s20 wr => ∃ j : Nat, j ≤ sn ∧ i = .int .i64 j ∧ Hid (RowC wr g sn) ∧ Hid (Below g w wr) ∧ Hid (∀ i d, i < j → cs[i]? = some d → OAt wr g g (i * 5) d)) (fun _ i _ _ _ => sn - (intOf i).toNat)
 case atStart => exact ⟨0, by omega, rfl, HRW, HGS, zaa fun i d hi => by omega⟩
 case round =>
  obtain ⟨j, hj, rfl, HR, HG, HD⟩ := hrel
  have HBE : Hid (Below w.heap.size w wr) := zaa (by rw [HGW.out]; exact HG.out)
  have bj : (j : Int) ≤ 65536 := by omega
  clear HRW HGS
  by_cases hlt : j < sn
  ·have hltI : (j : Int) < (sn : Int) := by omega
   obtain ⟨d, hd⟩ : ∃ d, cs[j]? = some d := ⟨_, zI (by rw [HSN.out]; exact hlt)⟩
   have HDJ := zaa hd
   have HCL : Hid (Calls Tryz.prog 270 #[.pointer (some ⟨a, 0, none⟩), .int .i64 (j : Int)] wr (CelO d 0 wr)) := zaa (by
    have h := (HAS.out wr HBE.out).cell (j : Int)
    rw [HCS.out] at h
    have e1 : cellE cs (j : Int) = d := by unfold cellE; rw [if_pos ⟨by omega, by rw [HSN.out]; omega⟩, Int.toNat_natCast, hd]; rfl
    have e2 : remE cs (j : Int) = 0 := by unfold remE; rw [if_pos ⟨by omega, by rw [HSN.out]; omega⟩]
    rw [e1, e2] at h
    exact h)
   clear hd
   go_wp2_with (go_at_call 270; refine HCL.out.mono ?_; rintro e u2 ⟨ko, kc, vo, vc, rfl, HOO, HBU⟩; refine Hid.out ?_)
   apply zaa
   have HR2 : Hid (RowC u2 g sn) := zaa (HR.out.on HBU.out)
   have HG2 : Hid (Below g w u2) := zaa (HG.out.trans (HBU.out.mono (Nat.le_of_lt HR.out.lt)))
   have hwg : g ≤ wr.heap.size := by have := HBE.out.size; have := HGW.out; omega
   have HWG := zaa hwg
   clear HCL hwg
   go_wp2_with (refine put_cell (by rfl) _ _ (by rfl) g (j * 5) sn ko vo d.key.length kc d.val.length vc d.kd d.pg d.ct HR2.out (by rfl) (by rfl) (by omega) ?_; intro u3 HU3; refine Hid.out ?_)
   apply zaa
   have HR3 : Hid (RowC u3 g sn) := zaa (by rw [HU3.out]; exact RowC.sets _ _ _ HR2.out)
   have HG3 : Hid (Below g w u3) := zaa (by
    rw [HU3.out]
    simp only [World.setCells]
    refine ((((HG2.out.setCell ?_ _).setCell ?_ _).setCell ?_ _).setCell ?_ _).setCell ?_ _ <;> simp)
   have HD3 : Hid (∀ i d, i < j + 1 → cs[i]? = some d → OAt u3 g g (i * 5) d) := by
    refine zaa fun i d' hi hd' => ?_
    rw [HU3.out]
    by_cases e : i = j
    ·subst e
     rw [HDJ.out] at hd'
     injection hd' with hd'
     subst hd'
     exact OAt.new HR2.out (by omega) (HOO.out.1.low HWG.out) (HOO.out.2.1.low HWG.out)
    ·exact ((HD.out i d' (by omega) hd').on HR.out.lt HBU.out).put HR2.out (by omega)
   clear HU3 HR2 HG2 HR HG HD HOO HBU
   go_wp2
   go_roundw
   case rel => exact ⟨j + 1, by omega, by go_num, HR3, HG3, HD3⟩
   case measure => simp [intOf]; omega
  ·obtain rfl : j = sn := by omega
   have hlI : ¬ (j : Int) < (j : Int) := by omega
   go_wp2
   go_ret
   exact ⟨g, rfl, zaa ⟨by first | exact Lr | (rw [HGW.out]; exact Lr), HR.out, fun i d hd => by have := (zH.1 hd).1; first | exact HD.out i d (by rw [HSN.out] at this; exact this) hd | (rw [HGW.out]; exact HD.out i d (by rw [HSN.out] at this; exact this) hd)⟩, by first | exact HBE | exact HG⟩
structure OwC (w : World) (B g : Nat) (cs : List Cl) : Prop where
 ge : B ≤ g
 row : RowC w g cs.length
 at_ : ∀ i d, cs[i]? = some d → OAt w B g (i * 5) d
theorem CelsTo.owc {cs : List Cl} {w w' : World} {e : Ending} (h : CelsTo cs w e w') : ∃ g, e = .returned (.slice (some ⟨g, 0, none⟩) cs.length cs.length) ∧ Hid (OwC w' w.heap.size g cs) ∧ Hid (Below w.heap.size w w') := by
 obtain ⟨g, rfl, H, HB⟩ := h
 exact ⟨g, rfl, zaa ⟨H.out.1, H.out.2.1, H.out.2.2⟩, HB⟩
theorem OwC.cf {w w' : World} {B g : Nat} {cs : List Cl} {F : Nat → Prop} (h : OwC w B g cs) (hc : Cf F w w') (hf : ∀ b, B ≤ b → ¬ F b) : OwC w' B g cs := by
 have hgb := hc.block g h.row.lt (hf g h.ge)
 have hcell : ∀ j, w'.cell? ⟨g, j, none⟩ = w.cell? ⟨g, j, none⟩ := fun j => by simp only [World.cell?, hgb]
 refine ⟨h.ge, ?_, fun i d hd => ?_⟩
 ·obtain ⟨cur, h1, h2⟩ := h.row
  exact ⟨cur, hgb.trans h1, h2⟩
 ·obtain ⟨ko, kc, vo, vc, h0, h1, h2, h3, h4, h5, h6⟩ := h.at_ i d hd
  exact ⟨ko, kc, vo, vc, (hcell _).trans h0, (hcell _).trans h1, (hcell _).trans h2, (hcell _).trans h3, (hcell _).trans h4, h5.cfX hc (fun b e => hf b (h5.ltk7 e).1), h6.cfX hc (fun b e => hf b (h6.ltk7 e).1)⟩
theorem OwC.on {w w' : World} {B g : Nat} {cs : List Cl} (h : OwC w B g cs) (hb : Below w.heap.size w w') : OwC w' B g cs := h.cf (Cf.of_below (F := fun _ => False) hb) (fun _ _ e => e)
theorem OwC.slc {w : World} {B g : Nat} {cs : List Cl} (h : OwC w B g cs) (hw : ∀ c ∈ cs, c.Wf) (hf : ∀ c ∈ cs, c.fit) (hl : cs.length ≤ 140737488355328) : SlC w (some ⟨g, 0, none⟩) cs.length cs.length cs := by
 refine ⟨rfl, Lr, hl, (fun e => by cases e), .inr ⟨g, 0, rfl, h.row.lt, fun i d hd => ?_⟩⟩
 have hm := List.mem_of_getElem? hd
 have k1 := (hf d hm).key
 have k2 := (hf d hm).val
 obtain ⟨ko, kc, vo, vc, h0, h1, h2, h3, h4, h5, h6⟩ := h.at_ i d hd
 rw [Nat.zero_add]
 exact ⟨ko, kc, vo, vc, h0, h1, h2, h3, h4, h5.sl2 (hw d hm).1 (by omega), h6.sl2 (hw d hm).2 (by omega)⟩
theorem OwnN.cfX {w w' : World} {B : Nat} {v : Value} {l : List Nat} {F : Nat → Prop} (h : OwnN w B v l) (hc : Cf F w w') (hf : ∀ k, v.ownBlock = some k → ¬ F k) : OwnN w' B v l := by
 unfold OwnN at *
 rcases h.2 with h2 | ⟨g, cap, cur, e, hg, hh, rest⟩
 ·exact ⟨h.1, .inl h2⟩
 ·refine ⟨h.1, .inr ⟨g, cap, cur, e, hg, ?_, rest⟩⟩
  rw [hc.block g (zah hh) (hf g (by rw [e]; rfl))]
  exact hh
theorem OwnN.blkX {w : World} {B : Nat} {v : Value} {l : List Nat} (h : OwnN w B v l) {k : Nat} (hk : v.ownBlock = some k) : B ≤ k ∧ k < w.heap.size := by
 unfold OwnN at h
 exact h.lt k hk
structure Pn (w : World) (K : Nat → Prop) (a : Nat) (k : Int) (n : Nat) (cs : List Cl) : Prop where
 pg : ∃ vb vs, Po w 0 a k n vb vs cs ∧ ∀ b, PZ a vb vs b → K b
 kl : ∀ b, K b → b < w.heap.size
 ok : PgOk k n cs
section
variable {w w' : World} {K : Nat → Prop} {a : Nat} {k : Int} {n : Nat} {cs : List Cl}
theorem Pn.cf {F : Nat → Prop} (h : Pn w K a k n cs) (hc : Cf F w w') (hf : ∀ b, F b → ¬ K b) : Pn w' K a k n cs := by
 obtain ⟨vb, vs, h1, h2⟩ := h.pg
 refine ⟨⟨vb, vs, ⟨(hc.block a (zah h1.row) (fun e => hf a e (h2 a (.inl rfl)))).trans h1.row, h1.body.cfX hc (fun b e f => hf b f (h2 b (.inr (.inl e)))), h1.starts.cfX hc (fun b e f => hf b f (h2 b (.inr (.inr e))))⟩, h2⟩, fun b e => zO (h.kl b e) hc.size, h.ok⟩
theorem Pn.go (h : Pn w K a k n cs) (hb : Below w.heap.size w w') : Pn w' K a k n cs := h.cf (Cf.of_below (F := fun _ => False) hb) (fun _ e => e.elim)
theorem Pn.wide {G : Nat → Prop} (h : Pn w K a k n cs) (hg : ∀ b, K b → G b) (hl : ∀ b, G b → b < w.heap.size) : Pn w G a k n cs := by
 obtain ⟨vb, vs, h1, h2⟩ := h.pg
 exact ⟨⟨vb, vs, h1, fun b e => hg b (h2 b e)⟩, hl, h.ok⟩
theorem Pn.new {k : Int} {B : Nat} (hk : isKd k) (hn : pw n) (h : PR w a k n (.slice none 0 0) (.slice none 0 0)) (hB : B ≤ a) : Pn w (fun b => B ≤ b ∧ b < w.heap.size) a k n [] :=
 ⟨⟨_, _, ⟨h, OwnB.nil _ _, World.ownsRow_nil _ _ _ _⟩, fun b e => by
  rcases e with rfl | e | e
  ·exact ⟨hB, zah h⟩
  ·cases e
  ·cases e⟩, fun b e => e.2, PgOk.nil hk hn⟩
def PcTo (r : Int) (new : List Cl) (K : Nat → Prop) (a : Nat) (k : Int) (n : Nat) (cs : List Cl) (w : World) (e : Ending) (w' : World) : Prop :=
 e = .returned (.int .i64 r) ∧ Hid (Pn w' (Zk K w w') a k n (if r = 0 then new else cs)) ∧ Hid (Cf K w w')
theorem PcTo.of {r : Int} {new : List Cl} {vb vs : Value} {e : Ending} (h2 : ∀ b, PZ a vb vs b → K b) (hkl : ∀ b, K b → b < w.heap.size) (hok : PgOk k n cs) (hnew : r = 0 → PgOk k n new) (hq : PuTo w 0 a k n vb vs cs new r e w') : PcTo r new K a k n cs w e w' := by
 obtain ⟨rfl, HP, HC⟩ := hq
 have hc : Cf K w w' := HC.out.wideQ h2
 obtain ⟨vb', vs', p1, p2, p3⟩ := HP.out
 refine ⟨rfl, zaa ⟨⟨vb', vs', p1, fun b e => ?_⟩, Zk.lt hkl hc.size, ?_⟩, zaa hc⟩
 ·rcases e with rfl | e | e
  ·exact .inl (h2 _ (.inl rfl))
  ·rcases p2 with q | ⟨g, q1, q2⟩
   ·exact .inl (h2 b (.inr (.inl (q.symm.trans e))))
   ·rw [q1] at e
    injection e with e
    subst e
    exact .inr ⟨q2, (p1.body.blk q1).2⟩
  ·rcases p3 with q | ⟨g, q1, q2⟩
   ·exact .inl (h2 b (.inr (.inr (q.symm.trans e))))
   ·rw [q1] at e
    injection e with e
    subst e
    exact .inr ⟨q2, (p1.starts.blkX q1).2⟩
 ·split
  ·next h0 => exact hnew h0
  ·exact hok
theorem Pn.ins (h : Pn w K a k n cs) (x : Int) (c : Cl) (ka va : Option Addr) (kc vc : Nat) (hk : Sl w ka c.key.length kc c.key) (hv : Sl w va c.val.length vc c.val) :
  Calls Tryz.prog 259 #[.pointer (some ⟨a, 0, none⟩), .int .i64 x, .agg #[.slice ka c.key.length kc, .int .i64 c.kd, .slice va c.val.length vc, .int .i64 c.pg, .int .i64 c.ct]] w (PcTo (insE k n cs x c) (cs.take x.toNat ++ [c] ++ cs.drop x.toNat) K a k n cs w) := by
 obtain ⟨vb, vs, h1, h2⟩ := h.pg
 have hp := zak h.ok.sz
 refine (insert_any w 0 a k n vb vs cs x ka _ kc c.kd va _ vc c.pg c.ct c.key c.val h1 hp.2 h.ok.wf h.ok.fit h.ok.size hk hv (Nat.zero_le _)).mono fun e w' hq => PcTo.of h2 h.kl h.ok (fun h0 => ?_) hq
 unfold insE at h0
 split at h0
 ·exact h.ok.put Lr (by omega) ⟨hk.wf, hv.wf⟩ h0
 ·simp at h0
theorem Pn.set (h : Pn w K a k n cs) (x : Int) (c : Cl) (ka va : Option Addr) (kc vc : Nat) (hk : Sl w ka c.key.length kc c.key) (hv : Sl w va c.val.length vc c.val) :
  Calls Tryz.prog 262 #[.pointer (some ⟨a, 0, none⟩), .int .i64 x, .agg #[.slice ka c.key.length kc, .int .i64 c.kd, .slice va c.val.length vc, .int .i64 c.pg, .int .i64 c.ct]] w (PcTo (setE k n cs x c) (cs.take x.toNat ++ [c] ++ cs.drop (x.toNat + 1)) K a k n cs w) := by
 obtain ⟨vb, vs, h1, h2⟩ := h.pg
 have hp := zak h.ok.sz
 refine (set_any w 0 a k n vb vs cs x ka _ kc c.kd va _ vc c.pg c.ct c.key c.val h1 hp.2 h.ok.wf h.ok.fit h.ok.size hk hv (Nat.zero_le _)).mono fun e w' hq => PcTo.of h2 h.kl h.ok (fun h0 => ?_) hq
 unfold setE at h0
 split at h0
 ·exact h.ok.put (Nat.le_succ _) (by omega) ⟨hk.wf, hv.wf⟩ h0
 ·simp at h0
theorem Pn.rem (h : Pn w K a k n cs) (x : Int) :
  Calls Tryz.prog 261 #[.pointer (some ⟨a, 0, none⟩), .int .i64 x] w (PcTo (remE cs x) (cs.take x.toNat ++ cs.drop (x.toNat + 1)) K a k n cs w) := by
 obtain ⟨vb, vs, h1, h2⟩ := h.pg
 have hp := zak h.ok.sz
 refine (remove_any w 0 a k n vb vs cs x h1 hp.2 h.ok.size (Nat.zero_le _)).mono fun e w' hq => PcTo.of h2 h.kl h.ok (fun h0 => ?_) hq
 unfold remE at h0
 split at h0
 ·exact h.ok.rem (by omega)
 ·simp at h0
structure AskN (w : World) (a : Nat) (k : Int) (cs : List Cl) : Prop where
 len : Calls Tryz.prog 147 #[.pointer (some ⟨a, 0, none⟩)] w fun e w' => e = .returned (.int .i64 (cs.length : Int)) ∧ w' = w
 used : Calls Tryz.prog 263 #[.pointer (some ⟨a, 0, none⟩)] w fun e w' => e = .returned (.int .i64 (szN cs : Int)) ∧ Hid (Below w.heap.size w w')
 cell : ∀ x : Int, Calls Tryz.prog 257 #[.pointer (some ⟨a, 0, none⟩), .int .i64 x] w (CelO (cellE cs x) (remE cs x) w)
 find : ∀ (qo : Option Addr) (qn qc : Nat) (q : List Int), Sl w qo qn qc q → Calls Tryz.prog 258 #[.pointer (some ⟨a, 0, none⟩), .slice qo qn qc] w fun e w' => e = .returned (.tuple #[.int .i64 (cntL cs q : Int), .bool (isL cs q)]) ∧ Hid (Below w.heap.size w w')
theorem Pn.ask (h : Pn w K a k n cs) : AskN w a k cs := by
 obtain ⟨vb, vs, h1, h2⟩ := h.pg
 have hp := zak h.ok.sz
 exact ⟨lenO_any w 0 a k n vb vs cs h1, usedO_any w 0 a k n vb vs cs h1 h.ok, fun x => cellO_any w 0 a k n vb vs cs x h1 h.ok.wf h.ok.fit h.ok.size hp.2, fun qo qn qc q hq => findO_any w 0 a k n vb vs cs h1 h.ok qo qn qc q hq⟩
theorem Pn.cells (h : Pn w K a k n cs) : Calls Tryz.prog 10 #[iP a] w (CelsTo cs w) := by
 obtain ⟨vb, vs, h1, h2⟩ := h.pg
 exact ncells_P w 0 a k n vb vs cs h1 h.ok.wf h.ok.fit h.ok.size (zak h.ok.sz).2
theorem Pk.cfN {s : Qs} {F : Nat → Prop} (h : Pk w K a k n s) (hc : Cf F w w') (hf : ∀ b, F b → ¬ K b) : Pk w' K a k n s := by
 obtain ⟨po, pn, pc, bo, bn, bc, so, sn, sc, body, st, h⟩ := h
 have hs := hc.size
 refine ⟨po, pn, pc, bo, bn, bc, so, sn, sc, body, st, ⟨⟨?_, ?_, ?_, ?_, h.pg.far, h.pg.ha⟩, h.lay, h.wf, h.far, h.ok, h.sum, h.ka, h.kb, h.ks, h.kp, fun b e => zO (h.kl b e) hs⟩⟩
 ·exact (hc.block a (h.kl a h.ka) (fun e => hf a e h.ka)).trans h.pg.row
 ·have h0 := h.pg.pre
  refine ⟨h0.hlen, h0.hcap, h0.hroom, h0.wf, h0.hnil, ?_⟩
  rcases h.kp with e0 | f
  ·exact .inl e0
  ·rcases h0.hat with e0 | ⟨b, off, e, hb, hat⟩
   ·exact .inl e0
   ·refine .inr ⟨b, off, e, zO hb hs, fun i hi => ?_⟩
    have hKb : K b := f _ e
    have hbb := hc.block b hb (fun e => hf b e hKb)
    have := hat i hi
    simp only [World.cell?, hbb] at this ⊢
    exact this
 ·exact h.pg.ob.cfX hc (fun b e f => hf b f (h.kb b e))
 ·have h6 : OwnN w 0 (.slice so sn sc) st := h.pg.on
  exact h6.cfX hc (fun b e f => hf b f (h.ks b e))
end
abbrev c0 : Cl := ⟨[], 0, [], 0, 0⟩
structure An where
 e : Int
 i : Int
 is : Bool
 c : Cl
theorem ord_iff {cs : List Cl} {i j : Nat} {c : Cl} (hi : i ≤ cs.length) : ordOk cs i j c ↔ ¬ ((0 < i ∧ ¬ kl (kyL cs (i - 1)) c.key) ∨ (j < cs.length ∧ ¬ kl c.key (kyL cs j))) := by
 constructor
 ·rintro ⟨h1, h2⟩ (⟨h3, h4⟩ | ⟨h3, h4⟩)
  ·obtain ⟨t, rfl⟩ : ∃ t, i = t + 1 := ⟨i - 1, by omega⟩
   obtain ⟨d, hd⟩ : ∃ d, cs[t]? = some d := ⟨_, zI (by omega)⟩
   rw [Nat.add_sub_cancel, kyL_at hd] at h4
   have := h1 t d rfl hd
   have := zcg d.key c.key
   apply h4
   unfold kl
   omega
  ·obtain ⟨d, hd⟩ : ∃ d, cs[j]? = some d := ⟨_, zI h3⟩
   rw [kyL_at hd] at h4
   have := h2 d hd
   have := zcg d.key c.key
   have := ordL_flip c.key d.key
   apply h4
   unfold kl
   omega
 ·intro h
  refine ⟨fun t d ht hd => ?_, fun d hd => ?_⟩
  ·subst ht
   have h1 : kl d.key c.key := Classical.byContradiction fun h2 => h (.inl ⟨by omega, by rw [Nat.add_sub_cancel, kyL_at hd]; exact h2⟩)
   unfold kl at h1
   omega
  ·have h1 : kl c.key d.key := Classical.byContradiction fun h2 => h (.inr ⟨(zH.1 hd).1, by rw [kyL_at hd]; exact h2⟩)
   have := ordL_flip c.key d.key
   unfold kl at h1
   omega
theorem put_same {k : Int} {n : Nat} {s t : Qs} {i j : Nat} {c : Cl} {code : Int} (hi : i ≤ s.cs.length) (h : PutR k n s i j c code t) (h1 : ¬ code = 61) (h2 : ¬ putE k n s.cs i j c = 61) :
  code = putE k n s.cs i j c ∧ t.cs = if putE k n s.cs i j c = 0 then s.cs.take i ++ [c] ++ s.cs.drop j else s.cs := by
 have ho := ord_iff (j := j) (c := c) hi
 unfold putE at *
 rcases h with ⟨a, b, rfl⟩ | ⟨a, a2, b, rfl⟩ | ⟨a, a2, h⟩
 ·rw [if_pos a]
  exact ⟨b, by rw [if_neg (by decide)]⟩
 ·rw [ho, Classical.not_not] at a2
  rw [if_neg (fun x => x a), if_pos a2]
  exact ⟨b, by rw [if_neg (by decide)]⟩
 ·rw [ho] at a2
  rw [if_neg (fun x => x a), if_neg a2] at h2 ⊢
  have h3 : ¬ n < szN (s.cs.take i ++ [c] ++ s.cs.drop j) := fun x => h2 (by rw [if_pos x])
  rw [if_neg h3]
  rcases h with ⟨_, b, rfl⟩ | ⟨_, ⟨_, b, rfl⟩ | ⟨_, b, rfl⟩⟩
  ·exact ⟨b, by rw [if_pos rfl]; rfl⟩
  ·exact ⟨b, by rw [if_pos rfl]; rfl⟩
  ·exact absurd b h1
theorem ins_same {k : Int} {n : Nat} {s t : Qs} {x : Int} {c : Cl} {code : Int} (h : InsR k n s x c code t) (h1 : ¬ code = 61) (h2 : ¬ insE k n s.cs x c = 61) :
  code = insE k n s.cs x c ∧ t.cs = if insE k n s.cs x c = 0 then s.cs.take x.toNat ++ [c] ++ s.cs.drop x.toNat else s.cs := by
 unfold insE at *
 rcases h with ⟨a, b, rfl⟩ | ⟨i, rfl, a, h⟩
 ·rw [if_neg a]
  exact ⟨b, by rw [if_neg (by decide)]⟩
 ·rw [if_pos ⟨by omega, by omega⟩, Int.toNat_natCast] at *
  exact put_same a h h1 h2
theorem set_same {k : Int} {n : Nat} {s t : Qs} {x : Int} {c : Cl} {code : Int} (h : SetR k n s x c code t) (h1 : ¬ code = 61) (h2 : ¬ setE k n s.cs x c = 61) :
  code = setE k n s.cs x c ∧ t.cs = if setE k n s.cs x c = 0 then s.cs.take x.toNat ++ [c] ++ s.cs.drop (x.toNat + 1) else s.cs := by
 unfold setE at *
 rcases h with ⟨a, b, rfl⟩ | ⟨i, rfl, a, h⟩
 ·rw [if_neg a]
  exact ⟨b, by rw [if_neg (by decide)]⟩
 ·rw [if_pos ⟨by omega, by omega⟩, Int.toNat_natCast] at *
  exact put_same (by omega) h h1 h2
theorem rem_same {k : Int} {n : Nat} {s t : Qs} {x : Int} {code : Int} (h : RemR k n s x code t) (h1 : ¬ code = 61) :
  code = remE s.cs x ∧ t.cs = if remE s.cs x = 0 then s.cs.take x.toNat ++ s.cs.drop (x.toNat + 1) else s.cs := by
 unfold remE at *
 rcases h with ⟨a, b, rfl⟩ | ⟨i, d, rfl, hd, h⟩
 ·rw [if_neg a]
  exact ⟨b, by rw [if_neg (by decide)]⟩
 ·have hl := (zH.1 hd).1
  rw [if_pos ⟨by omega, by omega⟩, if_pos rfl, Int.toNat_natCast]
  rcases h with ⟨_, ⟨_, b, rfl⟩ | ⟨_, b, _⟩⟩ | ⟨_, b, rfl⟩
  ·exact ⟨b, rfl⟩
  ·exact absurd b h1
  ·exact ⟨b, rfl⟩
theorem ins_full1 {k : Int} {n : Nat} {cs : List Cl} {x : Int} {c : Cl} (hg : Gd k n cs) (h : insE k n cs x c = 61) :
  ∃ i : Nat, x = (i : Int) ∧ i ≤ cs.length ∧ Gd k n (cs.take i ++ [c] ++ cs.drop i) ∧ n < szE 1 k (cs.take i ++ [c] ++ cs.drop i) := by
 unfold insE at h
 split at h
 ·next hx =>
  obtain ⟨i, rfl⟩ : ∃ i : Nat, x = (i : Int) := ⟨x.toNat, by omega⟩
  rw [Int.toNat_natCast] at h
  have hi : i ≤ cs.length := by omega
  unfold putE at h
  split at h
  ·simp at h
  ·next h1 =>
   split at h
   ·simp at h
   ·next h2 =>
    split at h
    ·next h3 =>
     have h1' : mayP k n c := Classical.byContradiction h1
     refine ⟨i, rfl, hi, ⟨fun d hd => ?_, rs_spl hg.rs Lr hi ((ord_iff hi).2 h2)⟩, by unfold szE; rw [if_pos rfl]; exact h3⟩
     rcases zcy (show d ∈ spl cs i i c from hd) with rfl | hd
     ·exact h1'
     ·exact hg.may d hd
    ·simp at h
 ·simp at h
theorem ins_full2 {k : Int} {n : Nat} {s t : Qs} {x : Int} {c : Cl} (hg : Gd k n s.cs) (h : InsR k n s x c 61 t) :
  ∃ i : Nat, x = (i : Int) ∧ i ≤ s.cs.length ∧ Gd k n (s.cs.take i ++ [c] ++ s.cs.drop i) ∧ n < szE 2 k (s.cs.take i ++ [c] ++ s.cs.drop i) := by
 rcases h with ⟨_, b, _⟩ | ⟨i, rfl, hi, h⟩
 ·simp at b
 ·rcases h with ⟨_, b, _⟩ | ⟨_, _, b, _⟩ | ⟨a, a2, ⟨_, b, _⟩ | ⟨_, ⟨_, b, _⟩ | ⟨h3, _, _⟩⟩⟩
  ·simp at b
  ·simp at b
  ·simp at b
  ·simp at b
  ·refine ⟨i, rfl, hi, ⟨fun d hd => ?_, rs_spl hg.rs Lr hi a2⟩, ?_⟩
   ·rcases zcy (show d ∈ spl s.cs i i c from hd) with rfl | hd
    ·exact a
    ·exact hg.may d hd
   ·unfold szE
    rw [if_neg (by decide)]
    unfold spl at h3
    omega
def TwP (kd x : Int) (c : Cl) (q : List Int) (k : Int) (n : Nat) (cs : List Cl) (A : An) (cs' : List Cl) : Prop :=
 (kd = 0 ∧ A = ⟨insE k n cs x c, 0, false, c0⟩ ∧ cs' = if insE k n cs x c = 0 then cs.take x.toNat ++ [c] ++ cs.drop x.toNat else cs) ∨
 (kd = 1 ∧ A = ⟨setE k n cs x c, 0, false, c0⟩ ∧ cs' = if setE k n cs x c = 0 then cs.take x.toNat ++ [c] ++ cs.drop (x.toNat + 1) else cs) ∨
 (kd = 2 ∧ A = ⟨remE cs x, 0, false, c0⟩ ∧ cs' = if remE cs x = 0 then cs.take x.toNat ++ cs.drop (x.toNat + 1) else cs) ∨
 (kd = 3 ∧ A = ⟨0, (cntL cs q : Int), isL cs q, c0⟩ ∧ cs' = cs) ∨
 ((¬ kd = 0 ∧ ¬ kd = 1 ∧ ¬ kd = 2 ∧ ¬ kd = 3) ∧ A = ⟨remE cs x, 0, false, cellE cs x⟩ ∧ cs' = cs)
def TwQ (kd x : Int) (c : Cl) (q : List Int) (k : Int) (n : Nat) (s : Qs) (A : An) (t : Qs) : Prop :=
 (kd = 0 ∧ ∃ code, InsR k n s x c code t ∧ A = ⟨code, 0, false, c0⟩) ∨
 (kd = 1 ∧ ∃ code, SetR k n s x c code t ∧ A = ⟨code, 0, false, c0⟩) ∨
 (kd = 2 ∧ ∃ code, RemR k n s x code t ∧ A = ⟨code, 0, false, c0⟩) ∨
 (kd = 3 ∧ A = ⟨0, (cntL s.cs q : Int), isL s.cs q, c0⟩ ∧ t = s) ∨
 ((¬ kd = 0 ∧ ¬ kd = 1 ∧ ¬ kd = 2 ∧ ¬ kd = 3) ∧ A = ⟨remE s.cs x, 0, false, cellE s.cs x⟩ ∧ t = s)
theorem twin_same {kd x : Int} {c : Cl} {q : List Int} {k : Int} {n : Nat} {s t : Qs} {cs' : List Cl} {A B : An} (h1 : TwP kd x c q k n s.cs A cs') (h2 : TwQ kd x c q k n s B t) (ha : ¬ A.e = 61) (hb : ¬ B.e = 61) : A = B ∧ t.cs = cs' := by
 rcases h1 with ⟨e, rfl, rfl⟩ | ⟨e, rfl, rfl⟩ | ⟨e, rfl, rfl⟩ | ⟨e, rfl, rfl⟩ | ⟨e, rfl, rfl⟩ <;> rcases h2 with ⟨f, code, hr, rfl⟩ | ⟨f, code, hr, rfl⟩ | ⟨f, code, hr, rfl⟩ | ⟨f, rfl, rfl⟩ | ⟨f, rfl, rfl⟩ <;> first | omega | skip
 ·obtain ⟨h3, h4⟩ := ins_same hr hb ha
  exact ⟨by rw [h3], h4⟩
 ·obtain ⟨h3, h4⟩ := set_same hr hb ha
  exact ⟨by rw [h3], h4⟩
 ·obtain ⟨h3, h4⟩ := rem_same hr hb
  exact ⟨by rw [h3], h4⟩
 ·exact ⟨rfl, rfl⟩
 ·exact ⟨rfl, rfl⟩
theorem TwP.full {kd x : Int} {c : Cl} {q : List Int} {k : Int} {n : Nat} {cs cs' : List Cl} {A : An} (hg : Gd k n cs) (h : TwP kd x c q k n cs A cs') (h0 : kd = 0) (ha : A.e = 61) :
  ∃ i : Nat, x = (i : Int) ∧ i ≤ cs.length ∧ Gd k n (cs.take i ++ [c] ++ cs.drop i) ∧ n < szE 1 k (cs.take i ++ [c] ++ cs.drop i) := by
 rcases h with ⟨_, rfl, _⟩ | ⟨e, _⟩ | ⟨e, _⟩ | ⟨e, _⟩ | ⟨e, _⟩
 ·exact ins_full1 hg ha
 all_goals omega
theorem TwQ.full {kd x : Int} {c : Cl} {q : List Int} {k : Int} {n : Nat} {s t : Qs} {A : An} (hg : Gd k n s.cs) (h : TwQ kd x c q k n s A t) (h0 : kd = 0) (ha : A.e = 61) :
  ∃ i : Nat, x = (i : Int) ∧ i ≤ s.cs.length ∧ Gd k n (s.cs.take i ++ [c] ++ s.cs.drop i) ∧ n < szE 2 k (s.cs.take i ++ [c] ++ s.cs.drop i) := by
 rcases h with ⟨_, code, hr, rfl⟩ | ⟨e, _⟩ | ⟨e, _⟩ | ⟨e, _⟩ | ⟨e, _⟩
 ·simp only at ha
  subst ha
  exact ins_full2 hg hr
 all_goals omega
end Go.Proofs.YtofafbmpbkjhnaaGreatDoor
