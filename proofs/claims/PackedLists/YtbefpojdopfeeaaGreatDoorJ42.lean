/- packed: Insert and Set, whatever they come to. -/
import Derived.Test.YtbefpojdopfeeaaGreatDoorJ41
namespace Go.Proofs.YtbefpojdopfeeaaGreatDoor
open Go.RowKit

/-- What a change comes to: an answer and a page, by a rule. -/
def ChTo (R : Int → Qs → Prop) (K : Nat → Prop) (a : Nat) (k : Int) (n : Nat) (w : World) (e : Ending) (w' : World) : Prop :=
  ∃ code t, e = .returned (.int .i64 code) ∧ Hid (R code t) ∧ Hid (Pk w' (Zk K w w') a k n t) ∧ Hid (Cf K w w')
set_option maxRecDepth 100000 in
theorem Zk.from {K : Nat → Prop} {w x w' : World} (hs : w.heap.size ≤ x.heap.size) : ∀ b, Zk K x w' b → Zk K w w' b := by
  rintro b (e | e)
  · exact .inl e
  · exact .inr ⟨Nat.le_trans hs e.1, e.2⟩
set_option maxRecDepth 100000 in
theorem ChTo.from {R S : Int → Qs → Prop} {K : Nat → Prop} {a : Nat} {k : Int} {n : Nat} {w x w' : World} {e : Ending} (hb : Below w.heap.size w x) (hK : ∀ b, K b → b < w.heap.size) (hR : ∀ code t, R code t → S code t) (h : ChTo R K a k n x e w') : ChTo S K a k n w e w' := by
  obtain ⟨code, t, rfl, HR, HP, HC⟩ := h
  have hc : Cf K w w' := (Cf.of_below hb).go HC.out
  exact ⟨code, t, rfl, hidden (hR code t HR.out), hidden (HP.out.wide (Zk.from hb.size) (Zk.lt hK hc.size)), hidden hc⟩
set_option maxRecDepth 100000 in
theorem ChTo.stay {R : Int → Qs → Prop} {K : Nat → Prop} {a : Nat} {k : Int} {n : Nat} {s : Qs} {w w' : World} {code : Int} (h : Pk w K a k n s) (hb : Below w.heap.size w w') (hR : R code s) : ChTo R K a k n w (.returned (.int .i64 code)) w' :=
  ⟨code, s, rfl, hidden hR, hidden (h.go hb).zk, hidden (Cf.of_below hb)⟩
/-- Insert's rule. -/
def InsR (k : Int) (n : Nat) (s : Qs) (I : Int) (c : Cl) (code : Int) (t : Qs) : Prop :=
  (¬ (0 ≤ I ∧ I ≤ (s.cs.length : Int)) ∧ code = 64 ∧ t = s) ∨ ∃ i : Nat, I = (i : Int) ∧ i ≤ s.cs.length ∧ PutR k n s i i c code t
/-- Set's rule. -/
def SetR (k : Int) (n : Nat) (s : Qs) (I : Int) (c : Cl) (code : Int) (t : Qs) : Prop :=
  (¬ (0 ≤ I ∧ I < (s.cs.length : Int)) ∧ code = 64 ∧ t = s) ∨ ∃ i : Nat, I = (i : Int) ∧ i < s.cs.length ∧ PutR k n s i (i + 1) c code t
set_option maxRecDepth 100000 in
set_option maxHeartbeats 2000000 in
theorem insertQ_any (w : World) (K : Nat → Prop) (a : Nat) (k : Int) (n : Nat) (s : Qs) (h : Pk w K a k n s) (I : Int) (hn : pw n)
    (c : Cl) (ka va : Option Addr) (kc vc : Nat) (hk : Sl w ka c.key.length kc c.key) (hv : Sl w va c.val.length vc c.val) (fk : OutK K ka c.key.length) (fv : OutK K va c.val.length) :
    Calls Tryz.prog 10 #[.pointer (some ⟨a, 0, none⟩), .int .i64 I, .agg #[.slice ka c.key.length kc, .int .i64 c.kd, .slice va c.val.length vc, .int .i64 c.pg, .int .i64 c.ct]] w (ChTo (InsR k n s I c) K a k n w) := by
  obtain ⟨x, hx⟩ : ∃ x, w.alloc (.cells #[.slice ka c.key.length kc, .int .i64 c.kd, .slice va c.val.length vc, .int .i64 c.pg, .int .i64 c.ct] 39) = x := ⟨_, rfl⟩
  have hbx : Below w.heap.size w x := by rw [← hx]; exact bl_al (Below.refl _ _) (Nat.le_refl _) _
  have hc5 : C5 x w.heap.size (.slice ka c.key.length kc) (.int .i64 c.kd) (.slice va c.val.length vc) (.int .i64 c.pg) (.int .i64 c.ct) := by rw [← hx]; exact C5.box _ _ _ _ _ _
  obtain ⟨z0, z1, z2, z3, z4⟩ := hc5.cells
  have hn2 := pw_nat hn
  have hPx := h.go hbx
  have hkl := h.kl
  obtain ⟨po, pn, pc, bo, bn, bc, so, sn, sc, body, st, hA⟩ := hPx
  obtain ⟨l1, l2, l3, l4, l5⟩ := hA.lens
  have hpg := hA.pgq hn2.2
  have hfit := hA.ok.fit
  have HLN := hidden (qlen_any x a k n po pn pc bo bn bc so sn sc _ s.P body st hpg)
  have HP := hidden (And.intro h (And.intro hbx hkl))
  have hsI : (sn : Int) ≤ 65536 := by omega
  by_cases hin : 0 ≤ I ∧ I ≤ (s.cs.length : Int)
  · obtain ⟨i, rfl⟩ : ∃ i : Nat, I = (i : Int) := ⟨I.toNat, by omega⟩
    have HPT := hidden (put_any x K a k n s (h.go hbx) i i (.inl rfl) (by omega) hn c ka va kc vc (hk.on (Nat.le_refl _) hbx) (hv.on (Nat.le_refl _) hbx) fk fv)
    have HI : Hid (i ≤ s.cs.length) := hidden (by omega)
    by_cases he : i = sn
    · have heI : (i : Int) = (sn : Int) := by omega
      subst he
      clear h hk hv fk fv hbx hc5 hn hkl hA l1 l2 l3 l4 l5 hpg hfit hin heI hn2
      go_enter Tryz.func10, Tryz.ntmps10
      go_wp2_with (first | (go_at_call 26; refine same_call HLN.out ?_) | (go_at_call 43; refine HPT.out.mono ?_; rintro e w2 ⟨code, t, rfl, HR2, HP2, HC2⟩))
      go_ret
      exact ChTo.from HP.out.2.1 HP.out.2.2 (fun code t h => .inr ⟨i, rfl, HI.out, h⟩) ⟨code, t, rfl, HR2, HP2, HC2⟩
    · have heI : ¬ (i : Int) = (sn : Int) := by omega
      have HHS := hidden (hasQ x a k n po pn pc bo bn bc so sn sc _ s.P body st hpg i (by omega))
      clear h hk hv fk fv hbx hc5 hn hkl hA l1 l2 l3 l4 l5 hpg hfit hin hn2 he
      go_enter Tryz.func10, Tryz.ntmps10
      go_wp2_with (first | (go_at_call 26; refine same_call HLN.out ?_) | (go_at_call 42; refine same_call HHS.out ?_) | (go_at_call 43; refine HPT.out.mono ?_; rintro e w2 ⟨code, t, rfl, HR2, HP2, HC2⟩))
      go_ret
      exact ChTo.from HP.out.2.1 HP.out.2.2 (fun code t h => .inr ⟨i, rfl, HI.out, h⟩) ⟨code, t, rfl, HR2, HP2, HC2⟩
  · have heI : ¬ I = (sn : Int) := by omega
    have HHS := hidden (hasQ_no x a k n po pn pc bo bn bc so sn sc _ s.P body st hpg I (by omega))
    have HN := hidden hin
    clear h hk hv fk fv hbx hc5 hn hkl hA l1 l2 l3 l4 l5 hpg hfit hin hn2
    go_enter Tryz.func10, Tryz.ntmps10
    go_wp2_with (first | (go_at_call 26; refine same_call HLN.out ?_) | (go_at_call 42; refine same_call HHS.out ?_))
    go_ret
    exact ChTo.stay HP.out.1 HP.out.2.1 (.inl ⟨HN.out, rfl, rfl⟩)
set_option maxRecDepth 100000 in
set_option maxHeartbeats 2000000 in
theorem setQ_any (w : World) (K : Nat → Prop) (a : Nat) (k : Int) (n : Nat) (s : Qs) (h : Pk w K a k n s) (I : Int) (hn : pw n)
    (c : Cl) (ka va : Option Addr) (kc vc : Nat) (hk : Sl w ka c.key.length kc c.key) (hv : Sl w va c.val.length vc c.val) (fk : OutK K ka c.key.length) (fv : OutK K va c.val.length) :
    Calls Tryz.prog 12 #[.pointer (some ⟨a, 0, none⟩), .int .i64 I, .agg #[.slice ka c.key.length kc, .int .i64 c.kd, .slice va c.val.length vc, .int .i64 c.pg, .int .i64 c.ct]] w (ChTo (SetR k n s I c) K a k n w) := by
  obtain ⟨x, hx⟩ : ∃ x, w.alloc (.cells #[.slice ka c.key.length kc, .int .i64 c.kd, .slice va c.val.length vc, .int .i64 c.pg, .int .i64 c.ct] 39) = x := ⟨_, rfl⟩
  have hbx : Below w.heap.size w x := by rw [← hx]; exact bl_al (Below.refl _ _) (Nat.le_refl _) _
  have hc5 : C5 x w.heap.size (.slice ka c.key.length kc) (.int .i64 c.kd) (.slice va c.val.length vc) (.int .i64 c.pg) (.int .i64 c.ct) := by rw [← hx]; exact C5.box _ _ _ _ _ _
  obtain ⟨z0, z1, z2, z3, z4⟩ := hc5.cells
  have hn2 := pw_nat hn
  have hPx := h.go hbx
  have hkl := h.kl
  obtain ⟨po, pn, pc, bo, bn, bc, so, sn, sc, body, st, hA⟩ := hPx
  obtain ⟨l1, l2, l3, l4, l5⟩ := hA.lens
  have hpg := hA.pgq hn2.2
  have hfit := hA.ok.fit
  have HP := hidden (And.intro h (And.intro hbx hkl))
  by_cases hin : 0 ≤ I ∧ I < (s.cs.length : Int)
  · obtain ⟨i, rfl⟩ : ∃ i : Nat, I = (i : Int) := ⟨I.toNat, by omega⟩
    obtain ⟨j, hj⟩ : ∃ j, i + 1 = j := ⟨_, rfl⟩
    have HPT := hidden (put_any x K a k n s (h.go hbx) i j (.inr hj.symm) (by omega) hn c ka va kc vc (hk.on (Nat.le_refl _) hbx) (hv.on (Nat.le_refl _) hbx) fk fv)
    have HI : Hid (i < s.cs.length ∧ j = i + 1) := hidden (by omega)
    have HHS := hidden (hasQ x a k n po pn pc bo bn bc so sn sc _ s.P body st hpg i (by omega))
    have hjI : (i : Int) + 1 = (j : Int) := by omega
    have hjb : (j : Int) ≤ 65536 := by omega
    clear h hk hv fk fv hbx hc5 hn hkl hA l1 l2 l3 l4 l5 hpg hfit hin hn2 hj
    go_enter Tryz.func12, Tryz.ntmps12
    go_wp2_with (first | (go_at_call 42; refine same_call HHS.out ?_) | (go_at_call 43; refine HPT.out.mono ?_; rintro e w2 ⟨code, t, rfl, HR2, HP2, HC2⟩))
    go_ret
    exact ChTo.from HP.out.2.1 HP.out.2.2 (fun code t h => .inr ⟨i, rfl, HI.out.1, by rw [← HI.out.2]; exact h⟩) ⟨code, t, rfl, HR2, HP2, HC2⟩
  · have HHS := hidden (hasQ_no x a k n po pn pc bo bn bc so sn sc _ s.P body st hpg I (by omega))
    have HN := hidden hin
    clear h hk hv fk fv hbx hc5 hn hkl hA l1 l2 l3 l4 l5 hpg hfit hin hn2
    go_enter Tryz.func12, Tryz.ntmps12
    go_wp2_with (first | (go_at_call 42; refine same_call HHS.out ?_))
    go_ret
    exact ChTo.stay HP.out.1 HP.out.2.1 (.inl ⟨HN.out, rfl, rfl⟩)
end Go.Proofs.YtbefpojdopfeeaaGreatDoor

/- packed: Remove and Tidy, whatever they come to. -/

namespace Go.Proofs.YtbefpojdopfeeaaGreatDoor
open Go.RowKit

set_option maxRecDepth 100000 in
theorem delE_all (u : World) (g sn : Nat) (cs : List Cl) (hE : SlE u g (some ⟨g, 0, none⟩) sn sn cs) (hR : RowEq u g sn) (hsn : sn ≤ 65535) (i j : Nat) (hij : i + 1 = j) (hj : j ≤ sn) :
    Calls Tryz.prog 46 #[.slice (some ⟨g, 0, none⟩) sn sn, .int .i64 (i : Int), .int .i64 (j : Int)] u fun e w' => ∃ d, e = .returned (.slice (some ⟨g, 0, none⟩) d sn) ∧ Hid (SlE w' g (some ⟨g, 0, none⟩) d sn (cs.take i ++ cs.drop j) ∧ d ≤ 65536) ∧ Hid (Below g u w') := by
  have hlen := hE.hlen
  have hgl := hR.lt
  obtain ⟨xs, hx6, hxo⟩ := hE.row6 hR
  have h6 : Row6 u g (xs.take (i * 6) ++ xs.drop (j * 6)) (cs.take i ++ cs.drop j) := Row6.append (hx6.drop j) (hx6.take i)
  have key : ∀ (e : Ending) (w' : World), (e = .returned (.slice (some ⟨g, 0, none⟩) (i + (sn - j)) sn) ∧ Hid (RowEq w' g sn ∧ ∀ q v, (xs.take (i * 6) ++ xs.drop (j * 6))[q]? = some v → w'.cell? ⟨g, q, none⟩ = some v) ∧ Hid (Cf (· = g) u w')) → ∃ d, e = .returned (.slice (some ⟨g, 0, none⟩) d sn) ∧ Hid (SlE w' g (some ⟨g, 0, none⟩) d sn (cs.take i ++ cs.drop j) ∧ d ≤ 65536) ∧ Hid (Below g u w') := by
    rintro e w' ⟨rfl, HO, HC⟩
    have hB : Below g u w' := HC.out.below (Nat.le_of_lt hgl) (fun k hk e => by omega)
    exact ⟨_, rfl, hidden ⟨SlE.of6 h6 hB (by simp; omega) (by omega) (by omega) HO.out.1.lt HO.out.2, by omega⟩, hidden hB⟩
  by_cases hr : sn - j = 0
  · exact (delE_end u g sn i j (sn - j) _ xs hxo hij (by omega) hr rfl hsn).mono key
  · exact (delE_mid u g sn i j (sn - j) _ xs hxo hij (by omega) (by omega) rfl hsn).mono key
set_option maxRecDepth 100000 in
theorem own_eq (so : Option Addr) (m n c d : Nat) : (Value.slice so m c).ownBlock = (Value.slice so n d).ownBlock := by cases so <;> rfl
set_option maxRecDepth 100000 in
theorem Far.len {po so : Option Addr} {pn m n c d : Nat} (h : Far po pn (.slice so m c)) : Far po pn (.slice so n d) := by
  unfold Far at *
  rw [own_eq so n m d c]
  exact h
/-- Remove's rule. -/
def RemR (k : Int) (n : Nat) (s : Qs) (I : Int) (code : Int) (t : Qs) : Prop :=
  (¬ (0 ≤ I ∧ I < (s.cs.length : Int)) ∧ code = 64 ∧ t = s) ∨ ∃ (i : Nat) (d : Cl), I = (i : Int) ∧ s.cs[i]? = some d ∧ ((((k = 3 ∧ i = 0) ∨ s.cs.length = 1) ∧ LayR k n s (s.cs.take i ++ s.cs.drop (i + 1)) code t) ∨ (¬ ((k = 3 ∧ i = 0) ∨ s.cs.length = 1) ∧ code = 0 ∧ t = ⟨s.P, s.cs.take i ++ s.cs.drop (i + 1), s.ws + (qB s.P.length d).length⟩))
set_option maxRecDepth 100000 in
theorem ChTo.lay {w u w' : World} {K : Nat → Prop} {a : Nat} {k : Int} {n : Nat} {s : Qs} {cs : List Cl} {S : Int → Qs → Prop} {e : Ending} (hb : Below w.heap.size w u) (hK : ∀ b, K b → b < w.heap.size) (hS : ∀ code t, LayR k n s cs code t → S code t) (h : ∃ code t, e = .returned (.int .i64 code) ∧ Hid (LayR k n s cs code t) ∧ Hid (Pk w' (Zk K u w') a k n t) ∧ Hid (Cf K u w')) : ChTo S K a k n w e w' :=
  ChTo.from (R := LayR k n s cs) hb hK hS h
set_option maxRecDepth 100000 in
set_option maxHeartbeats 4000000 in
theorem rem_lay (w : World) (K : Nat → Prop) (a : Nat) (k : Int) (n : Nat) (s : Qs) (h : Pk w K a k n s) (hn : pw n) (i : Nat) (d : Cl) (hd : s.cs[i]? = some d) (hlay : (k = 3 ∧ i = 0) ∨ s.cs.length = 1) :
    Calls Tryz.prog 13 #[.pointer (some ⟨a, 0, none⟩), .int .i64 (i : Int)] w (ChTo (LayR k n s (s.cs.take i ++ s.cs.drop (i + 1))) K a k n w) := by
  have hn2 := pw_nat hn
  have hkl := h.kl
  obtain ⟨po, pn, pc, bo, bn, bc, so, sn, sc, body, st, hA⟩ := h
  obtain ⟨l1, l2, l3, l4, l5⟩ := hA.lens
  have hfit := hA.ok.fit
  have hpg := hA.pgq hn2.2
  have hil := (List.getElem?_eq_some_iff.1 hd).1
  obtain ⟨j, hj⟩ : ∃ j, i + 1 = j := ⟨_, rfl⟩
  rw [hj]
  have HHS := hidden (hasQ w a k n po pn pc bo bn bc so sn sc _ s.P body st hpg i (by omega))
  have HLN := hidden (qlen_any w a k n po pn pc bo bn bc so sn sc _ s.P body st hpg)
  have EN : Hid (Calls Tryz.prog 47 #[.pointer (some ⟨a, 0, none⟩)] w fun e w' => ∃ q, e = .returned (.slice (some ⟨q, 0, none⟩) sn sn) ∧ Hid (SlE w' q (some ⟨q, 0, none⟩) sn sn s.cs ∧ RowEq w' q sn ∧ w.heap.size ≤ q ∧ q < w'.heap.size) ∧ Hid (Below w.heap.size w w')) := by
    refine hidden ((entriesR_any w a k n po pn pc bo bn bc so sn sc _ s.P body st s.cs hpg hA.lay (by omega)).mono ?_)
    rintro e w' ⟨q, rfl, HS, HB⟩
    exact ⟨q, rfl, hidden ⟨HS.out.1, HS.out.2, HB.out.2.1, HB.out.2.2⟩, hidden HB.out.1⟩
  have HP := hidden (show Pk w K a k n s from ⟨_, _, _, _, _, _, _, _, _, _, _, hA⟩)
  have HN : Hid (Rs (s.cs.take i ++ s.cs.drop j) ∧ (∀ d ∈ s.cs.take i ++ s.cs.drop j, mayP k n d) ∧ (∀ d ∈ s.cs.take i ++ s.cs.drop j, d.Wf)) := hidden (by
    have hmem : ∀ d ∈ s.cs.take i ++ s.cs.drop j, d ∈ s.cs := fun d hd => by
      rcases List.mem_append.1 hd with e | e
      · exact List.mem_of_mem_take e
      · exact List.mem_of_mem_drop e
    exact ⟨rs_cut i j (by omega) hA.ok.rs, fun d hd => hA.ok.may d (hmem d hd), fun d hd => hA.ok.wf d (hmem d hd)⟩)
  have HIJ : Hid (i + 1 = j ∧ j ≤ sn ∧ sn ≤ 65535 ∧ n ≤ 65536) := hidden (by omega)
  have HKL := hidden hkl
  have hIJ : (i : Int) + 1 = (j : Int) := by omega
  have hJI : (j : Int) ≤ 65536 := by omega
  obtain ⟨c0, c1, c2, c3, c4, c5⟩ := hA.pg.row.cells
  obtain ⟨bw, hbw⟩ : ∃ bw, decide (k = 3 ∧ (i : Int) = 0) = bw := ⟨_, rfl⟩
  have HSW : Hid (Calls Tryz.prog 44 #[.int .i64 k, .int .i64 (i : Int)] w fun e w' => e = .returned (.bool bw) ∧ w' = w) := hidden (by
    have := standsWhole_any k (i : Int) w
    rwa [hbw] at this)
  have HL1 : bw = false → Hid ((sn : Int) = 1) := fun e => hidden (by
    rw [e] at hbw
    have := of_decide_eq_false hbw
    omega)
  clear hA hpg l1 l2 l3 l4 l5 hfit hkl hd hil hlay hn hn2 hj hbw
  cases bw with
  | true =>
    clear HL1 HLN
    go_enter Tryz.func13, Tryz.ntmps13
    go_wp2_with (first | (go_at_call 42; refine same_call HHS.out ?_) | (go_at_call 44; refine same_call HSW.out ?_) | (go_at_call 47; refine EN.out.mono ?_; rintro e w1 ⟨q, rfl, HQ, HB1⟩; refine Hid.out ?_))
    apply hidden
    have HDL := hidden (delE_all w1 q sn s.cs HQ.out.1 HQ.out.2.1 HIJ.out.2.2.1 i j HIJ.out.1 HIJ.out.2.1)
    go_wp2_with (first | (go_at_call 46; refine HDL.out.mono ?_; rintro e w2 ⟨dd, rfl, HS2, HB2⟩; refine Hid.out ?_))
    apply hidden
    have HBW : Hid (Below w.heap.size w w2) := hidden (HB1.out.trans (HB2.out.mono HQ.out.2.2.1))
    have HLY := hidden (lay_any w2 K a k n s (HP.out.go HBW.out) q _ dd sn _ HS2.out.1 (Nat.le_trans (Nat.le_of_lt HQ.out.2.2.2) HB2.out.size) HN.out.1 HN.out.2.1 HN.out.2.2 HIJ.out.2.2.2 HS2.out.2)
    clear HDL
    go_wp2_with (first | (go_at_call 45; refine HLY.out.mono ?_; rintro e w3 ⟨code, t, rfl, HR3, HP3, HC3⟩))
    go_ret
    exact ChTo.lay HBW.out HKL.out (fun _ _ h => h) ⟨code, t, rfl, HR3, HP3, HC3⟩
  | false =>
    rw [(HL1 rfl).out] at HLN
    clear HL1
    go_enter Tryz.func13, Tryz.ntmps13
    go_wp2_with (first | (go_at_call 42; refine same_call HHS.out ?_) | (go_at_call 44; refine same_call HSW.out ?_) | (go_at_call 26; refine same_call HLN.out ?_) | (go_at_call 47; refine EN.out.mono ?_; rintro e w1 ⟨q, rfl, HQ, HB1⟩; refine Hid.out ?_))
    apply hidden
    have HDL := hidden (delE_all w1 q sn s.cs HQ.out.1 HQ.out.2.1 HIJ.out.2.2.1 i j HIJ.out.1 HIJ.out.2.1)
    go_wp2_with (first | (go_at_call 46; refine HDL.out.mono ?_; rintro e w2 ⟨dd, rfl, HS2, HB2⟩; refine Hid.out ?_))
    apply hidden
    have HBW : Hid (Below w.heap.size w w2) := hidden (HB1.out.trans (HB2.out.mono HQ.out.2.2.1))
    have HLY := hidden (lay_any w2 K a k n s (HP.out.go HBW.out) q _ dd sn _ HS2.out.1 (Nat.le_trans (Nat.le_of_lt HQ.out.2.2.2) HB2.out.size) HN.out.1 HN.out.2.1 HN.out.2.2 HIJ.out.2.2.2 HS2.out.2)
    clear HDL
    go_wp2_with (first | (go_at_call 45; refine HLY.out.mono ?_; rintro e w3 ⟨code, t, rfl, HR3, HP3, HC3⟩))
    go_ret
    exact ChTo.lay HBW.out HKL.out (fun _ _ h => h) ⟨code, t, rfl, HR3, HP3, HC3⟩
set_option maxRecDepth 100000 in
theorem removeQ_any (w : World) (K : Nat → Prop) (a : Nat) (k : Int) (n : Nat) (s : Qs) (h : Pk w K a k n s) (I : Int) (hn : pw n) :
    Calls Tryz.prog 13 #[.pointer (some ⟨a, 0, none⟩), .int .i64 I] w (ChTo (RemR k n s I) K a k n w) := by
  have hn2 := pw_nat hn
  have hkl := h.kl
  by_cases hin : 0 ≤ I ∧ I < (s.cs.length : Int)
  · obtain ⟨i, rfl⟩ : ∃ i : Nat, I = (i : Int) := ⟨I.toNat, by omega⟩
    obtain ⟨d, hd⟩ : ∃ d, s.cs[i]? = some d := ⟨_, List.getElem?_eq_getElem (by omega)⟩
    by_cases hlay : (k = 3 ∧ i = 0) ∨ s.cs.length = 1
    · exact (rem_lay w K a k n s h hn i d hd hlay).mono fun e w' hq => ChTo.from (Below.refl _ _) hkl (fun code t hr => .inr ⟨i, d, rfl, hd, .inl ⟨hlay, hr⟩⟩) hq
    · obtain ⟨po, pn, pc, bo, bn, bc, so, sn, sc, body, st, hA⟩ := h
      obtain ⟨l1, l2, l3, l4, l5⟩ := hA.lens
      have hfit := hA.ok.fit
      have hk0 : ¬ (k = 3 ∧ i = 0) := fun e => hlay (.inl e)
      have hs1 : ¬ s.cs.length = 1 := fun e => hlay (.inr e)
      have hsum := hA.sum
      refine (rem_in w 0 a k n po pn pc bo bn bc so sn sc _ s.P body st hA.pg (by omega) (by omega) i (i + 1) (sn - 1) rfl (by omega) (by omega) (by omega) hk0 s.cs hA.lay d hd hA.wf (by omega) (by omega) _ rfl hA.far).mono ?_
      rintro e w' ⟨rfl, HPO, HC⟩
      have hlv := lvQ_rem k s.P s.cs i (i + 1) d rfl hd hk0
      have hll := hA.lay.rem (i := i) (j := i + 1) rfl (by omega) hk0
      have hmem : ∀ d ∈ s.cs.take i ++ s.cs.drop (i + 1), d ∈ s.cs := fun d hd => by
        rcases List.mem_append.1 hd with e | e
        · exact List.mem_of_mem_take e
        · exact List.mem_of_mem_drop e
      refine ⟨0, ⟨s.P, s.cs.take i ++ s.cs.drop (i + 1), s.ws + (qB s.P.length d).length⟩, rfl, hidden (.inr ⟨i, d, rfl, hd, .inr ⟨hlay, rfl, rfl⟩⟩), hidden (hA.put (vb' := .slice bo bn bc) (vs' := .slice so (sn - 1) sc) rfl ?_ hA.far.len (.inl rfl) (.inl (own_eq _ _ _ _ _)) hll hA.wf ⟨hll.beg, rs_cut i (i + 1) (by omega) hA.ok.rs, fun d hd => hA.ok.may d (hmem d hd), fun d hd => hA.ok.wf d (hmem d hd), ?_⟩ ?_ HC.out.size), hidden (hA.cfq HC.out)⟩
      · have := HPO.out
        rw [show (s.ws : Int) + ((qB s.P.length d).length : Int) = ((s.ws + (qB s.P.length d).length : Nat) : Int) by omega] at this
        exact this
      · unfold filQ at *
        have : (s.cs.take i ++ s.cs.drop (i + 1)).length + 1 = s.cs.length := by simp; omega
        simp only
        omega
      · simp only
        omega
  · obtain ⟨po, pn, pc, bo, bn, bc, so, sn, sc, body, st, hA⟩ := h
    obtain ⟨l1, l2, l3, l4, l5⟩ := hA.lens
    refine (rem_no w a k n po pn pc bo bn bc so sn sc _ s.P body st (hA.pgq hn2.2) I (by omega)).mono ?_
    rintro e w' ⟨rfl, rfl⟩
    exact ChTo.stay ⟨_, _, _, _, _, _, _, _, _, _, _, hA⟩ (Below.refl _ _) (.inl ⟨hin, rfl, rfl⟩)
set_option maxRecDepth 100000 in
theorem Qok.lay {k : Int} {n : Nat} {s : Qs} (h : Qok k n s) : szQ k (shP k s.cs).length s.cs ≤ n := by
  have h1 := szQ_less h.beg
  have h2 := filQ_eq k s
  have h3 := h.fit
  omega
set_option maxRecDepth 100000 in
set_option maxHeartbeats 2000000 in
theorem tidyQ_any (w : World) (K : Nat → Prop) (a : Nat) (k : Int) (n : Nat) (s : Qs) (h : Pk w K a k n s) (hn : pw n) :
    Calls Tryz.prog 15 #[.pointer (some ⟨a, 0, none⟩)] w fun e w' => e = .returned (.tuple #[]) ∧ Hid (Pk w' (Zk K w w') a k n ⟨shP k s.cs, s.cs, 0⟩) ∧ Hid (Cf K w w') := by
  have hn2 := pw_nat hn
  have HKL := hidden h.kl
  have HP := hidden h
  have HL := hidden h.ok.lay
  have HOK := hidden h.ok
  obtain ⟨po, pn, pc, bo, bn, bc, so, sn, sc, body, st, hA⟩ := h
  obtain ⟨l1, l2, l3, l4, l5⟩ := hA.lens
  have hfit := hA.ok.fit
  have hpg := hA.pgq hn2.2
  have EN : Hid (Calls Tryz.prog 47 #[.pointer (some ⟨a, 0, none⟩)] w fun e w' => ∃ q, e = .returned (.slice (some ⟨q, 0, none⟩) sn sn) ∧ Hid (SlE w' q (some ⟨q, 0, none⟩) sn sn s.cs ∧ q < w'.heap.size) ∧ Hid (Below w.heap.size w w')) := by
    refine hidden ((entriesR_any w a k n po pn pc bo bn bc so sn sc _ s.P body st s.cs hpg hA.lay (by omega)).mono ?_)
    rintro e w' ⟨q, rfl, HS, HB⟩
    exact ⟨q, rfl, hidden ⟨HS.out.1, HB.out.2.2⟩, hidden HB.out.1⟩
  have HSN : Hid (sn ≤ 65536 ∧ n ≤ 65536) := hidden (by omega)
  clear hA hpg l1 l2 l3 l4 l5 hfit hn hn2
  go_enter Tryz.func15, Tryz.ntmps15
  go_wp2_with (first | (go_at_call 47; refine EN.out.mono ?_; rintro e w1 ⟨q, rfl, HQ, HB1⟩; refine Hid.out ?_))
  apply hidden
  have HLY := hidden (lay_any w1 K a k n s (HP.out.go HB1.out) q _ sn sn _ HQ.out.1 (Nat.le_of_lt HQ.out.2) HOK.out.rs HOK.out.may HOK.out.wf HSN.out.2 HSN.out.1)
  clear EN
  go_wp2_with (first | (go_at_call 45; refine HLY.out.mono ?_; rintro e w3 ⟨code, t, rfl, HR3, HP3, HC3⟩))
  refine bodyPost_end (v := .tuple #[]) (by simp [results, Tryz.results15, go_sem]) rfl ?_
  obtain ⟨_, t, _, hr, hp, hc⟩ := ChTo.lay (S := LayR k n s s.cs) HB1.out HKL.out (fun _ _ h => h) ⟨code, t, rfl, HR3, HP3, HC3⟩
  rcases hr.out with ⟨_, _, rfl⟩ | ⟨h1, _⟩
  · exact ⟨rfl, hp, hc⟩
  · exact absurd HL.out h1
end Go.Proofs.YtbefpojdopfeeaaGreatDoor
