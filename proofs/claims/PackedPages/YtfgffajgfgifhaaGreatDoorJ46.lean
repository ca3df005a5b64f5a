import Derived.Test.YtfgffajgfgifhaaGreatDoorJ45
namespace Go.Proofs.YtfgffajgfgifhaaGreatDoor
set_option maxRecDepth 100000
set_option maxHeartbeats 8000000
open Go.RowKit
variable {st : Prop}
theorem same_yes7 (ao bo : Option Addr) (n c d : Nat) (l : List Int) (w : World) (ha : Sl w ao n c l) (hb : Sl w bo n d l) :
  Calls Tryz.prog 37 #[.slice ao n c, .slice bo n d] w fun e w' => e = .returned (.bool true) ∧ w' = w := by
 refine (same_any ao bo n n c d l l w ha hb).mono ?_
 rintro e w' ⟨rfl, rfl⟩
 exact ⟨by simp, rfl⟩
theorem step_bytes (w : World) (K : Nat → Prop) (a : Nat) (G : Nat → Prop) (r : Nat) (X : Nat → Prop) (kb N P : Nat) (k : Int) (n : Nat) (s : Qs) (hP : Pz st w K a G r X kb N P k n s) (hn : pw n) (hkd : isKd k) (ht : Tab w) (h0 : 0 < w.heap.size) (hN : N ≤ 8000000000000) (hQ : P ≤ 1290000000000) (I : Int) (ka va qa : Option Addr) (kn kc vn vc qn qc : Nat) (c1 c3 c4 : Int) :
  Calls Tryz.prog 8 #[.pointer (some ⟨kb, 0, none⟩), .pointer (some ⟨a, 0, none⟩), .pointer (some ⟨r, 0, none⟩), .agg #[.int .i64 9, .int .i64 I, .slice ka kn kc, .int .i64 c1, .slice va vn vc, .int .i64 c3, .int .i64 c4, .slice qa qn qc]] w (StepK st K a G r X kb N P k n w) := by
 obtain ⟨x, hx⟩ : ∃ x, w.alloc (.cells #[.int .i64 9, .int .i64 I, .slice ka kn kc, .int .i64 c1, .slice va vn vc, .int .i64 c3, .int .i64 c4, .slice qa qn qc] 41) = x := ⟨_, rfl⟩
 have hbx : Below w.heap.size w x := by rw [← hx]; exact zac Br Lr _
 have HO8 : Hid (O8 x w.heap.size (.int .i64 9) (.int .i64 I) (.slice ka kn kc) (.int .i64 c1) (.slice va vn vc) (.int .i64 c3) (.int .i64 c4) (.slice qa qn qc)) := zaa (by rw [← hx]; exact O8.box _ _ _ _ _ _ _ _ _)
 obtain ⟨y, hy⟩ : ∃ y, x.alloc (.cells #[.slice ka kn kc, .int .i64 c1, .slice va vn vc, .int .i64 c3, .int .i64 c4] 39) = y := ⟨_, rfl⟩
 have hby : Below x.heap.size x y := by rw [← hy]; exact zac Br Lr _
 have hwy := zab hbx Lr hby
 have HK0 : Hid (Kst st w y X kb N P X) := zaa ((Kst.start hP.kz).go hwy)
 have HBY := zaa ((HK0.out.pr hP).our.bytes hn hkd (ht.on hwy h0) (zO h0 hwy.size))
 have HP := zaa hP
 have HN := zaa hn
 have HKD := zaa hkd
 have HWY := zaa hwy
 have HNQ : Hid (N ≤ 8000000000000 ∧ P ≤ 1290000000000) := zaa ⟨hN, hQ⟩
 obtain ⟨o0, o1, o2, o3, o4, o5, o6, o7⟩ := HO8.out.cells
 have HO8Y := zaa (show O8 y w.heap.size _ _ _ _ _ _ _ _ from zaf HO8.out hby)
 obtain ⟨p0, p1, p2, p3, p4, p5, p6, p7⟩ := HO8Y.out.cells
 clear hP hn hkd ht h0 hN hQ hbx hby hwy
 go_enter Tryz.func8, Tryz.ntmps8
 go_wp2_with (go_at_call 18; refine HBY.out.mono ?_; rintro e u ⟨g, rfl, HB1, HW1⟩; refine Hid.out ?_)
 apply zaa
 have HK1 : Hid (Kst st w u X kb N P X) := zaa (HK0.out.go HW1.out)
 have HDB := zaa (((HK1.out.pr HP.out).doc.asks HN.out).bytes HKD.out)
 clear o0 o1 o2 o3 o4 o5 o6 o7 p0 p1 p2 p3 p4 p5 p6 p7 HBY
 go_wp2_with (go_at_call 36; refine HDB.out.mono ?_; rintro e u2 ⟨v, rfl, HO2, HW2⟩; refine Hid.out ?_)
 apply zaa
 obtain ⟨hwf, hlen⟩ := (HP.out.pr.our.ok).pkwf HN.out HKD.out
 have hn2 := zai HN.out
 obtain ⟨vo, vcap, rfl, _⟩ := zcu HO2.out
 have hs2 := HO2.out.sl8 hwf (by omega)
 rw [hlen] at hs2 ⊢
 have hs1 : Sl u2 (some ⟨g, 0, none⟩) n n (pkB k n s.cs) := (HB1.out.2.sl hlen hwf (by omega)).on Lr HW2.out
 have HSA := zaa (same_yes7 _ _ _ _ _ _ u2 hs1 hs2)
 have HK2 : Hid (Kst st w u2 X kb N P X) := zaa (HK1.out.go HW2.out)
 have HOW : Hid (OwnB u2 y.heap.size (.slice (some ⟨g, 0, none⟩) n n) (pkB k n s.cs)) := zaa ((HB1.out.2.own8 HB1.out.1 hlen (by omega)).on Lr HW2.out)
 have HTK := zaa (HK2.out.take y.heap.size (some ⟨g, 0, none⟩) n n (pkB k n s.cs) HOW.out ⟨hwf, by omega⟩ (fun b e => by
  have h1 := own_ge7 HOW.out e
  have h2 := HWY.out.size
  exact ⟨by omega, fun f => by have := HP.out.kz.lt b f; omega⟩) (by have := HNQ.out; omega) (by have := HNQ.out; omega))
 clear hs1 hs2 hwf hlen hn2 HDB
 go_wp2_with (first | (go_at_call 37; refine zae HSA.out ?_) | (go_at_call 38; refine HTK.out.mono ?_; rintro e u3 ⟨rfl, HT3, HC3⟩; refine Hid.out ?_))
 apply zaa
 go_wp2
 go_ret
 obtain ⟨Z, hz, _⟩ := HT3.out
 exact hz.step HP.out (by omega) (by split <;> omega)
variable {st : Prop}
theorem Pz.go {w w' : World} {K G X : Nat → Prop} {a r kb N P : Nat} {k : Int} {n : Nat} {s : Qs} (h : Pz st w K a G r X kb N P k n s) (hb : Below w.heap.size w w') : Pz st w' K a G r X kb N P k n s := ⟨h.pr.go hb, h.kz.go hb, h.x1, h.x2⟩
theorem Zk.up {K : Nat → Prop} {w y w' : World} (h : w.heap.size ≤ y.heap.size) {b : Nat} (e : Zk K y w' b) : Zk K w w' b := by
 rcases e with e | e
 ·exact .inl e
 ·exact .inr ⟨by omega, e.2⟩
theorem StepK.before {w y w' : World} {e : Ending} {K G X : Nat → Prop} {a r kb N P : Nat} {k : Int} {n : Nat} (hb : Below w.heap.size w y) (h : StepK st K a G r X kb N P k n y e w') : StepK st K a G r X kb N P k n w e w' := by
 obtain ⟨rfl, H1, H2⟩ := h
 obtain ⟨t, K', G', X', N', P', p1, p2, p3, p4, p5, p6⟩ := H1.out
 exact ⟨rfl, zaa ⟨t, K', G', X', N', P', p1, fun b e => (p2 b e).up hb.size, fun b e => (p3 b e).up hb.size, fun b e => (p4 b e).up hb.size, p5, p6⟩, zaa ((Cf.of_below hb).go H2.out)⟩
theorem Kst.out {w u u' : World} {X Y F : Nat → Prop} {kb N P : Nat} (h : Kst st w u X kb N P Y) (hc : Cf F u u') (hf : ∀ b, F b → w.heap.size ≤ b ∧ ¬ Y b) : Kst st w u' X kb N P Y := by
 refine ⟨h.kz.keep hc (fun b e => (hf b e).2), fun b e => ?_, h.cf.trans hc fun b hb e => by have := (hf b e).1; omega⟩
 rcases h.sub b e with f | f
 ·exact .inl f
 ·exact .inr ⟨f.1, zO f.2 hc.size⟩
theorem asked_none (w : World) (K : Nat → Prop) (a : Nat) (G : Nat → Prop) (r : Nat) (X : Nat → Prop) (kb N P : Nat) (k : Int) (n : Nat) (s : Qs) (hP : Pz st w K a G r X kb N P k n s) (q I : Int) (h5 : ¬ q = 5) (h6 : ¬ q = 6) (h7 : ¬ q = 7) (h8 : ¬ q = 8) (ka va qa : Option Addr) (kn kc vn vc qn qc : Nat) (c1 c3 c4 : Int) :
  Calls Tryz.prog 39 #[.pointer (some ⟨kb, 0, none⟩), .pointer (some ⟨a, 0, none⟩), .pointer (some ⟨r, 0, none⟩), .agg #[.int .i64 q, .int .i64 I, .slice ka kn kc, .int .i64 c1, .slice va vn vc, .int .i64 c3, .int .i64 c4, .slice qa qn qc]] w (StepK st K a G r X kb N P k n w) := by
 obtain ⟨x, hx⟩ : ∃ x, w.alloc (.cells #[.int .i64 q, .int .i64 I, .slice ka kn kc, .int .i64 c1, .slice va vn vc, .int .i64 c3, .int .i64 c4, .slice qa qn qc] 41) = x := ⟨_, rfl⟩
 have hbx : Below w.heap.size w x := by rw [← hx]; exact zac Br Lr _
 have HO8 : Hid (O8 x w.heap.size (.int .i64 q) (.int .i64 I) (.slice ka kn kc) (.int .i64 c1) (.slice va vn vc) (.int .i64 c3) (.int .i64 c4) (.slice qa qn qc)) := zaa (by rw [← hx]; exact O8.box _ _ _ _ _ _ _ _ _)
 have HK0 : Hid (Kst st w x X kb N P X) := zaa ((Kst.start hP.kz).go hbx)
 have HP := zaa hP
 obtain ⟨o0, o1, o2, o3, o4, o5, o6, o7⟩ := HO8.out.cells
 clear hP hbx
 go_enter Tryz.func39, Tryz.ntmps39
 go_wp2
 go_ret
 exact HK0.out.step HP.out (by omega) (by omega)
theorem asked_used (w : World) (K : Nat → Prop) (a : Nat) (G : Nat → Prop) (r : Nat) (X : Nat → Prop) (kb N P : Nat) (k : Int) (n : Nat) (s : Qs) (hP : Pz st w K a G r X kb N P k n s) (hn : pw n) (hN : N ≤ 8000000000000) (hQ : P ≤ 1290000000000) (I : Int) (ka va qa : Option Addr) (kn kc vn vc qn qc : Nat) (c1 c3 c4 : Int) :
  Calls Tryz.prog 39 #[.pointer (some ⟨kb, 0, none⟩), .pointer (some ⟨a, 0, none⟩), .pointer (some ⟨r, 0, none⟩), .agg #[.int .i64 8, .int .i64 I, .slice ka kn kc, .int .i64 c1, .slice va vn vc, .int .i64 c3, .int .i64 c4, .slice qa qn qc]] w (StepK st K a G r X kb N P k n w) := by
 obtain ⟨x, hx⟩ : ∃ x, w.alloc (.cells #[.int .i64 8, .int .i64 I, .slice ka kn kc, .int .i64 c1, .slice va vn vc, .int .i64 c3, .int .i64 c4, .slice qa qn qc] 41) = x := ⟨_, rfl⟩
 have hbx : Below w.heap.size w x := by rw [← hx]; exact zac Br Lr _
 have HO8 : Hid (O8 x w.heap.size (.int .i64 8) (.int .i64 I) (.slice ka kn kc) (.int .i64 c1) (.slice va vn vc) (.int .i64 c3) (.int .i64 c4) (.slice qa qn qc)) := zaa (by rw [← hx]; exact O8.box _ _ _ _ _ _ _ _ _)
 have HK0 : Hid (Kst st w x X kb N P X) := zaa ((Kst.start hP.kz).go hbx)
 have HPF := zaa ((HK0.out.pr hP).our.prefix hn)
 have HP := zaa hP
 have HN := zaa hn
 have HBX := zaa hbx
 have HNQ : Hid (N ≤ 8000000000000 ∧ P ≤ 1290000000000) := zaa ⟨hN, hQ⟩
 have HPW := zaa (hP.pr.doc.asks hn).pwf
 obtain ⟨PL, hPL⟩ : ∃ PL, s.P.length = PL := ⟨_, rfl⟩
 rw [hPL] at HPF
 have HPL := zaa hPL
 obtain ⟨o0, o1, o2, o3, o4, o5, o6, o7⟩ := HO8.out.cells
 clear hP hn hN hQ hbx hPL
 go_enter Tryz.func39, Tryz.ntmps39
 go_wp2_with (go_at_call 81; refine HPF.out.mono ?_; rintro e u ⟨ao, cp, rfl, HO1, HW1⟩; refine Hid.out ?_)
 apply zaa
 have HK1 : Hid (Kst st w u X kb N P X) := zaa (HK0.out.go HW1.out)
 have HDB := zaa (((HK1.out.pr HP.out).doc.asks HN.out).pref)
 clear o0 o1 o2 o3 o4 o5 o6 o7 HPF
 go_wp2_with (go_at_call 82; refine HDB.out.mono ?_; rintro e u2 ⟨v, rfl, HO2, HW2⟩; refine Hid.out ?_)
 apply zaa
 obtain ⟨vo, vcap, rfl, _⟩ := zcu HO2.out
 have hwf := HPW.out.1
 have hle := HPW.out.2
 have hs2 := HO2.out.sl8 hwf (by omega)
 rw [HPL.out] at hs2 ⊢
 have HOW : Hid (OwnB u2 x.heap.size (.slice ao PL cp) s.P) := zaa (HO1.out.on Lr HW2.out)
 have HSA := zaa (same_yes7 _ _ _ _ _ _ u2 (HOW.out.sl8 hwf (by omega)) hs2)
 have HK2 : Hid (Kst st w u2 X kb N P X) := zaa (HK1.out.go HW2.out)
 have HTK := zaa (HK2.out.take x.heap.size ao PL cp s.P HOW.out ⟨hwf, hle⟩ (fun b e => by
  have h1 := own_ge7 HOW.out e
  have h2 := HBX.out.size
  exact ⟨by omega, fun f => by have := HP.out.kz.lt b f; omega⟩) (by have := HNQ.out; omega) (by have := HNQ.out; omega))
 clear hs2 hwf hle HDB
 go_wp2_with (first | (go_at_call 37; refine zae HSA.out ?_) | (go_at_call 38; refine HTK.out.mono ?_; rintro e u3 ⟨rfl, HT3, HC3⟩; refine Hid.out ?_))
 apply zaa
 obtain ⟨Z, hz, _⟩ := HT3.out
 have HK3 := zaa hz
 have HPR := zaa (hz.pr HP.out)
 obtain ⟨U, hU⟩ : ∃ U, szQ k s.P.length s.cs = U := ⟨_, rfl⟩
 have HU1 : Hid (∀ v, Below u3.heap.size u3 v → Calls Tryz.prog 17 #[.pointer (some ⟨a, 0, none⟩)] v fun e w' => e = .returned (.int .i64 (U : Int)) ∧ Hid (Below u3.heap.size u3 w')) := zaa fun v hv => by
  refine ((HPR.out.our.go hv).asks HN.out).used.mono ?_
  rintro e w' ⟨rfl, HB⟩
  exact ⟨by rw [hU], zaa (zab hv Lr HB.out)⟩
 have HU2 : Hid (∀ v, Below u3.heap.size u3 v → Calls Tryz.prog 83 #[.pointer (some ⟨r, 0, none⟩)] v fun e w' => e = .returned (.int .i64 (U : Int)) ∧ Hid (Below u3.heap.size u3 w')) := zaa fun v hv => by
  refine ((HPR.out.doc.go hv).asks HN.out).used.mono ?_
  rintro e w' ⟨rfl, HB⟩
  exact ⟨by rw [hU], zaa (zab hv Lr HB.out)⟩
 obtain ⟨L, hL⟩ : ∃ L, s.cs.length = L := ⟨_, rfl⟩
 obtain ⟨V, hV⟩ : ∃ V, s.ws = V := ⟨_, rfl⟩
 have HA1 : Hid (∀ v, Below u3.heap.size u3 v → (Calls Tryz.prog 16 #[.pointer (some ⟨a, 0, none⟩)] v fun e w' => e = .returned (.int .i64 (V : Int)) ∧ w' = v) ∧ (Calls Tryz.prog 26 #[.pointer (some ⟨a, 0, none⟩)] v fun e w' => e = .returned (.int .i64 (L : Int)) ∧ w' = v) ∧ (Calls Tryz.prog 21 #[.pointer (some ⟨a, 0, none⟩)] v fun e w' => e = .returned (.int .i64 k) ∧ w' = v)) := zaa fun v hv => by
  have h1 := (HPR.out.our.go hv).asks HN.out
  rw [← hL, ← hV]
  exact ⟨h1.waste, h1.len, h1.kind⟩
 have HA2 : Hid (∀ v, Below u3.heap.size u3 v → (Calls Tryz.prog 84 #[.pointer (some ⟨r, 0, none⟩)] v fun e w' => e = .returned (.int .i64 (V : Int)) ∧ w' = v) ∧ (Calls Tryz.prog 85 #[.pointer (some ⟨r, 0, none⟩)] v fun e w' => e = .returned (.int .i64 (L : Int)) ∧ w' = v) ∧ (Calls Tryz.prog 86 #[.pointer (some ⟨r, 0, none⟩)] v fun e w' => e = .returned (.int .i64 k) ∧ w' = v)) := zaa fun v hv => by
  have h1 := (HPR.out.doc.go hv).asks HN.out
  rw [← hL, ← hV]
  exact ⟨h1.waste, h1.len, h1.kind⟩
 clear hz hU hL hV HSA HTK
 go_wp2_with (first
  | (go_at_call 17; refine (HU1.out _ (by first | exact Br | exact Br.drew | exact zad Br _)).mono ?_; rintro e w4 ⟨rfl, HB4⟩)
  | (go_at_call 83; refine (HU2.out _ HB4.out).mono ?_; rintro e w5 ⟨rfl, HB5⟩)
  | (go_at_call 16; refine zae (HA1.out _ HB5.out).1 ?_)
  | (go_at_call 84; refine zae (HA2.out _ HB5.out).1 ?_)
  | (go_at_call 26; refine zae (HA1.out _ HB5.out).2.1 ?_)
  | (go_at_call 85; refine zae (HA2.out _ HB5.out).2.1 ?_)
  | (go_at_call 21; refine zae (HA1.out _ HB5.out).2.2 ?_)
  | (go_at_call 86; refine zae (HA2.out _ HB5.out).2.2 ?_))
 go_ret
 exact (HK3.out.go HB5.out).step HP.out (by omega) (by split <;> omega)
variable {st : Prop}
theorem Fnd.one7 {cs : List Cl} {q : List Int} {r s : Nat} (h : Fnd cs q r) (g : Fnd cs q s) : r = s := by
 obtain ⟨h1, h2, h3⟩ := h
 obtain ⟨g1, g2, g3⟩ := g
 rcases Nat.lt_trichotomy r s with e | e | e
 ·obtain ⟨c, hc⟩ : ∃ c, cs[r]? = some c := ⟨_, zI (by omega)⟩
  exact absurd (g2 r c e hc) (h3 r c Lr hc)
 ·exact e
 ·obtain ⟨c, hc⟩ : ∃ c, cs[s]? = some c := ⟨_, zI (by omega)⟩
  exact absurd (h2 s c e hc) (g3 s c Lr hc)
theorem zbk.both {cs : List Cl} {q : List Int} {r r' : Nat} {is is' : Bool} (h : Fnd cs q r ∧ (is = true ↔ ∃ c, cs[r]? = some c ∧ c.key = q)) (g : Fnd cs q r' ∧ (is' = true ↔ ∃ c, cs[r']? = some c ∧ c.key = q)) : r' = r ∧ is' = is := by
 obtain rfl := h.1.one7 g.1
 refine ⟨rfl, ?_⟩
 have e := h.2.trans g.2.symm
 clear h g
 cases is <;> cases is' <;> simp_all
theorem asked_find (w : World) (K : Nat → Prop) (a : Nat) (G : Nat → Prop) (r : Nat) (X : Nat → Prop) (kb N P : Nat) (k : Int) (n : Nat) (s : Qs) (hP : Pz st w K a G r X kb N P k n s) (hn : pw n) (I : Int) (ka va qa : Option Addr) (kn kc vn vc qn qc : Nat) (c1 c3 c4 : Int) (q : List Int) (hq : Sl w qa qn qc q) (hl : qn ≤ 140737488351232) :
  Calls Tryz.prog 39 #[.pointer (some ⟨kb, 0, none⟩), .pointer (some ⟨a, 0, none⟩), .pointer (some ⟨r, 0, none⟩), .agg #[.int .i64 6, .int .i64 I, .slice ka kn kc, .int .i64 c1, .slice va vn vc, .int .i64 c3, .int .i64 c4, .slice qa qn qc]] w (StepK st K a G r X kb N P k n w) := by
 obtain ⟨x, hx⟩ : ∃ x, w.alloc (.cells #[.int .i64 6, .int .i64 I, .slice ka kn kc, .int .i64 c1, .slice va vn vc, .int .i64 c3, .int .i64 c4, .slice qa qn qc] 41) = x := ⟨_, rfl⟩
 have hbx : Below w.heap.size w x := by rw [← hx]; exact zac Br Lr _
 have HO8 : Hid (O8 x w.heap.size (.int .i64 6) (.int .i64 I) (.slice ka kn kc) (.int .i64 c1) (.slice va vn vc) (.int .i64 c3) (.int .i64 c4) (.slice qa qn qc)) := zaa (by rw [← hx]; exact O8.box _ _ _ _ _ _ _ _ _)
 have HK0 : Hid (Kst st w x X kb N P X) := zaa ((Kst.start hP.kz).go hbx)
 have HLE := zaa (lent_any qa qn qc q x (hq.on Lr hbx))
 have HP := zaa hP
 have HN := zaa hn
 have HBX := zaa hbx
 have HQ := zaa hq
 have HL := zaa hl
 have HXS : Hid (w.heap.size < x.heap.size) := zaa (by rw [← hx]; simp)
 obtain ⟨o0, o1, o2, o3, o4, o5, o6, o7⟩ := HO8.out.cells
 clear hP hn hbx hq hl
 go_enter Tryz.func39, Tryz.ntmps39
 go_wp2_with (go_at_call 68; refine HLE.out.mono ?_; rintro e u ⟨rfl, ho1, hb1⟩; have HO1 := zaa ho1; have HW1 := zaa hb1; clear ho1 hb1; refine Hid.out ?_)
 apply zaa
 obtain ⟨g, hg⟩ : ∃ g, x.heap.size = g := ⟨_, rfl⟩
 rw [hg] at HO1 ⊢
 have HG := zaa hg
 have HWU := zaa (zab HBX.out Lr HW1.out)
 have HK1 : Hid (Kst st w u X kb N P X) := zaa (HK0.out.go HW1.out)
 have hw := HQ.out.wf
 have hln := HQ.out.hlen
 have HSK : Hid (Sl u (some ⟨g, 0, none⟩) qn (qn + 3) q) := zaa (by
  have h1 := HO1.out
  rw [← hln] at h1 ⊢
  exact own_lent h1 hw (by have := HL.out; omega))
 have HFI := zaa (((HK1.out.pr HP.out).our.asks HN.out).find (some ⟨g, 0, none⟩) qn (qn + 3) q HSK.out)
 have HOU := zaa (show O8 u w.heap.size _ _ _ _ _ _ _ _ from zaf HO8.out HW1.out)
 obtain ⟨p0, p1, p2, p3, p4, p5, p6, p7⟩ := HOU.out.cells
 clear o0 o1 o2 o3 o4 o5 o6 o7 HLE hg hw hln hx
 go_wp2_with (go_at_call 25; refine HFI.out.mono ?_; rintro e u2 ⟨f1, is1, rfl, HW2, HF2⟩; refine Hid.out ?_)
 apply zaa
 have HK2 : Hid (Kst st w u2 X kb N P X) := zaa (HK1.out.go HW2.out)
 have HWU2 := zaa (zab HWU.out Lr HW2.out)
 have HFD := zaa (((HK2.out.pr HP.out).doc.asks HN.out).find qa qn qc q (HQ.out.on Lr HWU2.out))
 have HOU2 := zaa (show O8 u2 w.heap.size _ _ _ _ _ _ _ _ from zaf HOU.out HW2.out)
 clear p0 p1 p2 p3 p4 p5 p6 p7 HFI
 obtain ⟨p0, p1, p2, p3, p4, p5, p6, p7⟩ := HOU2.out.cells
 go_wp2_with (go_at_call 80; refine HFD.out.mono ?_; rintro e u3 ⟨f2, is2, rfl, HW3, HF3⟩; refine Hid.out ?_)
 apply zaa
 obtain ⟨rfl, rfl⟩ := zbk.both HF2.out HF3.out
 have HK3 : Hid (Kst st w u3 X kb N P X) := zaa (HK2.out.go HW3.out)
 have HWU3 := zaa (zab HWU2.out Lr HW3.out)
 have HAL := zaa (asLent_any g g qn qa qc q u3 (HO1.out.on Lr (zab HW2.out Lr HW3.out)) (HQ.out.on Lr HWU3.out) (by have := HL.out; omega))
 have HOU3 := zaa (show O8 u3 w.heap.size _ _ _ _ _ _ _ _ from zaf HOU2.out HW3.out)
 clear p0 p1 p2 p3 p4 p5 p6 p7 HFD
 obtain ⟨p0, p1, p2, p3, p4, p5, p6, p7⟩ := HOU3.out.cells
 go_wp2_with (go_at_call 73; refine HAL.out.mono ?_; rintro e u4 ⟨rfl, hg4⟩; have HG4 := zaa hg4; clear hg4; refine Hid.out ?_)
 apply zaa
 clear p0 p1 p2 p3 p4 p5 p6 p7 HAL
 have HK4 : Hid (Kst st w u4 X kb N P X) := zaa (HK3.out.out (cf_grown (F := (· = g)) HG4.out rfl) (fun b e => by
  have h1 := HG.out
  have h2 := HXS.out
  exact ⟨by omega, fun f => by have := HP.out.kz.lt b f; omega⟩))
 go_wp2
 go_ret
 exact HK4.out.step HP.out (by omega) (by omega)
theorem asked_near (w : World) (K : Nat → Prop) (a : Nat) (G : Nat → Prop) (r : Nat) (X : Nat → Prop) (kb N P : Nat) (k : Int) (n : Nat) (s : Qs) (hP : Pz st w K a G r X kb N P k n s) (hn : pw n) (I : Int) (ka va qa : Option Addr) (kn kc vn vc qn qc : Nat) (c1 c3 c4 : Int) (q : List Int) (hq : Sl w qa qn qc q) (hl : qn ≤ 140737488351232) :
  Calls Tryz.prog 39 #[.pointer (some ⟨kb, 0, none⟩), .pointer (some ⟨a, 0, none⟩), .pointer (some ⟨r, 0, none⟩), .agg #[.int .i64 7, .int .i64 I, .slice ka kn kc, .int .i64 c1, .slice va vn vc, .int .i64 c3, .int .i64 c4, .slice qa qn qc]] w (StepK st K a G r X kb N P k n w) := by
 obtain ⟨x, hx⟩ : ∃ x, w.alloc (.cells #[.int .i64 7, .int .i64 I, .slice ka kn kc, .int .i64 c1, .slice va vn vc, .int .i64 c3, .int .i64 c4, .slice qa qn qc] 41) = x := ⟨_, rfl⟩
 have hbx : Below w.heap.size w x := by rw [← hx]; exact zac Br Lr _
 have HO8 : Hid (O8 x w.heap.size (.int .i64 7) (.int .i64 I) (.slice ka kn kc) (.int .i64 c1) (.slice va vn vc) (.int .i64 c3) (.int .i64 c4) (.slice qa qn qc)) := zaa (by rw [← hx]; exact O8.box _ _ _ _ _ _ _ _ _)
 have HK0 : Hid (Kst st w x X kb N P X) := zaa ((Kst.start hP.kz).go hbx)
 have HLE := zaa (lent_any qa qn qc q x (hq.on Lr hbx))
 have HP := zaa hP
 have HN := zaa hn
 have HBX := zaa hbx
 have HQ := zaa hq
 have HL := zaa hl
 have HXS : Hid (w.heap.size < x.heap.size) := zaa (by rw [← hx]; simp)
 obtain ⟨o0, o1, o2, o3, o4, o5, o6, o7⟩ := HO8.out.cells
 clear hP hn hbx hq hl
 go_enter Tryz.func39, Tryz.ntmps39
 go_wp2_with (go_at_call 68; refine HLE.out.mono ?_; rintro e u ⟨rfl, ho1, hb1⟩; have HO1 := zaa ho1; have HW1 := zaa hb1; clear ho1 hb1; refine Hid.out ?_)
 apply zaa
 obtain ⟨g, hg⟩ : ∃ g, x.heap.size = g := ⟨_, rfl⟩
 rw [hg] at HO1 ⊢
 have HG := zaa hg
 have HWU := zaa (zab HBX.out Lr HW1.out)
 have HK1 : Hid (Kst st w u X kb N P X) := zaa (HK0.out.go HW1.out)
 have hw := HQ.out.wf
 have hln := HQ.out.hlen
 have HSK : Hid (Sl u (some ⟨g, 0, none⟩) qn (qn + 3) q) := zaa (by
  have h1 := HO1.out
  rw [← hln] at h1 ⊢
  exact own_lent h1 hw (by have := HL.out; omega))
 have HFI := zaa (((HK1.out.pr HP.out).our.asks HN.out).near (some ⟨g, 0, none⟩) qn (qn + 3) q I HSK.out)
 have HOU := zaa (show O8 u w.heap.size _ _ _ _ _ _ _ _ from zaf HO8.out HW1.out)
 obtain ⟨p0, p1, p2, p3, p4, p5, p6, p7⟩ := HOU.out.cells
 clear o0 o1 o2 o3 o4 o5 o6 o7 HLE hg hw hln hx
 go_wp2_with (go_at_call 60; refine HFI.out.mono ?_; rintro e u2 ⟨f1, is1, rfl, HW2, HF2⟩; refine Hid.out ?_)
 apply zaa
 have HK2 : Hid (Kst st w u2 X kb N P X) := zaa (HK1.out.go HW2.out)
 have HWU2 := zaa (zab HWU.out Lr HW2.out)
 have HFD := zaa (((HK2.out.pr HP.out).doc.asks HN.out).find qa qn qc q (HQ.out.on Lr HWU2.out))
 have HOU2 := zaa (show O8 u2 w.heap.size _ _ _ _ _ _ _ _ from zaf HOU.out HW2.out)
 clear p0 p1 p2 p3 p4 p5 p6 p7 HFI
 obtain ⟨p0, p1, p2, p3, p4, p5, p6, p7⟩ := HOU2.out.cells
 go_wp2_with (go_at_call 80; refine HFD.out.mono ?_; rintro e u3 ⟨f2, is2, rfl, HW3, HF3⟩; refine Hid.out ?_)
 apply zaa
 obtain ⟨rfl, rfl⟩ := zbk.both HF2.out HF3.out
 have HK3 : Hid (Kst st w u3 X kb N P X) := zaa (HK2.out.go HW3.out)
 have HWU3 := zaa (zab HWU2.out Lr HW3.out)
 have HAL := zaa (asLent_any g g qn qa qc q u3 (HO1.out.on Lr (zab HW2.out Lr HW3.out)) (HQ.out.on Lr HWU3.out) (by have := HL.out; omega))
 have HOU3 := zaa (show O8 u3 w.heap.size _ _ _ _ _ _ _ _ from zaf HOU2.out HW3.out)
 clear p0 p1 p2 p3 p4 p5 p6 p7 HFD
 obtain ⟨p0, p1, p2, p3, p4, p5, p6, p7⟩ := HOU3.out.cells
 go_wp2_with (go_at_call 73; refine HAL.out.mono ?_; rintro e u4 ⟨rfl, hg4⟩; have HG4 := zaa hg4; clear hg4; refine Hid.out ?_)
 apply zaa
 clear p0 p1 p2 p3 p4 p5 p6 p7 HAL
 have HK4 : Hid (Kst st w u4 X kb N P X) := zaa (HK3.out.out (cf_grown (F := (· = g)) HG4.out rfl) (fun b e => by
  have h1 := HG.out
  have h2 := HXS.out
  exact ⟨by omega, fun f => by have := HP.out.kz.lt b f; omega⟩))
 go_wp2
 go_ret
 exact HK4.out.step HP.out (by omega) (by omega)
variable {st : Prop}
theorem Qok.cell {k : Int} {n : Nat} {s : Qs} (h : Qok k n s) (hn : pw n) (x : Int) : Wf (cellQ s.cs x).key ∧ (cellQ s.cs x).key.length ≤ 65536 ∧ Wf (cellQ s.cs x).val ∧ (cellQ s.cs x).val.length ≤ 65536 := by
 have hn2 := zai hn
 unfold cellQ
 split
 ·next hx =>
  obtain ⟨c, hc⟩ : ∃ c, s.cs[x.toNat]? = some c := ⟨_, zI (by omega)⟩
  rw [hc]
  have hm := List.mem_of_getElem? hc
  have h1 := h.wf c hm
  have h2 := (h.may c hm).fit (by omega)
  have h3 := h2.key
  have h4 := h2.val
  exact ⟨h1.1, by simp only [Option.getD_some]; omega, h1.2, by simp only [Option.getD_some]; omega⟩
 ·exact ⟨Wf.nil, by simp, Wf.nil, by simp⟩
theorem asked_cell (w : World) (K : Nat → Prop) (a : Nat) (G : Nat → Prop) (r : Nat) (X : Nat → Prop) (kb N P : Nat) (k : Int) (n : Nat) (s : Qs) (hP : Pz st w K a G r X kb N P k n s) (hn : pw n) (hN : N ≤ 8000000000000) (hQ : P ≤ 1290000000000) (I : Int) (ka va qa : Option Addr) (kn kc vn vc qn qc : Nat) (c1 c3 c4 : Int) :
  Calls Tryz.prog 39 #[.pointer (some ⟨kb, 0, none⟩), .pointer (some ⟨a, 0, none⟩), .pointer (some ⟨r, 0, none⟩), .agg #[.int .i64 5, .int .i64 I, .slice ka kn kc, .int .i64 c1, .slice va vn vc, .int .i64 c3, .int .i64 c4, .slice qa qn qc]] w (StepK st K a G r X kb N P k n w) := by
 obtain ⟨x, hx⟩ : ∃ x, w.alloc (.cells #[.int .i64 5, .int .i64 I, .slice ka kn kc, .int .i64 c1, .slice va vn vc, .int .i64 c3, .int .i64 c4, .slice qa qn qc] 41) = x := ⟨_, rfl⟩
 have hbx : Below w.heap.size w x := by rw [← hx]; exact zac Br Lr _
 have HO8 : Hid (O8 x w.heap.size (.int .i64 5) (.int .i64 I) (.slice ka kn kc) (.int .i64 c1) (.slice va vn vc) (.int .i64 c3) (.int .i64 c4) (.slice qa qn qc)) := zaa (by rw [← hx]; exact O8.box _ _ _ _ _ _ _ _ _)
 have HK0 : Hid (Kst st w x X kb N P X) := zaa ((Kst.start hP.kz).go hbx)
 obtain ⟨c, hc⟩ : ∃ c, cellQ s.cs I = c := ⟨_, rfl⟩
 obtain ⟨E, hE⟩ : ∃ E : Int, (if 0 ≤ I ∧ I < (s.cs.length : Int) then (0 : Int) else 64) = E := ⟨_, rfl⟩
 have HCW := zaa (hP.pr.our.ok.cell hn I)
 rw [hc] at HCW
 have hce := ((HK0.out.pr hP).our.asks hn).cell I
 rw [hc, hE] at hce
 have HCE := zaa hce
 have HP := zaa hP
 have HN := zaa hn
 have HBX := zaa hbx
 have HNQ : Hid (N ≤ 8000000000000 ∧ P ≤ 1290000000000) := zaa ⟨hN, hQ⟩
 have HKB : Hid (kb < w.heap.size) := zaa (Kst.start hP.kz).cells.2.2
 have HCQ := zaa (And.intro hc hE)
 obtain ⟨o0, o1, o2, o3, o4, o5, o6, o7⟩ := HO8.out.cells
 clear hP hn hN hQ hbx hc hE hce
 go_enter Tryz.func39, Tryz.ntmps39
 go_wp2_with (go_at_call 58; refine HCE.out.mono ?_; rintro e u1 ⟨ao, a2, bo, b2, rfl, HQ1, HB1⟩; refine Hid.out ?_)
 apply zaa
 obtain ⟨x1, hx1⟩ : ∃ x1, u1.alloc (.cells #[.slice ao c.key.length a2, .int .i64 c.kd, .slice bo c.val.length b2, .int .i64 c.pg, .int .i64 c.ct] 39) = x1 := ⟨_, rfl⟩
 have hbx1 : Below u1.heap.size u1 x1 := by rw [← hx1]; exact zac Br Lr _
 obtain ⟨g1, hg1⟩ : ∃ g1, u1.heap.size = g1 := ⟨_, rfl⟩
 have HC5 : Hid (C5 x1 g1 (.slice ao c.key.length a2) (.int .i64 c.kd) (.slice bo c.val.length b2) (.int .i64 c.pg) (.int .i64 c.ct)) := zaa (by rw [← hx1, ← hg1]; exact C5.box _ _ _ _ _ _)
 have HXX1 := zaa (zab HB1.out Lr hbx1)
 have HU1 := zaa hbx1
 have HG1 := zaa hg1
 have HK1 : Hid (Kst st w x1 X kb N P X) := zaa (HK0.out.go HXX1.out)
 have hcd := (((HK1.out.pr HP.out).doc.asks HN.out).cell I)
 rw [HCQ.out.1, HCQ.out.2] at hcd
 have HCD := zaa hcd
 have HO8Y := zaa (show O8 x1 w.heap.size _ _ _ _ _ _ _ _ from zaf HO8.out HXX1.out)
 clear o0 o1 o2 o3 o4 o5 o6 o7 hcd hbx1 HCE
 obtain ⟨o0, o1, o2, o3, o4, o5, o6, o7⟩ := HO8Y.out.cells
 go_upto_region 4 with fail
 try rw [hg1]
 clear hg1 hx1
 go_wp2_with (go_at_call 79; refine HCD.out.mono ?_; rintro e u2 ⟨ao', a2', bo', b2', rfl, HQ2, HB2⟩; refine Hid.out ?_)
 apply zaa
 obtain ⟨x2, hx2⟩ : ∃ x2, u2.alloc (.cells #[.slice ao' c.key.length a2', .int .i64 c.kd, .slice bo' c.val.length b2', .int .i64 c.pg, .int .i64 c.ct] 39) = x2 := ⟨_, rfl⟩
 have hbx2 : Below u2.heap.size u2 x2 := by rw [← hx2]; exact zac Br Lr _
 have HX12 := zaa (zab HB2.out Lr hbx2)
 have hd5 : C5 x2 u2.heap.size (.slice ao' c.key.length a2') (.int .i64 c.kd) (.slice bo' c.val.length b2') (.int .i64 c.pg) (.int .i64 c.ct) := by rw [← hx2]; exact C5.box _ _ _ _ _ _
 have HC52 : Hid (C5 x2 g1 (.slice ao c.key.length a2) (.int .i64 c.kd) (.slice bo c.val.length b2) (.int .i64 c.pg) (.int .i64 c.ct)) := zaa (zaf HC5.out HX12.out)
 obtain ⟨z0, z1, z2, z3, z4⟩ := hd5.cells
 obtain ⟨y0, y1, y2, y3, y4⟩ := HC52.out.cells
 have HSM : Hid (Calls Tryz.prog 59 #[.agg #[.slice ao c.key.length a2, .int .i64 c.kd, .slice bo c.val.length b2, .int .i64 c.pg, .int .i64 c.ct], .agg #[.slice ao' c.key.length a2', .int .i64 c.kd, .slice bo' c.val.length b2', .int .i64 c.pg, .int .i64 c.ct]] x2 fun e w' => e = .returned (.bool true) ∧ Hid (Below x2.heap.size x2 w')) := zaa (by
  have h1 := zab HU1.out Lr HX12.out
  obtain ⟨f1, f2, f3, f4⟩ := HCW.out
  refine (same_self c ao ao' bo bo' a2 a2' b2 b2' x2 ((HQ1.out.1.sl8 f1 (by omega)).on Lr h1) ((HQ2.out.1.sl8 f1 (by omega)).on Lr hbx2) ((HQ1.out.2.1.sl8 f3 (by omega)).on Lr h1) ((HQ2.out.2.1.sl8 f3 (by omega)).on Lr hbx2)).mono ?_
  rintro e w' ⟨rfl, hb2⟩
  exact ⟨rfl, zaa hb2⟩)
 clear o0 o1 o2 o3 o4 o5 o6 o7 hbx2 hd5 HCD
 go_upto_region 5 with fail
 clear hx2
 go_wp2_with (go_at_call 59; refine HSM.out.mono ?_; rintro e u3 ⟨rfl, HB3⟩; refine Hid.out ?_)
 apply zaa
 clear z0 z1 z2 z3 z4 y0 y1 y2 y3 y4 HSM
 have HX13 := zaa (zab HX12.out Lr HB3.out)
 have HX03 := zaa (zab HU1.out Lr HX13.out)
 have HC53 : Hid (C5 u3 g1 (.slice ao c.key.length a2) (.int .i64 c.kd) (.slice bo c.val.length b2) (.int .i64 c.pg) (.int .i64 c.ct)) := zaa (zaf HC5.out HX13.out)
 obtain ⟨y0, y1, y2, y3, y4⟩ := HC53.out.cells
 have HK3 : Hid (Kst st w u3 X kb N P X) := zaa (HK1.out.go HX13.out)
 have HOK : Hid (OwnB u3 x.heap.size (.slice ao c.key.length a2) c.key) := zaa (HQ1.out.1.on Lr HX03.out)
 have HOV : Hid (OwnB u3 x.heap.size (.slice bo c.val.length b2) c.val) := zaa (HQ1.out.2.1.on Lr HX03.out)
 have HNX : Hid (∀ b, x.heap.size ≤ b → w.heap.size ≤ b ∧ ¬ X b) := zaa fun b h => by
  have h2 := HBX.out.size
  exact ⟨by omega, fun f => by have := HP.out.kz.lt b f; omega⟩
 have HT1 := zaa (HK3.out.take x.heap.size ao c.key.length a2 c.key HOK.out ⟨HCW.out.1, HCW.out.2.1⟩ (fun b e => HNX.out b (own_ge7 HOK.out e)) (by have := HNQ.out; omega) (by have := HNQ.out; omega))
 go_wp2_with (go_at_call 38; refine HT1.out.mono ?_; rintro e u4 ⟨rfl, HT4, HC4⟩; refine Hid.out ?_)
 apply zaa
 clear y0 y1 y2 y3 y4 HT1
 obtain ⟨Z, hz, hzs⟩ := HT4.out
 obtain ⟨M, hM⟩ : ∃ M, N + 1 = M := ⟨_, rfl⟩
 rw [hM] at hz
 have HM := zaa hM
 have MI : (M : Int) ≤ 8000000000001 := by have := HNQ.out; omega
 have HK4 := zaa hz
 have HZS := zaa hzs
 obtain ⟨q0, qf, qk⟩ := HK4.out.cells
 have qf0 := qf 0
 obtain ⟨x5, hx5⟩ : ∃ x5, u4.setCell ⟨kb, 0, none⟩ (.int .i64 ((M : Int) + 1)) = x5 := ⟨_, rfl⟩
 have hk5 := HK4.out.bump
 have hc5' : Cf (· = kb) u4 x5 := by rw [← hx5]; exact Cf.setCell (F := (· = kb)) u4 (p := ⟨kb, 0, none⟩) rfl _
 rw [hx5] at hk5
 have HK5 := zaa hk5
 have HC45 := zaa hc5'
 have HGL : Hid (w.heap.size ≤ g1 ∧ x.heap.size ≤ g1 ∧ g1 < u3.heap.size) := zaa (by
  have h1 := HG1.out
  have h2 := HB1.out.size
  have h3 := HBX.out.size
  exact ⟨by omega, by omega, zag HC53.out⟩)
 have HC55 : Hid (C5 x5 g1 (.slice ao c.key.length a2) (.int .i64 c.kd) (.slice bo c.val.length b2) (.int .i64 c.pg) (.int .i64 c.ct)) := zaa (by
  have h1 := HGL.out
  refine C5.cf (C5.cf HC53.out HC4.out (fun e => ?_)) HC45.out (fun e => by have := HKB.out; omega)
  rcases e with e | e
  ·exact (HNX.out g1 h1.2.1).2 e
  ·have h2 := row_lt HQ1.out.1 e
   have h3 := HG1.out
   omega)
 have HOV5 : Hid (OwnB x5 x.heap.size (.slice bo c.val.length b2) c.val) := zaa (HOV.out.agr7 fun g e => by
  have h1 := own_ge7 HOV.out e
  have h2 := row_lt HOV.out e
  have h4 := HC4.out.size
  rw [HC45.out.block g (by omega) (fun e => by have := HKB.out; have := (HNX.out g h1).1; omega)]
  refine HC4.out.block g h2 (fun f => ?_)
  rcases f with f | f
  ·exact (HNX.out g h1).2 f
  ·exact HQ1.out.2.2 g f e)
 obtain ⟨y0, y1, y2, y3, y4⟩ := HC55.out.cells
 have HT2 := zaa (HK5.out.take x.heap.size bo c.val.length b2 c.val HOV5.out ⟨HCW.out.2.2.1, HCW.out.2.2.2⟩ (fun b e => by
  have h1 := own_ge7 HOV.out e
  have h2 := row_lt HOV.out e
  refine ⟨(HNX.out b h1).1, fun f => ?_⟩
  rcases HZS.out b f with f | f | f
  ·exact (HNX.out b h1).2 f
  ·exact HQ1.out.2.2 b f e
  ·omega) (by have := HNQ.out; have := HM.out; omega) (by have := HNQ.out; (repeat' split) <;> omega))
 clear hz hzs hM qf hk5 hc5'
 go_upto_region 8 with fail
 clear hx5 q0 qf0 qk
 go_wp2_with (go_at_call 38; refine HT2.out.mono ?_; rintro e u6 ⟨rfl, HT6, HC6⟩; refine Hid.out ?_)
 apply zaa
 clear y0 y1 y2 y3 y4 HT2
 go_wp2
 go_ret
 obtain ⟨Z6, hz6, _⟩ := HT6.out
 exact hz6.step HP.out (by have := HM.out; omega) (by have := HM.out; (repeat' split) <;> omega)
end Go.Proofs.YtfgffajgfgifhaaGreatDoor
