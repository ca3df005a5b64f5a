import Derived.Test.YtfgffajgfgifhaaGreatDoorJ34
namespace Go.Proofs.YtfgffajgfgifhaaGreatDoor
set_option maxRecDepth 100000
set_option maxHeartbeats 1000000
open Go.RowKit
theorem inPlace_first (w : World) (a : Nat) (k : Int) (n : Nat) (vp vb vs : Value) (ws : Int) (h : QR w a k n vp vb vs ws) (hk : k = 3) (ka : Option Addr) (kn kc : Nat) (kd : Int) (va : Option Addr) (vn vc : Nat) (pg ct : Int) :
  Calls Tryz.prog 88 #[.pointer (some ⟨a, 0, none⟩), .int .i64 0, .int .i64 0, .agg #[.slice ka kn kc, .int .i64 kd, .slice va vn vc, .int .i64 pg, .int .i64 ct]] w fun e w' => e = .returned (.bool false) ∧ Hid (Below w.heap.size w w') := by
 obtain ⟨x, hx⟩ : ∃ x, w.alloc (.cells #[.slice ka kn kc, .int .i64 kd, .slice va vn vc, .int .i64 pg, .int .i64 ct] 39) = x := ⟨_, rfl⟩
 have hbx : Below w.heap.size w x := by rw [← hx]; exact zac Br Lr _
 have hrx : QR x a k n vp vb vs ws := zaf h hbx
 obtain ⟨c0, c1, c2, c3, c4, c5⟩ := hrx.cells
 have HSW : Hid (Calls Tryz.prog 44 #[.int .i64 k, .int .i64 0] x fun e w' => e = .returned (.bool true) ∧ w' = x) := zaa (by
  have := zay k 0 x
  rwa [decide_eq_true (show k = 3 ∧ (0 : Int) = 0 from ⟨hk, rfl⟩)] at this)
 have HBX := zaa hbx
 clear h hbx hrx hk
 go_enter Tryz.func88, Tryz.ntmps88
 go_wp2_with (go_at_call 44; refine zae HSW.out ?_)
 go_ret
 exact ⟨rfl, HBX⟩
theorem inPlace_no2 (w : World) (a : Nat) (k : Int) (n : Nat) (po : Option Addr) (pn pc : Nat) (vb vs : Value) (ws : Int) (P : List Int) (h : QR w a k n (.slice po pn pc) vb vs ws) (hP : Sl w po pn pc P) (i j : Nat) (hij : i + 1 = j) (hi : ¬ (k = 3 ∧ i = 0)) (ka : Option Addr) (kn kc : Nat) (kd : Int) (va : Option Addr) (vn vc : Nat) (pg ct : Int) (key : List Int) (hk : Sl w ka kn kc key) (hno : key.take P.length ≠ P) :
  Calls Tryz.prog 88 #[.pointer (some ⟨a, 0, none⟩), .int .i64 (i : Int), .int .i64 (j : Int), .agg #[.slice ka kn kc, .int .i64 kd, .slice va vn vc, .int .i64 pg, .int .i64 ct]] w fun e w' => e = .returned (.bool false) ∧ Hid (Below w.heap.size w w') := by
 obtain ⟨x, hx⟩ : ∃ x, w.alloc (.cells #[.slice ka kn kc, .int .i64 kd, .slice va vn vc, .int .i64 pg, .int .i64 ct] 39) = x := ⟨_, rfl⟩
 have hbx : Below w.heap.size w x := by rw [← hx]; exact zac Br Lr _
 have hc5 : C5 x w.heap.size (.slice ka kn kc) (.int .i64 kd) (.slice va vn vc) (.int .i64 pg) (.int .i64 ct) := by rw [← hx]; exact C5.box _ _ _ _ _ _
 obtain ⟨z0, z1, z2, z3, z4⟩ := hc5.cells
 have hrx : QR x a k n (.slice po pn pc) vb vs ws := zaf h hbx
 obtain ⟨c0, c1, c2, c3, c4, c5⟩ := hrx.cells
 obtain ⟨qo, qn, qc, hqc, hhd⟩ := zch k i po pn pc
 obtain ⟨rfl, rfl, rfl⟩ : qo = po ∧ qn = pn ∧ qc = pc := by
  rcases hqc with ⟨_, _, _, h4⟩ | ⟨h1, h2, h3, _⟩
  ·exact absurd h4 hi
  ·exact ⟨h1, h2, h3⟩
 have HHD := zaa (hhd x a n vb vs ws hrx)
 have HHP : Hid (Calls Tryz.prog 123 #[.slice ka kn kc, .slice qo qn qc] x fun e w' => e = .returned (.bool false) ∧ w' = x) := zaa (by
  have := zcs ka qo kn qn kc qc key P x (hk.on Lr hbx) (hP.on Lr hbx)
  rwa [decide_eq_false hno] at this)
 have HBX := zaa hbx
 have hne : ¬ (i : Int) = (j : Int) := by omega
 clear h hP hk hbx hc5 hrx hhd hqc hi hno hij
 go_enter Tryz.func88, Tryz.ntmps88
 go_wp2_with (first | (go_at_call 95; refine zae HHD.out ?_) | (go_at_call 123; refine zae HHP.out ?_))
 go_ret
 exact ⟨rfl, HBX⟩
theorem PkA.put {w w' : World} {K : Nat → Prop} {a : Nat} {k : Int} {n : Nat} {s t : Qs} {po : Option Addr} {pn pc : Nat} {bo : Option Addr} {bn bc : Nat} {so : Option Addr} {sn sc : Nat} {body : List Int} {st : List Nat} (h : PkA w K a k n s po pn pc bo bn bc so sn sc body st) {vb' vs' : Value} {body' : List Int} {st' : List Nat} (hP : t.P = s.P)
  (hpo : PO w' 0 a k n po pn pc vb' vs' (t.ws : Int) s.P body' st') (hfar : Far po pn vs') (h1 : vb'.ownBlock = (Value.slice bo bn bc).ownBlock ∨ ∃ g, vb'.ownBlock = some g ∧ w.heap.size ≤ g) (h2 : vs'.ownBlock = (Value.slice so sn sc).ownBlock ∨ ∃ g, vs'.ownBlock = some g ∧ w.heap.size ≤ g) (hl : LayQ k s.P t.cs body' st') (hw : Wf body') (hok : Qok k n t) (hsum : body'.length = t.ws + lvQ k s.P t.cs) (hsz : w.heap.size ≤ w'.heap.size) : Pk w' (Zk K w w') a k n t := by
 obtain ⟨bo', bc', rfl⟩ := hpo.ob.shape
 obtain ⟨so', sc', rfl⟩ := hpo.on.shape
 rw [← hP] at hpo hl hsum
 refine ⟨po, pn, pc, bo', _, bc', so', _, sc', body', st', ⟨hpo, hl, hw, hfar, hok, hsum, .inl h.ka, fun g e => ?_, fun g e => ?_, h.kp.imp id fun f p e => .inl (f p e), Zk.lt h.kl hsz⟩⟩
 ·have h4 := (hpo.ob.ltk7 e).2
  rcases h1 with h1 | ⟨q, h1, h3⟩
  ·exact .inl (h.kb g (by rw [← h1]; exact e))
  ·rw [h1] at e
   injection e with e
   exact .inr ⟨by omega, h4⟩
 ·have h4 : g < w'.heap.size := by
   have h6 := hpo.on
   unfold OwnN at h6
   exact (h6.lt g e).2
  rcases h2 with h2 | ⟨q, h2, h3⟩
  ·exact .inl (h.ks g (by rw [← h2]; exact e))
  ·rw [h2] at e
   injection e with e
   exact .inr ⟨by omega, h4⟩
theorem Qok.put {k : Int} {n : Nat} {s : Qs} (h : Qok k n s) {i j : Nat} (hij : j = i ∨ j = i + 1) (hj : j ≤ s.cs.length) {c : Cl} (hm : mayP k n c) (hw : c.Wf) (ho : zau s.cs i j c) (hin : inPl k n s i j c) (hb : Beg k s.P (spl s.cs i j c)) : Qok k n ⟨s.P, spl s.cs i j c, s.ws + gone k s i j⟩ := by
 refine ⟨hb, rs_spl h.rs (by omega) hj ho, fun d hd => ?_, fun d hd => ?_, ?_⟩
 ·rcases zbr hd with rfl | hd
  ·exact hm
  ·exact h.may d hd
 ·rcases zbr hd with rfl | hd
  ·exact hw
  ·exact h.wf d hd
 ·obtain ⟨h1, h2, h3⟩ := hin
  unfold filQ at *
  have hl := zbx s.cs i j c (by omega)
  simp only
  rcases hij with e | e
  ·subst e
   have hk : ¬ (k = 3 ∧ j = 0) := fun e => h1 ⟨rfl, e⟩
   have h4 := lvQ_ins k s.P s.cs j c hj hk
   have h5 : hdQ k j s.P = s.P := by unfold hdQ; rw [if_neg hk]
   rw [h5] at h3
   unfold gone
   rw [if_pos rfl]
   omega
  ·obtain ⟨d, hd⟩ : ∃ d, s.cs[i]? = some d := ⟨_, zI (by omega)⟩
   have h4 := lvQ_set k s.P s.cs i j c d e.symm hd
   unfold gone
   rw [if_neg (by omega), hd]
   simp only
   omega
theorem inPlace_any (w : World) (K : Nat → Prop) (a : Nat) (k : Int) (n : Nat) (s : Qs) (h : Pk w K a k n s) (i j : Nat) (hij : j = i ∨ j = i + 1) (hj : j ≤ s.cs.length) (hn : n ≤ 65536)
  (c : Cl) (ka va : Option Addr) (kc vc : Nat) (hk : Sl w ka c.key.length kc c.key) (hv : Sl w va c.val.length vc c.val) (fk : OutK K ka c.key.length) (fv : OutK K va c.val.length) (hm : mayP k n c) (ho : zau s.cs i j c) :
  Calls Tryz.prog 88 #[.pointer (some ⟨a, 0, none⟩), .int .i64 (i : Int), .int .i64 (j : Int), .agg #[.slice ka c.key.length kc, .int .i64 c.kd, .slice va c.val.length vc, .int .i64 c.pg, .int .i64 c.ct]] w
   fun e w' => ∃ (b : Bool) (t : Qs), e = .returned (.bool b) ∧ Hid ((b = true ∧ inPl k n s i j c ∧ t = ⟨s.P, spl s.cs i j c, s.ws + gone k s i j⟩) ∨ (b = false ∧ ¬ inPl k n s i j c ∧ t = s)) ∧ Hid (Pk w' (Zk K w w') a k n t) ∧ Hid (Cf K w w') := by
 obtain ⟨po, pn, pc, bo, bn, bc, so, sn, sc, body, st, h⟩ := h
 obtain ⟨l1, l2, l3, l4, l5⟩ := h.lens
 have hfit := h.ok.fit
 have hcf := hm.fit (by omega)
 have hck := hcf.key
 have hcv := hcf.val
 have hcw : c.Wf := ⟨hk.wf, hv.wf⟩
 have hno : ∀ {w' : World} {e : Ending}, ¬ inPl k n s i j c → e = .returned (.bool false) ∧ Hid (Below w.heap.size w w') → ∃ (b : Bool) (t : Qs), e = .returned (.bool b) ∧ Hid ((b = true ∧ inPl k n s i j c ∧ t = ⟨s.P, spl s.cs i j c, s.ws + gone k s i j⟩) ∨ (b = false ∧ ¬ inPl k n s i j c ∧ t = s)) ∧ Hid (Pk w' (Zk K w w') a k n t) ∧ Hid (Cf K w w') := by
  rintro w' e hni ⟨rfl, HB⟩
  exact ⟨false, s, rfl, zaa (.inr ⟨rfl, hni, rfl⟩), zaa (Pk.zk ⟨_, _, _, _, _, _, _, _, _, _, _, h.go HB.out⟩), zaa (Cf.of_below HB.out)⟩
 have hfull : ∀ {w' : World} {e : Ending}, ¬ inPl k n s i j c → e = .returned (.bool false) ∧ Hid (PO w' 0 a k n po pn pc (.slice bo bn bc) (.slice so sn sc) (s.ws : Int) s.P body st) ∧ Hid (Cf (fun b => (Value.slice bo bn bc).ownBlock = some b) w w') → ∃ (b : Bool) (t : Qs), e = .returned (.bool b) ∧ Hid ((b = true ∧ inPl k n s i j c ∧ t = ⟨s.P, spl s.cs i j c, s.ws + gone k s i j⟩) ∨ (b = false ∧ ¬ inPl k n s i j c ∧ t = s)) ∧ Hid (Pk w' (Zk K w w') a k n t) ∧ Hid (Cf K w w') := by
  rintro w' e hni ⟨rfl, HP, HC⟩
  exact ⟨false, s, rfl, zaa (.inr ⟨rfl, hni, rfl⟩), zaa (Pk.zk ⟨_, _, _, _, _, _, _, _, _, _, _, ⟨HP.out, h.lay, h.wf, h.far, h.ok, h.sum, h.ka, h.kb, h.ks, h.kp, fun b e => zO (h.kl b e) HC.out.size⟩⟩), zaa (h.cfb HC.out)⟩
 have hyes : ∀ {w' : World} {e : Ending} {ws : Int}, inPl k n s i j c → ws = ((s.ws + gone k s i j : Nat) : Int) → QuTo w 0 a k n po pn pc (.slice bo bn bc) (.slice so sn sc) ws s.P (body ++ qB (hdQ k i s.P).length c) (spl st i j bn) (.bool true) e w' → ∃ (b : Bool) (t : Qs), e = .returned (.bool b) ∧ Hid ((b = true ∧ inPl k n s i j c ∧ t = ⟨s.P, spl s.cs i j c, s.ws + gone k s i j⟩) ∨ (b = false ∧ ¬ inPl k n s i j c ∧ t = s)) ∧ Hid (Pk w' (Zk K w w') a k n t) ∧ Hid (Cf K w w') := by
  rintro w' e ws hin rfl ⟨rfl, HQ, HC⟩
  obtain ⟨vb', vs', hpo, hf', h1, h2⟩ := HQ.out
  have hlay := h.lay.put hij hj (fun e1 e2 => hin.1 ⟨e1, e2⟩) hcf hin.2.1
  rw [l2] at hlay
  have hok := h.ok.put hij hj hm hcw ho hin hlay.beg
  refine ⟨true, _, rfl, zaa (.inl ⟨rfl, hin, rfl⟩), zaa (h.put rfl hpo hf' h1 h2 hlay (h.wf.append (qB_wf hcw (by omega) (by omega))) hok ?_ HC.out.size), zaa (h.cfq HC.out)⟩
  have h5 := h.sum
  rw [zG, l2]
  simp only
  rcases hij with e | e
  ·subst e
   have hk3 : ¬ (k = 3 ∧ j = 0) := fun e => hin.1 ⟨rfl, e⟩
   have h4 := lvQ_ins k s.P s.cs j c hj hk3
   have h6 : hdQ k j s.P = s.P := by unfold hdQ; rw [if_neg hk3]
   rw [h6]
   unfold gone
   rw [if_pos rfl]
   omega
  ·obtain ⟨d, hd⟩ : ∃ d, s.cs[i]? = some d := ⟨_, zI (by omega)⟩
   have h4 := lvQ_set k s.P s.cs i j c d e.symm hd
   unfold gone
   rw [if_neg (by omega), hd]
   simp only
   omega
 rcases hij with e | e
 ·subst e
  by_cases hk3 : k = 3 ∧ j = 0
  ·obtain ⟨e3, rfl⟩ := hk3
   exact (inPlace_first w a k n _ _ _ _ h.pg.row e3 ka _ kc c.kd va _ vc c.pg c.ct).mono fun e w' hq => hno (fun hin => hin.1 ⟨rfl, e3, rfl⟩) hq
  ·have h6 : hdQ k j s.P = s.P := by unfold hdQ; rw [if_neg hk3]
   by_cases hb : c.key.take s.P.length = s.P
   ·by_cases hf : 10 + pn + 2 * sn + bn + (qB s.P.length c).length + 2 ≤ n
    ·have hin : inPl k n s j j c := ⟨fun e => hk3 e.2, by rw [h6]; exact hb, by rw [h6]; omega⟩
     refine (inPlace_ins w 0 a k n po pn pc bo bn bc so sn sc _ s.P body st h.pg (by omega) (by omega) (Nat.zero_le _) j hk3 (by omega) hn c ka va kc vc hk hv (h.out fk) (h.out fv) (by omega) (by omega) hb h.far hf).mono fun e w' hq => hyes hin (by unfold gone; rw [if_pos rfl]; try rfl) ?_
     rw [h6]
     exact hq
    ·refine (full_ins w 0 a k n po pn pc bo bn bc so sn sc _ s.P body st h.pg (by omega) (by omega) (Nat.zero_le _) j hk3 (by omega) hn c ka va kc vc hk hv (h.out fk) (h.out fv) (by omega) (by omega) hb (by omega) (by omega)).mono fun e w' hq => hfull (fun hin => ?_) hq
     have := hin.2.2
     rw [h6] at this
     omega
   ·exact (inPlace_no w a k n po pn pc _ _ _ s.P h.pg.row h.pg.pre j hk3 ka _ kc c.kd va _ vc c.pg c.ct c.key hk hb).mono fun e w' hq => hno (fun hin => hb (by have := hin.2.1; rwa [h6] at this)) hq
 ·obtain ⟨d, hd⟩ : ∃ d, s.cs[i]? = some d := ⟨_, zI (by omega)⟩
  by_cases hb : c.key.take (hdQ k i s.P).length = hdQ k i s.P
  ·by_cases hf : 10 + pn + 2 * sn + bn + (qB (hdQ k i s.P).length c).length ≤ n
   ·have hin : inPl k n s i j c := ⟨fun e => by omega, hb, by omega⟩
    refine (inPlace_set w 0 a k n po pn pc bo bn bc so sn sc _ s.P body st h.pg (by omega) (by omega) (Nat.zero_le _) i j e.symm (by omega) s.cs h.lay d hd h.wf (by omega) (by have := h.sum; omega) _ (hdQ k i s.P) rfl rfl hn c ka va kc vc hk hv (h.out fk) (h.out fv) (by omega) (by omega) hb h.far hf).mono fun e w' hq => hyes hin ?_ hq
    unfold gone
    rw [if_neg (by omega), hd]
    simp
   ·refine (full_set w 0 a k n po pn pc bo bn bc so sn sc _ s.P body st h.pg (by omega) (by omega) (Nat.zero_le _) i j e.symm (by omega) (hdQ k i s.P) rfl hn c ka va kc vc hk hv (h.out fk) (h.out fv) (by omega) (by omega) hb (by omega) (by omega)).mono fun e w' hq => hfull (fun hin => ?_) hq
    have := hin.2.2
    omega
  ·have hk3 : ¬ (k = 3 ∧ i = 0) := by
    intro e3
    apply hb
    unfold hdQ
    rw [if_pos e3]
    rfl
   have h6 : hdQ k i s.P = s.P := by unfold hdQ; rw [if_neg hk3]
   rw [h6] at hb
   exact (inPlace_no2 w a k n po pn pc _ _ _ s.P h.pg.row h.pg.pre i j e.symm hk3 ka _ kc c.kd va _ vc c.pg c.ct c.key hk hb).mono fun e w' hq => hno (fun hin => hb (by have := hin.2.1; rwa [h6] at this)) hq
theorem Row6.take {w : World} {G : Nat} : ∀ {vs : List Value} {cs : List Cl} (i : Nat), Row6 w G vs cs → Row6 w G (vs.take (i * 6)) (cs.take i)
 | vs, [], i, h => by
  unfold Row6 at h
  subst h
  simp [Row6]
 | vs, c :: r, 0, h => by simp [Row6]
 | vs, c :: r, i + 1, h => by
  obtain ⟨ho, hn, hc, ko, kn, kc, vo, vn, vc, h', key, t, rfl, h1, h2⟩ := h
  have ih := Row6.take i h2
  rw [show (i + 1) * 6 = i * 6 + 1 + 1 + 1 + 1 + 1 + 1 by omega]
  simp only [List.take_succ_cons]
  exact ⟨ho, hn, hc, ko, kn, kc, vo, vn, vc, h', key, _, rfl, h1, ih⟩
theorem Row6.drop {w : World} {G : Nat} : ∀ {vs : List Value} {cs : List Cl} (i : Nat), Row6 w G vs cs → Row6 w G (vs.drop (i * 6)) (cs.drop i)
 | vs, [], i, h => by
  unfold Row6 at h
  subst h
  simp [Row6]
 | vs, c :: r, 0, h => by simpa using h
 | vs, c :: r, i + 1, h => by
  obtain ⟨ho, hn, hc, ko, kn, kc, vo, vn, vc, h', key, t, rfl, h1, h2⟩ := h
  have ih := Row6.drop i h2
  rw [show (i + 1) * 6 = i * 6 + 1 + 1 + 1 + 1 + 1 + 1 by omega]
  simp only [List.drop_succ_cons]
  exact ih
theorem SlE.row6 {u : World} {g sn : Nat} {cs : List Cl} (hE : SlE u g (some ⟨g, 0, none⟩) sn sn cs) (hR : zah u g sn) : ∃ xs, Row6 u g xs cs ∧ OwE u g sn xs := by
 have hlen := hE.hlen
 obtain ⟨vs, hvs, hcv⟩ := row6_of (w := u) (G := g) (b := g) cs 0 (by
  intro i d hd
  rcases hE.hat with h0 | ⟨b', off', e, _, hc⟩
  ·have := (zH.1 hd).1
   omega
  ·injection e with e
   injection e with e1 e2
   subst e1 e2
   exact hc i d hd)
 exact ⟨vs, hvs, hR, by rw [hvs.len, hlen], fun j x hx => by have := hcv j x hx; rwa [Nat.zero_add] at this, hvs.one⟩
theorem SlE.of6 {u w' : World} {g q m c' : Nat} {xs : List Value} {ds : List Cl} (hr : Row6 u g xs ds) (hB : Below g u w') (hm : ds.length = m) (hc : m ≤ c') (hmm : m ≤ 65536) (hq : q < w'.heap.size) (hx : ∀ j v, xs[j]? = some v → w'.cell? ⟨q, j, none⟩ = some v) : SlE w' g (some ⟨q, 0, none⟩) m c' ds :=
 ⟨hm, hc, by omega, (by intro h; cases h), .inr ⟨q, 0, rfl, hq, Row6.eat hB 0 hr fun j x hj => by rw [Nat.zero_add]; exact hx j x hj⟩⟩
theorem row6_one {u : World} {g b : Nat} {c : Cl} {ka va : Option Addr} {kc vc : Nat} (hb : E6 u b (.slice none 0 0) (.slice ka c.key.length kc) (.int .i64 c.kd) (.slice va c.val.length vc) (.int .i64 c.pg) (.int .i64 c.ct)) (hk : Sl u ka c.key.length kc c.key) (hv : Sl u va c.val.length vc c.val) (lk : Lo g ka c.key.length) (lv : Lo g va c.val.length) :
  ∃ us, Row6 u g us [c] ∧ us.length = 6 ∧ (∀ v ∈ us, v.oneCell' = true) ∧ ∀ j x, us[j]? = some x → u.cell? ⟨b, j, none⟩ = some x := by
 obtain ⟨us, hus, hcu⟩ : ∃ us, Row6 u g us [c] ∧ ∀ j x, us[j]? = some x → u.cell? ⟨b, 0 + j, none⟩ = some x := row6_of [c] 0 (by
  intro i d hd
  have hi : i = 0 := by have := (zH.1 hd).1; simpa using this
  subst hi
  simp at hd
  subst hd
  obtain ⟨e0, e1, e2, e3, e4, e5⟩ := hb.cells
  exact ⟨none, 0, 0, ka, c.key.length, kc, va, c.val.length, vc, [], c.key, e0, e1, e2, e3, e4, e5, Sl.nil_any _ _ _ (fun _ => rfl), hk, hv, rfl, .inl rfl, lk, lv⟩)
 exact ⟨us, hus, by rw [hus.len]; rfl, hus.one, fun j x hx => by have := hcu j x hx; rwa [Nat.zero_add] at this⟩
theorem repE_ins (u : World) (g sn i : Nat) (xs ys : List Value) (h : OwE u g sn xs) (hi : i < sn) (hsn : sn ≤ 65535) (b bc : Nat) (hy : ys.length = 6) (hyo : ∀ v ∈ ys, v.oneCell' = true) (hyc : ∀ j v, ys[j]? = some v → u.cell? ⟨b, j, none⟩ = some v) :
  Calls Tryz.prog 89 #[.slice (some ⟨g, 0, none⟩) sn sn, .int .i64 (i : Int), .int .i64 (i : Int), .slice (some ⟨b, 0, none⟩) 1 bc] u fun e w' => ∃ g' c', e = .returned (.slice (some ⟨g', 0, none⟩) (sn + 1) c') ∧ Hid ((u.heap.size ≤ g' ∧ sn + 1 ≤ c') ∧ ∀ j v, (xs.take (i * 6) ++ ys ++ xs.drop (i * 6))[j]? = some v → w'.cell? ⟨g', j, none⟩ = some v) ∧ Hid (Below u.heap.size u w') := by
 have HI := zaa (insE_mid u g sn i xs ys h hi hsn b bc hy hyo hyc)
 have hiI : (i : Int) ≤ (sn : Int) := by omega
 have h5 : i ≤ sn := by omega
 have h8 : ¬ sn = i := by omega
 clear h hy hyo hyc
 go_enter Tryz.func89, Tryz.ntmps89
 go_wp2_with (go_at_call 125; refine HI.out.mono ?_; rintro e w1 ⟨g', c', rfl, HS, HB⟩)
 go_ret
 exact ⟨g', c', rfl, HS, HB⟩
theorem repE_all (u : World) (g sn : Nat) (cs : List Cl) (c : Cl) (hE : SlE u g (some ⟨g, 0, none⟩) sn sn cs) (hR : zah u g sn) (hsn : sn ≤ 65535) (i j : Nat) (hij : j = i ∨ j = i + 1) (hj : j ≤ sn) (b : Nat) (ka va : Option Addr) (kc vc : Nat) (hb : E6 u b (.slice none 0 0) (.slice ka c.key.length kc) (.int .i64 c.kd) (.slice va c.val.length vc) (.int .i64 c.pg) (.int .i64 c.ct)) (hk : Sl u ka c.key.length kc c.key) (hv : Sl u va c.val.length vc c.val) (lk : Lo g ka c.key.length) (lv : Lo g va c.val.length) :
  Calls Tryz.prog 89 #[.slice (some ⟨g, 0, none⟩) sn sn, .int .i64 (i : Int), .int .i64 (j : Int), .slice (some ⟨b, 0, none⟩) 1 1] u fun e w' => ∃ ao m c', e = .returned (.slice ao m c') ∧ Hid (SlE w' g ao m c' (spl cs i j c)) ∧ Hid (Below g u w') := by
 have hlen := hE.hlen
 have hgl := hR.lt
 by_cases hend : i = sn
 ·obtain rfl : j = i := by omega
  subst hend
  refine (repE_any u g j cs c hE hR hsn b ka va kc vc hb hk hv lk lv).mono ?_
  rintro e w' ⟨ao, c', rfl, HS, HB⟩
  refine ⟨ao, _, c', rfl, zaa ?_, HB⟩
  have e : spl cs j j c = cs ++ [c] := by
   unfold spl
   rw [List.take_of_length_le (by omega), List.drop_of_length_le (by omega), List.append_nil]
  rw [e]
  exact HS.out
 ·obtain ⟨xs, hx6, hxo⟩ := hE.row6 hR
  obtain ⟨ys, hy6, hyl, hyo, hyc⟩ := row6_one hb hk hv lk lv
  have h6 : Row6 u g (xs.take (i * 6) ++ ys ++ xs.drop (j * 6)) (spl cs i j c) := Row6.append (hx6.drop j) (Row6.append hy6 (hx6.take i))
  have hsl := zbx cs i j c (by omega)
  rcases hij with e | e
  ·subst e
   refine (repE_ins u g sn j xs ys hxo (by omega) hsn b 1 hyl hyo hyc).mono ?_
   rintro e w' ⟨g', c', rfl, HS, HB⟩
   obtain ⟨⟨h1, hcc⟩, h2⟩ := HS.out
   have hB : Below g u w' := HB.out.mono (by omega)
   have hlt : g' < w'.heap.size := by
    have h3 := h2 0
    obtain ⟨v, hv0⟩ : ∃ v, (xs.take (j * 6) ++ ys ++ xs.drop (j * 6))[0]? = some v := ⟨_, zI (by rw [h6.len, hsl]; omega)⟩
    exact World.block_lt_of_cell? w' ⟨g', 0, none⟩ (by rw [h3 v hv0])
   exact ⟨_, _, c', rfl, zaa (SlE.of6 h6 hB (by omega) hcc (by omega) hlt h2), zaa hB⟩
  ·refine (repE_one u g sn i j xs ys hxo e.symm hj hsn b 1 hyl hyo hyc).mono ?_
   rintro e' w' ⟨rfl, HO, HC⟩
   have hB : Below g u w' := HC.out.below (Nat.le_of_lt hgl) (fun k hk e => by omega)
   exact ⟨_, _, _, rfl, zaa (SlE.of6 h6 hB (by omega) Lr (by omega) HO.out.row.lt HO.out.at_), zaa hB⟩
end Go.Proofs.YtfgffajgfgifhaaGreatDoor
