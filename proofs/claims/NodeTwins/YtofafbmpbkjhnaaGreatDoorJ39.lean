import Derived.Test.YtofafbmpbkjhnaaGreatDoorJ38
namespace Go.Proofs.YtofafbmpbkjhnaaGreatDoor
set_option maxRecDepth 100000
set_option maxHeartbeats 1000000
open Go.RowKit
theorem inPlace_first (w : World) (a : Nat) (k : Int) (n : Nat) (vp vb vs : Value) (ws : Int) (h : QR w a k n vp vb vs ws) (hk : k = 3) (ka : Option Addr) (kn kc : Nat) (kd : Int) (va : Option Addr) (vn vc : Nat) (pg ct : Int) :
  Calls Tryz.prog 291 #[.pointer (some ⟨a, 0, none⟩), .int .i64 0, .int .i64 0, .agg #[.slice ka kn kc, .int .i64 kd, .slice va vn vc, .int .i64 pg, .int .i64 ct]] w fun e w' => e = .returned (.bool false) ∧ Hid (Below w.heap.size w w') := by
 obtain ⟨x, hx⟩ : ∃ x, w.alloc (.cells #[.slice ka kn kc, .int .i64 kd, .slice va vn vc, .int .i64 pg, .int .i64 ct] 43) = x := ⟨_, rfl⟩
 have hbx : Below w.heap.size w x := by rw [← hx]; exact zac Br Lr _
 have hrx : QR x a k n vp vb vs ws := zaf h hbx
 obtain ⟨c0, c1, c2, c3, c4, c5⟩ := hrx.cells
 have HSW : Hid (Calls Tryz.prog 153 #[.int .i64 k, .int .i64 0] x fun e w' => e = .returned (.bool true) ∧ w' = x) := zaa (by
  have := zba k 0 x
  rwa [decide_eq_true (show k = 3 ∧ (0 : Int) = 0 from ⟨hk, rfl⟩)] at this)
 have HBX := zaa hbx
 clear h hbx hrx hk
 go_enter Tryz.func291, Tryz.ntmps291
 go_wp2_with (go_at_call 153; refine zae HSW.out ?_)
 go_ret
 exact ⟨rfl, HBX⟩
theorem inPlace_no2 (w : World) (a : Nat) (k : Int) (n : Nat) (po : Option Addr) (pn pc : Nat) (vb vs : Value) (ws : Int) (P : List Int) (h : QR w a k n (.slice po pn pc) vb vs ws) (hP : Sl w po pn pc P) (i j : Nat) (hij : i + 1 = j) (hi : ¬ (k = 3 ∧ i = 0)) (ka : Option Addr) (kn kc : Nat) (kd : Int) (va : Option Addr) (vn vc : Nat) (pg ct : Int) (key : List Int) (hk : Sl w ka kn kc key) (hno : key.take P.length ≠ P) :
  Calls Tryz.prog 291 #[.pointer (some ⟨a, 0, none⟩), .int .i64 (i : Int), .int .i64 (j : Int), .agg #[.slice ka kn kc, .int .i64 kd, .slice va vn vc, .int .i64 pg, .int .i64 ct]] w fun e w' => e = .returned (.bool false) ∧ Hid (Below w.heap.size w w') := by
 obtain ⟨x, hx⟩ : ∃ x, w.alloc (.cells #[.slice ka kn kc, .int .i64 kd, .slice va vn vc, .int .i64 pg, .int .i64 ct] 43) = x := ⟨_, rfl⟩
 have hbx : Below w.heap.size w x := by rw [← hx]; exact zac Br Lr _
 have hc5 : C5 x w.heap.size (.slice ka kn kc) (.int .i64 kd) (.slice va vn vc) (.int .i64 pg) (.int .i64 ct) := by rw [← hx]; exact C5.box _ _ _ _ _ _
 obtain ⟨z0, z1, z2, z3, z4⟩ := hc5.cells
 have hrx : QR x a k n (.slice po pn pc) vb vs ws := zaf h hbx
 obtain ⟨c0, c1, c2, c3, c4, c5⟩ := hrx.cells
 obtain ⟨qo, qn, qc, hqc, hhd⟩ := zcw k i po pn pc
 obtain ⟨rfl, rfl, rfl⟩ : qo = po ∧ qn = pn ∧ qc = pc := by
  rcases hqc with ⟨_, _, _, h4⟩ | ⟨h1, h2, h3, _⟩
  ·exact absurd h4 hi
  ·exact ⟨h1, h2, h3⟩
 have HHD := zaa (hhd x a n vb vs ws hrx)
 have HHP : Hid (Calls Tryz.prog 293 #[.slice ka kn kc, .slice qo qn qc] x fun e w' => e = .returned (.bool false) ∧ w' = x) := zaa (by
  have := zcx ka qo kn qn kc qc key P x (hk.on Lr hbx) (hP.on Lr hbx)
  rwa [decide_eq_false hno] at this)
 have HBX := zaa hbx
 have hne : ¬ (i : Int) = (j : Int) := by omega
 clear h hP hk hbx hc5 hrx hhd hqc hi hno hij
 go_enter Tryz.func291, Tryz.ntmps291
 go_wp2_with (first | (go_at_call 199; refine zae HHD.out ?_) | (go_at_call 293; refine zae HHP.out ?_))
 go_ret
 exact ⟨rfl, HBX⟩
theorem PkA.put {w w' : World} {K : Nat → Prop} {a : Nat} {k : Int} {n : Nat} {s t : Qs} {po : Option Addr} {pn pc : Nat} {bo : Option Addr} {bn bc : Nat} {so : Option Addr} {sn sc : Nat} {body : List Int} {st : List Nat} (h : PkA w K a k n s po pn pc bo bn bc so sn sc body st) {vb' vs' : Value} {body' : List Int} {st' : List Nat} (hP : t.P = s.P)
  (hpo : PO w' 0 a k n po pn pc vb' vs' (t.ws : Int) s.P body' st') (hfar : Far po pn vs') (h1 : vb'.ownBlock = (Value.slice bo bn bc).ownBlock ∨ ∃ g, vb'.ownBlock = some g ∧ w.heap.size ≤ g) (h2 : vs'.ownBlock = (Value.slice so sn sc).ownBlock ∨ ∃ g, vs'.ownBlock = some g ∧ w.heap.size ≤ g) (hl : LayQ k s.P t.cs body' st') (hw : Wf body') (hok : Qok k n t) (hsum : body'.length = t.ws + lvQ k s.P t.cs) (hsz : w.heap.size ≤ w'.heap.size) : Pk w' (Zk K w w') a k n t := by
 obtain ⟨bo', bc', rfl⟩ := hpo.ob.shape
 obtain ⟨so', sc', rfl⟩ := hpo.on.shape
 rw [← hP] at hpo hl hsum
 refine ⟨po, pn, pc, bo', _, bc', so', _, sc', body', st', ⟨hpo, hl, hw, hfar, hok, hsum, .inl h.ka, fun g e => ?_, fun g e => ?_, h.kp.imp id fun f p e => .inl (f p e), Zk.lt h.kl hsz⟩⟩
 ·have h4 := (hpo.ob.ltk7 e).2
  rcases h1 with h1 | ⟨q, h1, h3⟩
  ·exact .inl (h.kb g (by rw [← h1]; exact e))
  ·rw [h1] at e
   injection e with e
   exact .inr ⟨by omega, h4⟩
 ·have h4 : g < w'.heap.size := by
   have h6 := hpo.on
   unfold OwnN at h6
   exact (h6.lt g e).2
  rcases h2 with h2 | ⟨q, h2, h3⟩
  ·exact .inl (h.ks g (by rw [← h2]; exact e))
  ·rw [h2] at e
   injection e with e
   exact .inr ⟨by omega, h4⟩
theorem Qok.put {k : Int} {n : Nat} {s : Qs} (h : Qok k n s) {i j : Nat} (hij : j = i ∨ j = i + 1) (hj : j ≤ s.cs.length) {c : Cl} (hm : mayP k n c) (hw : c.Wf) (ho : ordOk s.cs i j c) (hin : inPl k n s i j c) (hb : Beg k s.P (spl s.cs i j c)) : Qok k n ⟨s.P, spl s.cs i j c, s.ws + gone k s i j⟩ := by
 refine ⟨hb, rs_spl h.rs (by omega) hj ho, fun d hd => ?_, fun d hd => ?_, ?_⟩
 ·rcases zcy hd with rfl | hd
  ·exact hm
  ·exact h.may d hd
 ·rcases zcy hd with rfl | hd
  ·exact hw
  ·exact h.wf d hd
 ·obtain ⟨h1, h2, h3⟩ := hin
  unfold filQ at *
  have hl := zdk s.cs i j c (by omega)
  simp only
  rcases hij with e | e
  ·subst e
   have hk : ¬ (k = 3 ∧ j = 0) := fun e => h1 ⟨rfl, e⟩
   have h4 := lvQ_ins k s.P s.cs j c hj hk
   have h5 : hdQ k j s.P = s.P := by unfold hdQ; rw [if_neg hk]
   rw [h5] at h3
   unfold gone
   rw [if_pos rfl]
   omega
  ·obtain ⟨d, hd⟩ : ∃ d, s.cs[i]? = some d := ⟨_, zI (by omega)⟩
   have h4 := lvQ_set k s.P s.cs i j c d e.symm hd
   unfold gone
   rw [if_neg (by omega), hd]
   simp only
   omega
theorem inPlace_any (w : World) (K : Nat → Prop) (a : Nat) (k : Int) (n : Nat) (s : Qs) (h : Pk w K a k n s) (i j : Nat) (hij : j = i ∨ j = i + 1) (hj : j ≤ s.cs.length) (hn : n ≤ 65536)
  (c : Cl) (ka va : Option Addr) (kc vc : Nat) (hk : Sl w ka c.key.length kc c.key) (hv : Sl w va c.val.length vc c.val) (fk : OutK K ka c.key.length) (fv : OutK K va c.val.length) (hm : mayP k n c) (ho : ordOk s.cs i j c) :
  Calls Tryz.prog 291 #[.pointer (some ⟨a, 0, none⟩), .int .i64 (i : Int), .int .i64 (j : Int), .agg #[.slice ka c.key.length kc, .int .i64 c.kd, .slice va c.val.length vc, .int .i64 c.pg, .int .i64 c.ct]] w
   fun e w' => ∃ (b : Bool) (t : Qs), e = .returned (.bool b) ∧ Hid ((b = true ∧ inPl k n s i j c ∧ t = ⟨s.P, spl s.cs i j c, s.ws + gone k s i j⟩) ∨ (b = false ∧ ¬ inPl k n s i j c ∧ t = s)) ∧ Hid (Pk w' (Zk K w w') a k n t) ∧ Hid (Cf K w w') := by
 obtain ⟨po, pn, pc, bo, bn, bc, so, sn, sc, body, st, h⟩ := h
 obtain ⟨l1, l2, l3, l4, l5⟩ := h.lens
 have hfit := h.ok.fit
 have hcf := hm.fit (by omega)
 have hck := hcf.key
 have hcv := hcf.val
 have hcw : c.Wf := ⟨hk.wf, hv.wf⟩
 have hno : ∀ {w' : World} {e : Ending}, ¬ inPl k n s i j c → e = .returned (.bool false) ∧ Hid (Below w.heap.size w w') → ∃ (b : Bool) (t : Qs), e = .returned (.bool b) ∧ Hid ((b = true ∧ inPl k n s i j c ∧ t = ⟨s.P, spl s.cs i j c, s.ws + gone k s i j⟩) ∨ (b = false ∧ ¬ inPl k n s i j c ∧ t = s)) ∧ Hid (Pk w' (Zk K w w') a k n t) ∧ Hid (Cf K w w') := by
  rintro w' e hni ⟨rfl, HB⟩
  exact ⟨false, s, rfl, zaa (.inr ⟨rfl, hni, rfl⟩), zaa (Pk.zk ⟨_, _, _, _, _, _, _, _, _, _, _, h.go HB.out⟩), zaa (Cf.of_below HB.out)⟩
 have hfull : ∀ {w' : World} {e : Ending}, ¬ inPl k n s i j c → e = .returned (.bool false) ∧ Hid (PO w' 0 a k n po pn pc (.slice bo bn bc) (.slice so sn sc) (s.ws : Int) s.P body st) ∧ Hid (Cf (fun b => (Value.slice bo bn bc).ownBlock = some b) w w') → ∃ (b : Bool) (t : Qs), e = .returned (.bool b) ∧ Hid ((b = true ∧ inPl k n s i j c ∧ t = ⟨s.P, spl s.cs i j c, s.ws + gone k s i j⟩) ∨ (b = false ∧ ¬ inPl k n s i j c ∧ t = s)) ∧ Hid (Pk w' (Zk K w w') a k n t) ∧ Hid (Cf K w w') := by
  rintro w' e hni ⟨rfl, HP, HC⟩
  exact ⟨false, s, rfl, zaa (.inr ⟨rfl, hni, rfl⟩), zaa (Pk.zk ⟨_, _, _, _, _, _, _, _, _, _, _, ⟨HP.out, h.lay, h.wf, h.far, h.ok, h.sum, h.ka, h.kb, h.ks, h.kp, fun b e => zO (h.kl b e) HC.out.size⟩⟩), zaa (h.cfb HC.out)⟩
 have hyes : ∀ {w' : World} {e : Ending} {ws : Int}, inPl k n s i j c → ws = ((s.ws + gone k s i j : Nat) : Int) → QuTo w 0 a k n po pn pc (.slice bo bn bc) (.slice so sn sc) ws s.P (body ++ qB (hdQ k i s.P).length c) (spl st i j bn) (.bool true) e w' → ∃ (b : Bool) (t : Qs), e = .returned (.bool b) ∧ Hid ((b = true ∧ inPl k n s i j c ∧ t = ⟨s.P, spl s.cs i j c, s.ws + gone k s i j⟩) ∨ (b = false ∧ ¬ inPl k n s i j c ∧ t = s)) ∧ Hid (Pk w' (Zk K w w') a k n t) ∧ Hid (Cf K w w') := by
  rintro w' e ws hin rfl ⟨rfl, HQ, HC⟩
  obtain ⟨vb', vs', hpo, hf', h1, h2⟩ := HQ.out
  have hlay := h.lay.put hij hj (fun e1 e2 => hin.1 ⟨e1, e2⟩) hcf hin.2.1
  rw [l2] at hlay
  have hok := h.ok.put hij hj hm hcw ho hin hlay.beg
  refine ⟨true, _, rfl, zaa (.inl ⟨rfl, hin, rfl⟩), zaa (h.put rfl hpo hf' h1 h2 hlay (h.wf.append (qB_wf hcw (by omega) (by omega))) hok ?_ HC.out.size), zaa (h.cfq HC.out)⟩
  have h5 := h.sum
  rw [zG, l2]
  simp only
  rcases hij with e | e
  ·subst e
   have hk3 : ¬ (k = 3 ∧ j = 0) := fun e => hin.1 ⟨rfl, e⟩
   have h4 := lvQ_ins k s.P s.cs j c hj hk3
   have h6 : hdQ k j s.P = s.P := by unfold hdQ; rw [if_neg hk3]
   rw [h6]
   unfold gone
   rw [if_pos rfl]
   omega
  ·obtain ⟨d, hd⟩ : ∃ d, s.cs[i]? = some d := ⟨_, zI (by omega)⟩
   have h4 := lvQ_set k s.P s.cs i j c d e.symm hd
   unfold gone
   rw [if_neg (by omega), hd]
   simp only
   omega
 rcases hij with e | e
 ·subst e
  by_cases hk3 : k = 3 ∧ j = 0
  ·obtain ⟨e3, rfl⟩ := hk3
   exact (inPlace_first w a k n _ _ _ _ h.pg.row e3 ka _ kc c.kd va _ vc c.pg c.ct).mono fun e w' hq => hno (fun hin => hin.1 ⟨rfl, e3, rfl⟩) hq
  ·have h6 : hdQ k j s.P = s.P := by unfold hdQ; rw [if_neg hk3]
   by_cases hb : c.key.take s.P.length = s.P
   ·by_cases hf : 10 + pn + 2 * sn + bn + (qB s.P.length c).length + 2 ≤ n
    ·have hin : inPl k n s j j c := ⟨fun e => hk3 e.2, by rw [h6]; exact hb, by rw [h6]; omega⟩
     refine (inPlace_ins w 0 a k n po pn pc bo bn bc so sn sc _ s.P body st h.pg (by omega) (by omega) (Nat.zero_le _) j hk3 (by omega) hn c ka va kc vc hk hv (h.out fk) (h.out fv) (by omega) (by omega) hb h.far hf).mono fun e w' hq => hyes hin (by unfold gone; rw [if_pos rfl]; try rfl) ?_
     rw [h6]
     exact hq
    ·refine (full_ins w 0 a k n po pn pc bo bn bc so sn sc _ s.P body st h.pg (by omega) (by omega) (Nat.zero_le _) j hk3 (by omega) hn c ka va kc vc hk hv (h.out fk) (h.out fv) (by omega) (by omega) hb (by omega) (by omega)).mono fun e w' hq => hfull (fun hin => ?_) hq
     have := hin.2.2
     rw [h6] at this
     omega
   ·exact (inPlace_no w a k n po pn pc _ _ _ s.P h.pg.row h.pg.pre j hk3 ka _ kc c.kd va _ vc c.pg c.ct c.key hk hb).mono fun e w' hq => hno (fun hin => hb (by have := hin.2.1; rwa [h6] at this)) hq
 ·obtain ⟨d, hd⟩ : ∃ d, s.cs[i]? = some d := ⟨_, zI (by omega)⟩
  by_cases hb : c.key.take (hdQ k i s.P).length = hdQ k i s.P
  ·by_cases hf : 10 + pn + 2 * sn + bn + (qB (hdQ k i s.P).length c).length ≤ n
   ·have hin : inPl k n s i j c := ⟨fun e => by omega, hb, by omega⟩
    refine (inPlace_set w 0 a k n po pn pc bo bn bc so sn sc _ s.P body st h.pg (by omega) (by omega) (Nat.zero_le _) i j e.symm (by omega) s.cs h.lay d hd h.wf (by omega) (by have := h.sum; omega) _ (hdQ k i s.P) rfl rfl hn c ka va kc vc hk hv (h.out fk) (h.out fv) (by omega) (by omega) hb h.far hf).mono fun e w' hq => hyes hin ?_ hq
    unfold gone
    rw [if_neg (by omega), hd]
    simp
   ·refine (full_set w 0 a k n po pn pc bo bn bc so sn sc _ s.P body st h.pg (by omega) (by omega) (Nat.zero_le _) i j e.symm (by omega) (hdQ k i s.P) rfl hn c ka va kc vc hk hv (h.out fk) (h.out fv) (by omega) (by omega) hb (by omega) (by omega)).mono fun e w' hq => hfull (fun hin => ?_) hq
    have := hin.2.2
    omega
  ·have hk3 : ¬ (k = 3 ∧ i = 0) := by
    intro e3
    apply hb
    unfold hdQ
    rw [if_pos e3]
    rfl
   have h6 : hdQ k i s.P = s.P := by unfold hdQ; rw [if_neg hk3]
   rw [h6] at hb
   exact (inPlace_no2 w a k n po pn pc _ _ _ s.P h.pg.row h.pg.pre i j e.symm hk3 ka _ kc c.kd va _ vc c.pg c.ct c.key hk hb).mono fun e w' hq => hno (fun hin => hb (by have := hin.2.1; rwa [h6] at this)) hq
end Go.Proofs.YtofafbmpbkjhnaaGreatDoor
