import Derived.Test.YtbkhjeacmmbabaaGreatDoorJ46
import Derived.Deep.DeepCutAuto
import Derived.Deep.CutRange
namespace Go.Proofs.YtbkhjeacmmbabaaGreatDoor
set_option maxRecDepth 100000
set_option maxHeartbeats 8000000
open Go.RowKit
def cB8 : Cl := ⟨[98], 1, [120], 0, 0⟩
def cA8 : Cl := ⟨[97], 1, [121], 0, 0⟩
theorem cB8_may : mayP 2 512 cB8 := by decide
theorem cA8_may : mayP 2 512 cA8 := by decide
theorem c8_wf : ∀ c ∈ [cA8, cB8], c.Wf := by
 intro c hc
 simp only [List.mem_cons, List.not_mem_nil, or_false] at hc
 rcases hc with rfl | rfl
 ·exact ⟨Wf.cons (by omega) Wf.nil, Wf.cons (by omega) Wf.nil⟩
 ·exact ⟨Wf.cons (by omega) Wf.nil, Wf.cons (by omega) Wf.nil⟩
theorem c8_fit : ∀ c ∈ [cA8, cB8], c.fit := by
 intro c hc
 simp only [List.mem_cons, List.not_mem_nil, or_false] at hc
 rcases hc with rfl | rfl
 ·exact cA8_may.fit (by omega)
 ·exact cB8_may.fit (by omega)
theorem c8_sz : szN [cA8, cB8] = 26 := by decide
theorem c8_chk : chk 2 512 none [cA8, cB8] = 0 := by decide
theorem c8_ins1 : insE 2 512 [] 0 cB8 = 0 := by decide
theorem c8_ins2 : insE 2 512 [cB8] 0 cA8 = 0 := by decide
theorem c8_fnd (r : Nat) (h : Fnd [cA8, cB8] [98] r) : r = 1 := by
 have h1 := h.le
 simp at h1
 rcases Nat.lt_or_ge r 1 with h0 | h0
 ·exact absurd (by decide) (h.hi 0 cA8 (by omega) rfl)
 ·rcases Nat.lt_or_ge 1 r with h2 | h2
  ·exact absurd (h.lo 1 cB8 h2 rfl) (by decide)
  ·omega
def p8 : List Int := pgB 2 512 [cA8, cB8]
theorem p8_is : Is 2 512 [cA8, cB8] p8 := ⟨isKd2, pw512, c8_chk, by rw [c8_sz]; decide, rfl⟩
theorem p8_len : p8.length = 512 := zdq 2 512 _ (by rw [c8_sz]; decide)
theorem p8_wf : Wf p8 := pgB_wf (by omega) c8_wf
theorem p8_kd : p8.getD 0 0 = 2 := (readM_of p8_is).2.2
theorem p8_one (cs : List Cl) (h : Is (p8.getD 0 0) p8.length cs p8) : cs = [cA8, cB8] := (h.one p8_is).2.2
theorem p8_eg : egO p8 = 1 := by
 unfold egO
 rw [p8_len, if_neg (by omega)]
 obtain ⟨U, _, h⟩ := pgB_split 2 512 [cA8, cB8]
 rw [show p8 = pgB 2 512 [cA8, cB8] from rfl, h]
 rfl
structure S8 (w u : World) (a b : Nat) (cs : List Cl) : Prop where
 be : Below w.heap.size w u
 po : ∃ vb vs, Po u w.heap.size a 2 512 vb vs cs ∧ vb.ownBlock ≠ some b ∧ vs.ownBlock ≠ some b
 qr : QR u b 2 512 (.slice none 0 0) (.slice none 0 0) (.slice none 0 0) 0
 hab : a ≠ b
 ha : w.heap.size ≤ a
 hb : w.heap.size ≤ b
theorem S8.on {w u u' : World} {a b : Nat} {cs : List Cl} (h : S8 w u a b cs) (hb : Below u.heap.size u u') : S8 w u' a b cs := by
 obtain ⟨vb, vs, h1, h2, h3⟩ := h.po
 exact ⟨zae h.be Lr hb, ⟨vb, vs, h1.on hb, h2, h3⟩, zag h.qr hb, h.hab, h.ha, h.hb⟩
theorem Po.zone {w : World} {B a : Nat} {k : Int} {n : Nat} {vb vs : Value} {cs : List Cl} (h : Po w B a k n vb vs cs) (ha : B ≤ a) {i : Nat} (hi : PZ a vb vs i) : B ≤ i := by
 rcases hi with rfl | e | e
 ·exact ha
 ·have := h.body
  unfold OwnB at this
  exact (this.lt i e).1
 ·have := h.starts
  unfold OwnN at this
  exact (this.lt i e).1
theorem S8.ins {w u : World} {a b : Nat} {cs : List Cl} (h : S8 w u a b cs) (c : Cl) (ka va : Option Addr) (kc vc : Nat) (hk : Sl u ka c.key.length kc c.key) (hv : Sl u va c.val.length vc c.val) (hw : ∀ c ∈ cs, c.Wf) (hft : ∀ c ∈ cs, c.fit) (hz : szN cs ≤ 512) (h0 : insE 2 512 cs 0 c = 0) :
  Calls Tryz.prog 218 #[.pointer (some ⟨a, 0, none⟩), .int .i64 0, .agg #[.slice ka c.key.length kc, .int .i64 c.kd, .slice va c.val.length vc, .int .i64 c.pg, .int .i64 c.ct]] u fun e w' => e = .returned (.int .i64 0) ∧ Hid (S8 w w' a b (c :: cs)) := by
 obtain ⟨vb, vs, h1, h2, h3⟩ := h.po
 refine (insert_any u w.heap.size a 2 512 vb vs cs 0 ka _ kc c.kd va _ vc c.pg c.ct c.key c.val h1 (by omega) hw hft hz hk hv h.be.size).mono ?_
 rintro e w' ⟨rfl, HP, HC⟩
 have e0 : insE 2 512 cs 0 ⟨c.key, c.kd, c.val, c.pg, c.ct⟩ = 0 := h0
 rw [e0] at HP ⊢
 obtain ⟨vb', vs', q1, q2, q3⟩ := HP.out
 have hc := HC.out
 have hbl := zaf h.qr
 refine ⟨rfl, zaa ⟨h.be.trans (hc.below h.be.size (fun i hi e => ?_)), ⟨vb', vs', ?_, ?_, ?_⟩, ?_, h.hab, h.ha, h.hb⟩⟩
 ·have := h1.zone h.ha e
  omega
 ·simpa using q1
 ·rcases q2 with q | ⟨g, q, hg⟩
  ·rw [q]; exact h2
  ·rw [q]; intro e; injection e with e; omega
 ·rcases q3 with q | ⟨g, q, hg⟩
  ·rw [q]; exact h3
  ·rw [q]; intro e; injection e with e; omega
 ·refine (hc.block b hbl ?_).trans h.qr
  rintro (e | e | e)
  ·exact h.hab e.symm
  ·exact h2 e
  ·exact h3 e
theorem putQ_new (w : World) (B a : Nat) (k : Int) (n : Nat) (hPO : PO w B a k n none 0 0 (.slice none 0 0) (.slice none 0 0) 0 [] [] []) (hB : B ≤ w.heap.size) (hk3 : ¬ k = 3)
  (c : Cl) (ka va : Option Addr) (kc vc : Nat) (hk : Sl w ka c.key.length kc c.key) (hv : Sl w va c.val.length vc c.val) (hm : mayP k n c) (hn : pw n) (hfit : 12 + (qB 0 c).length ≤ n) :
  Calls Tryz.prog 240 #[.pointer (some ⟨a, 0, none⟩), .int .i64 0, .int .i64 0, .agg #[.slice ka c.key.length kc, .int .i64 c.kd, .slice va c.val.length vc, .int .i64 c.pg, .int .i64 c.ct]] w
   (QuTo w B a k n none 0 0 (.slice none 0 0) (.slice none 0 0) 0 [] (qB 0 c) [0] (.int .i64 0)) := by
 have hn2 := zao hn
 have hcf : c.fit := hm.fit (by omega)
 have hck := hcf.key
 have hcv := hcf.val
 have hpg0 : PgQ w a k n none 0 0 none 0 0 none 0 0 0 [] [] [] := hPO.pgq Wf.nil (by simp) (by simp)
 obtain ⟨x, hx⟩ : ∃ x, w.alloc (.cells #[.slice ka c.key.length kc, .int .i64 c.kd, .slice va c.val.length vc, .int .i64 c.pg, .int .i64 c.ct] 50) = x := ⟨_, rfl⟩
 have hbx : Below w.heap.size w x := by rw [← hx]; exact zad Br Lr _
 obtain ⟨s, hs⟩ : ∃ s, w.heap.size = s := ⟨_, rfl⟩
 have hc5 : C5 x s (.slice ka c.key.length kc) (.int .i64 c.kd) (.slice va c.val.length vc) (.int .i64 c.pg) (.int .i64 c.ct) := by rw [← hx, ← hs]; exact C5.box _ _ _ _ _ _
 have HMB := zaa (fun u => mayBe_any k (n : Int) ka c.key.length kc c.kd va c.val.length vc c.pg c.ct u (by omega) (by omega) (by omega) (by omega))
 rw [decide_eq_true ((mayP_iff k n c).2 hm)] at HMB
 have HU : Hid (∀ u, Below x.heap.size x u → PgQ u a k n none 0 0 none 0 0 none 0 0 0 [] [] [] ∧ C5 u s (.slice ka c.key.length kc) (.int .i64 c.kd) (.slice va c.val.length vc) (.int .i64 c.pg) (.int .i64 c.ct) ∧ Sl u ka c.key.length kc c.key ∧ Sl u va c.val.length vc c.val ∧ Below w.heap.size w u) := zaa fun u hu => by
  have hb := zae hbx Lr hu
  exact ⟨hpg0.on hb, zag hc5 hu, hk.on Lr hb, hv.on Lr hb, hb⟩
 have HIN : Hid (∀ u, Below w.heap.size w u → Calls Tryz.prog 247 #[.pointer (some ⟨a, 0, none⟩), .int .i64 0, .int .i64 0, .agg #[.slice ka c.key.length kc, .int .i64 c.kd, .slice va c.val.length vc, .int .i64 c.pg, .int .i64 c.ct]] u (QuTo u B a k n none 0 0 (.slice none 0 0) (.slice none 0 0) 0 [] (qB 0 c) [0] (.bool true))) := zaa fun u hu =>
  inPlace_ins u B a k n none 0 0 none 0 0 none 0 0 0 [] [] [] (hPO.go hu) (by omega) (by omega) (zN hB hu.size) 0 (by omega) Lr (by omega) c ka va kc vc (hk.on Lr hu) (hv.on Lr hu) (.inr fun p hp => (by simp [Value.ownBlock])) (.inr fun p hp => (by simp [Value.ownBlock])) (by omega) (by omega) rfl (.inl rfl) (by simp; omega)
 obtain ⟨p0, p1, p2, p3, p4, p5⟩ := (hpg0.on hbx).cells
 obtain ⟨z0, z1, z2, z3, z4⟩ := hc5.cells
 have HSW := zaa hs
 clear hPO hk hv hm hn hfit hpg0 hcf hbx hc5 hck hcv hn2
 go_enter Tryz.func240, Tryz.ntmps240
 go_upto_region 1 with fail
 go_cut [20] from 10 to 20 (fun v u => v = .bool false ∧ Hid (Below x.heap.size x u))
 case first =>
  go_wp2_with fail
  go_region_with (first | (go_at_call 71; refine (HMB.out _).mono ?_; rintro e w2 ⟨rfl, hb2⟩; have HB2 : Hid (Below x.heap.size x w2) := zaa (by first | exact hb2 | exact zae Br.drew Lr hb2 | exact zae (zab Br _) Lr hb2)))
  all_goals (try go_wp2_with fail)
  all_goals go_meet
  all_goals exact ⟨by simp, by first | exact HB2 | exact zaa HB2.out.drew | exact zaa (zab HB2.out _)⟩
 obtain ⟨rfl, HB2⟩ := hcut
 obtain ⟨w2, hw2⟩ : ∃ w2, w2 = wc := ⟨_, rfl⟩
 subst hw2
 clear p0 p1 p2 p3 p4 p5 z0 z1 z2 z3 z4 HMB hx
 obtain ⟨hpg2, hc52, hk2, hv2, hb2⟩ := HU.out w2 HB2.out
 obtain ⟨z0, z1, z2, z3, z4⟩ := hc52.cells
 have HAG := zaa (against_any w2 a k n none 0 0 _ _ 0 [] hpg2.row hpg2.pre ka c.key.length kc c.key hk2)
 clear hpg2 hc52 hk2 hv2 hb2
 go_wp2_with (go_at_call 239; refine HAG.out.mono ?_; rintro e w3 ⟨b1, b2, b3, b4, ro, rn, rc, b, rfl, HA3, HB3⟩; refine Hid.out ?_)
 apply zaa
 have HX3 : Hid (Below x.heap.size x w3) := zaa (zae HB2.out Lr HB3.out)
 clear z0 z1 z2 z3 z4 HAG
 obtain ⟨hpg3, hc53, hk3', hv3, hb3⟩ := HU.out w3 HX3.out
 obtain ⟨z0, z1, z2, z3, z4⟩ := hc53.cells
 have HLN := zaa (zcz w3 a k n none 0 0 none 0 0 none 0 0 0 [] [] [] hpg3)
 have HIP := zaa (HIN.out w3 hb3)
 have HBW := zaa hb3
 clear hpg3 hc53 hk3' hv3 hb3 HU HIN
 go_wp2_with (first
  | (go_at_call 88; refine zac HLN.out ?_)
  | (go_at_call 247; refine HIP.out.mono ?_; rintro e w4 ⟨rfl, HP4, HC4⟩; refine Hid.out ?_))
 apply zaa
 go_wp2
 go_ret
 obtain ⟨vb', vs', q1, qf, q2, q3⟩ := HP4.out
 exact ⟨rfl, zaa ⟨vb', vs', q1, qf, q2.imp id (fun ⟨g, h1, h2⟩ => ⟨g, h1, zN HBW.out.size h2⟩), q3.imp id (fun ⟨g, h1, h2⟩ => ⟨g, h1, zN HBW.out.size h2⟩)⟩, zaa ((Cf.of_below HBW.out).go HC4.out)⟩
theorem insertQ_new (w : World) (B a : Nat) (k : Int) (n : Nat) (hPO : PO w B a k n none 0 0 (.slice none 0 0) (.slice none 0 0) 0 [] [] []) (hB : B ≤ w.heap.size) (hk3 : ¬ k = 3)
  (c : Cl) (ka va : Option Addr) (kc vc : Nat) (hk : Sl w ka c.key.length kc c.key) (hv : Sl w va c.val.length vc c.val) (hm : mayP k n c) (hn : pw n) (hfit : 12 + (qB 0 c).length ≤ n) :
  Calls Tryz.prog 231 #[.pointer (some ⟨a, 0, none⟩), .int .i64 0, .agg #[.slice ka c.key.length kc, .int .i64 c.kd, .slice va c.val.length vc, .int .i64 c.pg, .int .i64 c.ct]] w
   (QuTo w B a k n none 0 0 (.slice none 0 0) (.slice none 0 0) 0 [] (qB 0 c) [0] (.int .i64 0)) := by
 obtain ⟨x, hx⟩ : ∃ x, w.alloc (.cells #[.slice ka c.key.length kc, .int .i64 c.kd, .slice va c.val.length vc, .int .i64 c.pg, .int .i64 c.ct] 50) = x := ⟨_, rfl⟩
 have hbx : Below w.heap.size w x := by rw [← hx]; exact zad Br Lr _
 have hc5 : C5 x w.heap.size (.slice ka c.key.length kc) (.int .i64 c.kd) (.slice va c.val.length vc) (.int .i64 c.pg) (.int .i64 c.ct) := by rw [← hx]; exact C5.box _ _ _ _ _ _
 obtain ⟨z0, z1, z2, z3, z4⟩ := hc5.cells
 have HPT := zaa (putQ_new x B a k n (hPO.go hbx) (zN hB hbx.size) hk3 c ka va kc vc (hk.on Lr hbx) (hv.on Lr hbx) hm hn hfit)
 have HLN := zaa (zcz x a k n none 0 0 none 0 0 none 0 0 0 [] [] [] ((hPO.pgq Wf.nil (by simp) (by simp)).on hbx))
 have HBX := zaa hbx
 clear hPO hk hv hm hn hfit hbx hc5
 go_enter Tryz.func231, Tryz.ntmps231
 go_wp2_with (first | (go_at_call 88; refine zac HLN.out ?_) | (go_at_call 240; refine HPT.out.mono ?_; rintro e w4 ⟨rfl, HP4, HC4⟩; refine Hid.out ?_))
 apply zaa
 go_wp2
 go_ret
 obtain ⟨vb', vs', q1, qf, q2, q3⟩ := HP4.out
 exact ⟨rfl, zaa ⟨vb', vs', q1, qf, q2.imp id (fun ⟨g, h1, h2⟩ => ⟨g, h1, zN HBX.out.size h2⟩), q3.imp id (fun ⟨g, h1, h2⟩ => ⟨g, h1, zN HBX.out.size h2⟩)⟩, zaa ((Cf.of_below HBX.out).go HC4.out)⟩
structure R8 (w u : World) (a b : Nat) : Prop where
 be : Below w.heap.size w u
 po : ∃ vb vs, Po u w.heap.size a 2 512 vb vs [cA8, cB8]
 pq : ∃ vb vs, PO u w.heap.size b 2 512 none 0 0 vb vs 0 [] (qB 0 cA8) [0]
theorem R8.on {w u u' : World} {a b : Nat} (h : R8 w u a b) (hb : Below u.heap.size u u') : R8 w u' a b := by
 obtain ⟨vb, vs, h1⟩ := h.po
 obtain ⟨xb, xs, h2⟩ := h.pq
 exact ⟨zae h.be Lr hb, ⟨vb, vs, h1.on hb⟩, ⟨xb, xs, h2.go hb⟩⟩
theorem S8.insQ {w u : World} {a b : Nat} (h : S8 w u a b [cA8, cB8]) (ka va : Option Addr) (kc vc : Nat) (hk : Sl u ka 1 kc [97]) (hv : Sl u va 1 vc [121]) :
  Calls Tryz.prog 231 #[.pointer (some ⟨b, 0, none⟩), .int .i64 0, .agg #[.slice ka 1 kc, .int .i64 1, .slice va 1 vc, .int .i64 0, .int .i64 0]] u fun e w' => e = .returned (.int .i64 0) ∧ Hid (R8 w w' a b) := by
 refine (insertQ_new u w.heap.size b 2 512 ⟨h.qr, Sl.nil_any _ _ _ (fun _ => rfl), OwnB.nil _ _, OwnN.nil _ _, .inl rfl, h.hb⟩ h.be.size (by decide) cA8 ka va kc vc hk hv cA8_may pw512 (by decide)).mono ?_
 rintro e w' ⟨rfl, HP, HC⟩
 obtain ⟨xb, xs, q1, _, _, _⟩ := HP.out
 have hc : Cf (· = b) u w' := HC.out.wideQ (fun i hi => by
  rcases hi with e | e | e
  ·exact e
  ·simp [Value.ownBlock] at e
  ·simp [Value.ownBlock] at e)
 obtain ⟨vb, vs, h1, h2, h3⟩ := h.po
 refine ⟨rfl, zaa ⟨h.be.trans (hc.below h.be.size (fun i hi e => ?_)), ⟨vb, vs, (hc.block a (zaf h1.row) h.hab).trans h1.row, h1.body.cf hc h2, h1.starts.cf hc h3⟩, ⟨xb, xs, q1⟩⟩⟩
 have := h.hb
 omega
theorem nilP (a : Nat) (w : World) : (nilAhead 320 80 (.pointer (some ⟨a, 0, none⟩)) "Insert").run Tryz.prog w = .ok (some false) w := by kernel_rfl
theorem nilQ (a : Nat) (w : World) : (nilAhead 320 85 (.pointer (some ⟨a, 0, none⟩)) "Insert").run Tryz.prog w = .ok (some false) w := by kernel_rfl
theorem awake8_any (w : World) (ht : Tab w) (h0 : 1 < w.heap.size) : Calls Tryz.prog 4 #[] w fun e w' => e = .returned (.bool true) ∧ Below w.heap.size w w' := by
 have HTW : Hid (∀ u, Below w.heap.size w u → Tab u ∧ 1 < u.heap.size) := zaa fun u hu => ⟨ht.on hu h0, zO h0 hu.size⟩
 have HN0 := zaa (nnew_0 3 2 512 (by decide) (by decide) w)
 clear ht h0
 go_enter Tryz.func4, Tryz.ntmps4
 go_wp2_with (go_at_call 13; refine HN0.out.mono ?_; rintro e w1 ⟨rfl, HB1⟩; refine Hid.out ?_)
 apply zaa
 have HN1 := zaa (nnew_1 2 512 w1)
 clear HN0
 go_wp2_with (go_at_call 13; refine HN1.out.mono ?_; rintro e w2 ⟨v, c, rfl, HB2, HQ2⟩; refine Hid.out ?_)
 apply zaa
 obtain ⟨a, rfl, rfl, hal, hpr⟩ : ∃ a, v = iP a ∧ c = 0 ∧ w1.heap.size ≤ a ∧ PR w2 a 2 512 (.slice none 0 0) (.slice none 0 0) := by
  rcases HQ2.out with ⟨_, _, h⟩ | ⟨a, h1, h2, _, _, h5, h6⟩
  ·exact absurd ⟨isKd2, pw512⟩ h
  ·exact ⟨a, h1, h2, h5, h6⟩
 have HPR := zaa (And.intro hal hpr)
 have HN2 := zaa (nnew_2 2 512 w2)
 clear HN1 HQ2 hal hpr
 go_wp2_with (go_at_call 13; refine HN2.out.mono ?_; rintro e w3 ⟨v, c, rfl, HB3, HQ3⟩; refine Hid.out ?_)
 apply zaa
 obtain ⟨b, rfl, rfl, hbl, hqr⟩ : ∃ b, v = iQ b ∧ c = 0 ∧ w2.heap.size ≤ b ∧ QR w3 b 2 512 (.slice none 0 0) (.slice none 0 0) (.slice none 0 0) 0 := by
  rcases HQ3.out with ⟨_, _, h⟩ | ⟨a, h1, h2, _, _, h5, h6⟩
  ·exact absurd ⟨isKd2, pw512⟩ h
  ·exact ⟨a, h1, h2, h5, h6⟩
 have HS3 : Hid (S8 w w3 a b []) := zaa (by
  have h1 := HB1.out.size
  have h2 := HB2.out.size
  have h3 := zaf HPR.out.2
  have h4 := HPR.out.1
  exact ⟨zae (zae HB1.out Lr HB2.out) Lr HB3.out, ⟨.slice none 0 0, .slice none 0 0, ⟨zag HPR.out.2 HB3.out, OwnB.nil _ _, World.ownsRow_nil _ _ _ _⟩, by simp [Value.ownBlock], by simp [Value.ownBlock]⟩, hqr, by omega, by omega, by omega⟩)
 clear HN2 HQ3 hbl hqr HPR HB1 HB2 HB3
 have HV : Hid (∀ k v, ∀ u u', k.size = 1 → v.size = 1 → Below u.heap.size u u' → Calls Tryz.prog 14 #[.string k, .string v] u' fun e w' => ∃ g1 c1 g2 c2, e = .returned (.agg #[.slice (some ⟨g1, 0, none⟩) 1 c1, .int .i64 1, .slice (some ⟨g2, 0, none⟩) 1 c2, .int .i64 0, .int .i64 0]) ∧ Hid (Sl w' (some ⟨g1, 0, none⟩) 1 c1 (nB k) ∧ Sl w' (some ⟨g2, 0, none⟩) 1 c2 (nB v)) ∧ Hid (Below u.heap.size u w')) := by
  refine zaa fun k v u u' hk hv hu => (value8_any k v (by omega) (by omega) u').mono ?_
  rintro e w' ⟨g1, c1, g2, c2, rfl, HS, HB⟩
  rw [hk, hv] at HS ⊢
  exact ⟨g1, c1, g2, c2, rfl, zaa ⟨HS.out.1, HS.out.2.1⟩, zaa (zae hu Lr HB.out)⟩
 have n1 := fun u => nilP a u
 have n2 := fun u => nilQ b u
 go_upto_region 6 with fail
 go_cut [7] from 48 to 53 (fun v u => v = .int .i64 0 ∧ Hid (S8 w u a b [cB8]))
 case first =>
  go_wp2_with fail
  go_region_with (first
   | (go_at_call 218; refine ((HS3.out.on (by first | exact HB4.out | exact zab HB4.out _ | exact HB4.out.drew)).ins cB8 (some ⟨g1, 0, none⟩) (some ⟨g2, 0, none⟩) c1 c2 (by first | exact HV4.out.1 | exact HV4.out.1.on Lr (zab Br _) | exact HV4.out.1.on Lr Br.drew) (by first | exact HV4.out.2 | exact HV4.out.2.on Lr (zab Br _) | exact HV4.out.2.on Lr Br.drew) (by simp) (by simp) (by decide) c8_ins1).mono ?_; rintro e w5 ⟨rfl, HS5⟩)
   | (go_at_call 14; refine (HV.out _ _ w3 _ rfl rfl (by first | exact Br | exact Br.drew | exact zab Br _)).mono ?_; rintro e w4 ⟨g1, c1, g2, c2, rfl, HV4, HB4⟩))
  all_goals (try go_wp2_with fail)
  all_goals go_meet
  all_goals exact ⟨rfl, HS5⟩
 obtain ⟨rfl, HS5⟩ := hcut
 obtain ⟨w5, hw5⟩ : ∃ w5, w5 = wc := ⟨_, rfl⟩
 subst hw5
 clear HS3
 go_upto_region 7 with fail
 go_cut [8] from 54 to 59 (fun v u => v = .int .i64 0 ∧ Hid (S8 w u a b [cA8, cB8]))
 case first =>
  go_wp2_with fail
  go_region_with (first
   | (go_at_call 218; refine ((HS5.out.on (by first | exact HB6.out | exact zab HB6.out _ | exact HB6.out.drew)).ins cA8 (some ⟨g1, 0, none⟩) (some ⟨g2, 0, none⟩) c1 c2 (by first | exact HV6.out.1 | exact HV6.out.1.on Lr (zab Br _) | exact HV6.out.1.on Lr Br.drew) (by first | exact HV6.out.2 | exact HV6.out.2.on Lr (zab Br _) | exact HV6.out.2.on Lr Br.drew) (fun c hc => c8_wf c (by simp at hc; simp [hc])) (fun c hc => c8_fit c (by simp at hc; simp [hc])) (by decide) c8_ins2).mono ?_; rintro e w7 ⟨rfl, HS7⟩)
   | (go_at_call 14; refine (HV.out _ _ w5 _ rfl rfl (by first | exact Br | exact Br.drew | exact zab Br _)).mono ?_; rintro e w6 ⟨g1, c1, g2, c2, rfl, HV6, HB6⟩))
  all_goals (try go_wp2_with fail)
  all_goals go_meet
  all_goals exact ⟨rfl, HS7⟩
 obtain ⟨rfl, HS7⟩ := hcut
 obtain ⟨w7, hw7⟩ : ∃ w7, w7 = wc := ⟨_, rfl⟩
 subst hw7
 clear HS5
 have k7 := conv6H w7 #[.int .u8 98] 1 1 w7.heap.size rfl
 obtain ⟨y, hy⟩ : ∃ y, w7.alloc (.cells #[.int .u8 98] 5 (1, 2)) = y := ⟨_, rfl⟩
 have hby : Below w7.heap.size w7 y := by rw [← hy]; exact zad Br Lr _
 have hys : Sl y (some ⟨w7.heap.size, 0, none⟩) 1 1 [98] := sl_lit y [98] 1 (1, 2) _ (by rw [← hy]; exact heap_alloc_last w7 _) rfl (Wf.cons (by omega) Wf.nil) (by omega)
 have HFI : Hid (Calls Tryz.prog 217 #[.pointer (some ⟨a, 0, none⟩), .slice (some ⟨w7.heap.size, 0, none⟩) 1 1] y fun e w' => e = .returned (.tuple #[.int .i64 1, .bool true]) ∧ Hid (S8 w w' a b [cA8, cB8])) := zaa (by
  have hs := HS7.out.on hby
  obtain ⟨vb, vs, h1, h2, h3⟩ := hs.po
  obtain ⟨bo, bc, rfl⟩ := h1.body.slice
  obtain ⟨so, sc, rfl⟩ := h1.starts.shape
  refine (find_any y a 2 512 bo _ bc so _ sc [cA8, cB8] (h1.pg c8_wf (by rw [c8_sz]; decide)) c8_chk (by omega) (by rw [c8_sz]; decide) _ 1 1 [98] hys).mono ?_
  rintro e w' ⟨r, is, rfl, HB, HQ⟩
  obtain ⟨hf, hi⟩ := HQ.out
  obtain rfl : r = 1 := c8_fnd r hf
  obtain rfl : is = true := hi.2 ⟨cB8, rfl, rfl⟩
  exact ⟨rfl, zaa (hs.on HB.out)⟩)
 clear hby hys HS7
 go_wp2_with (go_at_call 217; refine HFI.out.mono ?_; rintro e w8 ⟨rfl, HS8⟩; refine Hid.out ?_)
 apply zaa
 clear HFI k7 hy
 go_upto_region 9 with fail
 go_cut [11] from 67 to 72 (fun v u => v = .int .i64 0 ∧ Hid (R8 w u a b))
 case first =>
  go_wp2_with fail
  go_region_with (first
   | (go_at_call 231; refine ((HS8.out.on (by first | exact HB9.out | exact zab HB9.out _ | exact HB9.out.drew)).insQ (some ⟨g1, 0, none⟩) (some ⟨g2, 0, none⟩) c1 c2 (by first | exact HV9.out.1 | exact HV9.out.1.on Lr (zab Br _) | exact HV9.out.1.on Lr Br.drew) (by first | exact HV9.out.2 | exact HV9.out.2.on Lr (zab Br _) | exact HV9.out.2.on Lr Br.drew)).mono ?_; rintro e w10 ⟨rfl, HR10⟩)
   | (go_at_call 14; refine (HV.out _ _ w8 _ rfl rfl (by first | exact Br | exact Br.drew | exact zab Br _)).mono ?_; rintro e w9 ⟨g1, c1, g2, c2, rfl, HV9, HB9⟩))
  all_goals (try go_wp2_with fail)
  all_goals go_meet
  all_goals exact ⟨rfl, HR10⟩
 obtain ⟨rfl, HR10⟩ := hcut
 obtain ⟨w10, hw10⟩ : ∃ w10, w10 = wc := ⟨_, rfl⟩
 subst hw10
 clear HS8 HV n1 n2
 have HBY : Hid (Calls Tryz.prog 74 #[.pointer (some ⟨a, 0, none⟩)] w10 fun e w' => ∃ g, e = .returned (.slice (some ⟨g, 0, none⟩) 512 512) ∧ Hid (Bk w' g p8) ∧ Hid (R8 w w' a b)) := zaa (by
  obtain ⟨vb, vs, h1⟩ := HR10.out.po
  obtain ⟨bo, bc, rfl⟩ := h1.body.slice
  obtain ⟨so, sc, rfl⟩ := h1.starts.shape
  obtain ⟨t1, t2⟩ := HTW.out w10 HR10.out.be
  refine (bytes_any w10 a 2 512 bo _ bc so _ sc [cA8, cB8] (h1.pg c8_wf (by rw [c8_sz]; decide)) isKd2 pw512 (by rw [c8_sz]; decide) t1 t2 c8_wf).mono ?_
  rintro e w' ⟨g, rfl, _, HK, HB⟩
  exact ⟨g, rfl, HK, zaa (HR10.out.on HB.out)⟩)
 go_wp2_with (go_at_call 74; refine HBY.out.mono ?_; rintro e w11 ⟨g, rfl, HK11, HR11⟩; refine Hid.out ?_)
 apply zaa
 clear HBY HR10
 have HOP : Hid (Calls Tryz.prog 5 #[.slice (some ⟨g, 0, none⟩) 512 512] w11 fun e w' => ∃ o, e = .returned (.tuple #[iP o, .int .i64 0]) ∧ Hid (R8 w w' a b ∧ ∃ vb so sc, PR w' o 2 512 vb (.slice so 2 sc))) := zaa (by
  obtain ⟨t1, t2⟩ := HTW.out w11 HR11.out.be
  refine (nopen_1 (some ⟨g, 0, none⟩) 512 512 p8 w11 (HK11.out.sl p8_len p8_wf (by omega)) t1 t2 p8_eg).mono ?_
  rintro e w' ⟨v, c, rfl, HB, HQ⟩
  rcases HQ.out with ⟨_, _, h⟩ | ⟨o, bo, bn, bc, so, sn, sc, cs, rfl, rfl, _, h4, _, h6⟩
  ·exact absurd ⟨[cA8, cB8], by rw [p8_kd, p8_len]; exact p8_is⟩ h
  ·have := p8_one cs h4
   subst this
   rw [p8_kd, p8_len] at h6
   have hsn := (h6.starts.sl2 (by rw [zak]; decide)).2
   rw [zak] at hsn
   obtain rfl : sn = 2 := hsn.symm
   exact ⟨o, rfl, zaa ⟨HR11.out.on HB.out, _, so, sc, h6.row⟩⟩)
 go_wp2_with (go_at_call 5; refine HOP.out.mono ?_; rintro e w12 ⟨o, rfl, HQ12⟩; refine Hid.out ?_)
 apply zaa
 clear HOP HK11 HR11
 obtain ⟨hr12, vb3, so3, sc3, hpr3⟩ := HQ12.out
 obtain ⟨vb1, vs1, hpo1⟩ := hr12.po
 obtain ⟨bo1, bc1, rfl⟩ := hpo1.body.slice
 obtain ⟨so1, sc1, rfl⟩ := hpo1.starts.shape
 obtain ⟨vb2, vs2, hpq2⟩ := hr12.pq
 obtain ⟨bo2, bc2, rfl⟩ := hpq2.ob.shape
 obtain ⟨so2, sc2, rfl⟩ := hpq2.on.shape
 have HUS := zaa (used_row w12 a 2 512 bo1 14 bc1 so1 2 sc1 (by exact hpo1.row) (by omega) (by omega))
 have HLO := zaa (fun q => lenR_any (w12.drewN q) o 2 512 vb3 so3 2 sc3 (by exact (show PR _ _ _ _ _ _ from zag hpr3 (zab Br _))))
 have HLQ := zaa (fun q => zcz (w12.drewN q) b 2 512 none 0 0 bo2 _ bc2 so2 1 sc2 0 [] (qB 0 cA8) [0] ((hpq2.pgq (by exact (by decide : ∀ x ∈ qB 0 cA8, 0 ≤ x ∧ x ≤ 255)) (by decide) (by decide)).on (zab Br _)))
 have HBE := zaa hr12.be
 have k1 := fun u => nmostKey_any 512 u
 have k2 := fun u => nmostValue_any 512 u
 rw [if_pos pw512] at k1 k2
 have K1 := zaa k1
 have K2 := zaa k2
 clear hr12 hpr3 hpo1 hpq2 k1 k2 HQ12
 go_wp2_with (first
  | (go_at_call 222; refine HUS.out.mono ?_; rintro e w13 ⟨rfl, q, rfl⟩)
  | (go_at_call 75; refine zac (HLO.out q) ?_)
  | (go_at_call 88; refine zac (HLQ.out q) ?_)
  | (go_at_call 15; refine zac (K1.out _) ?_)
  | (go_at_call 16; refine zac (K2.out _) ?_))
 go_ret
 exact ⟨rfl, zab HBE.out _⟩
open Six
theorem owned2B (w : World) (B bk N U n : Nat) (o1 : Option Addr) (c1 lo1 hi1 : Nat) (o2 : Option Addr) (c2 lo2 hi2 : Nat) (cs : List Cl) (h : Bx w B bk [.slice o1 n c1, .slice o2 n c2] N U) (hN : N ≤ 4000000) (hB : B ≤ w.heap.size) (hl : cs.length ≤ 65536) (g1 : Got w lo1 hi1 o1 n c1 cs) (g2 : Got w lo2 hi2 o2 n c2 cs) (b1 : B ≤ lo1) (r12 : hi1 ≤ lo2) (b2 : B ≤ lo2) :
  Calls Tryz.prog 12 #[.pointer (some ⟨bk, 0, none⟩)] w fun e u => e = .returned (.bool true) ∧ Hid (Cf (B ≤ ·) w u) := by
 refine ownedB w B bk N U [(o1, n, c1, cs, lo1, hi1), (o2, n, c2, cs, lo2, hi2)] h hN (by simp) hB (fun t ht => ?_) (fun i j s t hs ht hij => ?_)
 ·simp only [List.mem_cons, List.not_mem_nil, or_false] at ht
  rcases ht with rfl | rfl
  ·exact ⟨g1, b1, hl⟩
  ·exact ⟨g2, b2, hl⟩
 ·have hj : j < 2 := by have := (zH.1 ht).1; simpa using this
  obtain ⟨rfl, rfl⟩ : i = 0 ∧ j = 1 := by omega
  simp at hs ht
  subst hs ht
  exact r12
theorem owned3B (w : World) (B bk N U n : Nat) (o1 : Option Addr) (c1 lo1 hi1 : Nat) (o2 : Option Addr) (c2 lo2 hi2 : Nat) (o3 : Option Addr) (c3 lo3 hi3 : Nat) (cs : List Cl) (h : Bx w B bk [.slice o1 n c1, .slice o2 n c2, .slice o3 n c3] N U) (hN : N ≤ 4000000) (hB : B ≤ w.heap.size) (hl : cs.length ≤ 65536) (g1 : Got w lo1 hi1 o1 n c1 cs) (g2 : Got w lo2 hi2 o2 n c2 cs) (g3 : Got w lo3 hi3 o3 n c3 cs) (b1 : B ≤ lo1) (b2 : B ≤ lo2) (b3 : B ≤ lo3) (r12 : hi1 ≤ lo2) (r13 : hi1 ≤ lo3) (r23 : hi2 ≤ lo3) :
  Calls Tryz.prog 12 #[.pointer (some ⟨bk, 0, none⟩)] w fun e u => e = .returned (.bool true) ∧ Hid (Cf (B ≤ ·) w u) := by
 refine ownedB w B bk N U [(o1, n, c1, cs, lo1, hi1), (o2, n, c2, cs, lo2, hi2), (o3, n, c3, cs, lo3, hi3)] h hN (by simp) hB (fun t ht => ?_) (fun i j s t hs ht hij => ?_)
 ·simp only [List.mem_cons, List.not_mem_nil, or_false] at ht
  rcases ht with rfl | rfl | rfl
  ·exact ⟨g1, b1, hl⟩
  ·exact ⟨g2, b2, hl⟩
  ·exact ⟨g3, b3, hl⟩
 ·have hj : j < 3 := by have := (zH.1 ht).1; simpa using this
  have h3 : (i = 0 ∧ j = 1) ∨ (i = 0 ∧ j = 2) ∨ (i = 1 ∧ j = 2) := by omega
  rcases h3 with ⟨rfl, rfl⟩ | ⟨rfl, rfl⟩ | ⟨rfl, rfl⟩ <;> (simp at hs ht; subst hs ht; assumption)
theorem Bx.new {w : World} {B bk : Nat} (h : w.heap[bk]? = some (.cells #[.slice none 0 0, .slice none 0 0] 42 (0, 0))) : Bx w B bk [] 0 B := ⟨_, _, [], fun _ => [], Six.box9 h, OwnY.nil _ _, (fun t u ht => by simp at ht), rfl⟩
theorem cf_only {w u : World} {g : Nat} (h : Cf (fun z => z = g ∨ w.heap.size ≤ z) w u) : Cf (· = g) w u := ⟨h.os, h.tape, h.output, h.size, fun k hk hf => h.block k hk (by rintro (e | e); exact hf e; omega)⟩
theorem beh8 : nB ⟨#[98, 101, 104, 105, 110, 100]⟩ = [98, 101, 104, 105, 110, 100] := by decide
end Go.Proofs.YtbkhjeacmmbabaaGreatDoor
