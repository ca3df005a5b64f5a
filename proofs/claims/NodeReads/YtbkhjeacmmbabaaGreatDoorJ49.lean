import Derived.Test.YtbkhjeacmmbabaaGreatDoorJ48
import Derived.Test.YtbkhjeacmmbabaaGreatDoorJ46
import Derived.Deep.DeepCutAuto
import Derived.Deep.CutRange
namespace Go.Proofs.YtbkhjeacmmbabaaGreatDoor
set_option maxRecDepth 100000
set_option maxHeartbeats 8000000
open Go.RowKit
theorem insert_0 (w : World) (B a : Nat) (k : Int) (n : Nat) (vb vs : Value) (cs : List Cl) (x : Int) (O : x = 0) (ka : Option Addr) (kn kc : Nat) (kd : Int) (va : Option Addr) (vn vc : Nat) (pg ct : Int) (key val : List Int) (hp : Po w B a k n vb vs cs) (hn : n ≤ 65536) (hw : ∀ c ∈ cs, c.Wf) (F : ∀ c ∈ cs, c.fit) (hz : szN cs ≤ n) (hk : Sl w ka kn kc key) (hv : Sl w va vn vc val) (hB : B ≤ w.heap.size) :
  Calls Tryz.prog 218 #[.pointer (some ⟨a, 0, none⟩), .int .i64 x, .agg #[.slice ka kn kc, .int .i64 kd, .slice va vn vc, .int .i64 pg, .int .i64 ct]] w (PuTo w B a k n vb vs cs (cs.take x.toNat ++ [⟨key, kd, val, pg, ct⟩] ++ cs.drop x.toNat) (insE k n cs x ⟨key, kd, val, pg, ct⟩)) := by
 have K := zaw cs
 obtain ⟨bo, bc, rfl⟩ := hp.body.slice
 obtain ⟨so, sc, rfl⟩ := hp.starts.shape
 rw [zak] at hp ⊢
 obtain ⟨bl, G⟩ : ∃ bl, (bdy cs).length = bl := ⟨_, rfl⟩
 obtain ⟨sn, H⟩ : ∃ sn, cs.length = sn := ⟨_, rfl⟩
 rw [G, H] at hp
 rw [G, H]
 unfold insE
 rw [H]
 obtain ⟨y, hy⟩ : ∃ y, w.alloc (.cells #[.slice ka kn kc, .int .i64 kd, .slice va vn vc, .int .i64 pg, .int .i64 ct] 50) = y := ⟨_, rfl⟩
 have A : Below w.heap.size w y := by rw [← hy]; exact zab Br Lr _
 obtain ⟨s, hs⟩ : ∃ s, w.heap.size = s := ⟨_, rfl⟩
 have N : Hid (C5 y s (.slice ka kn kc) (.int .i64 kd) (.slice va vn vc) (.int .i64 pg) (.int .i64 ct)) := by rw [← hy, ← hs]; exact zaa (C5.box _ _ _ _ _ _)
 have C := hp.on A
 have HL : Hid (Calls Tryz.prog 75 #[.pointer (some ⟨a, 0, none⟩)] y fun e w' => e = .returned (.int .i64 (sn : Int)) ∧ w' = y) := zaa (lenR_any y a k n _ so sn sc C.row)
 have D := zaa A
 have HP := zaa hp
 obtain ⟨z0, z1, z2, z3, z4⟩ := N.out.cells
 by_cases hx : 0 ≤ x ∧ x ≤ (sn : Int)
 ·rw [if_pos hx]
  obtain ⟨i, rfl⟩ : ∃ i : Nat, x = (i : Int) := ⟨x.toNat, zq⟩
  rw [Int.toNat_natCast]
  have L : Hid (i = 0) := zaa zq
  clear O
  by_cases hl : i = sn
  ·have M : (i : Int) = (sn : Int) := zq
   rw [M]
   have Q : i = sn := hl
   subst hl
   have E := zaa (put_0 y B a k n _ _ cs i i ka kn kc kd va vn vc pg ct key val C zq L.out rfl zq hn hw F hz (hk.on Lr A) (hv.on Lr A) (zN hB A.size))
   generalize putE k n cs i i ⟨key, kd, val, pg, ct⟩ = R at *
   have P : (i : Int) ≤ 65536 := zq
   clear hp C hk hv A hw F K hz G
   go_enter Tryz.func218, Tryz.ntmps218
   go_wp2_with (first | (go_at_call 75; refine zad HL.out ?_) | (go_at_call 227; refine E.out.mono ?_; rintro e w2 ⟨rfl, I, J⟩; refine Hid.out ?_))
   apply zaa
   clear E
   go_wp2
   go_ret
   refine ⟨rfl, zaa ?_, zaa ((Cf.of_below D.out).go J.out)⟩
   obtain ⟨vb', vs', p1, p2, p3⟩ := I.out
   exact ⟨vb', vs', p1, p2.imp id (fun ⟨q, h1, h2⟩ => ⟨q, h1, zN D.out.size h2⟩), p3.imp id (fun ⟨q, h1, h2⟩ => ⟨q, h1, zN D.out.size h2⟩)⟩
  ·have M : ¬ (i : Int) = (sn : Int) := zq
   have E := zaa (put_0 y B a k n _ _ cs i i ka kn kc kd va vn vc pg ct key val C zq L.out rfl zq hn hw F hz (hk.on Lr A) (hv.on Lr A) (zN hB A.size))
   have HH := zaa (has_any y a k n _ so sn sc C.row (i : Int) true (by unfold hasP; simp; omega))
   generalize putE k n cs i i ⟨key, kd, val, pg, ct⟩ = R at *
   have P : (i : Int) ≤ 65536 := zq
   clear hp C hk hv A hw F K hz G
   go_enter Tryz.func218, Tryz.ntmps218
   go_wp2_with (first | (go_at_call 75; refine zad HL.out ?_) | (go_at_call 223; refine zad HH.out ?_) | (go_at_call 227; refine E.out.mono ?_; rintro e w2 ⟨rfl, I, J⟩; refine Hid.out ?_))
   apply zaa
   clear E
   go_wp2
   go_ret
   refine ⟨rfl, zaa ?_, zaa ((Cf.of_below D.out).go J.out)⟩
   obtain ⟨vb', vs', p1, p2, p3⟩ := I.out
   exact ⟨vb', vs', p1, p2.imp id (fun ⟨q, h1, h2⟩ => ⟨q, h1, zN D.out.size h2⟩), p3.imp id (fun ⟨q, h1, h2⟩ => ⟨q, h1, zN D.out.size h2⟩)⟩
 ·exact absurd ⟨zq, zq⟩ hx
def cB8 : Cl := ⟨[98], 1, [120], 0, 0⟩
def cA8 : Cl := ⟨[97], 1, [121], 0, 0⟩
theorem cB8_may : mayP 2 512 cB8 := by decide
theorem cA8_may : mayP 2 512 cA8 := by decide
theorem c8_wf : ∀ c ∈ [cA8, cB8], c.Wf := by
 intro c hc
 simp only [List.mem_cons, List.not_mem_nil, or_false] at hc
 rcases hc with rfl | rfl
 ·exact ⟨Wf.cons zq Wf.nil, Wf.cons zq Wf.nil⟩
 ·exact ⟨Wf.cons zq Wf.nil, Wf.cons zq Wf.nil⟩
theorem c8_fit : ∀ c ∈ [cA8, cB8], c.fit := by
 intro c hc
 simp only [List.mem_cons, List.not_mem_nil, or_false] at hc
 rcases hc with rfl | rfl
 ·exact cA8_may.fit zq
 ·exact cB8_may.fit zq
theorem c8_sz : szN [cA8, cB8] = 26 := by decide
theorem c8_chk : chk 2 512 none [cA8, cB8] = 0 := by decide
theorem c8_ins1 : insE 2 512 [] 0 cB8 = 0 := by decide
theorem c8_ins2 : insE 2 512 [cB8] 0 cA8 = 0 := by decide
theorem c8_fnd (r : Nat) (h : Fnd [cA8, cB8] [98] r) : r = 1 := by
 have h1 := h.le
 simp at h1
 rcases Nat.lt_or_ge r 1 with h0 | h0
 ·exact absurd zd (h.hi 0 cA8 zq rfl)
 ·rcases Nat.lt_or_ge 1 r with h2 | h2
  ·exact absurd (h.lo 1 cB8 h2 rfl) zd
  ·omega
def p8 : List Int := pgB 2 512 [cA8, cB8]
theorem p8_is : Is 2 512 [cA8, cB8] p8 := ⟨isKd2, pw512, c8_chk, by rw [c8_sz]; decide, rfl⟩
theorem p8_len : p8.length = 512 := zdj 2 512 _ (by rw [c8_sz]; decide)
theorem p8_wf : Wf p8 := pgB_wf zq c8_wf
theorem p8_kd : p8.getD 0 0 = 2 := (readM_of p8_is).2.2
theorem p8_one (cs : List Cl) (h : Is (p8.getD 0 0) p8.length cs p8) : cs = [cA8, cB8] := (h.one p8_is).2.2
theorem p8_eg : egO p8 = 1 := by
 unfold egO
 rw [p8_len, if_neg zq]
 obtain ⟨U, _, h⟩ := pgB_split 2 512 [cA8, cB8]
 rw [show p8 = pgB 2 512 [cA8, cB8] from rfl, h]
 rfl
structure S8 (w u : World) (a b : Nat) (cs : List Cl) : Prop where
 be : Below w.heap.size w u
 po : ∃ vb vs, Po u w.heap.size a 2 512 vb vs cs ∧ vb.ownBlock ≠ some b ∧ vs.ownBlock ≠ some b
 qr : QR u b 2 512 (.slice none 0 0) (.slice none 0 0) (.slice none 0 0) 0
 hab : a ≠ b
 ha : w.heap.size ≤ a
 hb : w.heap.size ≤ b
theorem S8.on {w u u' : World} {a b : Nat} {cs : List Cl} (h : S8 w u a b cs) (hb : Below u.heap.size u u') : S8 w u' a b cs := by
 obtain ⟨vb, vs, h1, h2, h3⟩ := h.po
 exact ⟨zae h.be Lr hb, ⟨vb, vs, h1.on hb, h2, h3⟩, zag h.qr hb, h.hab, h.ha, h.hb⟩
theorem Po.zone {w : World} {B a : Nat} {k : Int} {n : Nat} {vb vs : Value} {cs : List Cl} (h : Po w B a k n vb vs cs) (ha : B ≤ a) {i : Nat} (hi : PZ a vb vs i) : B ≤ i := by
 rcases hi with rfl | e | e
 ·exact ha
 ·have := h.body
  unfold OwnB at this
  exact (this.lt i e).1
 ·have := h.starts
  unfold OwnN at this
  exact (this.lt i e).1
theorem S8.ins {w u : World} {a b : Nat} {cs : List Cl} (h : S8 w u a b cs) (c : Cl) (ka va : Option Addr) (kc vc : Nat) (hk : Sl u ka c.key.length kc c.key) (hv : Sl u va c.val.length vc c.val) (hw : ∀ c ∈ cs, c.Wf) (A : ∀ c ∈ cs, c.fit) (hz : szN cs ≤ 512) (h0 : insE 2 512 cs 0 c = 0) :
  Calls Tryz.prog 218 #[.pointer (some ⟨a, 0, none⟩), .int .i64 0, .agg #[.slice ka c.key.length kc, .int .i64 c.kd, .slice va c.val.length vc, .int .i64 c.pg, .int .i64 c.ct]] u fun e w' => e = .returned (.int .i64 0) ∧ Hid (S8 w w' a b (c :: cs)) := by
 obtain ⟨vb, vs, h1, h2, h3⟩ := h.po
 refine (insert_0 u w.heap.size a 2 512 vb vs cs 0 rfl ka _ kc c.kd va _ vc c.pg c.ct c.key c.val h1 zq hw A hz hk hv h.be.size).mono ?_
 rintro e w' ⟨rfl, HP, HC⟩
 have e0 : insE 2 512 cs 0 ⟨c.key, c.kd, c.val, c.pg, c.ct⟩ = 0 := h0
 rw [e0] at HP ⊢
 obtain ⟨vb', vs', q1, q2, q3⟩ := HP.out
 have hc := HC.out
 have B := zaf h.qr
 refine ⟨rfl, zaa ⟨h.be.trans (hc.below h.be.size (fun i hi e => ?_)), ⟨vb', vs', ?_, ?_, ?_⟩, ?_, h.hab, h.ha, h.hb⟩⟩
 ·have := h1.zone h.ha e
  omega
 ·simpa using q1
 ·rcases q2 with q | ⟨g, q, hg⟩
  ·rw [q]; exact h2
  ·rw [q]; intro e; injection e with e; omega
 ·rcases q3 with q | ⟨g, q, hg⟩
  ·rw [q]; exact h3
  ·rw [q]; intro e; injection e with e; omega
 ·refine (hc.block b B ?_).trans h.qr
  rintro (e | e | e)
  ·exact h.hab e.symm
  ·exact h2 e
  ·exact h3 e
theorem putQ_new (w : World) (B a : Nat) (k : Int) (n : Nat) (F : PO w B a k n none 0 0 (.slice none 0 0) (.slice none 0 0) 0 [] [] []) (hB : B ≤ w.heap.size) (A7 : ¬ k = 3)
  (c : Cl) (ka va : Option Addr) (kc vc : Nat) (hk : Sl w ka c.key.length kc c.key) (hv : Sl w va c.val.length vc c.val) (hm : mayP k n c) (hn : pw n) (T : 12 + (qB 0 c).length ≤ n) :
  Calls Tryz.prog 240 #[.pointer (some ⟨a, 0, none⟩), .int .i64 0, .int .i64 0, .agg #[.slice ka c.key.length kc, .int .i64 c.kd, .slice va c.val.length vc, .int .i64 c.pg, .int .i64 c.ct]] w
   (QuTo w B a k n none 0 0 (.slice none 0 0) (.slice none 0 0) 0 [] (qB 0 c) [0] (.int .i64 0)) := by
 have V := zas hn
 have G : c.fit := hm.fit zq
 have W := G.key
 have X := G.val
 have D : PgQ w a k n none 0 0 none 0 0 none 0 0 0 [] [] [] := F.pgq Wf.nil zv zv
 obtain ⟨x, hx⟩ : ∃ x, w.alloc (.cells #[.slice ka c.key.length kc, .int .i64 c.kd, .slice va c.val.length vc, .int .i64 c.pg, .int .i64 c.ct] 50) = x := ⟨_, rfl⟩
 have H : Below w.heap.size w x := by rw [← hx]; exact zab Br Lr _
 obtain ⟨s, hs⟩ : ∃ s, w.heap.size = s := ⟨_, rfl⟩
 have I : C5 x s (.slice ka c.key.length kc) (.int .i64 c.kd) (.slice va c.val.length vc) (.int .i64 c.pg) (.int .i64 c.ct) := by rw [← hx, ← hs]; exact C5.box _ _ _ _ _ _
 have J := zaa (fun u => mayBe_any k (n : Int) ka c.key.length kc c.kd va c.val.length vc c.pg c.ct u zq zq zq zq)
 rw [decide_eq_true ((mayP_iff k n c).2 hm)] at J
 have HU : Hid (∀ u, Below x.heap.size x u → PgQ u a k n none 0 0 none 0 0 none 0 0 0 [] [] [] ∧ C5 u s (.slice ka c.key.length kc) (.int .i64 c.kd) (.slice va c.val.length vc) (.int .i64 c.pg) (.int .i64 c.ct) ∧ Sl u ka c.key.length kc c.key ∧ Sl u va c.val.length vc c.val ∧ Below w.heap.size w u) := zaa fun u hu => by
  have hb := zae H Lr hu
  exact ⟨D.on hb, zag I hu, hk.on Lr hb, hv.on Lr hb, hb⟩
 have P : Hid (∀ u, Below w.heap.size w u → Calls Tryz.prog 247 #[.pointer (some ⟨a, 0, none⟩), .int .i64 0, .int .i64 0, .agg #[.slice ka c.key.length kc, .int .i64 c.kd, .slice va c.val.length vc, .int .i64 c.pg, .int .i64 c.ct]] u (QuTo u B a k n none 0 0 (.slice none 0 0) (.slice none 0 0) 0 [] (qB 0 c) [0] (.bool true))) := zaa fun u hu =>
  inPlace_ins u B a k n none 0 0 none 0 0 none 0 0 0 [] [] [] (F.go hu) zq zq (zN hB hu.size) 0 zq Lr zq c ka va kc vc (hk.on Lr hu) (hv.on Lr hu) (.inr fun p hp => zsv) (.inr fun p hp => zsv) zq zq rfl (.inl rfl) zso
 obtain ⟨p0, p1, p2, p3, p4, p5⟩ := (D.on H).cells
 obtain ⟨z0, z1, z2, z3, z4⟩ := I.cells
 have A8 := zaa hs
 clear F hk hv hm hn T D G H I W X V
 go_enter Tryz.func240, Tryz.ntmps240
 go_upto_region 1 with fail
 go_cut [20] from 10 to 20 (fun v u => v = .bool false ∧ Hid (Below x.heap.size x u))
 case first =>
  go_wp2_with fail
  go_region_with (first | (go_at_call 71; refine (J.out _).mono ?_; rintro e w2 ⟨rfl, C⟩; have A : Hid (Below x.heap.size x w2) := zaa (by first | exact C | exact zae Br.drew Lr C | exact zae (zac Br _) Lr C)))
  all_goals (try go_wp2_with fail)
  all_goals go_meet
  all_goals exact ⟨zv, by first | exact A | exact zaa A.out.drew | exact zaa (zac A.out _)⟩
 obtain ⟨rfl, A⟩ := hcut
 obtain ⟨w2, Y⟩ : ∃ w2, w2 = wc := ⟨_, rfl⟩
 subst Y
 clear p0 p1 p2 p3 p4 p5 z0 z1 z2 z3 z4 J hx
 obtain ⟨E, M, Q, Z, C⟩ := HU.out w2 A.out
 obtain ⟨z0, z1, z2, z3, z4⟩ := M.cells
 have R := zaa (against_any w2 a k n none 0 0 _ _ 0 [] E.row E.pre ka c.key.length kc c.key Q)
 clear E M Q Z C
 go_wp2_with (go_at_call 239; refine R.out.mono ?_; rintro e w3 ⟨b1, b2, b3, b4, ro, rn, rc, b, rfl, A9, A0⟩; refine Hid.out ?_)
 apply zaa
 have A1 : Hid (Below x.heap.size x w3) := zaa (zae A.out Lr A0.out)
 clear z0 z1 z2 z3 z4 R
 obtain ⟨N, O, U, A2, K⟩ := HU.out w3 A1.out
 obtain ⟨z0, z1, z2, z3, z4⟩ := O.cells
 have A3 := zaa (zcr w3 a k n none 0 0 none 0 0 none 0 0 0 [] [] [] N)
 have A4 := zaa (P.out w3 K)
 have L := zaa K
 clear N O U A2 K HU P
 go_wp2_with (first
  | (go_at_call 88; refine zad A3.out ?_)
  | (go_at_call 247; refine A4.out.mono ?_; rintro e w4 ⟨rfl, A5, A6⟩; refine Hid.out ?_))
 apply zaa
 go_wp2
 go_ret
 obtain ⟨vb', vs', q1, qf, q2, q3⟩ := A5.out
 exact ⟨rfl, zaa ⟨vb', vs', q1, qf, q2.imp id (fun ⟨g, h1, h2⟩ => ⟨g, h1, zN L.out.size h2⟩), q3.imp id (fun ⟨g, h1, h2⟩ => ⟨g, h1, zN L.out.size h2⟩)⟩, zaa ((Cf.of_below L.out).go A6.out)⟩
theorem insertQ_new (w : World) (B a : Nat) (k : Int) (n : Nat) (C : PO w B a k n none 0 0 (.slice none 0 0) (.slice none 0 0) 0 [] [] []) (hB : B ≤ w.heap.size) (G : ¬ k = 3)
  (c : Cl) (ka va : Option Addr) (kc vc : Nat) (hk : Sl w ka c.key.length kc c.key) (hv : Sl w va c.val.length vc c.val) (hm : mayP k n c) (hn : pw n) (E : 12 + (qB 0 c).length ≤ n) :
  Calls Tryz.prog 231 #[.pointer (some ⟨a, 0, none⟩), .int .i64 0, .agg #[.slice ka c.key.length kc, .int .i64 c.kd, .slice va c.val.length vc, .int .i64 c.pg, .int .i64 c.ct]] w
   (QuTo w B a k n none 0 0 (.slice none 0 0) (.slice none 0 0) 0 [] (qB 0 c) [0] (.int .i64 0)) := by
 obtain ⟨x, hx⟩ : ∃ x, w.alloc (.cells #[.slice ka c.key.length kc, .int .i64 c.kd, .slice va c.val.length vc, .int .i64 c.pg, .int .i64 c.ct] 50) = x := ⟨_, rfl⟩
 have A : Below w.heap.size w x := by rw [← hx]; exact zab Br Lr _
 have F : C5 x w.heap.size (.slice ka c.key.length kc) (.int .i64 c.kd) (.slice va c.val.length vc) (.int .i64 c.pg) (.int .i64 c.ct) := by rw [← hx]; exact C5.box _ _ _ _ _ _
 obtain ⟨z0, z1, z2, z3, z4⟩ := F.cells
 have H := zaa (putQ_new x B a k n (C.go A) (zN hB A.size) G c ka va kc vc (hk.on Lr A) (hv.on Lr A) hm hn E)
 have I := zaa (zcr x a k n none 0 0 none 0 0 none 0 0 0 [] [] [] ((C.pgq Wf.nil zv zv).on A))
 have D := zaa A
 clear C hk hv hm hn E A F
 go_enter Tryz.func231, Tryz.ntmps231
 go_wp2_with (first | (go_at_call 88; refine zad I.out ?_) | (go_at_call 240; refine H.out.mono ?_; rintro e w4 ⟨rfl, J, K⟩; refine Hid.out ?_))
 apply zaa
 go_wp2
 go_ret
 obtain ⟨vb', vs', q1, qf, q2, q3⟩ := J.out
 exact ⟨rfl, zaa ⟨vb', vs', q1, qf, q2.imp id (fun ⟨g, h1, h2⟩ => ⟨g, h1, zN D.out.size h2⟩), q3.imp id (fun ⟨g, h1, h2⟩ => ⟨g, h1, zN D.out.size h2⟩)⟩, zaa ((Cf.of_below D.out).go K.out)⟩
structure R8 (w u : World) (a b : Nat) : Prop where
 be : Below w.heap.size w u
 po : ∃ vb vs, Po u w.heap.size a 2 512 vb vs [cA8, cB8]
 pq : ∃ vb vs, PO u w.heap.size b 2 512 none 0 0 vb vs 0 [] (qB 0 cA8) [0]
theorem R8.on {w u u' : World} {a b : Nat} (h : R8 w u a b) (hb : Below u.heap.size u u') : R8 w u' a b := by
 obtain ⟨vb, vs, h1⟩ := h.po
 obtain ⟨xb, xs, h2⟩ := h.pq
 exact ⟨zae h.be Lr hb, ⟨vb, vs, h1.on hb⟩, ⟨xb, xs, h2.go hb⟩⟩
theorem S8.insQ {w u : World} {a b : Nat} (h : S8 w u a b [cA8, cB8]) (ka va : Option Addr) (kc vc : Nat) (hk : Sl u ka 1 kc [97]) (hv : Sl u va 1 vc [121]) :
  Calls Tryz.prog 231 #[.pointer (some ⟨b, 0, none⟩), .int .i64 0, .agg #[.slice ka 1 kc, .int .i64 1, .slice va 1 vc, .int .i64 0, .int .i64 0]] u fun e w' => e = .returned (.int .i64 0) ∧ Hid (R8 w w' a b) := by
 refine (insertQ_new u w.heap.size b 2 512 ⟨h.qr, Sl.nil_any _ _ _ (fun _ => rfl), OwnB.nil _ _, OwnN.nil _ _, .inl rfl, h.hb⟩ h.be.size zd cA8 ka va kc vc hk hv cA8_may pw512 zd).mono ?_
 rintro e w' ⟨rfl, HP, HC⟩
 obtain ⟨xb, xs, q1, _, _, _⟩ := HP.out
 have hc : Cf (· = b) u w' := HC.out.wideQ (fun i hi => by
  rcases hi with e | e | e
  ·exact e
  ·simp [Value.ownBlock] at e
  ·simp [Value.ownBlock] at e)
 obtain ⟨vb, vs, h1, h2, h3⟩ := h.po
 refine ⟨rfl, zaa ⟨h.be.trans (hc.below h.be.size (fun i hi e => ?_)), ⟨vb, vs, (hc.block a (zaf h1.row) h.hab).trans h1.row, h1.body.cf hc h2, h1.starts.cf hc h3⟩, ⟨xb, xs, q1⟩⟩⟩
 have := h.hb
 omega
theorem nilP (a : Nat) (w : World) : (nilAhead 320 80 (.pointer (some ⟨a, 0, none⟩)) "Insert").run Tryz.prog w = .ok (some false) w := by kernel_rfl
theorem nilQ (a : Nat) (w : World) : (nilAhead 320 85 (.pointer (some ⟨a, 0, none⟩)) "Insert").run Tryz.prog w = .ok (some false) w := by kernel_rfl
theorem awake8_any (w : World) (ht : Tab w) (h0 : 1 < w.heap.size) : Calls Tryz.prog 4 #[] w fun e w' => e = .returned (.bool true) ∧ Below w.heap.size w w' := by
 have V : Hid (∀ u, Below w.heap.size w u → Tab u ∧ 1 < u.heap.size) := zaa fun u hu => ⟨ht.on hu h0, zO h0 hu.size⟩
 have W := zaa (nnew_0 3 2 512 zd zd w)
 clear ht h0
 go_enter Tryz.func4, Tryz.ntmps4
 go_wp2_with (go_at_call 13; refine W.out.mono ?_; rintro e w1 ⟨rfl, L⟩; refine Hid.out ?_)
 apply zaa
 have X := zaa (nnew_1 2 512 w1)
 clear W
 go_wp2_with (go_at_call 13; refine X.out.mono ?_; rintro e w2 ⟨v, c, rfl, M, Y⟩; refine Hid.out ?_)
 apply zaa
 obtain ⟨a, rfl, rfl, Z, A0⟩ : ∃ a, v = iP a ∧ c = 0 ∧ w1.heap.size ≤ a ∧ PR w2 a 2 512 (.slice none 0 0) (.slice none 0 0) := by
  rcases Y.out with ⟨_, _, h⟩ | ⟨a, h1, h2, _, _, h5, h6⟩
  ·exact absurd ⟨isKd2, pw512⟩ h
  ·exact ⟨a, h1, h2, h5, h6⟩
 have I := zaa (And.intro Z A0)
 have A1 := zaa (nnew_2 2 512 w2)
 clear X Y Z A0
 go_wp2_with (go_at_call 13; refine A1.out.mono ?_; rintro e w3 ⟨v, c, rfl, N, A2⟩; refine Hid.out ?_)
 apply zaa
 obtain ⟨b, rfl, rfl, B3, A3⟩ : ∃ b, v = iQ b ∧ c = 0 ∧ w2.heap.size ≤ b ∧ QR w3 b 2 512 (.slice none 0 0) (.slice none 0 0) (.slice none 0 0) 0 := by
  rcases A2.out with ⟨_, _, h⟩ | ⟨a, h1, h2, _, _, h5, h6⟩
  ·exact absurd ⟨isKd2, pw512⟩ h
  ·exact ⟨a, h1, h2, h5, h6⟩
 have A4 : Hid (S8 w w3 a b []) := zaa (by
  have h1 := L.out.size
  have h2 := M.out.size
  have h3 := zaf I.out.2
  have h4 := I.out.1
  exact ⟨zae (zae L.out Lr M.out) Lr N.out, ⟨.slice none 0 0, .slice none 0 0, ⟨zag I.out.2 N.out, OwnB.nil _ _, World.ownsRow_nil _ _ _ _⟩, by simp [Value.ownBlock], by simp [Value.ownBlock]⟩, A3, zq, zq, zq⟩)
 clear A1 A2 B3 A3 I L M N
 have HV : Hid (∀ k v, ∀ u u', k.size = 1 → v.size = 1 → Below u.heap.size u u' → Calls Tryz.prog 14 #[.string k, .string v] u' fun e w' => ∃ g1 c1 g2 c2, e = .returned (.agg #[.slice (some ⟨g1, 0, none⟩) 1 c1, .int .i64 1, .slice (some ⟨g2, 0, none⟩) 1 c2, .int .i64 0, .int .i64 0]) ∧ Hid (Sl w' (some ⟨g1, 0, none⟩) 1 c1 (nB k) ∧ Sl w' (some ⟨g2, 0, none⟩) 1 c2 (nB v)) ∧ Hid (Below u.heap.size u w')) := by
  refine zaa fun k v u u' hk hv hu => (value8_any k v zq zq u').mono ?_
  rintro e w' ⟨g1, c1, g2, c2, rfl, HS, HB⟩
  rw [hk, hv] at HS ⊢
  exact ⟨g1, c1, g2, c2, rfl, zaa ⟨HS.out.1, HS.out.2.1⟩, zaa (zae hu Lr HB.out)⟩
 have n1 := fun u => nilP a u
 have n2 := fun u => nilQ b u
 go_upto_region 6 with fail
 go_cut [7] from 48 to 53 (fun v u => v = .int .i64 0 ∧ Hid (S8 w u a b [cB8]))
 case first =>
  go_wp2_with fail
  go_region_with (first
   | (go_at_call 218; refine ((A4.out.on (by first | exact O.out | exact zac O.out _ | exact O.out.drew)).ins cB8 (some ⟨g1, 0, none⟩) (some ⟨g2, 0, none⟩) c1 c2 (by first | exact B.out.1 | exact B.out.1.on Lr (zac Br _) | exact B.out.1.on Lr Br.drew) (by first | exact B.out.2 | exact B.out.2.on Lr (zac Br _) | exact B.out.2.on Lr Br.drew) zv zv zd c8_ins1).mono ?_; rintro e w5 ⟨rfl, J⟩)
   | (go_at_call 14; refine (HV.out _ _ w3 _ rfl rfl zW1).mono ?_; rintro e w4 ⟨g1, c1, g2, c2, rfl, B, O⟩))
  all_goals (try go_wp2_with fail)
  all_goals go_meet
  all_goals exact ⟨rfl, J⟩
 obtain ⟨rfl, J⟩ := hcut
 obtain ⟨w5, B4⟩ : ∃ w5, w5 = wc := ⟨_, rfl⟩
 subst B4
 clear A4
 go_upto_region 7 with fail
 go_cut [8] from 54 to 59 (fun v u => v = .int .i64 0 ∧ Hid (S8 w u a b [cA8, cB8]))
 case first =>
  go_wp2_with fail
  go_region_with (first
   | (go_at_call 218; refine ((J.out.on (by first | exact P.out | exact zac P.out _ | exact P.out.drew)).ins cA8 (some ⟨g1, 0, none⟩) (some ⟨g2, 0, none⟩) c1 c2 (by first | exact C.out.1 | exact C.out.1.on Lr (zac Br _) | exact C.out.1.on Lr Br.drew) (by first | exact C.out.2 | exact C.out.2.on Lr (zac Br _) | exact C.out.2.on Lr Br.drew) (fun c hc => c8_wf c (by simp at hc; simp [hc])) (fun c hc => c8_fit c (by simp at hc; simp [hc])) zd c8_ins2).mono ?_; rintro e w7 ⟨rfl, K⟩)
   | (go_at_call 14; refine (HV.out _ _ w5 _ rfl rfl zW1).mono ?_; rintro e w6 ⟨g1, c1, g2, c2, rfl, C, P⟩))
  all_goals (try go_wp2_with fail)
  all_goals go_meet
  all_goals exact ⟨rfl, K⟩
 obtain ⟨rfl, K⟩ := hcut
 obtain ⟨w7, B5⟩ : ∃ w7, w7 = wc := ⟨_, rfl⟩
 subst B5
 clear J
 have k7 := conv6H w7 #[.int .u8 98] 1 1 w7.heap.size rfl
 obtain ⟨y, hy⟩ : ∃ y, w7.alloc (.cells #[.int .u8 98] 5 (1, 2)) = y := ⟨_, rfl⟩
 have A5 : Below w7.heap.size w7 y := by rw [← hy]; exact zab Br Lr _
 have A6 : Sl y (some ⟨w7.heap.size, 0, none⟩) 1 1 [98] := sl_lit y [98] 1 (1, 2) _ (by rw [← hy]; exact heap_alloc_last w7 _) rfl (Wf.cons zq Wf.nil) zq
 have A7 : Hid (Calls Tryz.prog 217 #[.pointer (some ⟨a, 0, none⟩), .slice (some ⟨w7.heap.size, 0, none⟩) 1 1] y fun e w' => e = .returned (.tuple #[.int .i64 1, .bool true]) ∧ Hid (S8 w w' a b [cA8, cB8])) := zaa (by
  have hs := K.out.on A5
  obtain ⟨vb, vs, h1, h2, h3⟩ := hs.po
  obtain ⟨bo, bc, rfl⟩ := h1.body.slice
  obtain ⟨so, sc, rfl⟩ := h1.starts.shape
  refine (find_any y a 2 512 bo _ bc so _ sc [cA8, cB8] (h1.pg c8_wf (by rw [c8_sz]; decide)) c8_chk zq (by rw [c8_sz]; decide) _ 1 1 [98] A6).mono ?_
  rintro e w' ⟨r, is, rfl, HB, HQ⟩
  obtain ⟨hf, hi⟩ := HQ.out
  obtain rfl : r = 1 := c8_fnd r hf
  obtain rfl : is = true := hi.2 ⟨cB8, rfl, rfl⟩
  exact ⟨rfl, zaa (hs.on HB.out)⟩)
 clear A5 A6 K
 go_wp2_with (go_at_call 217; refine A7.out.mono ?_; rintro e w8 ⟨rfl, A8⟩; refine Hid.out ?_)
 apply zaa
 clear A7 k7 hy
 go_upto_region 9 with fail
 go_cut [11] from 67 to 72 (fun v u => v = .int .i64 0 ∧ Hid (R8 w u a b))
 case first =>
  go_wp2_with fail
  go_region_with (first
   | (go_at_call 231; refine ((A8.out.on (by first | exact Q.out | exact zac Q.out _ | exact Q.out.drew)).insQ (some ⟨g1, 0, none⟩) (some ⟨g2, 0, none⟩) c1 c2 (by first | exact D.out.1 | exact D.out.1.on Lr (zac Br _) | exact D.out.1.on Lr Br.drew) (by first | exact D.out.2 | exact D.out.2.on Lr (zac Br _) | exact D.out.2.on Lr Br.drew)).mono ?_; rintro e w10 ⟨rfl, A⟩)
   | (go_at_call 14; refine (HV.out _ _ w8 _ rfl rfl zW1).mono ?_; rintro e w9 ⟨g1, c1, g2, c2, rfl, D, Q⟩))
  all_goals (try go_wp2_with fail)
  all_goals go_meet
  all_goals exact ⟨rfl, A⟩
 obtain ⟨rfl, A⟩ := hcut
 obtain ⟨w10, B2⟩ : ∃ w10, w10 = wc := ⟨_, rfl⟩
 subst B2
 clear A8 HV n1 n2
 have A9 : Hid (Calls Tryz.prog 74 #[.pointer (some ⟨a, 0, none⟩)] w10 fun e w' => ∃ g, e = .returned (.slice (some ⟨g, 0, none⟩) 512 512) ∧ Hid (Bk w' g p8) ∧ Hid (R8 w w' a b)) := zaa (by
  obtain ⟨vb, vs, h1⟩ := A.out.po
  obtain ⟨bo, bc, rfl⟩ := h1.body.slice
  obtain ⟨so, sc, rfl⟩ := h1.starts.shape
  obtain ⟨t1, t2⟩ := V.out w10 A.out.be
  refine (bytes_any w10 a 2 512 bo _ bc so _ sc [cA8, cB8] (h1.pg c8_wf (by rw [c8_sz]; decide)) isKd2 pw512 (by rw [c8_sz]; decide) t1 t2 c8_wf).mono ?_
  rintro e w' ⟨g, rfl, _, HK, HB⟩
  exact ⟨g, rfl, HK, zaa (A.out.on HB.out)⟩)
 go_wp2_with (go_at_call 74; refine A9.out.mono ?_; rintro e w11 ⟨g, rfl, R, H⟩; refine Hid.out ?_)
 apply zaa
 clear A9 A
 have B0 : Hid (Calls Tryz.prog 5 #[.slice (some ⟨g, 0, none⟩) 512 512] w11 fun e w' => ∃ o, e = .returned (.tuple #[iP o, .int .i64 0]) ∧ Hid (R8 w w' a b ∧ ∃ vb so sc, PR w' o 2 512 vb (.slice so 2 sc))) := zaa (by
  obtain ⟨t1, t2⟩ := V.out w11 H.out.be
  refine (nopen_1 (some ⟨g, 0, none⟩) 512 512 p8 w11 (R.out.sl p8_len p8_wf zq) t1 t2 p8_eg).mono ?_
  rintro e w' ⟨v, c, rfl, HB, HQ⟩
  rcases HQ.out with ⟨_, _, h⟩ | ⟨o, bo, bn, bc, so, sn, sc, cs, rfl, rfl, _, h4, _, h6⟩
  ·exact absurd ⟨[cA8, cB8], by rw [p8_kd, p8_len]; exact p8_is⟩ h
  ·have := p8_one cs h4
   subst this
   rw [p8_kd, p8_len] at h6
   have B1 := (h6.starts.sl2 (by rw [zak]; decide)).2
   rw [zak] at B1
   obtain rfl : sn = 2 := B1.symm
   exact ⟨o, rfl, zaa ⟨H.out.on HB.out, _, so, sc, h6.row⟩⟩)
 go_wp2_with (go_at_call 5; refine B0.out.mono ?_; rintro e w12 ⟨o, rfl, T⟩; refine Hid.out ?_)
 apply zaa
 clear B0 R H
 obtain ⟨E, vb3, so3, sc3, U⟩ := T.out
 obtain ⟨vb1, vs1, F⟩ := E.po
 obtain ⟨bo1, bc1, rfl⟩ := F.body.slice
 obtain ⟨so1, sc1, rfl⟩ := F.starts.shape
 obtain ⟨vb2, vs2, G⟩ := E.pq
 obtain ⟨bo2, bc2, rfl⟩ := G.ob.shape
 obtain ⟨so2, sc2, rfl⟩ := G.on.shape
 have B6 := zaa (used_row w12 a 2 512 bo1 14 bc1 so1 2 sc1 (by exact F.row) zq zq)
 have B7 := zaa (fun q => lenR_any (w12.drewN q) o 2 512 vb3 so3 2 sc3 (by exact (show PR _ _ _ _ _ _ from zag U (zac Br _))))
 have B8 := zaa (fun q => zcr (w12.drewN q) b 2 512 none 0 0 bo2 _ bc2 so2 1 sc2 0 [] (qB 0 cA8) [0] ((G.pgq (by exact (by decide : ∀ x ∈ qB 0 cA8, 0 ≤ x ∧ x ≤ 255)) zd zd).on (zac Br _)))
 have B9 := zaa E.be
 have k1 := fun u => nmostKey_any 512 u
 have k2 := fun u => nmostValue_any 512 u
 rw [if_pos pw512] at k1 k2
 have K1 := zaa k1
 have K2 := zaa k2
 clear E U F G k1 k2 T
 go_wp2_with (first
  | (go_at_call 222; refine B6.out.mono ?_; rintro e w13 ⟨rfl, q, rfl⟩)
  | (go_at_call 75; refine zad (B7.out q) ?_)
  | (go_at_call 88; refine zad (B8.out q) ?_)
  | (go_at_call 15; refine zad (K1.out _) ?_)
  | (go_at_call 16; refine zad (K2.out _) ?_))
 go_ret
 exact ⟨rfl, zac B9.out _⟩
open Six
theorem owned2B (w : World) (B bk N U n : Nat) (o1 : Option Addr) (c1 lo1 A : Nat) (o2 : Option Addr) (c2 lo2 C : Nat) (cs : List Cl) (h : Bx w B bk [.slice o1 n c1, .slice o2 n c2] N U) (hN : N ≤ 4000000) (hB : B ≤ w.heap.size) (hl : cs.length ≤ 65536) (g1 : Got w lo1 A o1 n c1 cs) (g2 : Got w lo2 C o2 n c2 cs) (b1 : B ≤ lo1) (r12 : A ≤ lo2) (b2 : B ≤ lo2) :
  Calls Tryz.prog 12 #[.pointer (some ⟨bk, 0, none⟩)] w fun e u => e = .returned (.bool true) ∧ Hid (Cf (B ≤ ·) w u) := by
 refine ownedB w B bk N U [(o1, n, c1, cs, lo1, A), (o2, n, c2, cs, lo2, C)] h hN zv hB (fun t ht => ?_) (fun i j s t hs ht D => ?_)
 ·simp only [List.mem_cons, List.not_mem_nil, or_false] at ht
  rcases ht with rfl | rfl
  ·exact ⟨g1, b1, hl⟩
  ·exact ⟨g2, b2, hl⟩
 ·have hj : j < 2 := by have := (zH.1 ht).1; simpa using this
  obtain ⟨rfl, rfl⟩ : i = 0 ∧ j = 1 := zq
  simp at hs ht
  subst hs ht
  exact r12
theorem owned3B (w : World) (B bk N U n : Nat) (o1 : Option Addr) (c1 lo1 A : Nat) (o2 : Option Addr) (c2 lo2 C : Nat) (o3 : Option Addr) (c3 lo3 D : Nat) (cs : List Cl) (h : Bx w B bk [.slice o1 n c1, .slice o2 n c2, .slice o3 n c3] N U) (hN : N ≤ 4000000) (hB : B ≤ w.heap.size) (hl : cs.length ≤ 65536) (g1 : Got w lo1 A o1 n c1 cs) (g2 : Got w lo2 C o2 n c2 cs) (g3 : Got w lo3 D o3 n c3 cs) (b1 : B ≤ lo1) (b2 : B ≤ lo2) (b3 : B ≤ lo3) (r12 : A ≤ lo2) (r13 : A ≤ lo3) (r23 : C ≤ lo3) :
  Calls Tryz.prog 12 #[.pointer (some ⟨bk, 0, none⟩)] w fun e u => e = .returned (.bool true) ∧ Hid (Cf (B ≤ ·) w u) := by
 refine ownedB w B bk N U [(o1, n, c1, cs, lo1, A), (o2, n, c2, cs, lo2, C), (o3, n, c3, cs, lo3, D)] h hN zv hB (fun t ht => ?_) (fun i j s t hs ht E => ?_)
 ·simp only [List.mem_cons, List.not_mem_nil, or_false] at ht
  rcases ht with rfl | rfl | rfl
  ·exact ⟨g1, b1, hl⟩
  ·exact ⟨g2, b2, hl⟩
  ·exact ⟨g3, b3, hl⟩
 ·have hj : j < 3 := by have := (zH.1 ht).1; simpa using this
  have h3 : (i = 0 ∧ j = 1) ∨ (i = 0 ∧ j = 2) ∨ (i = 1 ∧ j = 2) := zq
  rcases h3 with ⟨rfl, rfl⟩ | ⟨rfl, rfl⟩ | ⟨rfl, rfl⟩ <;> (simp at hs ht; subst hs ht; assumption)
theorem Bx.new {w : World} {B bk : Nat} (h : w.heap[bk]? = some (.cells #[.slice none 0 0, .slice none 0 0] 42 (0, 0))) : Bx w B bk [] 0 B := ⟨_, _, [], fun _ => [], Six.box9 h, OwnY.nil _ _, (fun t u ht => by simp at ht), rfl⟩
theorem cf_only {w u : World} {g : Nat} (h : Cf (fun z => z = g ∨ w.heap.size ≤ z) w u) : Cf (· = g) w u := ⟨h.os, h.tape, h.output, h.size, fun k hk hf => h.block k hk (by rintro (e | e); exact hf e; omega)⟩
theorem beh8 : nB ⟨#[98, 101, 104, 105, 110, 100]⟩ = [98, 101, 104, 105, 110, 100] := by decide
end Go.Proofs.YtbkhjeacmmbabaaGreatDoor
