import Derived.Test.YtfgffajgfgifhaaGreatDoorJ46
import Derived.Test.YtfgffajgfgifhaaGreatDoorJ47
namespace Go.Proofs.YtfgffajgfgifhaaGreatDoor
set_option maxRecDepth 100000
set_option maxHeartbeats 8000000
open Go.RowKit
variable {st : Prop}
theorem step_asked (w : World) (K : Nat → Prop) (a : Nat) (G : Nat → Prop) (r : Nat) (X : Nat → Prop) (kb N P : Nat) (k : Int) (n : Nat) (q I : Int) (h1 : ¬ q = 1) (h2 : ¬ q = 2) (h3 : ¬ q = 3) (h4 : ¬ q = 4) (h9 : ¬ q = 9) (ka va qa : Option Addr) (kn kc vn vc qn qc : Nat) (c1 c3 c4 : Int)
  (hA : ∀ y, Below w.heap.size w y → Calls Tryz.prog 39 #[.pointer (some ⟨kb, 0, none⟩), .pointer (some ⟨a, 0, none⟩), .pointer (some ⟨r, 0, none⟩), .agg #[.int .i64 q, .int .i64 I, .slice ka kn kc, .int .i64 c1, .slice va vn vc, .int .i64 c3, .int .i64 c4, .slice qa qn qc]] y (StepK st K a G r X kb N P k n y)) :
  Calls Tryz.prog 8 #[.pointer (some ⟨kb, 0, none⟩), .pointer (some ⟨a, 0, none⟩), .pointer (some ⟨r, 0, none⟩), .agg #[.int .i64 q, .int .i64 I, .slice ka kn kc, .int .i64 c1, .slice va vn vc, .int .i64 c3, .int .i64 c4, .slice qa qn qc]] w (StepK st K a G r X kb N P k n w) := by
 obtain ⟨x, hx⟩ : ∃ x, w.alloc (.cells #[.int .i64 q, .int .i64 I, .slice ka kn kc, .int .i64 c1, .slice va vn vc, .int .i64 c3, .int .i64 c4, .slice qa qn qc] 41) = x := ⟨_, rfl⟩
 have hbx : Below w.heap.size w x := by rw [← hx]; exact zac Br Lr _
 have HO8 : Hid (O8 x w.heap.size (.int .i64 q) (.int .i64 I) (.slice ka kn kc) (.int .i64 c1) (.slice va vn vc) (.int .i64 c3) (.int .i64 c4) (.slice qa qn qc)) := zaa (by rw [← hx]; exact O8.box _ _ _ _ _ _ _ _ _)
 obtain ⟨y, hy⟩ : ∃ y, x.alloc (.cells #[.slice ka kn kc, .int .i64 c1, .slice va vn vc, .int .i64 c3, .int .i64 c4] 39) = y := ⟨_, rfl⟩
 have hby : Below x.heap.size x y := by rw [← hy]; exact zac Br Lr _
 have HWY := zaa (zab hbx Lr hby)
 have HA := zaa (hA y HWY.out)
 obtain ⟨o0, o1, o2, o3, o4, o5, o6, o7⟩ := HO8.out.cells
 have HO8Y := zaa (show O8 y w.heap.size _ _ _ _ _ _ _ _ from zaf HO8.out hby)
 obtain ⟨p0, p1, p2, p3, p4, p5, p6, p7⟩ := HO8Y.out.cells
 clear hA hbx hby
 go_enter Tryz.func8, Tryz.ntmps8
 go_wp2_with (go_at_call 39; refine HA.out.mono ?_; rintro e u ⟨rfl, H1, H2⟩; refine Hid.out ?_)
 apply zaa
 go_wp2
 go_ret
 exact StepK.before HWY.out ⟨rfl, H1, H2⟩
theorem step_all7 (w : World) (K : Nat → Prop) (a : Nat) (G : Nat → Prop) (r : Nat) (X : Nat → Prop) (kb N P : Nat) (k : Int) (n : Nat) (s : Qs) (hP : Pz st w K a G r X kb N P k n s) (hn : pw n) (hkd : isKd k) (ht : Tab w) (h0 : 0 < w.heap.size) (hN : N ≤ 8000000000000) (hQ : P ≤ 1290000000000) (q I : Int) (c : Cl) (ka va qa : Option Addr) (kc vc qc : Nat) (key : List Int)
  (hk : Sl w ka c.key.length kc c.key) (hv : Sl w va c.val.length vc c.val) (hq : Sl w qa key.length qc key) (fk : OutK (fun b => K b ∨ b = r) ka c.key.length) (fv : OutK (fun b => K b ∨ b = r) va c.val.length) (hl : (c.key.length ≤ 140737488351232 ∧ c.val.length ≤ 140737488351232) ∧ key.length ≤ 140737488351232) :
  Calls Tryz.prog 8 #[.pointer (some ⟨kb, 0, none⟩), .pointer (some ⟨a, 0, none⟩), .pointer (some ⟨r, 0, none⟩), .agg #[.int .i64 q, .int .i64 I, .slice ka c.key.length kc, .int .i64 c.kd, .slice va c.val.length vc, .int .i64 c.pg, .int .i64 c.ct, .slice qa key.length qc]] w (StepK st K a G r X kb N P k n w) := by
 by_cases h1 : q = 1
 ·subst h1
  exact (step_ins w K a G r k n s hP.pr hn _ I c ka va kc vc hk hv fk fv hl.1 qa _ qc).mono fun e w' h => h.k hP
 by_cases h2 : q = 2
 ·subst h2
  exact (step_set w K a G r k n s hP.pr hn _ I c ka va kc vc hk hv fk fv hl.1 qa _ qc).mono fun e w' h => h.k hP
 by_cases h3 : q = 3
 ·subst h3
  exact (step_rem w K a G r k n s hP.pr hn _ I ka va qa _ kc _ vc _ qc _ _ _).mono fun e w' h => h.k hP
 by_cases h4 : q = 4
 ·subst h4
  exact (step_tidy w K a G r k n s hP.pr hn _ I ka va qa _ kc _ vc _ qc _ _ _).mono fun e w' h => h.k hP
 by_cases h9 : q = 9
 ·subst h9
  exact step_bytes w K a G r X kb N P k n s hP hn hkd ht h0 hN hQ I ka va qa _ kc _ vc _ qc _ _ _
 refine step_asked w K a G r X kb N P k n q I h1 h2 h3 h4 h9 ka va qa _ kc _ vc _ qc _ _ _ fun y hy => ?_
 have hP' := hP.go hy
 by_cases h5 : q = 5
 ·subst h5
  exact asked_cell y K a G r X kb N P k n s hP' hn hN hQ I ka va qa _ kc _ vc _ qc _ _ _
 by_cases h6 : q = 6
 ·subst h6
  exact asked_find y K a G r X kb N P k n s hP' hn I ka va qa _ kc _ vc _ qc _ _ _ key (hq.on Lr hy) hl.2
 by_cases h7 : q = 7
 ·subst h7
  exact asked_near y K a G r X kb N P k n s hP' hn I ka va qa _ kc _ vc _ qc _ _ _ key (hq.on Lr hy) hl.2
 by_cases h8 : q = 8
 ·subst h8
  exact asked_used y K a G r X kb N P k n s hP' hn hN hQ I ka va qa _ kc _ vc _ qc _ _ _
 exact asked_none y K a G r X kb N P k n s hP' q I h5 h6 h7 h8 ka va qa _ kc _ vc _ qc _ _ _
def Zp (K G : Nat → Prop) (r : Nat) (b : Nat) : Prop := K b ∨ G b ∨ b = r
structure T2 (st : Prop) (w0 w : World) (K : Nat → Prop) (a : Nat) (G : Nat → Prop) (r : Nat) (k : Int) (n : Nat) (s : Qs) (L : Nat → Prop) (b : Nat) (H : Nat → Prop) (t : Nat) (m : Int) (l : Nat) (v : Qs) (X : Nat → Prop) (kb N P : Nat) : Prop where
 p1 : Pr w K a G r k n s
 p2 : Pr w L b H t m l v
 kz : Kz st w X kb N P
 d12 : ∀ i, Zp K G r i → ¬ Zp L H t i
 d1 : ∀ i, X i → ¬ Zp K G r i
 d2 : ∀ i, X i → ¬ Zp L H t i
 l1 : ∀ i, Zp K G r i → w0.heap.size ≤ i
 l2 : ∀ i, Zp L H t i → w0.heap.size ≤ i
 lx : ∀ i, X i → w0.heap.size ≤ i
 be : Below w0.heap.size w0 w
theorem Pr.zlt {w : World} {K G : Nat → Prop} {a r : Nat} {k : Int} {n : Nat} {s : Qs} (h : Pr w K a G r k n s) {i : Nat} (e : Zp K G r i) : i < w.heap.size := by
 rcases e with e | e | rfl
 ·exact h.our.kl i e
 ·exact h.doc.kl i e
 ·exact h.doc.rl
section
variable {w0 w w' : World} {K : Nat → Prop} {a : Nat} {G : Nat → Prop} {r : Nat} {k : Int} {n : Nat} {s : Qs} {L : Nat → Prop} {b : Nat} {H : Nat → Prop} {t : Nat} {m : Int} {l : Nat} {v : Qs} {X : Nat → Prop} {kb N P : Nat}
theorem T2.swap (h : T2 st w0 w K a G r k n s L b H t m l v X kb N P) : T2 st w0 w L b H t m l v K a G r k n s X kb N P := ⟨h.p2, h.p1, h.kz, fun i e f => h.d12 i f e, h.d2, h.d1, h.l2, h.l1, h.lx, h.be⟩
theorem T2.pz (h : T2 st w0 w K a G r k n s L b H t m l v X kb N P) : Pz st w K a G r X kb N P k n s := ⟨h.p1, h.kz, fun i e => ⟨fun f => h.d1 i e (.inl f), fun f => h.d1 i e (.inr (.inl f))⟩, fun e => h.d1 r e (.inr (.inr rfl))⟩
theorem T2.step (h : T2 st w0 w K a G r k n s L b H t m l v X kb N P) {e : Ending} (hs : StepK st K a G r X kb N P k n w e w') : e = .returned (.bool true) ∧ ∃ K' G' s' X' N' P', T2 st w0 w' K' a G' r k n s' L b H t m l v X' kb N' P' ∧ N' ≤ N + 3 ∧ P' ≤ P + 1 := by
 obtain ⟨rfl, H1, H2⟩ := hs
 obtain ⟨s', K', G', X', N', P', q1, q2, q3, q4, q5, q6⟩ := H1.out
 have hc := H2.out
 have hsz := hc.size
 have hb0 := h.be.size
 have hz : ∀ i, Zp K' G' r i → Zp K G r i ∨ w.heap.size ≤ i := fun i e => by
  rcases e with e | e | e
  ·rcases q2 i e with f | f
   ·exact .inl (.inl f)
   ·exact .inr f.1
  ·rcases q3 i e with f | f
   ·exact .inl (.inr (.inl f))
   ·exact .inr f.1
  ·exact .inl (.inr (.inr e))
 have hx : ∀ i, X' i → X i ∨ w.heap.size ≤ i := fun i e => by
  rcases q4 i e with f | f
  ·exact .inl f
  ·exact .inr f.1
 have hF : ∀ i, ((K i ∨ i = r) ∨ X i) → ¬ Zp L H t i := fun i e => by
  rcases e with (e | e) | e
  ·exact h.d12 i (.inl e)
  ·exact h.d12 i (.inr (.inr e))
  ·exact h.d2 i e
 refine ⟨rfl, K', G', s', X', N', P', ⟨q1.pr, h.p2.keep hc (fun i e f => hF i e (.inl f)) (fun i e f => hF i e (.inr (.inl f))) (fun e => hF t e (.inr (.inr rfl))), q1.kz, fun i e f => ?_, fun i e f => ?_, fun i e f => ?_, fun i e => ?_, h.l2, fun i e => ?_, ?_⟩, q5, q6⟩
 ·rcases hz i e with g | g
  ·exact h.d12 i g f
  ·have := h.p2.zlt f
   omega
 ·rcases f with f | f | f
  ·exact (q1.x1 i e).1 f
  ·exact (q1.x1 i e).2 f
  ·subst f
   exact q1.x2 e
 ·rcases hx i e with g | g
  ·exact h.d2 i g f
  ·have := h.p2.zlt f
   omega
 ·rcases hz i e with g | g
  ·exact h.l1 i g
  ·omega
 ·rcases hx i e with g | g
  ·exact h.lx i g
  ·omega
 ·refine h.be.trans (hc.below hb0 (fun i hi e => ?_))
  rcases e with (e | e) | e
  ·have := h.l1 i (.inl e)
   omega
  ·have := h.l1 i (.inr (.inr e))
   omega
  ·have := h.lx i e
   omega
end
def S2 (st : Prop) (w0 w : World) (a r : Nat) (k : Int) (n b t : Nat) (m : Int) (l kb N P : Nat) : Prop := ∃ K G s L H v X, T2 st w0 w K a G r k n s L b H t m l v X kb N P
section
variable {w0 w w' : World} {a r : Nat} {k : Int} {n b t : Nat} {m : Int} {l kb N P : Nat}
theorem S2.swap (h : S2 st w0 w a r k n b t m l kb N P) : S2 st w0 w b t m l a r k n kb N P := by
 obtain ⟨K, G, s, L, H, v, X, h⟩ := h
 exact ⟨L, H, v, K, G, s, X, h.swap⟩
theorem S2.be (h : S2 st w0 w a r k n b t m l kb N P) : Below w0.heap.size w0 w := by
 obtain ⟨K, G, s, L, H, v, X, h⟩ := h
 exact h.be
theorem S2.step (h : S2 st w0 w a r k n b t m l kb N P) (hn : pw n) (hkd : isKd k) (ht : Tab w0) (h0 : 0 < w0.heap.size) (hN : N ≤ 8000000000000) (hQ : P ≤ 1290000000000) (q I : Int) (c : Cl) (ka va qa : Option Addr) (kc vc qc : Nat) (key : List Int)
  (hk : Sl w0 ka c.key.length kc c.key) (hv : Sl w0 va c.val.length vc c.val) (hq : Sl w0 qa key.length qc key) (hl : (c.key.length ≤ 140737488351232 ∧ c.val.length ≤ 140737488351232) ∧ key.length ≤ 140737488351232) :
  Calls Tryz.prog 8 #[.pointer (some ⟨kb, 0, none⟩), .pointer (some ⟨a, 0, none⟩), .pointer (some ⟨r, 0, none⟩), .agg #[.int .i64 q, .int .i64 I, .slice ka c.key.length kc, .int .i64 c.kd, .slice va c.val.length vc, .int .i64 c.pg, .int .i64 c.ct, .slice qa key.length qc]] w fun e w' => e = .returned (.bool true) ∧ Hid (∃ N' P', S2 st w0 w' a r k n b t m l kb N' P' ∧ N' ≤ N + 3 ∧ P' ≤ P + 1) := by
 obtain ⟨K, G, s, L, H, v, X, h⟩ := h
 have hlo : ∀ i, (K i ∨ i = r) → w0.heap.size ≤ i := fun i e => h.l1 i (e.elim .inl fun f => .inr (.inr f))
 refine (step_all7 w K a G r X kb N P k n s h.pz hn hkd (ht.on h.be h0) (zO h0 h.be.size) hN hQ q I c ka va qa kc vc qc key (hk.on Lr h.be) (hv.on Lr h.be) (hq.on Lr h.be) (hk.outk hlo h.be) (hv.outk hlo h.be) hl).mono ?_
 intro e w' hs
 obtain ⟨rfl, K', G', s', X', N', P', h1, h2, h3⟩ := h.step hs
 exact ⟨rfl, zaa ⟨N', P', ⟨K', G', s', L, H, v, X', h1⟩, h2, h3⟩⟩
theorem S2.step0 (h : S2 st w0 w a r k n b t m l kb N P) (hn : pw n) (hkd : isKd k) (ht : Tab w0) (h0 : 0 < w0.heap.size) (hN : N ≤ 8000000000000) (hQ : P ≤ 1290000000000) (q : Int) :
  Calls Tryz.prog 8 #[.pointer (some ⟨kb, 0, none⟩), .pointer (some ⟨a, 0, none⟩), .pointer (some ⟨r, 0, none⟩), .agg #[.int .i64 q, .int .i64 0, .slice none 0 0, .int .i64 0, .slice none 0 0, .int .i64 0, .int .i64 0, .slice none 0 0]] w fun e w' => e = .returned (.bool true) ∧ Hid (∃ N' P', S2 st w0 w' a r k n b t m l kb N' P' ∧ N' ≤ N + 3 ∧ P' ≤ P + 1) :=
 S2.step h hn hkd ht h0 hN hQ q 0 ⟨[], 0, [], 0, 0⟩ none none none 0 0 0 [] (Sl.nil_any _ _ _ fun _ => rfl) (Sl.nil_any _ _ _ fun _ => rfl) (Sl.nil_any _ _ _ fun _ => rfl) ⟨⟨by simp, by simp⟩, by simp⟩
theorem S2.stands (h : S2 True w0 w a r k n b t m l kb N P) (hP : P ≤ 1300000000000) :
  Calls Tryz.prog 9 #[.pointer (some ⟨kb, 0, none⟩)] w fun e w' => e = .returned (.bool true) ∧ Hid (S2 False w0 w' a r k n b t m l kb N P) := by
 obtain ⟨K, G, s, L, H, v, X, h⟩ := h
 refine (h.kz.stands hP).mono ?_
 rintro e w' ⟨rfl, HK, HC⟩
 have hc := HC.out
 refine ⟨rfl, zaa ⟨K, G, s, L, H, v, X, ⟨h.p1.keep hc (fun i e f => h.d1 i e (.inl f)) (fun i e f => h.d1 i e (.inr (.inl f))) (fun e => h.d1 r e (.inr (.inr rfl))), h.p2.keep hc (fun i e f => h.d2 i e (.inl f)) (fun i e f => h.d2 i e (.inr (.inl f))) (fun e => h.d2 t e (.inr (.inr rfl))), HK.out, h.d12, h.d1, h.d2, h.l1, h.l2, h.lx, h.be.trans (hc.below h.be.size (fun i hi e => ?_))⟩⟩⟩
 have := h.lx i e
 omega
end
theorem insert_end (w : World) (B a : Nat) (k : Int) (n : Nat) (po : Option Addr) (pn pc : Nat) (bo : Option Addr) (bn bc : Nat) (so : Option Addr) (sn sc : Nat) (P body : List Int) (st : List Nat) (cs : List Cl) (hPO : PO w B a k n po pn pc (.slice bo bn bc) (.slice so sn sc) 0 P body st) (hl : LayQ k P cs body st) (hwf : Wf body) (hbb : body.length ≤ 65536) (hB : B ≤ w.heap.size)
  (c : Cl) (ka va : Option Addr) (kc vc : Nat) (hk : Sl w ka c.key.length kc c.key) (hv : Sl w va c.val.length vc c.val) (hm : mayP k n c) (hn : pw n) (hr : Rs (cs ++ [c])) (hno : c.key.take P.length ≠ P) (hfit : szQ k (shP k (cs ++ [c])).length (cs ++ [c]) ≤ n) (t : Nat) (hsn : sn = t + 1) :
  Calls Tryz.prog 10 #[.pointer (some ⟨a, 0, none⟩), .int .i64 (sn : Int), .agg #[.slice ka c.key.length kc, .int .i64 c.kd, .slice va c.val.length vc, .int .i64 c.pg, .int .i64 c.ct]] w fun e w' => LayTo B a k n (cs ++ [c]) w e w' := by
 obtain ⟨x, hx⟩ : ∃ x, w.alloc (.cells #[.slice ka c.key.length kc, .int .i64 c.kd, .slice va c.val.length vc, .int .i64 c.pg, .int .i64 c.ct] 39) = x := ⟨_, rfl⟩
 have hbx : Below w.heap.size w x := by rw [← hx]; exact zac Br Lr _
 have hc5 : C5 x w.heap.size (.slice ka c.key.length kc) (.int .i64 c.kd) (.slice va c.val.length vc) (.int .i64 c.pg) (.int .i64 c.ct) := by rw [← hx]; exact C5.box _ _ _ _ _ _
 obtain ⟨z0, z1, z2, z3, z4⟩ := hc5.cells
 have hsl : st.length = sn := (hPO.on.len).symm
 have hfew : sn ≤ 65536 := by
  have h1 := zal k (shP k (cs ++ [c])).length (cs ++ [c])
  have h2 := hl.len
  have h3 := zai hn
  rw [zG] at h1
  omega
 have HPT := zaa (put_end x B a k n po pn pc bo bn bc so sn sc P body st cs (hPO.go hbx) hl hwf hbb (zN hB hbx.size) c ka va kc vc (hk.on Lr hbx) (hv.on Lr hbx) hm hn hr hno hfit t hsn)
 have HLN := zaa (zba x a k n po pn pc bo bn bc so sn sc 0 P body st ((hPO.pgq hwf (by omega) (by omega)).on hbx))
 have HBX := zaa hbx
 clear hPO hl hwf hk hv hm hn hr hno hfit hbx hc5 hsl hsn
 go_enter Tryz.func10, Tryz.ntmps10
 go_wp2_with (first | (go_at_call 26; refine zae HLN.out ?_) | (go_at_call 43; refine HPT.out.mono ?_; rintro e w2 ⟨rfl, HC2, HP2⟩))
 go_ret
 exact ⟨rfl, zaa ((Cf.of_below HBX.out).go HC2.out), HP2⟩
def cX : Cl := ⟨[97, 98], 1, [120], 0, 0⟩
def cY : Cl := ⟨[97, 99], 1, [121, 122], 0, 0⟩
def cZ : Cl := ⟨[98], 1, [], 0, 0⟩
theorem l2_wf : ∀ c ∈ [cX, cY], c.Wf := by
 intro c hc
 simp only [List.mem_cons, List.not_mem_nil, or_false] at hc
 rcases hc with rfl | rfl
 ·exact ⟨Wf.cons (by omega) (Wf.cons (by omega) Wf.nil), Wf.cons (by omega) Wf.nil⟩
 ·exact ⟨Wf.cons (by omega) (Wf.cons (by omega) Wf.nil), Wf.cons (by omega) (Wf.cons (by omega) Wf.nil)⟩
theorem l3_wf : ∀ c ∈ [cX, cY] ++ [cZ], c.Wf := by
 intro c hc
 rcases List.mem_append.1 hc with h | h
 ·exact l2_wf c h
 ·simp at h
  subst h
  exact ⟨Wf.cons (by omega) Wf.nil, Wf.nil⟩
theorem l2_chk : chk 2 512 none [cX, cY] = 0 := by decide
theorem l3_chk : chk 2 512 none ([cX, cY] ++ [cZ]) = 0 := by decide
theorem l2_pre : shP 2 [cX, cY] = [97] := by decide
theorem l2_sz : szQ 2 (shP 2 [cX, cY]).length [cX, cY] = 26 := by decide
theorem l3_sz : szQ 2 (shP 2 ([cX, cY] ++ [cZ])).length ([cX, cY] ++ [cZ]) ≤ 512 := by decide
theorem cZ_may : mayP 2 512 cZ := by decide
theorem cZ_no : cZ.key.take (shP 2 [cX, cY]).length ≠ shP 2 [cX, cY] := by decide
theorem pw512 : pw 512 := by decide
theorem isKd2 : isKd 2 := by decide
theorem l2_enc : encQ 2 512 [cX, cY] = 0 := by
 unfold encQ
 rw [if_pos ⟨isKd2, pw512⟩, if_pos l2_chk, if_neg (by rw [l2_sz]; decide)]
def pB : List Int := pkB 2 512 [cX, cY]
theorem pB_is : IsQ 2 512 [cX, cY] pB := ⟨isKd2, pw512, l2_chk, by rw [l2_sz]; decide, rfl⟩
theorem pB_len : pB.length = 512 := (zcg pB_is).2.1
theorem pB_kd : pB.getD 0 0 = 2 := (zcg pB_is).2.2
theorem l2_fit : ∀ c ∈ [cX, cY], c.fit := chk_fit (n := 512) l2_chk pw512
theorem l3_fit : ∀ c ∈ [cX, cY] ++ [cZ], c.fit := chk_fit (n := 512) l3_chk pw512
theorem pB_wf : Wf pB := pkB_wf (by omega) (fun c hc => ⟨l2_wf c hc, l2_fit c hc⟩)
theorem pB_one (cs : List Cl) (h : IsQ (pB.getD 0 0) pB.length cs pB) : cs = [cX, cY] := (h.one pB_is).2.2
theorem pB_head : ∃ U : List Int, pB = [2, 2, 0, 2, 0, 1, 97, 0, 11, 0, 16] ++ U := by
 obtain ⟨U, _, h⟩ := pkB_split 2 512 [cX, cY]
 have e : pB = pkL 2 512 (shP 2 [cX, cY]) [cX, cY] ++ U := h
 rw [l2_pre] at e
 have e1 : sloB (qst ([97] : List Int).length (whl 2) (6 + ([97] : List Int).length + 2 * [cX, cY].length) [cX, cY]) = [0, 11, 0, 16] := by decide
 have e2 : fB 2 (([cX, cY] : List Cl).length : Int) = [0, 2] := by decide
 have e3 : fB 2 (([97] : List Int).length : Int) = [0, 1] := by decide
 unfold pkL at e
 rw [e1, e2, e3] at e
 exact ⟨_, e⟩
theorem pB_9 : pB.getD 9 0 = 0 ∧ pB.getD 10 0 = 16 := by
 obtain ⟨U, h⟩ := pB_head
 rw [h]
 exact ⟨rfl, rfl⟩
theorem fnd_B (r : Nat) (h : Fnd ([cX, cY] ++ [cZ]) [97, 99] r) : r = 1 := by
 rcases Nat.lt_trichotomy r 1 with h0 | h0 | h0
 ·exact absurd (show kl cX.key [97, 99] by decide) (h.hi 0 cX (by omega) rfl)
 ·exact h0
 ·exact absurd (h.lo 1 cY h0 rfl) (by decide)
theorem sl_lit (u : World) (C : List Int) (n : Nat) (fr : Nat × Nat) (g : Nat) (h : u.heap[g]? = some (.cells (By C).toArray 5 fr)) (hn : C.length = n) (hw : Wf C) (hb : n ≤ 65536) : Sl u (some ⟨g, 0, none⟩) n n C := by
 refine ⟨hn, Lr, by omega, hw, (by intro h; cases h), .inr ⟨g, 0, rfl, zag h, fun i hi => ?_⟩⟩
 rw [Nat.zero_add, cell_of_row _ _ i _ _ _ h]
 simp [By, List.getD, zI (show i < C.length by omega)]
theorem slc_two {u : World} {g : Nat} {c d : Cl} {k1 v1 k2 v2 : Option Addr} {kc1 vc1 kc2 vc2 : Nat} (h : u.heap[g]? = some (.cells #[.slice k1 c.key.length kc1, .int .i64 c.kd, .slice v1 c.val.length vc1, .int .i64 c.pg, .int .i64 c.ct, .slice k2 d.key.length kc2, .int .i64 d.kd, .slice v2 d.val.length vc2, .int .i64 d.pg, .int .i64 d.ct] 39 (0, 0)))
  (h1 : Sl u k1 c.key.length kc1 c.key) (h2 : Sl u v1 c.val.length vc1 c.val) (h3 : Sl u k2 d.key.length kc2 d.key) (h4 : Sl u v2 d.val.length vc2 d.val) : SlC u (some ⟨g, 0, none⟩) 2 2 [c, d] := by
 refine ⟨rfl, Lr, by omega, (by intro h; cases h), .inr ⟨g, 0, rfl, zag h, fun i x hx => ?_⟩⟩
 have hi : i = 0 ∨ i = 1 := by have := (zH.1 hx).1; simp at this; omega
 rcases hi with rfl | rfl
 ·simp only [List.getElem?_cons_zero, Option.some.injEq] at hx
  subst hx
  exact ⟨k1, kc1, v1, vc1, by rw [cell_of_row _ _ _ _ _ _ h]; rfl, by rw [cell_of_row _ _ _ _ _ _ h]; rfl, by rw [cell_of_row _ _ _ _ _ _ h]; rfl, by rw [cell_of_row _ _ _ _ _ _ h]; rfl, by rw [cell_of_row _ _ _ _ _ _ h]; rfl, h1, h2⟩
 ·simp only [List.getElem?_cons_succ, List.getElem?_cons_zero, Option.some.injEq] at hx
  subst hx
  exact ⟨k2, kc2, v2, vc2, by rw [cell_of_row _ _ _ _ _ _ h]; rfl, by rw [cell_of_row _ _ _ _ _ _ h]; rfl, by rw [cell_of_row _ _ _ _ _ _ h]; rfl, by rw [cell_of_row _ _ _ _ _ _ h]; rfl, by rw [cell_of_row _ _ _ _ _ _ h]; rfl, h3, h4⟩
structure Lv (w u : World) (s : Nat) : Prop where
 be : Below w.heap.size w u
 c : SlC u (some ⟨s + 4, 0, none⟩) 2 2 [cX, cY]
theorem Lv.on {w u u' : World} {s : Nat} (h : Lv w u s) (hb : Below u.heap.size u u') : Lv w u' s := ⟨zab h.be Lr hb, h.c.on hb⟩
theorem live_any (w : World) (ht : Tab w) (h0 : 0 < w.heap.size) : Calls Tryz.prog 5 #[] w fun e w' => e = .returned (.bool true) ∧ Below w.heap.size w w' := by
 have HT := zaa ht
 obtain ⟨s, hs⟩ : ∃ s, w.heap.size = s := ⟨_, rfl⟩
 have k1 := conv6H w #[.int .u8 97, .int .u8 98] 2 2 s hs
 have k2 := fun X => conv6H (w.alloc X) #[.int .u8 120] 1 1 (s + 1) (by rw [← hs]; simp)
 have k3 := fun X Y => conv6H ((w.alloc X).alloc Y) #[.int .u8 97, .int .u8 99] 2 2 (s + 2) (by rw [← hs]; simp)
 have k4 := fun X Y Z => conv6H (((w.alloc X).alloc Y).alloc Z) #[.int .u8 121, .int .u8 122] 2 2 (s + 3) (by rw [← hs]; simp)
 clear ht
 go_enter Tryz.func5, Tryz.ntmps5
 go_upto_region 2 with fail
 obtain ⟨x, hx⟩ : ∃ x, (((((w.alloc (.cells #[.int .u8 97, .int .u8 98] 5 (2, 3))).alloc (.cells #[.int .u8 120] 5 (1, 2))).alloc (.cells #[.int .u8 97, .int .u8 99] 5 (2, 3))).alloc (.cells #[.int .u8 121, .int .u8 122] 5 (2, 3))).alloc (.cells #[.slice (some ⟨s, 0, none⟩) 2 2, .int .i64 1, .slice (some ⟨s + 1, 0, none⟩) 1 1, .int .i64 0, .int .i64 0, .slice (some ⟨s + 2, 0, none⟩) 2 2, .int .i64 1, .slice (some ⟨s + 3, 0, none⟩) 2 2, .int .i64 0, .int .i64 0] 39)) = x := ⟨_, rfl⟩
 have HL0 : Hid (Lv w x s) := by
  have z1 : (w.alloc (.cells #[.int .u8 97, .int .u8 98] 5 (2, 3))).heap.size = s + 1 := by rw [← hs]; simp
  have z2 : ((w.alloc (.cells #[.int .u8 97, .int .u8 98] 5 (2, 3))).alloc (.cells #[.int .u8 120] 5 (1, 2))).heap.size = s + 2 := by rw [← hs]; simp
  have z3 : (((w.alloc (.cells #[.int .u8 97, .int .u8 98] 5 (2, 3))).alloc (.cells #[.int .u8 120] 5 (1, 2))).alloc (.cells #[.int .u8 97, .int .u8 99] 5 (2, 3))).heap.size = s + 3 := by rw [← hs]; simp
  have z4 : ((((w.alloc (.cells #[.int .u8 97, .int .u8 98] 5 (2, 3))).alloc (.cells #[.int .u8 120] 5 (1, 2))).alloc (.cells #[.int .u8 97, .int .u8 99] 5 (2, 3))).alloc (.cells #[.int .u8 121, .int .u8 122] 5 (2, 3))).heap.size = s + 4 := by rw [← hs]; simp
  have e0 : x.heap[s]? = some (.cells (By [97, 98]).toArray 5 (2, 3)) := by
   rw [← hx]
   refine (Below.heap_alloc _ _ _ (by rw [z4]; omega)).trans ((Below.heap_alloc _ _ _ (by rw [z3]; omega)).trans ((Below.heap_alloc _ _ _ (by rw [z2]; omega)).trans ((Below.heap_alloc _ _ _ (by rw [z1]; omega)).trans ?_)))
   rw [← hs]
   exact heap_alloc_last w _
  have e1 : x.heap[s + 1]? = some (.cells (By [120]).toArray 5 (1, 2)) := by
   rw [← hx]
   refine (Below.heap_alloc _ _ _ (by rw [z4]; omega)).trans ((Below.heap_alloc _ _ _ (by rw [z3]; omega)).trans ((Below.heap_alloc _ _ _ (by rw [z2]; omega)).trans ?_))
   rw [← z1]
   exact heap_alloc_last _ _
  have e2 : x.heap[s + 2]? = some (.cells (By [97, 99]).toArray 5 (2, 3)) := by
   rw [← hx]
   refine (Below.heap_alloc _ _ _ (by rw [z4]; omega)).trans ((Below.heap_alloc _ _ _ (by rw [z3]; omega)).trans ?_)
   rw [← z2]
   exact heap_alloc_last _ _
  have e3 : x.heap[s + 3]? = some (.cells (By [121, 122]).toArray 5 (2, 3)) := by
   rw [← hx]
   refine (Below.heap_alloc _ _ _ (by rw [z4]; omega)).trans ?_
   rw [← z3]
   exact heap_alloc_last _ _
  have e4 : x.heap[s + 4]? = some (.cells #[.slice (some ⟨s, 0, none⟩) cX.key.length 2, .int .i64 cX.kd, .slice (some ⟨s + 1, 0, none⟩) cX.val.length 1, .int .i64 cX.pg, .int .i64 cX.ct, .slice (some ⟨s + 2, 0, none⟩) cY.key.length 2, .int .i64 cY.kd, .slice (some ⟨s + 3, 0, none⟩) cY.val.length 2, .int .i64 cY.pg, .int .i64 cY.ct] 39 (0, 0)) := by
   rw [← hx, ← z4]
   exact heap_alloc_last _ _
  refine zaa ⟨?_, slc_two e4 (sl_lit x [97, 98] 2 (2, 3) s e0 rfl (Wf.cons (by omega) (Wf.cons (by omega) Wf.nil)) (by omega)) (sl_lit x [120] 1 (1, 2) (s + 1) e1 rfl (Wf.cons (by omega) Wf.nil) (by omega)) (sl_lit x [97, 99] 2 (2, 3) (s + 2) e2 rfl (Wf.cons (by omega) (Wf.cons (by omega) Wf.nil)) (by omega)) (sl_lit x [121, 122] 2 (2, 3) (s + 3) e3 rfl (Wf.cons (by omega) (Wf.cons (by omega) Wf.nil)) (by omega))⟩
  rw [← hx]
  exact zac (zac (zac (zac (zac Br Lr _) Lr _) Lr _) Lr _) Lr _
 rw [hx]
 have HTW : Hid (∀ u, Below w.heap.size w u → Tab u ∧ 0 < u.heap.size) := zaa fun u hu => ⟨HT.out.on hu h0, zO h0 hu.size⟩
 clear k1 k2 k3 k4 hx hs
 have HZ := zaa (psize_any 2 (some ⟨s + 4, 0, none⟩) 2 2 [cX, cY] x HL0.out.c (by rw [l2_sz]; decide))
 rw [l2_sz] at HZ
 go_wp2_with (go_at_call 14; refine HZ.out.mono ?_; rintro e w1 ⟨rfl, HB1⟩; refine Hid.out ?_)
 apply zaa
 have HL1 := zaa (HL0.out.on HB1.out)
 clear HZ HL0 HB1
 have HE := zaa (encodeQ_any 2 512 (some ⟨s + 4, 0, none⟩) 2 2 [cX, cY] w1 HL1.out.c (by rw [l2_sz]; decide) (HTW.out _ HL1.out.be).1 (HTW.out _ HL1.out.be).2)
 go_wp2_with (go_at_call 24; refine HE.out.mono ?_; rintro e w2 ⟨ao, m, cap, c, rfl, HB2, HQ2⟩; refine Hid.out ?_)
 apply zaa
 obtain ⟨hc, hq⟩ := HQ2.out
 rw [l2_enc] at hc
 subst hc
 obtain ⟨gB, rfl, rfl, rfl, hbk⟩ : ∃ g, ao = some ⟨g, 0, none⟩ ∧ m = 512 ∧ cap = 512 ∧ Bk w2 g pB := by
  rcases hq with ⟨h, _⟩ | ⟨_, g, h1, h2, h3, h4, h5⟩
  ·exact absurd rfl h
  ·exact ⟨g, h1, h2, h3, h5⟩
 have HBK2 := zaa hbk
 have HL2 := zaa (HL1.out.on HB2.out)
 clear HE HQ2 hq hbk HB2 HL1
 have HD := zaa (decodeQ_any (some ⟨gB, 0, none⟩) 512 512 pB w2 (HBK2.out.sl pB_len pB_wf (by omega)) (HTW.out _ HL2.out.be).1 (HTW.out _ HL2.out.be).2)
 go_wp2_with (go_at_call 22; refine HD.out.mono ?_; rintro e w3 ⟨dk, dao, dn, dcap, dc, rfl, HB3, HQ3⟩; refine Hid.out ?_)
 apply zaa
 obtain ⟨gD, rfl, rfl, rfl, rfl, rfl, hsd⟩ : ∃ g, dk = 2 ∧ dao = some ⟨g, 0, none⟩ ∧ dn = 2 ∧ dcap = 2 ∧ dc = 0 ∧ SlC w3 (some ⟨g, 0, none⟩) 2 2 [cX, cY] := by
  rcases HQ3.out with ⟨_, _, _, _, _, h⟩ | ⟨cs, g, h1, h2, h3, h4, h5, h6, h7, _, h9, hA⟩
  ·exact absurd ⟨[cX, cY], pB_is.at⟩ h
  ·have := pB_one cs h6
   subst this
   exact ⟨g, by rw [h2, pB_kd], h3, h4, h5, h1, decQ_slc h9 hA h7 l2_fit (by simp)⟩
 have HSD3 := zaa hsd
 have HL3 := zaa (HL2.out.on HB3.out)
 have HBK3 := zaa (HBK2.out.on HB3.out)
 clear HD HQ3 HL2 HBK2 HB3 hsd
 have HO := zaa (openQ_any (some ⟨gB, 0, none⟩) 512 512 pB w3 (HBK3.out.sl pB_len pB_wf (by omega)) (HTW.out _ HL3.out.be).1 (HTW.out _ HL3.out.be).2)
 go_wp2_with (go_at_call 19; refine HO.out.mono ?_; rintro e w4 ⟨po, pk, rfl, HB4, HQ4⟩; refine Hid.out ?_)
 apply zaa
 obtain ⟨a, qo, qn, qc, vb, vs, rfl, rfl, hpo⟩ : ∃ a qo qn qc vb vs, po = some ⟨a, 0, none⟩ ∧ pk = 0 ∧ PO w4 w3.heap.size a 2 512 qo qn qc vb vs 0 (shP 2 [cX, cY]) (qbd (shP 2 [cX, cY]).length (whl 2) [cX, cY]) (qst (shP 2 [cX, cY]).length (whl 2) 0 [cX, cY]) := by
  rcases HQ4.out with ⟨_, _, h⟩ | ⟨a, qo, qn, qc, vb, vs, cs, h1, h2, h3, h4, h5⟩
  ·exact absurd ⟨[cX, cY], pB_is.at⟩ h
  ·have := pB_one cs h3
   subst this
   rw [pB_kd, pB_len] at h5
   exact ⟨a, qo, qn, qc, vb, vs, h1, h2, h5⟩
 have HL4 := zaa (HL3.out.on HB4.out)
 have HBK4 := zaa (HBK3.out.on HB4.out)
 have HSD4 := zaa (HSD3.out.on HB4.out)
 have HPO4 := zaa hpo
 have HAS : Hid (gB < a ∧ w.heap.size ≤ a ∧ w.heap.size ≤ w3.heap.size) := zaa (by
  have h1 := zag HBK3.out
  have h2 := hpo.ha
  have h3 := HL3.out.be.size
  omega)
 obtain ⟨B, hB⟩ : ∃ B, w3.heap.size = B := ⟨_, rfl⟩
 rw [hB] at HPO4 HAS
 have HBB : Hid (B ≤ w4.heap.size) := zaa (by rw [← hB]; exact HB4.out.size)
 clear HO HQ4 HL3 HBK3 HB4 HSD3 hpo hB
 have HSA := zaa (sameAll_self (some ⟨s + 4, 0, none⟩) (some ⟨gD, 0, none⟩) 2 2 2 [cX, cY] w4 HL4.out.c HSD4.out)
 go_wp2_with (go_at_call 23; refine HSA.out.mono ?_; rintro e w5 ⟨rfl, HB5⟩; refine Hid.out ?_)
 apply zaa
 have HL5 := zaa (HL4.out.on HB5.out)
 have HBK5 := zaa (HBK4.out.on HB5.out)
 have HPO5 := zaa (HPO4.out.go HB5.out)
 have HBB5 : Hid (B ≤ w5.heap.size) := zaa (zN HBB.out HB5.out.size)
 clear HSA HL4 HBK4 HSD4 HPO4 HB5 HBB
 have k5 := conv6H w5 #[.int .u8 98] 1 1 w5.heap.size rfl
 obtain ⟨y, hy⟩ : ∃ y, w5.alloc (.cells #[.int .u8 98] 5 (1, 2)) = y := ⟨_, rfl⟩
 have hby : Below w5.heap.size w5 y := by rw [← hy]; exact zac Br Lr _
 have hsk : Sl y (some ⟨w5.heap.size, 0, none⟩) 1 1 [98] := sl_lit y [98] 1 (1, 2) _ (by rw [← hy]; exact heap_alloc_last w5 _) rfl (Wf.cons (by omega) Wf.nil) (by omega)
 obtain ⟨bo, bn, bc, so, sn, sc, hvb, hvs⟩ : ∃ bo bn bc so sn sc, vb = .slice bo bn bc ∧ vs = .slice so sn sc := by
  obtain ⟨bo, bc, h1⟩ := HPO5.out.ob.shape
  obtain ⟨so, sc, h2⟩ := HPO5.out.on.shape
  exact ⟨bo, _, bc, so, _, sc, h1, h2⟩
 subst hvb hvs
 have hsn : sn = 2 := by
  rw [HPO5.out.on.len, zar]
  rfl
 subst hsn
 have HI := zaa (insert_end y B a 2 512 qo qn qc bo bn bc so 2 sc _ _ _ [cX, cY] (HPO5.out.go hby) (layQ_of (zbe 2 [cX, cY]) l2_fit) (qbd_wf _ _ _ fun c hc => ⟨l2_wf c hc, l2_fit c hc⟩) (by decide) (zN HBB5.out hby.size) cZ (some ⟨w5.heap.size, 0, none⟩) none 1 0 hsk (Sl.nil_any _ _ _ fun _ => rfl) cZ_may pw512 (chk_rs l3_chk) cZ_no l3_sz 1 rfl)
 have HLY := zaa (HL5.out.on hby)
 have HBKY := zaa (HBK5.out.on hby)
 clear hsk HPO5 HL5 HBK5
 go_wp2_with (go_at_call 10; refine HI.out.mono ?_; rintro e w6 ⟨rfl, HC6, HP6⟩; refine Hid.out ?_)
 apply zaa
 have HBE6 : Hid (Below w.heap.size w w6) := zaa (HLY.out.be.trans (HC6.out.below HLY.out.be.size (by have := HAS.out; intro i hi e; omega)))
 have HBK6 : Hid (Bk w6 gB pB) := zaa (HBKY.out.cf HC6.out (by have := HAS.out; omega))
 obtain ⟨ro, rn, rc, co, cn, cc, to_, tn, tc, hp6⟩ := HP6.out
 have htn : tn = 3 := by
  rw [hp6.on.len, zar]
  rfl
 subst htn
 have hwf3 := qbd_wf (shP 2 ([cX, cY] ++ [cZ])).length (whl 2) ([cX, cY] ++ [cZ]) fun c hc => ⟨l3_wf c hc, l3_fit c hc⟩
 have hln3 : (qbd (shP 2 ([cX, cY] ++ [cZ])).length (whl 2) ([cX, cY] ++ [cZ])).length ≤ 65536 := by decide
 have hpg6 := hp6.pgq hwf3 (by omega) (by rw [zar]; decide)
 have hcn : cn ≤ 65536 := by rw [hp6.ob.len]; exact hln3
 have HPG6 := zaa hpg6
 clear HI HP6 HC6 hp6 hwf3 hln3 hpg6 HLY HBKY k5 hy hby HBB5 HAS
 have k6 := conv6H w6 #[.int .u8 97, .int .u8 99] 2 2 w6.heap.size rfl
 obtain ⟨z, hz⟩ : ∃ z, w6.alloc (.cells #[.int .u8 97, .int .u8 99] 5 (2, 3)) = z := ⟨_, rfl⟩
 have hbz : Below w6.heap.size w6 z := by rw [← hz]; exact zac Br Lr _
 have hsz : Sl z (some ⟨w6.heap.size, 0, none⟩) 2 2 [97, 99] := sl_lit z [97, 99] 2 (2, 3) _ (by rw [← hz]; exact heap_alloc_last w6 _) rfl (Wf.cons (by omega) (Wf.cons (by omega) Wf.nil)) (by omega)
 have HF := zaa (findQ_any z a 2 512 ro rn rc co cn cc to_ 3 tc 0 _ _ _ ([cX, cY] ++ [cZ]) (HPG6.out.on hbz) (layQ_of (zbe 2 _) l3_fit) (chk_rs l3_chk) (by omega) (by omega) (some ⟨w6.heap.size, 0, none⟩) 2 2 [97, 99] hsz)
 have HBZ := zaa hbz
 clear hbz hsz
 go_wp2_with (go_at_call 25; refine HF.out.mono ?_; rintro e w7 ⟨r, is, rfl, HB7, HQ7⟩; refine Hid.out ?_)
 apply zaa
 obtain ⟨hf, hi⟩ := HQ7.out
 obtain rfl : r = 1 := fnd_B r hf
 obtain rfl : is = true := hi.2 ⟨cY, rfl, rfl⟩
 have HB67 : Hid (Below w6.heap.size w6 w7) := zaa (zab HBZ.out Lr HB7.out)
 have HBE7 : Hid (Below w.heap.size w w7) := zaa (zab HBE6.out Lr HB67.out)
 have hbk7 := HBK6.out.on HB67.out
 have HLN := zaa (zba w7 a 2 512 ro rn rc co cn cc to_ 3 tc 0 _ _ _ (HPG6.out.on HB67.out))
 have c9 := hbk7.cell 9 (by rw [pB_len]; omega)
 have cA := hbk7.cell 10 (by rw [pB_len]; omega)
 rw [pB_9.1] at c9
 rw [pB_9.2] at cA
 clear HF HQ7 hf hi HBK6 HPG6 HB7 HB67 HBZ hbk7 k6 hz HBE6
 go_wp2_with (go_at_call 26; refine zae HLN.out ?_)
 go_ret
 exact ⟨rfl, HBE7.out⟩
end Go.Proofs.YtfgffajgfgifhaaGreatDoor
