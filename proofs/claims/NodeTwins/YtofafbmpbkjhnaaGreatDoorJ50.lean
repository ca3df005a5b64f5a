import Derived.Test.YtofafbmpbkjhnaaGreatDoorJ49
import Derived.Handy
import Derived.Deep.MidRow
namespace Go.Proofs.YtofafbmpbkjhnaaGreatDoor
set_option maxRecDepth 100000
set_option maxHeartbeats 4000000
open Go.RowKit
def zbc (A : An) (Q : World → Prop) (w : World) (e : Ending) (w' : World) : Prop :=
 ∃ ko kc vo vc, e = .returned (.agg #[.int .i64 A.e, .int .i64 A.i, .bool A.is, .slice ko A.c.key.length kc, .int .i64 A.c.kd, .slice vo A.c.val.length vc, .int .i64 A.c.pg, .int .i64 A.c.ct]) ∧ Hid (Sl w' ko A.c.key.length kc A.c.key ∧ Sl w' vo A.c.val.length vc A.c.val ∧ (∀ p, ko = some p → w.heap.size ≤ p.block) ∧ (∀ p, vo = some p → w.heap.size ≤ p.block)) ∧ Hid (Q w')
structure Tw3 (w y : World) (s : Nat) (x0 x1 x2 x3 x4 x5 x6 x7 : Value) : Prop where
 be : Below w.heap.size w y
 sz : w.heap.size = s
 o : B8 45 y s x0 x1 x2 x3 x4 x5 x6 x7
 r : B8 66 y (s + 1) (.int .i64 0) (.int .i64 0) (.bool false) (.slice none 0 0) (.int .i64 0) (.slice none 0 0) (.int .i64 0) (.int .i64 0)
 a : B8 66 y (s + 2) (.int .i64 0) (.int .i64 0) (.bool false) (.slice none 0 0) (.int .i64 0) (.slice none 0 0) (.int .i64 0) (.int .i64 0)
theorem tw3_of (w : World) (x0 x1 x2 x3 x4 x5 x6 x7 : Value) : Tw3 w (((w.alloc (.cells #[x0, x1, x2, x3, x4, x5, x6, x7] 45)).alloc (.cells #[.int .i64 0, .int .i64 0, .bool false, .slice none 0 0, .int .i64 0, .slice none 0 0, .int .i64 0, .int .i64 0] 66)).alloc (.cells #[.int .i64 0, .int .i64 0, .bool false, .slice none 0 0, .int .i64 0, .slice none 0 0, .int .i64 0, .int .i64 0] 66)) w.heap.size x0 x1 x2 x3 x4 x5 x6 x7 := by
 have h1 : (w.alloc (.cells #[x0, x1, x2, x3, x4, x5, x6, x7] 45)).heap.size = w.heap.size + 1 := by simp
 have h2 : ((w.alloc (.cells #[x0, x1, x2, x3, x4, x5, x6, x7] 45)).alloc (.cells #[.int .i64 0, .int .i64 0, .bool false, .slice none 0 0, .int .i64 0, .slice none 0 0, .int .i64 0, .int .i64 0] 66)).heap.size = w.heap.size + 2 := by simp
 refine ⟨zac (zac (zac Br Lr _) Lr _) Lr _, rfl, ?_, ?_, ?_⟩
 ·exact zaf (show B8 _ _ _ _ _ _ _ _ _ _ _ from heap_alloc_last w _) (zac (zac Br Lr _) (by simp) _)
 ·rw [← h1]
  exact zaf (show B8 _ _ _ _ _ _ _ _ _ _ _ from heap_alloc_last _ _) (zac Br Lr _)
 ·rw [← h2]
  exact heap_alloc_last _ _
def T3 (s b : Nat) : Prop := b = s ∨ b = s + 1 ∨ b = s + 2
theorem zdl {w y w2 w3 : World} {s0 : Nat} {x0 x1 x2 x3 x4 x5 x6 x7 : Value} {K : Nat → Prop} {a : Nat} {k : Int} {n : Nat} {cs : List Cl} (HT : Tw3 w y s0 x0 x1 x2 x3 x4 x5 x6 x7) (hy : s0 + 3 ≤ y.heap.size) (hkl : ∀ b, K b → b < s0) (hp : Pn w2 (Zk K y w2) a k n cs) (hc : Cf K y w2) (h3 : Cf (fun b => b = s0 + 1 ∨ b = s0 + 2) w2 w3) (hsz : w3.heap.size = w2.heap.size) : Pn w3 (Zk K w w3) a k n cs ∧ Cf K w w3 := by
 have h1 := HT.be.size
 have h2 := HT.sz
 have h4 := hc.size
 refine ⟨(hp.cf h3 (fun b e f => ?_)).wide (fun b e => ?_) (Zk.lt (w0 := w) (fun b e => by have := hkl b e; omega) (by omega)), (((Cf.of_below HT.be : Cf K w y).go hc).trans h3 (fun i hi e => by omega))⟩
 ·rcases f with f | f
  ·have := hkl b f
   omega
  ·omega
 ·rcases e with e | e
  ·exact .inl e
  ·exact .inr ⟨by omega, by omega⟩
theorem zdm {w y w2 w3 : World} {s0 : Nat} {x0 x1 x2 x3 x4 x5 x6 x7 : Value} {K : Nat → Prop} {a : Nat} {k : Int} {n : Nat} {s : Qs} (HT : Tw3 w y s0 x0 x1 x2 x3 x4 x5 x6 x7) (hy : s0 + 3 ≤ y.heap.size) (hkl : ∀ b, K b → b < s0) (hp : Pk w2 (Zk K y w2) a k n s) (hc : Cf K y w2) (h3 : Cf (fun b => b = s0 + 1 ∨ b = s0 + 2) w2 w3) (hsz : w3.heap.size = w2.heap.size) : Pk w3 (Zk K w w3) a k n s ∧ Cf K w w3 := by
 have h1 := HT.be.size
 have h2 := HT.sz
 have h4 := hc.size
 refine ⟨(hp.cfN h3 (fun b e f => ?_)).wide (fun b e => ?_) (Zk.lt (w0 := w) (fun b e => by have := hkl b e; omega) (by omega)), (((Cf.of_below HT.be : Cf K w y).go hc).trans h3 (fun i hi e => by omega))⟩
 ·rcases f with f | f
  ·have := hkl b f
   omega
  ·omega
 ·rcases e with e | e
  ·exact .inl e
  ·exact .inr ⟨by omega, by omega⟩
theorem put_b8 {ops : Array Oper} {rest : List Oper} {o : Oper} {a : Act} {w : World} {Q : Exit → Act → World → Prop} (hgd : o.guard = none) (p v : Operand)
  (ho : o.op = .store 43 p v) {t : TypeId} (b : Nat) {x0 x1 x2 x3 x4 x5 x6 x7 : Value} (hb : B8 t w b x0 x1 x2 x3 x4 x5 x6 x7) (ka va : Option Addr) (kn kc vn vc : Nat) (kd pg ct : Int) (hp : a.eval p = .pointer (some ⟨b, 3, none⟩)) (hv : a.eval v = .agg #[.slice ka kn kc, .int .i64 kd, .slice va vn vc, .int .i64 pg, .int .i64 ct])
  (h : ∀ u, Hid (B8 t u b x0 x1 x2 (.slice ka kn kc) (.int .i64 kd) (.slice va vn vc) (.int .i64 pg) (.int .i64 ct)) → Hid (Cf (· = b) w u) → Hid (u.heap.size = w.heap.size) → wpList Tryz.prog ops Q rest (a.put o.dst undef) u) : wpList Tryz.prog ops Q (o :: rest) a w := by
 obtain ⟨c0, c1, c2, c3, c4, c5, c6, c7⟩ := hb.cells
 obtain ⟨f0, f1, f2, f3, f4, f5, f6, f7⟩ := hb.free
 refine wpList_store_mid hgd _ p v ho b 3 #[.slice ka kn kc, .int .i64 kd, .slice va vn vc, .int .i64 pg, .int .i64 ct] hp hv (fun i hi => ?_) zbh (all_oneCell_toArray (cs := [.slice ka kn kc, .int .i64 kd, .slice va vn vc, .int .i64 pg, .int .i64 ct]) (by simp [Value.oneCell'])) (h _ (zaa ?_) (zaa ?_) (zaa ?_))
 ·have hi5 : i < 5 := hi
  rcases (by omega : i = 0 ∨ i = 1 ∨ i = 2 ∨ i = 3 ∨ i = 4) with rfl | rfl | rfl | rfl | rfl
  ·exact ⟨Option.isSome_iff_exists.2 ⟨_, c3⟩, f3⟩
  ·exact ⟨Option.isSome_iff_exists.2 ⟨_, c4⟩, f4⟩
  ·exact ⟨Option.isSome_iff_exists.2 ⟨_, c5⟩, f5⟩
  ·exact ⟨Option.isSome_iff_exists.2 ⟨_, c6⟩, f6⟩
  ·exact ⟨Option.isSome_iff_exists.2 ⟨_, c7⟩, f7⟩
 ·exact ((((((hb.set _).2.2.2.1).set _).2.2.2.2.1.set _).2.2.2.2.2.1.set _).2.2.2.2.2.2.1.set _).2.2.2.2.2.2.2
 ·exact ((((Cf.set _ _ _ _).go (Cf.set _ _ _ _)).go (Cf.set _ _ _ _)).go (Cf.set _ _ _ _)).go (Cf.set _ _ _ _)
 ·simp [World.setCells]
theorem zcb (w : World) (g : Nat) (y0 y1 y2 y3 y4 y5 y6 y7 : Value) : (put8 w g y0 y1 y2 y3 y4 y5 y6 y7).heap.size = w.heap.size := by
 unfold put8
 simp
theorem cellE_mem (cs : List Cl) (z : Int) : cellE cs z = c0 ∨ cellE cs z ∈ cs := by
 unfold cellE
 split
 ·cases h : cs[z.toNat]? with
  | none => exact .inl rfl
  | some c => exact .inr (List.mem_of_getElem? h)
 ·exact .inl rfl
theorem twinP_0 (w : World) (K : Nat → Prop) (a : Nat) (k : Int) (n : Nat) (cs : List Cl) (h : Pn w K a k n cs) (x : Int) (c : Cl) (ka : Option Addr) (kc : Nat) (va : Option Addr) (vc : Nat) (qa : Option Addr) (qn qc : Nat) (q : List Int) (hk : Sl w ka c.key.length kc c.key) (hv : Sl w va c.val.length vc c.val) (_hq : Sl w qa qn qc q) :
  Calls Tryz.prog 34 #[iP a, opV 0 x c ka kc va vc qa qn qc] w fun e w' => ∃ A cs2, TwP 0 x c q k n cs A cs2 ∧ zbc A (fun u => Pn u (Zk K w u) a k n cs2 ∧ Cf K w u) w e w' := by
 obtain ⟨y, hy⟩ : ∃ y, (((w.alloc (.cells #[.int .i64 0, .int .i64 x, .slice ka c.key.length kc, .int .i64 c.kd, .slice va c.val.length vc, .int .i64 c.pg, .int .i64 c.ct, .slice qa qn qc] 45)).alloc (.cells #[.int .i64 0, .int .i64 0, .bool false, .slice none 0 0, .int .i64 0, .slice none 0 0, .int .i64 0, .int .i64 0] 66)).alloc (.cells #[.int .i64 0, .int .i64 0, .bool false, .slice none 0 0, .int .i64 0, .slice none 0 0, .int .i64 0, .int .i64 0] 66)) = y := ⟨_, rfl⟩
 have hT := tw3_of w (.int .i64 0) (.int .i64 x) (.slice ka c.key.length kc) (.int .i64 c.kd) (.slice va c.val.length vc) (.int .i64 c.pg) (.int .i64 c.ct) (.slice qa qn qc)
 rw [hy] at hT
 obtain ⟨s0, hs0⟩ : ∃ s0, w.heap.size = s0 := ⟨_, rfl⟩
 rw [hs0] at hT
 have HT := zaa hT
 have HB := zaa hT.be
 have hgo : Pn y K a k n cs := h.go hT.be
 have HKL : Hid (∀ b, K b → b < s0) := zaa (by rw [← hs0]; exact h.kl)
 have HC := zaa (hgo.ins x c ka va kc vc (hk.on Lr hT.be) (hv.on Lr hT.be))
 have HST := zaa hgo
 have HSY : Hid (s0 + 3 ≤ y.heap.size) := zaa (by rw [← hy, ← hs0]; simp)
 obtain ⟨o0, o1, o2, o3, o4, o5, o6, o7⟩ := hT.o.cells
 obtain ⟨z0, z1, z2, z3, z4, z5, z6, z7⟩ := hT.a.cells
 obtain ⟨y0, y1, y2, y3, y4, y5, y6, y7⟩ := hT.a.free
 obtain ⟨u0, u1, u2, u3, u4, u5, u6, u7⟩ := hT.r.free
 obtain ⟨v0, v1, v2, v3, v4, v5, v6, v7⟩ := hT.r.cells
 clear hT hk hv _hq h hgo
 go_enter Tryz.func34, Tryz.ntmps34
 go_wp2_with (go_at_call 259; refine HC.out.mono ?_; rintro e w2 ⟨rfl, HP2, HC2⟩; refine Hid.out ?_)
 apply zaa
 clear HC o0 o1 o2 o3 o4 o5 o6 o7 z0 z1 z2 z3 z4 z5 z6 z7 y0 y1 y2 y3 y4 y5 y6 y7 u0 u1 u2 u3 u4 u5 u6 u7 v0 v1 v2 v3 v4 v5 v6 v7
 have HA2 := zaa (HT.out.a.cf HC2.out (fun e => by have := HKL.out _ e; omega))
 have HR2b := zaa (HT.out.r.cf HC2.out (fun e => by have := HKL.out _ e; omega))
 obtain ⟨z0, z1, z2, z3, z4, z5, z6, z7⟩ := HA2.out.cells
 obtain ⟨y0, y1, y2, y3, y4, y5, y6, y7⟩ := HA2.out.free
 obtain ⟨u0, u1, u2, u3, u4, u5, u6, u7⟩ := HR2b.out.free
 obtain ⟨v0, v1, v2, v3, v4, v5, v6, v7⟩ := HR2b.out.cells
 have HRR := zaa (HR2b.out.cf (Cf.set w2 (s0 + 2) 0 (.int .i64 (insE k n cs x c))) (by omega))
 go_wp2_with fail
 refine bodyPost_ret (results_cell_row rfl _ _ (s0 + 1) 66 #[.int .i64 (insE k n cs x c), .int .i64 0, .bool false, .slice none 0 0, .int .i64 0, .slice none 0 0, .int .i64 0, .int .i64 0] (0, 0) _ (by rfl) (HRR.out.put _ _ _ _ _ _ _ _) Tryz.underlying66 rfl sizeAn) rfl ?_
 refine ⟨⟨(insE k n cs x c), 0, false, c0⟩, (if insE k n cs x c = 0 then cs.take x.toNat ++ [c] ++ cs.drop x.toNat else cs), .inl ⟨rfl, rfl, rfl⟩, none, 0, none, 0, rfl, zaa ⟨Sl.nil_any _ _ _ (fun _ => rfl), Sl.nil_any _ _ _ (fun _ => rfl), (fun p hp => by cases hp), (fun p hp => by cases hp)⟩, zaa (zdl HT.out HSY.out HKL.out HP2.out HC2.out ?_ ?_)⟩
 ·exact ((Cf.set _ _ _ _).wideQ (fun b e => .inr e)).go ((zca _ _ _ _ _ _ _ _ _ _).wideQ (fun b e => .inl e))
 ·exact (zcb _ _ _ _ _ _ _ _ _ _).trans (by simp)
theorem twinP_1 (w : World) (K : Nat → Prop) (a : Nat) (k : Int) (n : Nat) (cs : List Cl) (h : Pn w K a k n cs) (x : Int) (c : Cl) (ka : Option Addr) (kc : Nat) (va : Option Addr) (vc : Nat) (qa : Option Addr) (qn qc : Nat) (q : List Int) (hk : Sl w ka c.key.length kc c.key) (hv : Sl w va c.val.length vc c.val) (_hq : Sl w qa qn qc q) :
  Calls Tryz.prog 34 #[iP a, opV 1 x c ka kc va vc qa qn qc] w fun e w' => ∃ A cs2, TwP 1 x c q k n cs A cs2 ∧ zbc A (fun u => Pn u (Zk K w u) a k n cs2 ∧ Cf K w u) w e w' := by
 obtain ⟨y, hy⟩ : ∃ y, (((w.alloc (.cells #[.int .i64 1, .int .i64 x, .slice ka c.key.length kc, .int .i64 c.kd, .slice va c.val.length vc, .int .i64 c.pg, .int .i64 c.ct, .slice qa qn qc] 45)).alloc (.cells #[.int .i64 0, .int .i64 0, .bool false, .slice none 0 0, .int .i64 0, .slice none 0 0, .int .i64 0, .int .i64 0] 66)).alloc (.cells #[.int .i64 0, .int .i64 0, .bool false, .slice none 0 0, .int .i64 0, .slice none 0 0, .int .i64 0, .int .i64 0] 66)) = y := ⟨_, rfl⟩
 have hT := tw3_of w (.int .i64 1) (.int .i64 x) (.slice ka c.key.length kc) (.int .i64 c.kd) (.slice va c.val.length vc) (.int .i64 c.pg) (.int .i64 c.ct) (.slice qa qn qc)
 rw [hy] at hT
 obtain ⟨s0, hs0⟩ : ∃ s0, w.heap.size = s0 := ⟨_, rfl⟩
 rw [hs0] at hT
 have HT := zaa hT
 have HB := zaa hT.be
 have hgo : Pn y K a k n cs := h.go hT.be
 have HKL : Hid (∀ b, K b → b < s0) := zaa (by rw [← hs0]; exact h.kl)
 have HC := zaa (hgo.set x c ka va kc vc (hk.on Lr hT.be) (hv.on Lr hT.be))
 have HST := zaa hgo
 have HSY : Hid (s0 + 3 ≤ y.heap.size) := zaa (by rw [← hy, ← hs0]; simp)
 obtain ⟨o0, o1, o2, o3, o4, o5, o6, o7⟩ := hT.o.cells
 obtain ⟨z0, z1, z2, z3, z4, z5, z6, z7⟩ := hT.a.cells
 obtain ⟨y0, y1, y2, y3, y4, y5, y6, y7⟩ := hT.a.free
 obtain ⟨u0, u1, u2, u3, u4, u5, u6, u7⟩ := hT.r.free
 obtain ⟨v0, v1, v2, v3, v4, v5, v6, v7⟩ := hT.r.cells
 clear hT hk hv _hq h hgo
 go_enter Tryz.func34, Tryz.ntmps34
 go_wp2_with (go_at_call 262; refine HC.out.mono ?_; rintro e w2 ⟨rfl, HP2, HC2⟩; refine Hid.out ?_)
 apply zaa
 clear HC o0 o1 o2 o3 o4 o5 o6 o7 z0 z1 z2 z3 z4 z5 z6 z7 y0 y1 y2 y3 y4 y5 y6 y7 u0 u1 u2 u3 u4 u5 u6 u7 v0 v1 v2 v3 v4 v5 v6 v7
 have HA2 := zaa (HT.out.a.cf HC2.out (fun e => by have := HKL.out _ e; omega))
 have HR2b := zaa (HT.out.r.cf HC2.out (fun e => by have := HKL.out _ e; omega))
 obtain ⟨z0, z1, z2, z3, z4, z5, z6, z7⟩ := HA2.out.cells
 obtain ⟨y0, y1, y2, y3, y4, y5, y6, y7⟩ := HA2.out.free
 obtain ⟨u0, u1, u2, u3, u4, u5, u6, u7⟩ := HR2b.out.free
 obtain ⟨v0, v1, v2, v3, v4, v5, v6, v7⟩ := HR2b.out.cells
 have HRR := zaa (HR2b.out.cf (Cf.set w2 (s0 + 2) 0 (.int .i64 (setE k n cs x c))) (by omega))
 go_wp2_with fail
 refine bodyPost_ret (results_cell_row rfl _ _ (s0 + 1) 66 #[.int .i64 (setE k n cs x c), .int .i64 0, .bool false, .slice none 0 0, .int .i64 0, .slice none 0 0, .int .i64 0, .int .i64 0] (0, 0) _ (by rfl) (HRR.out.put _ _ _ _ _ _ _ _) Tryz.underlying66 rfl sizeAn) rfl ?_
 refine ⟨⟨(setE k n cs x c), 0, false, c0⟩, (if setE k n cs x c = 0 then cs.take x.toNat ++ [c] ++ cs.drop (x.toNat + 1) else cs), .inr (.inl ⟨rfl, rfl, rfl⟩), none, 0, none, 0, rfl, zaa ⟨Sl.nil_any _ _ _ (fun _ => rfl), Sl.nil_any _ _ _ (fun _ => rfl), (fun p hp => by cases hp), (fun p hp => by cases hp)⟩, zaa (zdl HT.out HSY.out HKL.out HP2.out HC2.out ?_ ?_)⟩
 ·exact ((Cf.set _ _ _ _).wideQ (fun b e => .inr e)).go ((zca _ _ _ _ _ _ _ _ _ _).wideQ (fun b e => .inl e))
 ·exact (zcb _ _ _ _ _ _ _ _ _ _).trans (by simp)
theorem twinP_2 (w : World) (K : Nat → Prop) (a : Nat) (k : Int) (n : Nat) (cs : List Cl) (h : Pn w K a k n cs) (x : Int) (c : Cl) (ka : Option Addr) (kc : Nat) (va : Option Addr) (vc : Nat) (qa : Option Addr) (qn qc : Nat) (q : List Int) (_hk : Sl w ka c.key.length kc c.key) (_hv : Sl w va c.val.length vc c.val) (_hq : Sl w qa qn qc q) :
  Calls Tryz.prog 34 #[iP a, opV 2 x c ka kc va vc qa qn qc] w fun e w' => ∃ A cs2, TwP 2 x c q k n cs A cs2 ∧ zbc A (fun u => Pn u (Zk K w u) a k n cs2 ∧ Cf K w u) w e w' := by
 obtain ⟨y, hy⟩ : ∃ y, (((w.alloc (.cells #[.int .i64 2, .int .i64 x, .slice ka c.key.length kc, .int .i64 c.kd, .slice va c.val.length vc, .int .i64 c.pg, .int .i64 c.ct, .slice qa qn qc] 45)).alloc (.cells #[.int .i64 0, .int .i64 0, .bool false, .slice none 0 0, .int .i64 0, .slice none 0 0, .int .i64 0, .int .i64 0] 66)).alloc (.cells #[.int .i64 0, .int .i64 0, .bool false, .slice none 0 0, .int .i64 0, .slice none 0 0, .int .i64 0, .int .i64 0] 66)) = y := ⟨_, rfl⟩
 have hT := tw3_of w (.int .i64 2) (.int .i64 x) (.slice ka c.key.length kc) (.int .i64 c.kd) (.slice va c.val.length vc) (.int .i64 c.pg) (.int .i64 c.ct) (.slice qa qn qc)
 rw [hy] at hT
 obtain ⟨s0, hs0⟩ : ∃ s0, w.heap.size = s0 := ⟨_, rfl⟩
 rw [hs0] at hT
 have HT := zaa hT
 have HB := zaa hT.be
 have hgo : Pn y K a k n cs := h.go hT.be
 have HKL : Hid (∀ b, K b → b < s0) := zaa (by rw [← hs0]; exact h.kl)
 have HC := zaa (hgo.rem x)
 have HST := zaa hgo
 have HSY : Hid (s0 + 3 ≤ y.heap.size) := zaa (by rw [← hy, ← hs0]; simp)
 obtain ⟨o0, o1, o2, o3, o4, o5, o6, o7⟩ := hT.o.cells
 obtain ⟨z0, z1, z2, z3, z4, z5, z6, z7⟩ := hT.a.cells
 obtain ⟨y0, y1, y2, y3, y4, y5, y6, y7⟩ := hT.a.free
 obtain ⟨u0, u1, u2, u3, u4, u5, u6, u7⟩ := hT.r.free
 obtain ⟨v0, v1, v2, v3, v4, v5, v6, v7⟩ := hT.r.cells
 clear hT _hk _hv _hq h hgo
 go_enter Tryz.func34, Tryz.ntmps34
 go_wp2_with (go_at_call 261; refine HC.out.mono ?_; rintro e w2 ⟨rfl, HP2, HC2⟩; refine Hid.out ?_)
 apply zaa
 clear HC o0 o1 o2 o3 o4 o5 o6 o7 z0 z1 z2 z3 z4 z5 z6 z7 y0 y1 y2 y3 y4 y5 y6 y7 u0 u1 u2 u3 u4 u5 u6 u7 v0 v1 v2 v3 v4 v5 v6 v7
 have HA2 := zaa (HT.out.a.cf HC2.out (fun e => by have := HKL.out _ e; omega))
 have HR2b := zaa (HT.out.r.cf HC2.out (fun e => by have := HKL.out _ e; omega))
 obtain ⟨z0, z1, z2, z3, z4, z5, z6, z7⟩ := HA2.out.cells
 obtain ⟨y0, y1, y2, y3, y4, y5, y6, y7⟩ := HA2.out.free
 obtain ⟨u0, u1, u2, u3, u4, u5, u6, u7⟩ := HR2b.out.free
 obtain ⟨v0, v1, v2, v3, v4, v5, v6, v7⟩ := HR2b.out.cells
 have HRR := zaa (HR2b.out.cf (Cf.set w2 (s0 + 2) 0 (.int .i64 (remE cs x))) (by omega))
 go_wp2_with fail
 refine bodyPost_ret (results_cell_row rfl _ _ (s0 + 1) 66 #[.int .i64 (remE cs x), .int .i64 0, .bool false, .slice none 0 0, .int .i64 0, .slice none 0 0, .int .i64 0, .int .i64 0] (0, 0) _ (by rfl) (HRR.out.put _ _ _ _ _ _ _ _) Tryz.underlying66 rfl sizeAn) rfl ?_
 refine ⟨⟨(remE cs x), 0, false, c0⟩, (if remE cs x = 0 then cs.take x.toNat ++ cs.drop (x.toNat + 1) else cs), .inr (.inr (.inl ⟨rfl, rfl, rfl⟩)), none, 0, none, 0, rfl, zaa ⟨Sl.nil_any _ _ _ (fun _ => rfl), Sl.nil_any _ _ _ (fun _ => rfl), (fun p hp => by cases hp), (fun p hp => by cases hp)⟩, zaa (zdl HT.out HSY.out HKL.out HP2.out HC2.out ?_ ?_)⟩
 ·exact ((Cf.set _ _ _ _).wideQ (fun b e => .inr e)).go ((zca _ _ _ _ _ _ _ _ _ _).wideQ (fun b e => .inl e))
 ·exact (zcb _ _ _ _ _ _ _ _ _ _).trans (by simp)
theorem twinP_3 (w : World) (K : Nat → Prop) (a : Nat) (k : Int) (n : Nat) (cs : List Cl) (h : Pn w K a k n cs) (x : Int) (c : Cl) (ka : Option Addr) (kc : Nat) (va : Option Addr) (vc : Nat) (qa : Option Addr) (qn qc : Nat) (q : List Int) (_hk : Sl w ka c.key.length kc c.key) (_hv : Sl w va c.val.length vc c.val) (hq : Sl w qa qn qc q) :
  Calls Tryz.prog 34 #[iP a, opV 3 x c ka kc va vc qa qn qc] w fun e w' => ∃ A cs2, TwP 3 x c q k n cs A cs2 ∧ zbc A (fun u => Pn u (Zk K w u) a k n cs2 ∧ Cf K w u) w e w' := by
 obtain ⟨y, hy⟩ : ∃ y, (((w.alloc (.cells #[.int .i64 3, .int .i64 x, .slice ka c.key.length kc, .int .i64 c.kd, .slice va c.val.length vc, .int .i64 c.pg, .int .i64 c.ct, .slice qa qn qc] 45)).alloc (.cells #[.int .i64 0, .int .i64 0, .bool false, .slice none 0 0, .int .i64 0, .slice none 0 0, .int .i64 0, .int .i64 0] 66)).alloc (.cells #[.int .i64 0, .int .i64 0, .bool false, .slice none 0 0, .int .i64 0, .slice none 0 0, .int .i64 0, .int .i64 0] 66)) = y := ⟨_, rfl⟩
 have hT := tw3_of w (.int .i64 3) (.int .i64 x) (.slice ka c.key.length kc) (.int .i64 c.kd) (.slice va c.val.length vc) (.int .i64 c.pg) (.int .i64 c.ct) (.slice qa qn qc)
 rw [hy] at hT
 obtain ⟨s0, hs0⟩ : ∃ s0, w.heap.size = s0 := ⟨_, rfl⟩
 rw [hs0] at hT
 have HT := zaa hT
 have HB := zaa hT.be
 have hgo : Pn y K a k n cs := h.go hT.be
 have HKL : Hid (∀ b, K b → b < s0) := zaa (by rw [← hs0]; exact h.kl)
 have HC := zaa (hgo.ask.find qa qn qc q (hq.on Lr hT.be))
 have HST := zaa hgo
 have HSY : Hid (s0 + 3 ≤ y.heap.size) := zaa (by rw [← hy, ← hs0]; simp)
 obtain ⟨o0, o1, o2, o3, o4, o5, o6, o7⟩ := hT.o.cells
 obtain ⟨z0, z1, z2, z3, z4, z5, z6, z7⟩ := hT.a.cells
 obtain ⟨y0, y1, y2, y3, y4, y5, y6, y7⟩ := hT.a.free
 obtain ⟨u0, u1, u2, u3, u4, u5, u6, u7⟩ := hT.r.free
 obtain ⟨v0, v1, v2, v3, v4, v5, v6, v7⟩ := hT.r.cells
 clear hT _hk _hv hq h hgo
 go_enter Tryz.func34, Tryz.ntmps34
 go_wp2_with (go_at_call 258; refine HC.out.mono ?_; rintro e w2 ⟨rfl, HB2⟩; refine Hid.out ?_)
 apply zaa
 clear HC o0 o1 o2 o3 o4 o5 o6 o7 z0 z1 z2 z3 z4 z5 z6 z7 y0 y1 y2 y3 y4 y5 y6 y7 u0 u1 u2 u3 u4 u5 u6 u7 v0 v1 v2 v3 v4 v5 v6 v7
 have HA2 := zaa (HT.out.a.cf (Cf.of_below (F := fun _ => False) HB2.out) (fun e => e))
 have HR2b := zaa (HT.out.r.cf (Cf.of_below (F := fun _ => False) HB2.out) (fun e => e))
 obtain ⟨z0, z1, z2, z3, z4, z5, z6, z7⟩ := HA2.out.cells
 obtain ⟨y0, y1, y2, y3, y4, y5, y6, y7⟩ := HA2.out.free
 obtain ⟨u0, u1, u2, u3, u4, u5, u6, u7⟩ := HR2b.out.free
 obtain ⟨v0, v1, v2, v3, v4, v5, v6, v7⟩ := HR2b.out.cells
 have HRR := zaa ((HR2b.out.cf (Cf.set w2 (s0 + 2) 1 (.int .i64 (cntL cs q : Int))) (by omega)).cf (Cf.set _ (s0 + 2) 2 (.bool (isL cs q))) (by omega))
 go_wp2_with fail
 refine bodyPost_ret (results_cell_row rfl _ _ (s0 + 1) 66 #[.int .i64 0, .int .i64 (cntL cs q : Int), .bool (isL cs q), .slice none 0 0, .int .i64 0, .slice none 0 0, .int .i64 0, .int .i64 0] (0, 0) _ (by rfl) (HRR.out.put _ _ _ _ _ _ _ _) Tryz.underlying66 rfl sizeAn) rfl ?_
 refine ⟨⟨0, (cntL cs q : Int), isL cs q, c0⟩, cs, .inr (.inr (.inr (.inl ⟨rfl, rfl, rfl⟩))), none, 0, none, 0, rfl, zaa ⟨Sl.nil_any _ _ _ (fun _ => rfl), Sl.nil_any _ _ _ (fun _ => rfl), (fun p hp => by cases hp), (fun p hp => by cases hp)⟩, zaa (zdl HT.out HSY.out HKL.out ((HST.out.go HB2.out).wide (fun b e => .inl e) (Zk.lt (fun b e => by have := HKL.out b e; have := HSY.out; omega) HB2.out.size)) (Cf.of_below HB2.out) ?_ ?_)⟩
 ·exact (((Cf.set _ _ _ _).go (Cf.set _ _ _ _)).wideQ (fun b e => .inr e)).go ((zca _ _ _ _ _ _ _ _ _ _).wideQ (fun b e => .inl e))
 ·exact (zcb _ _ _ _ _ _ _ _ _ _).trans (by simp)
theorem twinP_4 (w : World) (K : Nat → Prop) (a : Nat) (k : Int) (n : Nat) (cs : List Cl) (h : Pn w K a k n cs) (kd x : Int) (h0 : ¬ kd = 0) (h1 : ¬ kd = 1) (h2 : ¬ kd = 2) (h3 : ¬ kd = 3) (c : Cl) (ka : Option Addr) (kc : Nat) (va : Option Addr) (vc : Nat) (qa : Option Addr) (qn qc : Nat) (q : List Int) (_hk : Sl w ka c.key.length kc c.key) (_hv : Sl w va c.val.length vc c.val) (_hq : Sl w qa qn qc q) :
  Calls Tryz.prog 34 #[iP a, opV kd x c ka kc va vc qa qn qc] w fun e w' => ∃ A cs2, TwP kd x c q k n cs A cs2 ∧ zbc A (fun u => Pn u (Zk K w u) a k n cs2 ∧ Cf K w u) w e w' := by
 obtain ⟨y, hy⟩ : ∃ y, (((w.alloc (.cells #[.int .i64 kd, .int .i64 x, .slice ka c.key.length kc, .int .i64 c.kd, .slice va c.val.length vc, .int .i64 c.pg, .int .i64 c.ct, .slice qa qn qc] 45)).alloc (.cells #[.int .i64 0, .int .i64 0, .bool false, .slice none 0 0, .int .i64 0, .slice none 0 0, .int .i64 0, .int .i64 0] 66)).alloc (.cells #[.int .i64 0, .int .i64 0, .bool false, .slice none 0 0, .int .i64 0, .slice none 0 0, .int .i64 0, .int .i64 0] 66)) = y := ⟨_, rfl⟩
 have hT := tw3_of w (.int .i64 kd) (.int .i64 x) (.slice ka c.key.length kc) (.int .i64 c.kd) (.slice va c.val.length vc) (.int .i64 c.pg) (.int .i64 c.ct) (.slice qa qn qc)
 rw [hy] at hT
 obtain ⟨s0, hs0⟩ : ∃ s0, w.heap.size = s0 := ⟨_, rfl⟩
 rw [hs0] at hT
 have HT := zaa hT
 have HB := zaa hT.be
 have hgo : Pn y K a k n cs := h.go hT.be
 have HKL : Hid (∀ b, K b → b < s0) := zaa (by rw [← hs0]; exact h.kl)
 have hcl := hgo.ask.cell x
 have HW := zaa (cellE_mem cs x)
 obtain ⟨C, hC⟩ : ∃ C, cellE cs x = C := ⟨_, rfl⟩
 obtain ⟨E, hE⟩ : ∃ E, remE cs x = E := ⟨_, rfl⟩
 rw [hC, hE] at hcl
 rw [hC] at HW
 have HC := zaa hcl
 have HCE := zaa (And.intro hC hE)
 clear hcl hC hE
 have HF : Hid (∀ d ∈ cs, d.Wf ∧ d.key.length ≤ 140737488355328 ∧ d.val.length ≤ 140737488355328) := zaa (fun d hd => ⟨h.ok.wf d hd, by have := (h.ok.fit d hd).key; omega, by have := (h.ok.fit d hd).val; omega⟩)
 have HST := zaa hgo
 have HSY : Hid (s0 + 3 ≤ y.heap.size) := zaa (by rw [← hy, ← hs0]; simp)
 obtain ⟨o0, o1, o2, o3, o4, o5, o6, o7⟩ := hT.o.cells
 obtain ⟨z0, z1, z2, z3, z4, z5, z6, z7⟩ := hT.a.cells
 obtain ⟨y0, y1, y2, y3, y4, y5, y6, y7⟩ := hT.a.free
 obtain ⟨u0, u1, u2, u3, u4, u5, u6, u7⟩ := hT.r.free
 obtain ⟨v0, v1, v2, v3, v4, v5, v6, v7⟩ := hT.r.cells
 have d0 : (kd == 0) = false := by simpa using h0
 have d1 : (kd == 1) = false := by simpa using h1
 have d2 : (kd == 2) = false := by simpa using h2
 have d3 : (kd == 3) = false := by simpa using h3
 have HK4 := zaa (And.intro h0 (And.intro h1 (And.intro h2 h3)))
 clear h0 h1 h2 h3
 clear hT _hk _hv _hq h hgo
 go_enter Tryz.func34, Tryz.ntmps34
 go_wp2_with (go_at_call 257; refine HC.out.mono ?_; rintro e w2 ⟨ko, kc2, vo, vc2, rfl, HO2, HB2⟩; refine Hid.out ?_)
 apply zaa
 clear HC o0 o1 o2 o3 o4 o5 o6 o7 z0 z1 z2 z3 z4 z5 z6 z7 y0 y1 y2 y3 y4 y5 y6 y7 u0 u1 u2 u3 u4 u5 u6 u7 v0 v1 v2 v3 v4 v5 v6 v7
 have HA2 := zaa (HT.out.a.cf (Cf.of_below (F := fun _ => False) HB2.out) (fun e => e))
 have HR2b := zaa (HT.out.r.cf (Cf.of_below (F := fun _ => False) HB2.out) (fun e => e))
 obtain ⟨z0, z1, z2, z3, z4, z5, z6, z7⟩ := HA2.out.cells
 obtain ⟨y0, y1, y2, y3, y4, y5, y6, y7⟩ := HA2.out.free
 obtain ⟨u0, u1, u2, u3, u4, u5, u6, u7⟩ := HR2b.out.free
 obtain ⟨v0, v1, v2, v3, v4, v5, v6, v7⟩ := HR2b.out.cells
 clear z0 z1 z2 z3 z4 z5 z6 z7 y0 y1 y2 y3 y4 y5 y6 y7
 go_wp2_with (refine put_b8 rfl _ _ rfl _ HA2.out _ _ _ _ _ _ _ _ _ (by rfl) (by rfl) ?_; intro wu HU1 HC3 HS3; refine Hid.out ?_)
 apply zaa
 have HR3 := zaa (HR2b.out.cf HC3.out (by omega))
 clear u0 u1 u2 u3 u4 u5 u6 u7 v0 v1 v2 v3 v4 v5 v6 v7 HA2 HR2b
 obtain ⟨z0, z1, z2, z3, z4, z5, z6, z7⟩ := HU1.out.cells
 obtain ⟨y0, y1, y2, y3, y4, y5, y6, y7⟩ := HU1.out.free
 obtain ⟨u0, u1, u2, u3, u4, u5, u6, u7⟩ := HR3.out.free
 obtain ⟨v0, v1, v2, v3, v4, v5, v6, v7⟩ := HR3.out.cells
 have HRR := zaa (HR3.out.cf (Cf.set _ (s0 + 2) 0 (.int .i64 E)) (by omega))
 go_wp2_with fail
 refine bodyPost_ret (results_cell_row rfl _ _ (s0 + 1) 66 #[.int .i64 E, .int .i64 0, .bool false, .slice ko C.key.length kc2, .int .i64 C.kd, .slice vo C.val.length vc2, .int .i64 C.pg, .int .i64 C.ct] (0, 0) _ (by rfl) (HRR.out.put _ _ _ _ _ _ _ _) Tryz.underlying66 rfl sizeAn) rfl ?_
 obtain ⟨k1, k2, _⟩ := HO2.out
 have HWC : C.Wf ∧ C.key.length ≤ 140737488355328 ∧ C.val.length ≤ 140737488355328 := by
  rcases HW.out with h | h
  ·rw [h]
   exact ⟨⟨Wf.nil, Wf.nil⟩, by simp, by simp⟩
  ·exact HF.out _ h
 obtain ⟨ao, cp, e, hs1, hb1⟩ := k1.sl HWC.1.1 HWC.2.1
 cases e
 obtain ⟨ao2, cp2, e, hs2, hb2⟩ := k2.sl HWC.1.2 HWC.2.2
 cases e
 have hcf : Cf (fun b => b = s0 + 1 ∨ b = s0 + 2) w2 (put8 (wu.setCell ⟨s0 + 2, 0, none⟩ (.int .i64 E)) (s0 + 1) (.int .i64 E) (.int .i64 0) (.bool false) (.slice ko C.key.length kc2) (.int .i64 C.kd) (.slice vo C.val.length vc2) (.int .i64 C.pg) (.int .i64 C.ct)) := ((HC3.out.go (Cf.set _ _ _ _)).wideQ (fun b e => .inr e)).go ((zca _ _ _ _ _ _ _ _ _ _).wideQ (fun b e => .inl e))
 have hsy := HSY.out
 have hwz := HB.out.size
 rw [hs0] at hwz
 refine ⟨⟨E, 0, false, C⟩, cs, ?_, ko, kc2, vo, vc2, rfl, zaa ⟨hs1.cf hcf (.inr fun p hp => ?_), hs2.cf hcf (.inr fun p hp => ?_), fun p hp => ?_, fun p hp => ?_⟩, zaa (zdl HT.out HSY.out HKL.out ((HST.out.go HB2.out).wide (fun b e => .inl e) (Zk.lt (fun b e => by have := HKL.out b e; have := HSY.out; omega) HB2.out.size)) (Cf.of_below HB2.out) hcf ?_)⟩
 ·exact .inr (.inr (.inr (.inr ⟨HK4.out, by rw [HCE.out.1, HCE.out.2], rfl⟩)))
 ·have := hb1 p hp
  omega
 ·have := hb2 p hp
  omega
 ·have := hb1 p hp
  omega
 ·have := hb2 p hp
  omega
 ·exact (zcb _ _ _ _ _ _ _ _ _ _).trans (by simp [HS3.out])
theorem twinQ_0 (w : World) (K : Nat → Prop) (a : Nat) (k : Int) (n : Nat) (s : Qs) (h : Pk w K a k n s) (hn : pw n) (x : Int) (c : Cl) (ka : Option Addr) (kc : Nat) (va : Option Addr) (vc : Nat) (qa : Option Addr) (qn qc : Nat) (q : List Int) (hk : Sl w ka c.key.length kc c.key) (hv : Sl w va c.val.length vc c.val) (_hq : Sl w qa qn qc q) (fk : OutK K ka c.key.length) (fv : OutK K va c.val.length) :
  Calls Tryz.prog 34 #[iQ a, opV 0 x c ka kc va vc qa qn qc] w fun e w' => ∃ A t, TwQ 0 x c q k n s A t ∧ zbc A (fun u => Pk u (Zk K w u) a k n t ∧ Cf K w u) w e w' := by
 obtain ⟨y, hy⟩ : ∃ y, (((w.alloc (.cells #[.int .i64 0, .int .i64 x, .slice ka c.key.length kc, .int .i64 c.kd, .slice va c.val.length vc, .int .i64 c.pg, .int .i64 c.ct, .slice qa qn qc] 45)).alloc (.cells #[.int .i64 0, .int .i64 0, .bool false, .slice none 0 0, .int .i64 0, .slice none 0 0, .int .i64 0, .int .i64 0] 66)).alloc (.cells #[.int .i64 0, .int .i64 0, .bool false, .slice none 0 0, .int .i64 0, .slice none 0 0, .int .i64 0, .int .i64 0] 66)) = y := ⟨_, rfl⟩
 have hT := tw3_of w (.int .i64 0) (.int .i64 x) (.slice ka c.key.length kc) (.int .i64 c.kd) (.slice va c.val.length vc) (.int .i64 c.pg) (.int .i64 c.ct) (.slice qa qn qc)
 rw [hy] at hT
 obtain ⟨s0, hs0⟩ : ∃ s0, w.heap.size = s0 := ⟨_, rfl⟩
 rw [hs0] at hT
 have HT := zaa hT
 have HB := zaa hT.be
 have hgo : Pk y K a k n s := h.go hT.be
 have HKL : Hid (∀ b, K b → b < s0) := zaa (by rw [← hs0]; exact h.kl)
 have HC := zaa (insertQ_any y K a k n s hgo x hn c ka va kc vc (hk.on Lr hT.be) (hv.on Lr hT.be) fk fv)
 have HST := zaa hgo
 have HSY : Hid (s0 + 3 ≤ y.heap.size) := zaa (by rw [← hy, ← hs0]; simp)
 obtain ⟨o0, o1, o2, o3, o4, o5, o6, o7⟩ := hT.o.cells
 obtain ⟨z0, z1, z2, z3, z4, z5, z6, z7⟩ := hT.a.cells
 obtain ⟨y0, y1, y2, y3, y4, y5, y6, y7⟩ := hT.a.free
 obtain ⟨u0, u1, u2, u3, u4, u5, u6, u7⟩ := hT.r.free
 obtain ⟨v0, v1, v2, v3, v4, v5, v6, v7⟩ := hT.r.cells
 clear hT hk hv _hq h hgo fk fv hn
 go_enter Tryz.func34, Tryz.ntmps34
 go_wp2_with (go_at_call 272; refine HC.out.mono ?_; rintro e w2 ⟨code, t, rfl, HR2, HP2, HC2⟩; refine Hid.out ?_)
 apply zaa
 clear HC o0 o1 o2 o3 o4 o5 o6 o7 z0 z1 z2 z3 z4 z5 z6 z7 y0 y1 y2 y3 y4 y5 y6 y7 u0 u1 u2 u3 u4 u5 u6 u7 v0 v1 v2 v3 v4 v5 v6 v7
 have HA2 := zaa (HT.out.a.cf HC2.out (fun e => by have := HKL.out _ e; omega))
 have HR2b := zaa (HT.out.r.cf HC2.out (fun e => by have := HKL.out _ e; omega))
 obtain ⟨z0, z1, z2, z3, z4, z5, z6, z7⟩ := HA2.out.cells
 obtain ⟨y0, y1, y2, y3, y4, y5, y6, y7⟩ := HA2.out.free
 obtain ⟨u0, u1, u2, u3, u4, u5, u6, u7⟩ := HR2b.out.free
 obtain ⟨v0, v1, v2, v3, v4, v5, v6, v7⟩ := HR2b.out.cells
 have HRR := zaa (HR2b.out.cf (Cf.set w2 (s0 + 2) 0 (.int .i64 code)) (by omega))
 go_wp2_with fail
 refine bodyPost_ret (results_cell_row rfl _ _ (s0 + 1) 66 #[.int .i64 code, .int .i64 0, .bool false, .slice none 0 0, .int .i64 0, .slice none 0 0, .int .i64 0, .int .i64 0] (0, 0) _ (by rfl) (HRR.out.put _ _ _ _ _ _ _ _) Tryz.underlying66 rfl sizeAn) rfl ?_
 refine ⟨⟨code, 0, false, c0⟩, t, .inl ⟨rfl, code, HR2.out, rfl⟩, none, 0, none, 0, rfl, zaa ⟨Sl.nil_any _ _ _ (fun _ => rfl), Sl.nil_any _ _ _ (fun _ => rfl), (fun p hp => by cases hp), (fun p hp => by cases hp)⟩, zaa (zdm HT.out HSY.out HKL.out HP2.out HC2.out ?_ ?_)⟩
 ·exact ((Cf.set _ _ _ _).wideQ (fun b e => .inr e)).go ((zca _ _ _ _ _ _ _ _ _ _).wideQ (fun b e => .inl e))
 ·exact (zcb _ _ _ _ _ _ _ _ _ _).trans (by simp)
theorem twinQ_1 (w : World) (K : Nat → Prop) (a : Nat) (k : Int) (n : Nat) (s : Qs) (h : Pk w K a k n s) (hn : pw n) (x : Int) (c : Cl) (ka : Option Addr) (kc : Nat) (va : Option Addr) (vc : Nat) (qa : Option Addr) (qn qc : Nat) (q : List Int) (hk : Sl w ka c.key.length kc c.key) (hv : Sl w va c.val.length vc c.val) (_hq : Sl w qa qn qc q) (fk : OutK K ka c.key.length) (fv : OutK K va c.val.length) :
  Calls Tryz.prog 34 #[iQ a, opV 1 x c ka kc va vc qa qn qc] w fun e w' => ∃ A t, TwQ 1 x c q k n s A t ∧ zbc A (fun u => Pk u (Zk K w u) a k n t ∧ Cf K w u) w e w' := by
 obtain ⟨y, hy⟩ : ∃ y, (((w.alloc (.cells #[.int .i64 1, .int .i64 x, .slice ka c.key.length kc, .int .i64 c.kd, .slice va c.val.length vc, .int .i64 c.pg, .int .i64 c.ct, .slice qa qn qc] 45)).alloc (.cells #[.int .i64 0, .int .i64 0, .bool false, .slice none 0 0, .int .i64 0, .slice none 0 0, .int .i64 0, .int .i64 0] 66)).alloc (.cells #[.int .i64 0, .int .i64 0, .bool false, .slice none 0 0, .int .i64 0, .slice none 0 0, .int .i64 0, .int .i64 0] 66)) = y := ⟨_, rfl⟩
 have hT := tw3_of w (.int .i64 1) (.int .i64 x) (.slice ka c.key.length kc) (.int .i64 c.kd) (.slice va c.val.length vc) (.int .i64 c.pg) (.int .i64 c.ct) (.slice qa qn qc)
 rw [hy] at hT
 obtain ⟨s0, hs0⟩ : ∃ s0, w.heap.size = s0 := ⟨_, rfl⟩
 rw [hs0] at hT
 have HT := zaa hT
 have HB := zaa hT.be
 have hgo : Pk y K a k n s := h.go hT.be
 have HKL : Hid (∀ b, K b → b < s0) := zaa (by rw [← hs0]; exact h.kl)
 have HC := zaa (setQ_any y K a k n s hgo x hn c ka va kc vc (hk.on Lr hT.be) (hv.on Lr hT.be) fk fv)
 have HST := zaa hgo
 have HSY : Hid (s0 + 3 ≤ y.heap.size) := zaa (by rw [← hy, ← hs0]; simp)
 obtain ⟨o0, o1, o2, o3, o4, o5, o6, o7⟩ := hT.o.cells
 obtain ⟨z0, z1, z2, z3, z4, z5, z6, z7⟩ := hT.a.cells
 obtain ⟨y0, y1, y2, y3, y4, y5, y6, y7⟩ := hT.a.free
 obtain ⟨u0, u1, u2, u3, u4, u5, u6, u7⟩ := hT.r.free
 obtain ⟨v0, v1, v2, v3, v4, v5, v6, v7⟩ := hT.r.cells
 clear hT hk hv _hq h hgo fk fv hn
 go_enter Tryz.func34, Tryz.ntmps34
 go_wp2_with (go_at_call 275; refine HC.out.mono ?_; rintro e w2 ⟨code, t, rfl, HR2, HP2, HC2⟩; refine Hid.out ?_)
 apply zaa
 clear HC o0 o1 o2 o3 o4 o5 o6 o7 z0 z1 z2 z3 z4 z5 z6 z7 y0 y1 y2 y3 y4 y5 y6 y7 u0 u1 u2 u3 u4 u5 u6 u7 v0 v1 v2 v3 v4 v5 v6 v7
 have HA2 := zaa (HT.out.a.cf HC2.out (fun e => by have := HKL.out _ e; omega))
 have HR2b := zaa (HT.out.r.cf HC2.out (fun e => by have := HKL.out _ e; omega))
 obtain ⟨z0, z1, z2, z3, z4, z5, z6, z7⟩ := HA2.out.cells
 obtain ⟨y0, y1, y2, y3, y4, y5, y6, y7⟩ := HA2.out.free
 obtain ⟨u0, u1, u2, u3, u4, u5, u6, u7⟩ := HR2b.out.free
 obtain ⟨v0, v1, v2, v3, v4, v5, v6, v7⟩ := HR2b.out.cells
 have HRR := zaa (HR2b.out.cf (Cf.set w2 (s0 + 2) 0 (.int .i64 code)) (by omega))
 go_wp2_with fail
 refine bodyPost_ret (results_cell_row rfl _ _ (s0 + 1) 66 #[.int .i64 code, .int .i64 0, .bool false, .slice none 0 0, .int .i64 0, .slice none 0 0, .int .i64 0, .int .i64 0] (0, 0) _ (by rfl) (HRR.out.put _ _ _ _ _ _ _ _) Tryz.underlying66 rfl sizeAn) rfl ?_
 refine ⟨⟨code, 0, false, c0⟩, t, .inr (.inl ⟨rfl, code, HR2.out, rfl⟩), none, 0, none, 0, rfl, zaa ⟨Sl.nil_any _ _ _ (fun _ => rfl), Sl.nil_any _ _ _ (fun _ => rfl), (fun p hp => by cases hp), (fun p hp => by cases hp)⟩, zaa (zdm HT.out HSY.out HKL.out HP2.out HC2.out ?_ ?_)⟩
 ·exact ((Cf.set _ _ _ _).wideQ (fun b e => .inr e)).go ((zca _ _ _ _ _ _ _ _ _ _).wideQ (fun b e => .inl e))
 ·exact (zcb _ _ _ _ _ _ _ _ _ _).trans (by simp)
theorem twinQ_2 (w : World) (K : Nat → Prop) (a : Nat) (k : Int) (n : Nat) (s : Qs) (h : Pk w K a k n s) (hn : pw n) (x : Int) (c : Cl) (ka : Option Addr) (kc : Nat) (va : Option Addr) (vc : Nat) (qa : Option Addr) (qn qc : Nat) (q : List Int) (_hk : Sl w ka c.key.length kc c.key) (_hv : Sl w va c.val.length vc c.val) (_hq : Sl w qa qn qc q) (_fk : OutK K ka c.key.length) (_fv : OutK K va c.val.length) :
  Calls Tryz.prog 34 #[iQ a, opV 2 x c ka kc va vc qa qn qc] w fun e w' => ∃ A t, TwQ 2 x c q k n s A t ∧ zbc A (fun u => Pk u (Zk K w u) a k n t ∧ Cf K w u) w e w' := by
 obtain ⟨y, hy⟩ : ∃ y, (((w.alloc (.cells #[.int .i64 2, .int .i64 x, .slice ka c.key.length kc, .int .i64 c.kd, .slice va c.val.length vc, .int .i64 c.pg, .int .i64 c.ct, .slice qa qn qc] 45)).alloc (.cells #[.int .i64 0, .int .i64 0, .bool false, .slice none 0 0, .int .i64 0, .slice none 0 0, .int .i64 0, .int .i64 0] 66)).alloc (.cells #[.int .i64 0, .int .i64 0, .bool false, .slice none 0 0, .int .i64 0, .slice none 0 0, .int .i64 0, .int .i64 0] 66)) = y := ⟨_, rfl⟩
 have hT := tw3_of w (.int .i64 2) (.int .i64 x) (.slice ka c.key.length kc) (.int .i64 c.kd) (.slice va c.val.length vc) (.int .i64 c.pg) (.int .i64 c.ct) (.slice qa qn qc)
 rw [hy] at hT
 obtain ⟨s0, hs0⟩ : ∃ s0, w.heap.size = s0 := ⟨_, rfl⟩
 rw [hs0] at hT
 have HT := zaa hT
 have HB := zaa hT.be
 have hgo : Pk y K a k n s := h.go hT.be
 have HKL : Hid (∀ b, K b → b < s0) := zaa (by rw [← hs0]; exact h.kl)
 have HC := zaa (removeQ_any y K a k n s hgo x hn)
 have HST := zaa hgo
 have HSY : Hid (s0 + 3 ≤ y.heap.size) := zaa (by rw [← hy, ← hs0]; simp)
 obtain ⟨o0, o1, o2, o3, o4, o5, o6, o7⟩ := hT.o.cells
 obtain ⟨z0, z1, z2, z3, z4, z5, z6, z7⟩ := hT.a.cells
 obtain ⟨y0, y1, y2, y3, y4, y5, y6, y7⟩ := hT.a.free
 obtain ⟨u0, u1, u2, u3, u4, u5, u6, u7⟩ := hT.r.free
 obtain ⟨v0, v1, v2, v3, v4, v5, v6, v7⟩ := hT.r.cells
 clear hT _hk _hv _hq h hgo _fk _fv hn
 go_enter Tryz.func34, Tryz.ntmps34
 go_wp2_with (go_at_call 274; refine HC.out.mono ?_; rintro e w2 ⟨code, t, rfl, HR2, HP2, HC2⟩; refine Hid.out ?_)
 apply zaa
 clear HC o0 o1 o2 o3 o4 o5 o6 o7 z0 z1 z2 z3 z4 z5 z6 z7 y0 y1 y2 y3 y4 y5 y6 y7 u0 u1 u2 u3 u4 u5 u6 u7 v0 v1 v2 v3 v4 v5 v6 v7
 have HA2 := zaa (HT.out.a.cf HC2.out (fun e => by have := HKL.out _ e; omega))
 have HR2b := zaa (HT.out.r.cf HC2.out (fun e => by have := HKL.out _ e; omega))
 obtain ⟨z0, z1, z2, z3, z4, z5, z6, z7⟩ := HA2.out.cells
 obtain ⟨y0, y1, y2, y3, y4, y5, y6, y7⟩ := HA2.out.free
 obtain ⟨u0, u1, u2, u3, u4, u5, u6, u7⟩ := HR2b.out.free
 obtain ⟨v0, v1, v2, v3, v4, v5, v6, v7⟩ := HR2b.out.cells
 have HRR := zaa (HR2b.out.cf (Cf.set w2 (s0 + 2) 0 (.int .i64 code)) (by omega))
 go_wp2_with fail
 refine bodyPost_ret (results_cell_row rfl _ _ (s0 + 1) 66 #[.int .i64 code, .int .i64 0, .bool false, .slice none 0 0, .int .i64 0, .slice none 0 0, .int .i64 0, .int .i64 0] (0, 0) _ (by rfl) (HRR.out.put _ _ _ _ _ _ _ _) Tryz.underlying66 rfl sizeAn) rfl ?_
 refine ⟨⟨code, 0, false, c0⟩, t, .inr (.inr (.inl ⟨rfl, code, HR2.out, rfl⟩)), none, 0, none, 0, rfl, zaa ⟨Sl.nil_any _ _ _ (fun _ => rfl), Sl.nil_any _ _ _ (fun _ => rfl), (fun p hp => by cases hp), (fun p hp => by cases hp)⟩, zaa (zdm HT.out HSY.out HKL.out HP2.out HC2.out ?_ ?_)⟩
 ·exact ((Cf.set _ _ _ _).wideQ (fun b e => .inr e)).go ((zca _ _ _ _ _ _ _ _ _ _).wideQ (fun b e => .inl e))
 ·exact (zcb _ _ _ _ _ _ _ _ _ _).trans (by simp)
theorem twinQ_3 (w : World) (K : Nat → Prop) (a : Nat) (k : Int) (n : Nat) (s : Qs) (h : Pk w K a k n s) (hn : pw n) (x : Int) (c : Cl) (ka : Option Addr) (kc : Nat) (va : Option Addr) (vc : Nat) (qa : Option Addr) (qn qc : Nat) (q : List Int) (_hk : Sl w ka c.key.length kc c.key) (_hv : Sl w va c.val.length vc c.val) (hq : Sl w qa qn qc q) (_fk : OutK K ka c.key.length) (_fv : OutK K va c.val.length) :
  Calls Tryz.prog 34 #[iQ a, opV 3 x c ka kc va vc qa qn qc] w fun e w' => ∃ A t, TwQ 3 x c q k n s A t ∧ zbc A (fun u => Pk u (Zk K w u) a k n t ∧ Cf K w u) w e w' := by
 obtain ⟨y, hy⟩ : ∃ y, (((w.alloc (.cells #[.int .i64 3, .int .i64 x, .slice ka c.key.length kc, .int .i64 c.kd, .slice va c.val.length vc, .int .i64 c.pg, .int .i64 c.ct, .slice qa qn qc] 45)).alloc (.cells #[.int .i64 0, .int .i64 0, .bool false, .slice none 0 0, .int .i64 0, .slice none 0 0, .int .i64 0, .int .i64 0] 66)).alloc (.cells #[.int .i64 0, .int .i64 0, .bool false, .slice none 0 0, .int .i64 0, .slice none 0 0, .int .i64 0, .int .i64 0] 66)) = y := ⟨_, rfl⟩
 have hT := tw3_of w (.int .i64 3) (.int .i64 x) (.slice ka c.key.length kc) (.int .i64 c.kd) (.slice va c.val.length vc) (.int .i64 c.pg) (.int .i64 c.ct) (.slice qa qn qc)
 rw [hy] at hT
 obtain ⟨s0, hs0⟩ : ∃ s0, w.heap.size = s0 := ⟨_, rfl⟩
 rw [hs0] at hT
 have HT := zaa hT
 have HB := zaa hT.be
 have hgo : Pk y K a k n s := h.go hT.be
 have HKL : Hid (∀ b, K b → b < s0) := zaa (by rw [← hs0]; exact h.kl)
 have HC := zaa (((hgo.askp hn).find qa qn qc q (hq.on Lr hT.be)).mono fun e w' h => h.cnt)
 have HST := zaa hgo
 have HSY : Hid (s0 + 3 ≤ y.heap.size) := zaa (by rw [← hy, ← hs0]; simp)
 obtain ⟨o0, o1, o2, o3, o4, o5, o6, o7⟩ := hT.o.cells
 obtain ⟨z0, z1, z2, z3, z4, z5, z6, z7⟩ := hT.a.cells
 obtain ⟨y0, y1, y2, y3, y4, y5, y6, y7⟩ := hT.a.free
 obtain ⟨u0, u1, u2, u3, u4, u5, u6, u7⟩ := hT.r.free
 obtain ⟨v0, v1, v2, v3, v4, v5, v6, v7⟩ := hT.r.cells
 clear hT _hk _hv hq h hgo _fk _fv hn
 go_enter Tryz.func34, Tryz.ntmps34
 go_wp2_with (go_at_call 271; refine HC.out.mono ?_; rintro e w2 ⟨rfl, HB2⟩; refine Hid.out ?_)
 apply zaa
 clear HC o0 o1 o2 o3 o4 o5 o6 o7 z0 z1 z2 z3 z4 z5 z6 z7 y0 y1 y2 y3 y4 y5 y6 y7 u0 u1 u2 u3 u4 u5 u6 u7 v0 v1 v2 v3 v4 v5 v6 v7
 have HA2 := zaa (HT.out.a.cf (Cf.of_below (F := fun _ => False) HB2.out) (fun e => e))
 have HR2b := zaa (HT.out.r.cf (Cf.of_below (F := fun _ => False) HB2.out) (fun e => e))
 obtain ⟨z0, z1, z2, z3, z4, z5, z6, z7⟩ := HA2.out.cells
 obtain ⟨y0, y1, y2, y3, y4, y5, y6, y7⟩ := HA2.out.free
 obtain ⟨u0, u1, u2, u3, u4, u5, u6, u7⟩ := HR2b.out.free
 obtain ⟨v0, v1, v2, v3, v4, v5, v6, v7⟩ := HR2b.out.cells
 have HRR := zaa ((HR2b.out.cf (Cf.set w2 (s0 + 2) 1 (.int .i64 (cntL s.cs q : Int))) (by omega)).cf (Cf.set _ (s0 + 2) 2 (.bool (isL s.cs q))) (by omega))
 go_wp2_with fail
 refine bodyPost_ret (results_cell_row rfl _ _ (s0 + 1) 66 #[.int .i64 0, .int .i64 (cntL s.cs q : Int), .bool (isL s.cs q), .slice none 0 0, .int .i64 0, .slice none 0 0, .int .i64 0, .int .i64 0] (0, 0) _ (by rfl) (HRR.out.put _ _ _ _ _ _ _ _) Tryz.underlying66 rfl sizeAn) rfl ?_
 refine ⟨⟨0, (cntL s.cs q : Int), isL s.cs q, c0⟩, s, .inr (.inr (.inr (.inl ⟨rfl, rfl, rfl⟩))), none, 0, none, 0, rfl, zaa ⟨Sl.nil_any _ _ _ (fun _ => rfl), Sl.nil_any _ _ _ (fun _ => rfl), (fun p hp => by cases hp), (fun p hp => by cases hp)⟩, zaa (zdm HT.out HSY.out HKL.out ((HST.out.go HB2.out).wide (fun b e => .inl e) (Zk.lt (fun b e => by have := HKL.out b e; have := HSY.out; omega) HB2.out.size)) (Cf.of_below HB2.out) ?_ ?_)⟩
 ·exact (((Cf.set _ _ _ _).go (Cf.set _ _ _ _)).wideQ (fun b e => .inr e)).go ((zca _ _ _ _ _ _ _ _ _ _).wideQ (fun b e => .inl e))
 ·exact (zcb _ _ _ _ _ _ _ _ _ _).trans (by simp)
theorem twinQ_4 (w : World) (K : Nat → Prop) (a : Nat) (k : Int) (n : Nat) (s : Qs) (h : Pk w K a k n s) (hn : pw n) (kd x : Int) (h0 : ¬ kd = 0) (h1 : ¬ kd = 1) (h2 : ¬ kd = 2) (h3 : ¬ kd = 3) (c : Cl) (ka : Option Addr) (kc : Nat) (va : Option Addr) (vc : Nat) (qa : Option Addr) (qn qc : Nat) (q : List Int) (_hk : Sl w ka c.key.length kc c.key) (_hv : Sl w va c.val.length vc c.val) (_hq : Sl w qa qn qc q) (_fk : OutK K ka c.key.length) (_fv : OutK K va c.val.length) :
  Calls Tryz.prog 34 #[iQ a, opV kd x c ka kc va vc qa qn qc] w fun e w' => ∃ A t, TwQ kd x c q k n s A t ∧ zbc A (fun u => Pk u (Zk K w u) a k n t ∧ Cf K w u) w e w' := by
 obtain ⟨y, hy⟩ : ∃ y, (((w.alloc (.cells #[.int .i64 kd, .int .i64 x, .slice ka c.key.length kc, .int .i64 c.kd, .slice va c.val.length vc, .int .i64 c.pg, .int .i64 c.ct, .slice qa qn qc] 45)).alloc (.cells #[.int .i64 0, .int .i64 0, .bool false, .slice none 0 0, .int .i64 0, .slice none 0 0, .int .i64 0, .int .i64 0] 66)).alloc (.cells #[.int .i64 0, .int .i64 0, .bool false, .slice none 0 0, .int .i64 0, .slice none 0 0, .int .i64 0, .int .i64 0] 66)) = y := ⟨_, rfl⟩
 have hT := tw3_of w (.int .i64 kd) (.int .i64 x) (.slice ka c.key.length kc) (.int .i64 c.kd) (.slice va c.val.length vc) (.int .i64 c.pg) (.int .i64 c.ct) (.slice qa qn qc)
 rw [hy] at hT
 obtain ⟨s0, hs0⟩ : ∃ s0, w.heap.size = s0 := ⟨_, rfl⟩
 rw [hs0] at hT
 have HT := zaa hT
 have HB := zaa hT.be
 have hgo : Pk y K a k n s := h.go hT.be
 have HKL : Hid (∀ b, K b → b < s0) := zaa (by rw [← hs0]; exact h.kl)
 have hcl := (hgo.askp hn).cell x
 have HW := zaa (cellE_mem s.cs x)
 obtain ⟨C, hC⟩ : ∃ C, cellE s.cs x = C := ⟨_, rfl⟩
 obtain ⟨E, hE⟩ : ∃ E, remE s.cs x = E := ⟨_, rfl⟩
 rw [hC, hE] at hcl
 rw [hC] at HW
 have HC := zaa hcl
 have HCE := zaa (And.intro hC hE)
 clear hcl hC hE
 have HF : Hid (∀ d ∈ s.cs, d.Wf ∧ d.key.length ≤ 140737488355328 ∧ d.val.length ≤ 140737488355328) := zaa (fun d hd => ⟨h.ok.wf d hd, by have := ((h.ok.may d hd).fit (by have := zak hn; omega)).key; omega, by have := ((h.ok.may d hd).fit (by have := zak hn; omega)).val; omega⟩)
 have HST := zaa hgo
 have HSY : Hid (s0 + 3 ≤ y.heap.size) := zaa (by rw [← hy, ← hs0]; simp)
 obtain ⟨o0, o1, o2, o3, o4, o5, o6, o7⟩ := hT.o.cells
 obtain ⟨z0, z1, z2, z3, z4, z5, z6, z7⟩ := hT.a.cells
 obtain ⟨y0, y1, y2, y3, y4, y5, y6, y7⟩ := hT.a.free
 obtain ⟨u0, u1, u2, u3, u4, u5, u6, u7⟩ := hT.r.free
 obtain ⟨v0, v1, v2, v3, v4, v5, v6, v7⟩ := hT.r.cells
 have d0 : (kd == 0) = false := by simpa using h0
 have d1 : (kd == 1) = false := by simpa using h1
 have d2 : (kd == 2) = false := by simpa using h2
 have d3 : (kd == 3) = false := by simpa using h3
 have HK4 := zaa (And.intro h0 (And.intro h1 (And.intro h2 h3)))
 clear h0 h1 h2 h3
 clear hT _hk _hv _hq h hgo _fk _fv hn
 go_enter Tryz.func34, Tryz.ntmps34
 go_wp2_with (go_at_call 270; refine HC.out.mono ?_; rintro e w2 ⟨ko, kc2, vo, vc2, rfl, HO2, HB2⟩; refine Hid.out ?_)
 apply zaa
 clear HC o0 o1 o2 o3 o4 o5 o6 o7 z0 z1 z2 z3 z4 z5 z6 z7 y0 y1 y2 y3 y4 y5 y6 y7 u0 u1 u2 u3 u4 u5 u6 u7 v0 v1 v2 v3 v4 v5 v6 v7
 have HA2 := zaa (HT.out.a.cf (Cf.of_below (F := fun _ => False) HB2.out) (fun e => e))
 have HR2b := zaa (HT.out.r.cf (Cf.of_below (F := fun _ => False) HB2.out) (fun e => e))
 obtain ⟨z0, z1, z2, z3, z4, z5, z6, z7⟩ := HA2.out.cells
 obtain ⟨y0, y1, y2, y3, y4, y5, y6, y7⟩ := HA2.out.free
 obtain ⟨u0, u1, u2, u3, u4, u5, u6, u7⟩ := HR2b.out.free
 obtain ⟨v0, v1, v2, v3, v4, v5, v6, v7⟩ := HR2b.out.cells
 clear z0 z1 z2 z3 z4 z5 z6 z7 y0 y1 y2 y3 y4 y5 y6 y7
 go_wp2_with (refine put_b8 rfl _ _ rfl _ HA2.out _ _ _ _ _ _ _ _ _ (by rfl) (by rfl) ?_; intro wu HU1 HC3 HS3; refine Hid.out ?_)
 apply zaa
 have HR3 := zaa (HR2b.out.cf HC3.out (by omega))
 clear u0 u1 u2 u3 u4 u5 u6 u7 v0 v1 v2 v3 v4 v5 v6 v7 HA2 HR2b
 obtain ⟨z0, z1, z2, z3, z4, z5, z6, z7⟩ := HU1.out.cells
 obtain ⟨y0, y1, y2, y3, y4, y5, y6, y7⟩ := HU1.out.free
 obtain ⟨u0, u1, u2, u3, u4, u5, u6, u7⟩ := HR3.out.free
 obtain ⟨v0, v1, v2, v3, v4, v5, v6, v7⟩ := HR3.out.cells
 have HRR := zaa (HR3.out.cf (Cf.set _ (s0 + 2) 0 (.int .i64 E)) (by omega))
 go_wp2_with fail
 refine bodyPost_ret (results_cell_row rfl _ _ (s0 + 1) 66 #[.int .i64 E, .int .i64 0, .bool false, .slice ko C.key.length kc2, .int .i64 C.kd, .slice vo C.val.length vc2, .int .i64 C.pg, .int .i64 C.ct] (0, 0) _ (by rfl) (HRR.out.put _ _ _ _ _ _ _ _) Tryz.underlying66 rfl sizeAn) rfl ?_
 obtain ⟨k1, k2, _⟩ := HO2.out
 have HWC : C.Wf ∧ C.key.length ≤ 140737488355328 ∧ C.val.length ≤ 140737488355328 := by
  rcases HW.out with h | h
  ·rw [h]
   exact ⟨⟨Wf.nil, Wf.nil⟩, by simp, by simp⟩
  ·exact HF.out _ h
 obtain ⟨ao, cp, e, hs1, hb1⟩ := k1.sl HWC.1.1 HWC.2.1
 cases e
 obtain ⟨ao2, cp2, e, hs2, hb2⟩ := k2.sl HWC.1.2 HWC.2.2
 cases e
 have hcf : Cf (fun b => b = s0 + 1 ∨ b = s0 + 2) w2 (put8 (wu.setCell ⟨s0 + 2, 0, none⟩ (.int .i64 E)) (s0 + 1) (.int .i64 E) (.int .i64 0) (.bool false) (.slice ko C.key.length kc2) (.int .i64 C.kd) (.slice vo C.val.length vc2) (.int .i64 C.pg) (.int .i64 C.ct)) := ((HC3.out.go (Cf.set _ _ _ _)).wideQ (fun b e => .inr e)).go ((zca _ _ _ _ _ _ _ _ _ _).wideQ (fun b e => .inl e))
 have hsy := HSY.out
 have hwz := HB.out.size
 rw [hs0] at hwz
 refine ⟨⟨E, 0, false, C⟩, s, ?_, ko, kc2, vo, vc2, rfl, zaa ⟨hs1.cf hcf (.inr fun p hp => ?_), hs2.cf hcf (.inr fun p hp => ?_), fun p hp => ?_, fun p hp => ?_⟩, zaa (zdm HT.out HSY.out HKL.out ((HST.out.go HB2.out).wide (fun b e => .inl e) (Zk.lt (fun b e => by have := HKL.out b e; have := HSY.out; omega) HB2.out.size)) (Cf.of_below HB2.out) hcf ?_)⟩
 ·exact .inr (.inr (.inr (.inr ⟨HK4.out, by rw [HCE.out.1, HCE.out.2], rfl⟩)))
 ·have := hb1 p hp
  omega
 ·have := hb2 p hp
  omega
 ·have := hb1 p hp
  omega
 ·have := hb2 p hp
  omega
 ·exact (zcb _ _ _ _ _ _ _ _ _ _).trans (by simp [HS3.out])
theorem twinP_any (w : World) (K : Nat → Prop) (a : Nat) (k : Int) (n : Nat) (cs : List Cl) (h : Pn w K a k n cs) (kd x : Int) (c : Cl) (ka : Option Addr) (kc : Nat) (va : Option Addr) (vc : Nat) (qa : Option Addr) (qn qc : Nat) (q : List Int) (hk : Sl w ka c.key.length kc c.key) (hv : Sl w va c.val.length vc c.val) (hq : Sl w qa qn qc q) :
  Calls Tryz.prog 34 #[iP a, opV kd x c ka kc va vc qa qn qc] w fun e w' => ∃ A cs2, TwP kd x c q k n cs A cs2 ∧ zbc A (fun u => Pn u (Zk K w u) a k n cs2 ∧ Cf K w u) w e w' := by
 by_cases h0 : kd = 0
 ·subst h0
  exact twinP_0 w K a k n cs h x c ka kc va vc qa qn qc q hk hv hq
 by_cases h1 : kd = 1
 ·subst h1
  exact twinP_1 w K a k n cs h x c ka kc va vc qa qn qc q hk hv hq
 by_cases h2 : kd = 2
 ·subst h2
  exact twinP_2 w K a k n cs h x c ka kc va vc qa qn qc q hk hv hq
 by_cases h3 : kd = 3
 ·subst h3
  exact twinP_3 w K a k n cs h x c ka kc va vc qa qn qc q hk hv hq
 exact twinP_4 w K a k n cs h kd x h0 h1 h2 h3 c ka kc va vc qa qn qc q hk hv hq
theorem twinQ_any (w : World) (K : Nat → Prop) (a : Nat) (k : Int) (n : Nat) (s : Qs) (h : Pk w K a k n s) (hn : pw n) (kd x : Int) (c : Cl) (ka : Option Addr) (kc : Nat) (va : Option Addr) (vc : Nat) (qa : Option Addr) (qn qc : Nat) (q : List Int) (hk : Sl w ka c.key.length kc c.key) (hv : Sl w va c.val.length vc c.val) (hq : Sl w qa qn qc q) (fk : OutK K ka c.key.length) (fv : OutK K va c.val.length) :
  Calls Tryz.prog 34 #[iQ a, opV kd x c ka kc va vc qa qn qc] w fun e w' => ∃ A t, TwQ kd x c q k n s A t ∧ zbc A (fun u => Pk u (Zk K w u) a k n t ∧ Cf K w u) w e w' := by
 by_cases h0 : kd = 0
 ·subst h0
  exact twinQ_0 w K a k n s h hn x c ka kc va vc qa qn qc q hk hv hq fk fv
 by_cases h1 : kd = 1
 ·subst h1
  exact twinQ_1 w K a k n s h hn x c ka kc va vc qa qn qc q hk hv hq fk fv
 by_cases h2 : kd = 2
 ·subst h2
  exact twinQ_2 w K a k n s h hn x c ka kc va vc qa qn qc q hk hv hq fk fv
 by_cases h3 : kd = 3
 ·subst h3
  exact twinQ_3 w K a k n s h hn x c ka kc va vc qa qn qc q hk hv hq fk fv
 exact twinQ_4 w K a k n s h hn kd x h0 h1 h2 h3 c ka kc va vc qa qn qc q hk hv hq fk fv
end Go.Proofs.YtofafbmpbkjhnaaGreatDoor
