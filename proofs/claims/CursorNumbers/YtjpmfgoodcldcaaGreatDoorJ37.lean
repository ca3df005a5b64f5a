import Derived.Test.YtjpmfgoodcldcaaGreatDoorJ31
import Derived.Test.YtjpmfgoodcldcaaGreatDoorJ36
namespace Go.Proofs.YtjpmfgoodcldcaaGreatDoor
set_option maxRecDepth 100000
open Go.RowKit Go.Maps
def LayTo9 (w : World) (b m : Nat) (en pg ps rd : Int) (M : Int → Option Pf) (ct : Nat) (n : Int) (d : List Int) (u : World) : Prop :=
 (¬ (2 ≤ n ∧ n < ps) ∧ u = w) ∨ ((2 ≤ n ∧ n < ps) ∧ ∃ f : Pf, f.l = d ∧ w.heap.size ≤ f.g ∧ Bn u b m en pg ps rd (putM M n f) (if (M n).isSome then ct else ct + 1) ∧ Cf (· = m) w u)
theorem blay_any {w : World} {b m : Nat} {en pg ps rd : Int} {M : Int → Option Pf} {ct : Nat} (h : Bn w b m en pg ps rd M ct) (n : Int) (hn : (Lit.int .i64 n).wf = true) (ao : Option Addr) (dn dc : Nat) (d : List Int) (hd : Sl w ao dn dc d) (hct : ct < 1000000) :
  Calls Tryz.prog 10 #[pB b, .int .i64 n, .slice ao dn dc] w fun e u => ∃ k, e = .returned (.int .i64 k) ∧ Hid (LayTo9 w b m en pg ps rd M ct n d u) := by
 obtain ⟨c0, c1, c2, c3, c4, f4⟩ := h.cells
 by_cases h1 : n < 2
 ·have e1 : decide (n < 2) = true := by simpa using h1
  have HF : Hid (LayTo9 w b m en pg ps rd M ct n d w) := hidden (.inl ⟨by omega, rfl⟩)
  clear h hd
  go_enter Tryz.func10, Tryz.ntmps10
  go_wp2
  go_ret
  first | exact ⟨_, rfl, HF⟩ | exact ⟨⟨_, rfl⟩, HF⟩
 ·have e1 : decide (n < 2) = false := by simpa using h1
  by_cases h2 : ps ≤ n
  ·have e2 : decide (ps ≤ n) = true := by simpa using h2
   have HF : Hid (LayTo9 w b m en pg ps rd M ct n d w) := hidden (.inl ⟨by omega, rfl⟩)
   clear h hd
   go_enter Tryz.func10, Tryz.ntmps10
   go_wp2
   go_ret
   first | exact ⟨_, rfl, HF⟩ | exact ⟨⟨_, rfl⟩, HF⟩
  ·have e2 : decide (ps ≤ n) = false := by simpa using h2
   have hr := hd.hroom
   have hmk := made_run dn (by omega)
   have hrI : (dn : Int) ≤ 140737488355328 := by omega
   obtain ⟨y, hy⟩ : ∃ y, (w.drew).alloc (.cells (madeCells #[.int .u8 0] dn) 5) = y := ⟨_, rfl⟩
   have hwy : Below w.heap.size w y := by rw [← hy]; exact bl_al (Below.refl _ w).drew (Nat.le_refl _) _
   have HO : Hid (OwnB y w.heap.size (.slice (some ⟨w.heap.size, 0, none⟩) 0 dn) []) := hidden (by rw [← hy]; exact made_own w.drew _ (by omega))
   have HSY : Hid (Sl y ao dn dc d) := hidden (hd.on (Nat.le_refl _) hwy)
   have HWY := hidden hwy
   have c3y := (h.on hwy).cells.c3
   have hys : w.heap.size ≤ y.heap.size := hwy.size
   have HB := hidden h
   have HD := hidden hd
   have HDL := hidden hd.hlen
   have HP : Hid (2 ≤ n ∧ n < ps) := hidden (by omega)
   clear h hd hwy
   go_enter Tryz.func10, Tryz.ntmps10
   go_wp2_with fail
   go_region_law (first
    | (refine step_sl rfl _ _ rfl w.heap.size [] d _ ao dn dc rfl rfl HO.out HSY.out (by simp; omega) hys ?_; intro v' u ho hg; obtain ⟨c3u, f2, rfl, u2, hst, HX⟩ := new_store HB.out n hn hct HWY.out HO.out ho hg HD.out.wf (by rw [HDL.out]; exact hr); clear ho hg))
   all_goals
    clear hst hmk
    go_wp2
    go_ret
    first | exact ⟨_, rfl, hidden (.inr ⟨HP.out, f2, HX.out⟩)⟩ | exact ⟨⟨_, rfl⟩, hidden (.inr ⟨HP.out, f2, HX.out⟩)⟩
def cA13 : Cl := ⟨[97], 1, [1], 0, 0⟩
def cB13 : Cl := ⟨[98], 1, [2], 0, 0⟩
abbrev cs13 : List Cl := [cA13, cB13]
theorem gd13 : Gd1 cs13 := by
 refine ⟨?_, ?_, ?_, ?_⟩
 ·intro c hc
  simp only [List.mem_cons, List.not_mem_nil, or_false] at hc
  rcases hc with rfl | rfl <;> refine ⟨?_, ?_⟩ <;> intro y hy <;> simp [cA13, cB13] at hy <;> omega
 ·intro c hc
  simp only [List.mem_cons, List.not_mem_nil, or_false] at hc
  rcases hc with rfl | rfl <;> exact ⟨by decide, by decide, by decide, by decide, by decide, fun _ => ⟨rfl, rfl⟩, fun h => absurd rfl h⟩
 ·decide
 ·decide
theorem enc13 : encE 2 512 cs13 = 0 := by decide
theorem fnd13 : Fnd cs13 [97, 97] 1 := by
 refine ⟨by decide, fun i c hi hc => ?_, fun i c hi hc => ?_⟩
 ·obtain rfl : i = 0 := by omega
  injection hc with hc
  subst hc
  decide
 ·have hl : i < 2 := (List.getElem?_eq_some_iff.1 hc).1
  obtain rfl : i = 1 := by omega
  injection hc with hc
  subst hc
  decide
theorem keyed_any (ko : Option Addr) (kc : Nat) (x : Int) (hx : 0 ≤ x ∧ x ≤ 255) (w : World) : Calls Tryz.prog 8 #[.slice ko 1 kc, .int .u8 x] w fun e u => ∃ g, e = .returned (.agg #[.slice ko 1 kc, .int .i64 1, .slice (some ⟨g, 0, none⟩) 1 1, .int .i64 0, .int .i64 0]) ∧ Hid (Sl u (some ⟨g, 0, none⟩) 1 1 [x] ∧ Below w.heap.size w u) := by
 obtain ⟨s, hs⟩ : ∃ s, w.heap.size = s := ⟨_, rfl⟩
 obtain ⟨y, hy⟩ : ∃ y, w.alloc (.cells #[.slice none 0 0, .int .i64 0, .slice none 0 0, .int .i64 0, .int .i64 0] 32) = y := ⟨_, rfl⟩
 have hby : Below w.heap.size w y := by rw [← hy]; exact bl_al (Below.refl _ _) (Nat.le_refl _) _
 have hres : C5 y s (.slice none 0 0) (.int .i64 0) (.slice none 0 0) (.int .i64 0) (.int .i64 0) := by rw [← hy, ← hs]; exact C5.box _ _ _ _ _ _
 obtain ⟨z, hz⟩ : ∃ z, y.alloc (.cells #[.int .u8 x] 5) = z := ⟨_, rfl⟩
 have hbz : Below y.heap.size y z := by rw [← hz]; exact bl_al (Below.refl _ _) (Nat.le_refl _) _
 have hsl : Sl z (some ⟨y.heap.size, 0, none⟩) 1 1 [x] := by rw [← hz]; exact sl_one y x hx
 have hresz : C5 z s (.slice none 0 0) (.int .i64 0) (.slice none 0 0) (.int .i64 0) (.int .i64 0) := box_on hres hbz
 obtain ⟨b0, b1, b2', b3, b4⟩ := hresz.cells
 obtain ⟨h0, h1, h2, h3, h4⟩ := hresz.free
 have HR := hidden hresz
 have HSL := hidden hsl
 have HB := hidden (bl_go hby (Nat.le_refl _) hbz)
 have HSS := hidden (And.intro hs (And.intro (lt_some hres) hby.size))
 clear hres hresz hsl hby hbz hx
 go_enter Tryz.func8, Tryz.ntmps8
 go_wp2
 refine bodyPost_ret (results_cell_row rfl _ _ s 32 #[.slice ko 1 kc, .int .i64 1, .slice (some ⟨y.heap.size, 0, none⟩) 1 1, .int .i64 0, .int .i64 0] (0, 0) _ (by rfl) (HR.out.put _ _ _ _ _) Tryz.underlying32 rfl sizeCell) rfl ?_
 have hf := put5_cf z s (.slice ko 1 kc) (.int .i64 1) (.slice (some ⟨y.heap.size, 0, none⟩) 1 1) (.int .i64 0) (.int .i64 0)
 obtain ⟨e1, e2, e3⟩ := HSS.out
 exact ⟨y.heap.size, rfl, hidden ⟨HSL.out.cf hf (.inr fun p hp e => by cases hp; simp only at e; omega), HB.out.trans (hf.below HB.out.size (fun k hk e => by omega))⟩⟩
end Go.Proofs.YtjpmfgoodcldcaaGreatDoor

namespace Go.Proofs.YtjpmfgoodcldcaaGreatDoor
set_option maxRecDepth 100000
open Go.RowKit Go.Shelf
theorem putObj_cf (W : World) (l : Nat) (o : Obj) : Cf (fun k => k = l) W (W.putObj l o) := by
 have h := grownBy_putObj' W l o
 exact ⟨h.os, h.tape, h.output, h.size, fun k hk hne => h.block k hk (fun e => hne (by injection e))⟩
structure RgT (n : Nat) (P : Program) (assign body : Code) (ps : Array Tmp) (tmps : Array Value) (l : Nat) (T : Nat → World → Prop) (V : Nat → Array Value → World → Prop) (A : Nat → Act → World → Prop) (Gc : Nat → Prop) (N : Nat) : Prop where
 sz : ∀ k vs W, V k vs W → vs.size = ps.size
 asg : ∀ k vs W (K : Act → World → Prop), T k W → V k vs W → k < N → l < W.heap.size → (∀ a' W', Cf (fun _ => False) W W' → A k a' W' → K a' W') →
  assign.wpIn (Fence.wide.inRound l) (n - 1 - 1) P (Exit.then K (fun _ _ _ => False)) { tmps := (ps.zip vs).foldl (fun t (p, v) => t.setIfInBounds p v) tmps, defers := [] } W
 ax : ∀ k a' W W', A k a' W → l < W.heap.size → Cf (fun k => k = l) W W' → A k a' W'
 bdy : ∀ k a' W, A k a' W → k < N → body.wpIn (Fence.wide.inRound l) (n - 1 - 1) P (fun e _ W' => e = .normal ∧ Cf Gc W W' ∧ T (k + 1) W') a' W
theorem wpIn_rangeT {P : Program} {g : Operand} {ps : Array Tmp} {assign body : Code} {Q : Exit → Act → World → Prop} {a : Act} {w : World} {n : Nat} (h1 : 1 ≤ n) {gf : Nat} {lb : Array Value}
  (hg : a.eval g = .func (.func gf) #[] lb) (eg : ∀ args w, (callFunc gf args).run P w = .ok (.enter gf args) w)
  (T : Nat → World → Prop) (N : Nat) (V : Nat → Array Value → World → Prop) (A : Nat → Act → World → Prop) (Fq Gc : Nat → Prop) (hFq : ∀ k, Fq k → k < w.heap.size) (hGc : ∀ k, Gc k → k < w.heap.size)
  (hT : ∀ k A B, T k A → Cf (fun x => Fq x ∨ w.heap.size ≤ x) A B → T k B) (h0 : T 0 w)
  (hR : RgT n P assign body ps a.tmps (w.heap.size + 1) T V A Gc N)
  (hseq : ∀ (T' : Nat → World → Prop) (W1 : World), Below w.heap.size w W1 → W1.heap.size = w.heap.size + 2 → (∀ k A B, T' k A → Cf (fun x => Fq x ∨ w.heap.size + 2 ≤ x) A B → T' k B) →
   (∀ k W vs, T' k W → k < N → V k vs W → YieldAt Fence.wide (n - 1 - 1) P (w.heap.size + 1) vs W fun e W' => e = .returned (.bool true) ∧ T' (k + 1) W' ∧ Cf (fun x => Gc x ∨ x = w.heap.size + 1) W W') → T' 0 W1 →
   CallsIn Fence.wide (n - 1) P gf (#[.func (.yield (w.heap.size + 1)) #[] #[]] ++ lb) W1 fun e W' => (∃ v, e = .returned v) ∧ T' N W')
  (hdone : ∀ (D : Nat) (W : World), w.heap.size = D → T N W → W.heap[D]? = some (.deferred (some [])) → Q .normal { a with defers := { target := .collected D, args := #[] } :: a.defers } W) :
  (Code.rangeFunc g ps assign body).wpIn Fence.wide n P Q a w := by
 refine wpIn_rangeFunc ?_
 intro fn hfn
 obtain ⟨rec, hrec⟩ : ∃ rec : LoopState → Option Code → Loop, rec = fun st pe => { state := st, pending := pe, fn, tmps := a.tmps, params := ps, assign, body, defers := w.heap.size } := ⟨_, rfl⟩
 obtain ⟨W1, hW1⟩ : ∃ W1, (w.alloc (.deferred (some []))).alloc (.loop (rec .ready none)) = W1 := ⟨_, rfl⟩
 have hL1 : W1.heap[w.heap.size + 1]? = some (.loop (rec .ready none)) := by
  rw [← hW1]
  have := heap_alloc_last (w.alloc (.deferred (some []))) (.loop (rec .ready none))
  rwa [World.size_alloc] at this
 have hK1 : W1.heap[w.heap.size]? = some (.deferred (some [])) := by
  rw [← hW1]
  exact (Below.heap_alloc _ _ _ (by simp)).trans (heap_alloc_last w _)
 have hb1 : Below w.heap.size w W1 := by rw [← hW1]; exact bl_al (bl_al (Below.refl _ _) (Nat.le_refl _) _) (Nat.le_refl _) _
 have hz1 : W1.heap.size = w.heap.size + 2 := by rw [← hW1]; simp
 refine ⟨w.heap.size + 1, [{ target := .collected w.heap.size, args := #[] }], W1, { target := .fn (.func gf) lb, args := #[.func (.yield (w.heap.size + 1)) #[] #[]] }, W1, gf,
  #[.func (.yield (w.heap.size + 1)) #[] #[]] ++ lb, W1, ?_, ?_, ?_, ?_, fun _ => h1, ?_⟩
 ·rw [← hW1, hrec]
  exact run_enterLoop_outer _ _ _ _ _
 ·simp only [resolve, hg]
  simp [go_sem]
 ·intro f' _
  trivial
 ·simp [invoke, go_sem, eg]
 ·refine (hseq (fun k W => T k W ∧ W.heap[w.heap.size + 1]? = some (.loop (rec .ready none)) ∧ W.heap[w.heap.size]? = some (.deferred (some []))) W1 hb1 hz1
   (fun k A B hs hc => ⟨hT k A B hs.1 (hc.wd13 (fun x hx => hx.imp id (fun h => by omega))), (hc.block _ (lt_some hs.2.1) (by rintro (e | e); exact absurd (hFq _ e) (by omega); omega)).trans hs.2.1, (hc.block _ (lt_some hs.2.2) (by rintro (e | e); exact absurd (hFq _ e) (by omega); omega)).trans hs.2.2⟩)
   ?_ ⟨hT 0 w W1 h0 (Cf.of_below hb1), hL1, hK1⟩).mono ?_
  ·rintro k W vs ⟨hi, hl, hk⟩ hkN hv
   have hy := run_yield (P := P) (args := vs) hl (by rw [hrec]; exact hR.sz k vs W hv)
   rw [hrec] at hy
   refine ⟨fn, _, assign, body, hy, roundIn_of_wpIn hfn (hR.asg k vs W _ hi hv hkN (lt_some hl) ?_)⟩
   clear hy
   intro a' Wa hga ha
   have hla := (hga.block _ (lt_some hl) id).trans hl
   have hka := (hga.block _ (lt_some hk) id).trans hk
   refine ⟨_, run_beginRound hla (by rw [hrec]), ?_⟩
   have hpc := putObj_cf Wa (w.heap.size + 1) (.loop { rec .ready none with state := .busy })
   have hl2 : (Wa.putObj (w.heap.size + 1) (.loop { rec .ready none with state := .busy })).heap[w.heap.size + 1]? = some (.loop { rec .ready none with state := .busy }) := World.putObj_heap_same (lt_some hla)
   have hk2 : (Wa.putObj (w.heap.size + 1) (.loop { rec .ready none with state := .busy })).heap[w.heap.size]? = some (.deferred (some [])) := (World.putObj_heap_other (by omega)).trans hka
   refine wpIn_mono (hR.bdy k a' _ (hR.ax k a' Wa _ ha (lt_some hla) hpc) hkN) ?_
   rintro e a3 W3 ⟨rfl, hg3, ht3⟩
   have hl3 := (hg3.block _ (lt_some hl2) (fun e => absurd (hGc _ e) (by omega))).trans hl2
   have hk3 := (hg3.block _ (lt_some hk2) (fun e => absurd (hGc _ e) (by omega))).trans hk2
   have hr := run_endRound (P := P) none hl3
   have hpc3 := putObj_cf W3 (w.heap.size + 1) (.loop (rec .ready none))
   rw [show ({ ({ rec .ready none with state := LoopState.busy } : Loop) with state := if (none : Option Code).isNone then LoopState.ready else .done, pending := none } : Loop) = rec .ready none by rw [hrec]; rfl] at hr
   refine ⟨_, _, hr, rfl, ⟨hT _ _ _ ht3 (hpc3.wd13 (fun x hx => .inr (by omega))), World.putObj_heap_same (lt_some hl3), (World.putObj_heap_other (by omega)).trans hk3⟩, ?_⟩
   exact ((((hga.wd13 (fun _ h => h.elim)).go (hpc.wd13 (fun x hx => .inr hx))).go (hg3.wd13 (fun x hx => .inl hx))).go (hpc3.wd13 (fun x hx => .inr hx)))
  ·rintro e W2 ⟨⟨v, rfl⟩, hi, hl, hk⟩
   refine ⟨none, _, by have := run_endLoop (P := P) hl (by rw [hrec]; simp); rw [hrec] at this; exact this, hdone _ _ rfl (hT _ _ _ hi ((putObj_cf W2 (w.heap.size + 1) _).wd13 (fun x hx => .inr (by omega)))) ((World.putObj_heap_other (by omega)).trans hk)⟩
end Go.Proofs.YtjpmfgoodcldcaaGreatDoor
