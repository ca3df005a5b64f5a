import Derived.Test.YtjpmfgoodcldcaaGreatDoorJ12
import Derived.Carry
import Derived.Deep.RegionLaw
import Derived.Laws.OwnMore
import Derived.Handy
import Derived.Test.YtjpmfgoodcldcaaGreatDoorJ05
import Derived.Laws.EntriesVeiled
import Derived.WideLaws
namespace Go.Proofs.YtjpmfgoodcldcaaGreatDoor
set_option maxRecDepth 100000
open Go.RowKit Go.Maps
theorem run_app_sl (w : World) (ty : TypeId) (B : Nat) (l news : List Int) (v : Value) (ao : Option Addr) (n c : Nat) (hown : OwnB w B v l) (hsl : Sl w ao n c news) (hb : l.length + n ≤ 140737488355328) (hbase : B ≤ w.heap.size) :
  ∃ v' w', (Builtin.append_ #[30, 30] ty #[v, .slice ao n c]).run Tryz.prog w = .ok v' w' ∧ OwnB w' B v' (l ++ news) ∧ Gr w v w' v' := by
 obtain ⟨i0, hi, hz0, hz1, hz2⟩ := info_parts info5
 have hlen := hsl.hlen
 cases ao with
 | none =>
  have : n = 0 := by have := hsl.hnil rfl; have := hsl.hcap; omega
  subst this
  have hc0 := hsl.hnil rfl
  subst hc0
  obtain rfl : news = [] := List.eq_nil_of_length_eq_zero hlen
  exact ⟨v, w, run_append_owned_none (P := Tryz.prog) (w := w) B 30 ty 5 i0 1 Tryz.underlying30 hi v l.length (By l) hown, by simpa using hown, Gr.refl _ _⟩
 | some ad =>
  obtain ⟨v', w', hr, h1, h2, _, h4⟩ := run_append_own_at (P := Tryz.prog) w B 30 ty 5 i0 (.int .u8 0) 1 1 Tryz.underlying30 hi hz0 hz1 hz2 rfl (by decide) v l.length (By l) hown ad n c (By news) (by simp [By, hlen])
   (fun j u hu => by
    obtain ⟨h1, h2⟩ := getElem?_By news j u hu
    rw [h2]
    rcases hsl.hat with h0 | ⟨b, off, e, _, hc⟩
    ·omega
    ·injection e with e
     subst e
     rw [Addr.add_lit]
     exact hc j (by omega)) (By_one news) (by unfold maxLen; omega) (by omega) hbase
  refine ⟨v', w', hr, ?_, ⟨h2, h4.imp id fun e => ⟨_, e, Nat.le_refl _⟩⟩⟩
  unfold OwnB
  rw [By_append, List.length_append, hlen]
  exact h1
theorem step_sl {ops : Array Oper} {o : Oper} {a : Act} {w : World} {K : Act → World → Prop} {Q : Exit → Act → World → Prop} {E : Prop} (hgd : o.guard = none) (s x : Operand)
  (ho : o.op = .call { callee := .builtin .append, args := #[s, x], argTypes := #[30, 30] }) (B : Nat) (l news : List Int) (v : Value) (ao : Option Addr) (n c : Nat) (hs : a.eval s = v) (hx : a.eval x = .slice ao n c)
  (hown : OwnB w B v l) (hsl : Sl w ao n c news) (hb : l.length + n ≤ 140737488355328) (hbase : B ≤ w.heap.size)
  (h : ∀ v' w', OwnB w' B v' (l ++ news) → Gr w v w' v' → K (a.put o.dst v') w') :
  if Region.wanted o (yielded ops a.tmps) = true then Oper.wp Tryz.prog o a w K Q else E := by
 have hw : Region.wanted o (yielded ops a.tmps) = true := by simp [Region.wanted, hgd]
 rw [if_pos hw]
 obtain ⟨v', w', hr, h1, h2⟩ := run_app_sl w o.type B l news v ao n c hown hsl hb hbase
 have hfin := h v' w' h1 h2
 unfold Oper.wp
 simp [execOp, ho, resolve, invoke, builtin, hs, hx, hr, Result.andThen]
 exact hfin
theorem made_run (N : Nat) (hN : N ≤ 281474976710656) (u : World) : (Instr.makeSlice 30 (.int .i64 0) (.int .i64 (N : Int))).run Tryz.prog u = .ok (.slice (some ⟨u.heap.size, 0, none⟩) 0 N) (u.alloc (.cells (madeCells #[.int .u8 0] N) 5)) := by
 obtain ⟨i0, hi, hz0, hz1, hz2⟩ := info_parts info5
 have hr := run_make (P := Tryz.prog) u 30 5 i0 (.int .u8 0) Tryz.underlying30 hi hz0 .i64 .i64 0 N (Int.le_refl _) (by omega) (by rw [hz2]; omega) (by omega)
 simp only [Int.toNat_zero, Int.toNat_natCast, hz1, Nat.mul_one] at hr
 exact hr
theorem made_own (w : World) (N : Nat) (hN : N ≤ 281474976710656) : OwnB (w.alloc (.cells (madeCells #[.int .u8 0] N) 5)) w.heap.size (.slice (some ⟨w.heap.size, 0, none⟩) 0 N) [] := by
 refine ⟨rfl, .inr ⟨w.heap.size, N, madeCells #[.int .u8 0] N, rfl, Nat.le_refl _, heap_alloc_last w _, Nat.zero_le _, by unfold maxLen; omega, ?_, rfl⟩⟩
 have := congrArg List.length (toList_madeCells_one (.int .u8 0) N)
 simpa using this
abbrev pB (b : Nat) : Value := .pointer (some ⟨b, 0, none⟩)
theorem al_row (u : World) (o : Obj) : (u.alloc o).heap[u.heap.size]? = some o := by
 show (u.heap.push o)[u.heap.size]? = some o
 simp
theorem newBench_yes (w : World) (en pg ps : Int) (he : en = 1 ∨ en = 2) (hp : pw pg) (h1 : 2 ≤ ps) (h2 : ps ≤ 65536) :
  Calls Tryz.prog 7 #[.int .i64 en, .int .i64 pg, .int .i64 ps] w fun e u => ∃ b m, e = .returned (pB b) ∧ Hid (w.heap.size ≤ b ∧ w.heap.size ≤ m ∧ Bn u b m en pg ps 0 (fun _ => none) 0 ∧ Below w.heap.size w u) := by
 have hmm := @run_makeMap Tryz.prog
 have hpl := pw_le hp
 have hz := (pow_iff pg hpl.1 hpl.2).2 hp
 have HX : Hid (∃ b m, Ending.returned (pB (w.heap.size + 1)) = .returned (pB b) ∧ Hid (w.heap.size ≤ b ∧ w.heap.size ≤ m ∧ Bn ((w.alloc (.map #[] 0)).alloc (.cells #[.int .i64 en, .int .i64 pg, .int .i64 ps, .map (some w.heap.size), .int .i64 0] 59)) b m en pg ps 0 (fun _ => none) 0 ∧ Below w.heap.size w ((w.alloc (.map #[] 0)).alloc (.cells #[.int .i64 en, .int .i64 pg, .int .i64 ps, .map (some w.heap.size), .int .i64 0] 59)))) := by
  have e1 : (w.alloc (.map #[] 0)).heap.size = w.heap.size + 1 := by simp
  refine hidden ⟨w.heap.size + 1, w.heap.size, rfl, hidden ⟨by omega, by omega, ⟨?_, ⟨.map [], World.ownsMap.alloc (World.ownsMap_made w _ _ _) _, MD.nil⟩, fun _ _ h => (by cases h)⟩, ((Below.refl _ w).alloc (Nat.le_refl _) _).alloc (by rw [e1]; omega) _⟩⟩
  have := al_row (w.alloc (.map #[] 0)) (.cells #[.int .i64 en, .int .i64 pg, .int .i64 ps, .map (some w.heap.size), .int .i64 0] 59)
  rw [e1] at this
  exact this
 clear hp
 rcases he with rfl | rfl
 all_goals
  go_enter Tryz.func7, Tryz.ntmps7
  go_wp2
  go_ret
  exact HX.out
theorem bsize_any {w : World} {b m : Nat} {en pg ps rd : Int} {M : Int → Option Pf} {ct : Nat} (h : Bn w b m en pg ps rd M ct) : Calls Tryz.prog 176 #[pB b] w fun e u => e = .returned (.int .i64 pg) ∧ u = w := by
 obtain ⟨c0, c1, c2, c3, c4, f4⟩ := h.cells
 clear h
 go_enter Tryz.func176, Tryz.ntmps176
 go_wp2
 go_ret
 exact ⟨rfl, rfl⟩
theorem bread_any {w : World} {b m : Nat} {en pg ps rd : Int} {M : Int → Option Pf} {ct : Nat} (h : Bn w b m en pg ps rd M ct) (n : Int) (hn : (Lit.int .i64 n).wf = true) (hrd : rd < 4611686018427387904) (hr0 : 0 ≤ rd) :
  Calls Tryz.prog 175 #[pB b, .int .i64 n] w fun e u => ∃ ao sn c k, e = .returned (.tuple #[.slice ao sn c, .int .i64 k]) ∧ Hid ((M n = none ∧ ao = none ∧ sn = 0 ∧ c = 0 ∧ k = 30 ∧ u = w) ∨
   ∃ f, M n = some f ∧ k = 0 ∧ sn = f.l.length ∧ OwnB u w.heap.size (.slice ao sn c) f.l ∧ Bn u b m en pg ps (rd + 1) M ct ∧ Cf (· = b) w u) := by
 obtain ⟨c0, c1, c2, c3, c4, f4⟩ := h.cells
 rcases h.look n hn with ⟨hM, hlk⟩ | ⟨f, hM, hlk⟩
 ·clear h
  go_enter Tryz.func175, Tryz.ntmps175
  go_wp2
  go_ret2
  exact ⟨_, _, _, _, rfl, hidden (.inl ⟨hM, rfl, rfl, rfl, rfl, rfl⟩)⟩
 ·unfold pfV at hlk
  obtain ⟨hs, hgb, hgm⟩ := h.pgs n f hM
  have hr := hs.hroom
  have hmk := made_run f.l.length (by omega)
  obtain ⟨x, hx⟩ : ∃ x, w.setCell ⟨b, 4, none⟩ (.int .i64 (rd + 1)) = x := ⟨_, rfl⟩
  have HBX : Hid (Bn x b m en pg ps (rd + 1) M ct) := hidden (by rw [← hx]; exact h.read1 _)
  have HCX : Hid (Cf (· = b) w x) := hidden (by rw [← hx]; exact Cf.setCell (F := (· = b)) w (p := ⟨b, 4, none⟩) rfl _)
  obtain ⟨y, hy⟩ : ∃ y, x.alloc (.cells (madeCells #[.int .u8 0] f.l.length) 5) = y := ⟨_, rfl⟩
  have hby : Below x.heap.size x y := by rw [← hy]; exact bl_al (Below.refl _ _) (Nat.le_refl _) _
  have hxs : x.heap.size = w.heap.size := by rw [← hx]; simp [World.setCell]
  have HXS := hidden hxs
  have HO : Hid (OwnB y x.heap.size (.slice (some ⟨x.heap.size, 0, none⟩) 0 f.l.length) []) := hidden (by rw [← hy]; exact made_own x _ (by omega))
  have HSY : Hid (Sl y (some ⟨f.g, 0, none⟩) f.l.length f.c f.l) := hidden ((HBX.out.pgs n f hM).1.on (Nat.le_refl _) hby)
  have HBY := hidden hby
  have HM := hidden hM
  have hys : x.heap.size ≤ y.heap.size := hby.size
  obtain ⟨N, hN⟩ : ∃ N, f.l.length = N := ⟨_, rfl⟩
  have HN := hidden hN
  rw [hN] at hlk hmk hy HO HSY hr
  have hrI : (N : Int) ≤ 140737488355328 := by omega
  clear h hs hM hxs hby hN
  go_enter Tryz.func175, Tryz.ntmps175
  go_wp2_with (at_builtin; refine app_sl _ rfl _ _ rfl x.heap.size [] f.l _ (some ⟨f.g, 0, none⟩) N f.c rfl rfl HO.out HSY.out (by simp; omega) hys ?_; refine Hid.out ?_)
  apply hidden
  intro v' u ho hg
  have HB : Hid (Below x.heap.size x u) := hidden (HBY.out.trans (hg.below HO.out hys))
  obtain ⟨ao, cap, rfl, _, _⟩ := OwnB.sl ho HSY.out.wf (by rw [HN.out]; omega)
  have HO2 : Hid (OwnB u x.heap.size (.slice ao N cap) f.l) := hidden (by simpa [HN.out] using ho)
  simp only [HN.out]
  clear ho hg
  go_wp2
  go_ret2
  refine ⟨_, _, _, _, rfl, hidden (.inr ⟨f, HM.out, rfl, HN.out.symm, ?_, HBX.out.on HB.out, HCX.out.go (Cf.of_below HB.out)⟩)⟩
  rw [← HXS.out]
  exact HO2.out
end Go.Proofs.YtjpmfgoodcldcaaGreatDoor

namespace Go.Proofs.YtjpmfgoodcldcaaGreatDoor
set_option maxRecDepth 100000
open Go.RowKit Go.Maps
theorem new_store {w y u : World} {b m : Nat} {en pg ps rd : Int} {M : Int → Option Pf} {ct : Nat} (h : Bn w b m en pg ps rd M ct) (n : Int) (hn : (Lit.int .i64 n).wf = true) (hct : ct < 1000000) (hwy : Below w.heap.size w y) {g0 N : Nat} {v' : Value} {d : List Int}
  (HO : OwnB y w.heap.size (.slice (some ⟨g0, 0, none⟩) 0 N) []) (ho : OwnB u w.heap.size v' ([] ++ d)) (hg : Gr y (.slice (some ⟨g0, 0, none⟩) 0 N) u v') (hw : Wf d) (hl : d.length ≤ 140737488355328) :
  u.cell? ⟨b, 3, none⟩ = some (.map (some m)) ∧ ∃ f : Pf, v' = .slice (some ⟨f.g, 0, none⟩) f.l.length f.c ∧ ∃ u2, (Instr.mapUpdate 57 (.map (some m)) (.int .i64 n) (.slice (some ⟨f.g, 0, none⟩) f.l.length f.c)).run Tryz.prog u = .ok () u2 ∧ Hid (f.l = d ∧ w.heap.size ≤ f.g ∧ Bn u2 b m en pg ps rd (putM M n f) (if (M n).isSome then ct else ct + 1) ∧ Cf (· = m) w u2) := by
 rw [List.nil_append] at ho
 have hbu : Below w.heap.size w u := hwy.trans (hg.below HO hwy.size)
 have hB := h.on hbu
 obtain ⟨ao, cap, rfl, hsl, hlow⟩ := ho.sl hw hl
 obtain ⟨g, rfl⟩ : ∃ g, ao = some ⟨g, 0, none⟩ := by
  have hb := ho
  unfold OwnB at hb
  rcases hb.2 with ⟨e, _⟩ | ⟨g, c, cur, e, _⟩
  ·have := hg.own
   rw [e] at this
   simp [Value.ownBlock] at this
  ·injection e with e1 e2 e3
   exact ⟨g, e1⟩
 have hgl : w.heap.size ≤ g := hlow _ rfl
 have h1 := h.lt
 have h2 := h.mlt
 obtain ⟨u2, hr, hb2, hc2⟩ := hB.store n hn ⟨g, cap, d⟩ hsl (by show g ≠ b; omega) (by show g ≠ m; omega) hct
 exact ⟨hB.cells.c3, ⟨g, cap, d⟩, rfl, u2, hr, hidden ⟨rfl, hgl, hb2, (Cf.of_below hbu).go hc2⟩⟩
end Go.Proofs.YtjpmfgoodcldcaaGreatDoor

namespace Go.Proofs.YtjpmfgoodcldcaaGreatDoor
set_option maxRecDepth 100000
open Go.RowKit
theorem results_row28 {P : Program} {fn : Func} {p u : Tmp} {ty : TypeId} (h : fn.results = #[.cell p ty, .tmp u]) (tmps : Array Value) (w : World) (g : Nat) (t : TypeId) (cs : Array Value) (fr : Nat × Nat) (d : TypeDesc) (v : Value)
  (hp : tmps.getD p undef = .pointer (some ⟨g, 0, none⟩)) (hv : tmps.getD u undef = v) (hg : w.heap[g]? = some (.cells cs t fr))
  (hu : P.underlying ty = some d) (hd : (match d with | .struct _ | .array _ _ => true | _ => false) = true) (hi : (P.info? ty).map (·.size) = some cs.size) :
  (results fn tmps).run P w = .ok (.tuple #[.agg cs, v]) w := by
 subst hv
 rw [results_cell_tmp h, hp]
 simp [asAddr, run_loadVar_row w g t ty cs fr d hg hu hd hi, Result.andThen]
abbrev fV (f : Nat) : Value := .func (.func f) #[] #[]
abbrev ly1 : Array Value := #[fV 59, fV 60, fV 61, fV 62, fV 65]
theorem sizeLy : (Tryz.prog.info? 94).map (·.size) = some 5 := by kernel_rfl
theorem layout_1 (w : World) : Calls Tryz.prog 57 #[.int .i64 1] w fun e w' => e = .returned (.tuple #[.agg ly1, .bool true]) ∧ Hid (Below w.heap.size w w') := by
 go_enter Tryz.func57, Tryz.ntmps57
 go_wp2
 refine bodyPost_ret (results_row28 rfl _ _ w.heap.size 94 ly1 (0, 0) _ (.bool true) (by rfl) (by rfl) (heap_alloc_last w _) Tryz.underlying94 rfl sizeLy) rfl ?_
 exact ⟨rfl, hidden (bl_al (Below.refl _ _) (Nat.le_refl _) _)⟩
abbrev iP (a : Nat) : Value := .iface 99 (.pointer (some ⟨a, 0, none⟩))
theorem asP_yes (a : Nat) (w : World) : Calls Tryz.prog 63 #[.pointer (some ⟨a, 0, none⟩), .int .i64 0] w fun e w' => e = .returned (.tuple #[iP a, .int .i64 0]) ∧ w' = w := by
 go_enter Tryz.func63, Tryz.ntmps63
 go_wp2
 go_ret2
 exact ⟨rfl, rfl⟩
theorem asP_no (p : Option Addr) (c : Int) (hc : ¬ c = 0) (w : World) : Calls Tryz.prog 63 #[.pointer p, .int .i64 c] w fun e w' => e = .returned (.tuple #[.nilIface, .int .i64 c]) ∧ w' = w := by
 go_enter Tryz.func63, Tryz.ntmps63
 go_wp2
 go_ret2
 exact ⟨rfl, rfl⟩
end Go.Proofs.YtjpmfgoodcldcaaGreatDoor
