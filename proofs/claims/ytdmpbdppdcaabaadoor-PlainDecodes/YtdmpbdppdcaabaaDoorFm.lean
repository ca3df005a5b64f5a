/- plain.Page.parted: what goes through it. -/
import Derived.Test.YtdmpbdppdcaabaaDoorFl
import Derived.Deep.RegionLaw
namespace Go.Proofs.YtdmpbdppdcaabaaDoor
open Go.RowKit

set_option maxRecDepth 100000 in
theorem infoI : (Tryd.prog.info? 3).map (fun i => (i.zero, i.size, i.bytes)) = some (some (.int .i64 0), 1, 8) := by kernel_rfl
/-- Whole numbers as cells. -/
def NI (l : List Nat) : List Value := l.map fun (n : Nat) => Value.int .i64 (n : Int)
set_option maxRecDepth 100000 in
theorem NI_length (l : List Nat) : (NI l).length = l.length := by simp [NI]
set_option maxRecDepth 100000 in
theorem NI_one (l : List Nat) : ∀ u ∈ NI l, u.oneCell' = true := by
  intro u hu
  simp only [NI, List.mem_map] at hu
  obtain ⟨n, _, rfl⟩ := hu
  rfl
/-- Whole numbers of one's own. -/
def OwnN (w : World) (B : Nat) (v : Value) (l : List Nat) : Prop := w.ownsRow B 3 1 v l.length (NI l)
set_option maxRecDepth 100000 in
theorem OwnN.sln {w : World} {B : Nat} {v : Value} {l : List Nat} (h' : OwnN w B v l) (hn : l.length ≤ 140737488355328) : ∃ ao cap, v = .slice ao l.length cap ∧ SlN w ao l.length cap l := by
  obtain ⟨n, hl⟩ : ∃ n, l.length = n := ⟨_, rfl⟩
  have h : w.ownsRow B 3 1 v n (NI l) := by rw [← hl]; exact h'
  rw [hl] at hn ⊢
  rcases h.2 with ⟨rfl, rfl⟩ | ⟨g, cap, cur, rfl, hg, hh, hnc, hm, hs, ht⟩
  · exact ⟨none, 0, rfl, ⟨hl, Nat.le_refl _, by omega, fun _ => rfl, .inl rfl⟩⟩
  · refine ⟨some ⟨g, 0, none⟩, cap, rfl, ⟨hl, hnc, hn, (by intro h; cases h), .inr ⟨g, 0, rfl, lt_some hh, ?_⟩⟩⟩
    intro i hi
    have := h.cellAt i (by omega)
    simp only [Nat.zero_add]
    rw [this]
    simp [NI, List.getD, List.getElem?_eq_getElem (show i < l.length by omega)]
set_option maxRecDepth 100000 in
theorem OwnN.gr {w w' : World} {B : Nat} {v : Value} {l : List Nat} {u u' : Value} (h : OwnN w B v l) (hg : Gr w u w' u') (hne : v.ownBlock = none ∨ v.ownBlock ≠ u.ownBlock) : OwnN w' B v l := World.ownsRow.kept h hg.grow hne
set_option maxRecDepth 100000 in
theorem OwnN.cf {w w' : World} {B : Nat} {v : Value} {l : List Nat} {r : Nat} (h : OwnN w B v l) (hc : Cf (· = r) w w') (hne : v.ownBlock ≠ some r) : OwnN w' B v l :=
  World.ownsRow.kept (row := some r) h ⟨hc.os, hc.tape, hc.output, hc.size, fun k hk hk2 => hc.block k hk (fun e => hk2 (by rw [e]))⟩ (.inr hne)
set_option maxRecDepth 100000 in
theorem OwnN.below {w w' : World} {B : Nat} {v : Value} {l : List Nat} (h : OwnN w B v l) (hb : Below w.heap.size w w') : OwnN w' B v l := h.gr (Gr.ofBelow (.slice none 0 0) hb) (by
  cases hv : v.ownBlock with
  | none => exact .inl rfl
  | some k => exact .inr (by simp [Value.ownBlock]))
set_option maxRecDepth 100000 in
/-- It does not lie in a block of another type. -/
theorem OwnN.apart {w : World} {B : Nat} {v : Value} {l : List Nat} (h : OwnN w B v l) {g : Nat} {xs : Array Value} {t : TypeId} {fr : Nat × Nat} (hg : w.heap[g]? = some (.cells xs t fr)) (ht : t ≠ 3) : v.ownBlock ≠ some g := by
  intro e
  unfold OwnN at h
  rcases h.2 with ⟨rfl, _⟩ | ⟨q, cap, cur, rfl, _, hh, _⟩
  · cases e
  · simp only [Value.ownBlock, Option.some.injEq] at e
    subst e
    rw [hg] at hh
    simp at hh
    exact ht hh.2.1

set_option maxRecDepth 100000 in
/-- 'append(out, x)' of one whole number, at a step of a region that draws its order. -/
theorem step_appN {ops : Array Oper} {o : Oper} {a : Act} {w : World} {K : Act → World → Prop} {Q : Exit → Act → World → Prop} {E : Prop} (hgd : o.guard = none) (s x : Operand)
    (ho : o.op = .call { callee := .builtin .append, args := #[s, x], argTypes := #[55, 55] }) (B : Nat) (l : List Nat) (y : Nat) (v : Value) (g : Nat) (hs : a.eval s = v) (hx : a.eval x = .slice (some ⟨g, 0, none⟩) 1 1)
    (hown : OwnN w B v l) (hy : w.cell? ⟨g, 0, none⟩ = some (.int .i64 (y : Int))) (hb : l.length + 1 ≤ 1000000) (hbase : B ≤ w.heap.size)
    (h : ∀ v' w', OwnN w' B v' (l ++ [y]) → Gr w v w' v' → K (a.put o.dst v') w') :
    if Region.wanted o (yielded ops a.tmps) = true then Oper.wp Tryd.prog o a w K Q else E := by
  have hw : Region.wanted o (yielded ops a.tmps) = true := by simp [Region.wanted, hgd]
  rw [if_pos hw]
  obtain ⟨i0, hi, hz0, hz1, hz2⟩ := info_parts infoI
  obtain ⟨v', w', hr, h1, h2, _, h4⟩ := run_append_own_at (P := Tryd.prog) w B 55 o.type 3 i0 (.int .i64 0) 1 8 Tryd.underlying55 hi hz0 hz1 hz2 rfl (by decide) v l.length (NI l) hown ⟨g, 0, none⟩ 1 1 (NI [y]) (by simp [NI])
    (fun j u hu => by
      have h1 : j < 1 := by have := (List.getElem?_eq_some_iff.1 hu).1; simpa [NI] using this
      obtain rfl : j = 0 := by omega
      simp [NI] at hu
      rw [← hu]
      simpa [Addr.add] using hy) (NI_one [y]) (by unfold maxLen; omega) (by omega) hbase
  have hfin := h v' w' (by unfold OwnN; rw [show NI (l ++ [y]) = NI l ++ NI [y] from by simp [NI], List.length_append]; exact h1) ⟨h2, h4.imp id fun e => ⟨_, e, Nat.le_refl _⟩⟩
  unfold Oper.wp
  simp [execOp, ho, resolve, invoke, builtin, hs, hx, hr, Result.andThen]
  exact hfin

/-- A page's row. -/
def PR (w : World) (a : Nat) (k : Int) (n : Nat) (vb vs : Value) : Prop := w.heap[a]? = some (.cells #[.int .i64 k, .int .i64 (n : Int), vb, vs] 57 (0, 0))
set_option maxRecDepth 100000 in
theorem PR.cells {w : World} {a : Nat} {k : Int} {n : Nat} {vb vs : Value} (h : PR w a k n vb vs) : w.cell? ⟨a, 0, none⟩ = some (.int .i64 k) ∧ w.cell? ⟨a, 1, none⟩ = some (.int .i64 (n : Int)) ∧ w.cell? ⟨a, 2, none⟩ = some vb ∧ w.cell? ⟨a, 3, none⟩ = some vs := by
  unfold PR at h
  refine ⟨?_, ?_, ?_, ?_⟩
  · rw [cell_of_row _ _ 0 _ _ _ h]; rfl
  · rw [cell_of_row _ _ 1 _ _ _ h]; rfl
  · rw [cell_of_row _ _ 2 _ _ _ h]; rfl
  · rw [cell_of_row _ _ 3 _ _ _ h]; rfl
set_option maxRecDepth 100000 in
theorem PR.free {w : World} {a : Nat} {k : Int} {n : Nat} {vb vs : Value} (h : PR w a k n vb vs) (i : Nat) : w.frozen? ⟨a, i, none⟩ = false := by
  unfold PR at h
  simp [World.frozen?, h]
set_option maxRecDepth 100000 in
theorem PR.set3 {w : World} {a : Nat} {k : Int} {n : Nat} {vb vs : Value} (h : PR w a k n vb vs) (v : Value) : PR (w.setCell ⟨a, 3, none⟩ v) a k n vb v := by
  unfold PR at *
  simpa using set_row (w := w) (a := a) (i := 3) (cs := [.int .i64 k, .int .i64 (n : Int), vb, vs]) (u := v) h
set_option maxRecDepth 100000 in
theorem PR.set2 {w : World} {a : Nat} {k : Int} {n : Nat} {vb vs : Value} (h : PR w a k n vb vs) (v : Value) : PR (w.setCell ⟨a, 2, none⟩ v) a k n v vs := by
  unfold PR at *
  simpa using set_row (w := w) (a := a) (i := 2) (cs := [.int .i64 k, .int .i64 (n : Int), vb, vs]) (u := v) h
set_option maxRecDepth 100000 in
theorem PR.cf {w w' : World} {a : Nat} {k : Int} {n : Nat} {vb vs : Value} {F : Nat → Prop} (h : PR w a k n vb vs) (hc : Cf F w w') (hf : ¬ F a) : PR w' a k n vb vs := (hc.block a (lt_some h) hf).trans h
set_option maxRecDepth 100000 in
theorem Bk.cf {w w' : World} {g : Nat} {l : List Int} {F : Nat → Prop} (h : Bk w g l) (hc : Cf F w w') (hf : ¬ F g) : Bk w' g l := (hc.block g (lt_some h) hf).trans h
set_option maxRecDepth 100000 in
theorem Cf.ofGr {w w' : World} {v v' : Value} {F : Nat → Prop} (h : Gr w v w' v') (hf : ∀ g, v.ownBlock = some g → F g) : Cf F w w' := ⟨h.grow.os, h.grow.tape, h.grow.output, h.grow.size, fun k hk hk2 => h.grow.block k hk (fun e => hk2 (hf k e.symm))⟩

/-- parted, under way. -/
structure Pt (w u : World) (a rr : Nat) (k : Int) (n gb bn : Nat) (body : List Int) (vs : Value) (st : List Nat) (p : Nat) : Prop where
  row : PR u a k n (.slice (some ⟨gb, 0, none⟩) bn bn) vs
  bk : Bk u gb body
  rd : Rd u rr (some ⟨gb, 0, none⟩) bn bn p false
  own : OwnN u w.heap.size vs st
  cf : Cf (· = a) w u
  hp : p ≤ bn
  hr : rr = w.heap.size
set_option maxRecDepth 100000 in
theorem Pt.types {w u : World} {a rr : Nat} {k : Int} {n gb bn : Nat} {body : List Int} {vs : Value} {st : List Nat} {p : Nat} (h : Pt w u a rr k n gb bn body vs st p) : a ≠ gb ∧ a ≠ rr ∧ gb ≠ rr ∧ vs.ownBlock ≠ some a ∧ vs.ownBlock ≠ some gb ∧ vs.ownBlock ≠ some rr := by
  have h1 := h.row
  have h2 := h.bk
  have h3 := h.rd
  unfold PR at h1
  unfold Bk at h2
  unfold Rd at h3
  refine ⟨?_, ?_, ?_, h.own.apart h1 (by decide), h.own.apart h2 (by decide), h.own.apart h3 (by decide)⟩
  · rintro rfl; rw [h1] at h2; simp at h2
  · rintro rfl; rw [h1] at h3; simp at h3
  · rintro rfl; rw [h2] at h3; simp at h3
end Go.Proofs.YtdmpbdppdcaabaaDoor
