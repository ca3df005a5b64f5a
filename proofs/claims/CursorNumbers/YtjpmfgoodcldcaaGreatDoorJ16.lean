import Derived.Test.YtjpmfgoodcldcaaGreatDoorJ15
import Derived.Deep.RegionLaw
namespace Go.Proofs.YtjpmfgoodcldcaaGreatDoor
set_option maxRecDepth 100000
open Go.RowKit
theorem infoI : (Tryz.prog.info? 3).map (fun i => (i.zero, i.size, i.bytes)) = some (some (.int .i64 0), 1, 8) := by kernel_rfl
def NI (l : List Nat) : List Value := l.map fun (n : Nat) => Value.int .i64 (n : Int)
theorem NI_one (l : List Nat) : ∀ u ∈ NI l, u.oneCell' = true := by
 intro u hu
 simp only [NI, List.mem_map] at hu
 obtain ⟨n, _, rfl⟩ := hu
 rfl
def OwnN (w : World) (B : Nat) (v : Value) (l : List Nat) : Prop := w.ownsRow B 3 1 v l.length (NI l)
theorem OwnN.sln {w : World} {B : Nat} {v : Value} {l : List Nat} (h' : OwnN w B v l) (hn : l.length ≤ 140737488355328) : ∃ ao cap, v = .slice ao l.length cap ∧ SlN w ao l.length cap l := by
 obtain ⟨n, hl⟩ : ∃ n, l.length = n := ⟨_, rfl⟩
 have h : w.ownsRow B 3 1 v n (NI l) := by rw [← hl]; exact h'
 rw [hl] at hn ⊢
 rcases h.2 with ⟨rfl, rfl⟩ | ⟨g, cap, cur, rfl, hg, hh, hnc, hm, hs, ht⟩
 ·exact ⟨none, 0, rfl, ⟨hl, Nat.le_refl _, by omega, fun _ => rfl, .inl rfl⟩⟩
 ·refine ⟨some ⟨g, 0, none⟩, cap, rfl, ⟨hl, hnc, hn, (by intro h; cases h), .inr ⟨g, 0, rfl, lt_some hh, ?_⟩⟩⟩
  intro i hi
  have := h.cellAt i (by omega)
  simp only [Nat.zero_add]
  rw [this]
  simp [NI, List.getD, List.getElem?_eq_getElem (show i < l.length by omega)]
theorem OwnN.gr {w w' : World} {B : Nat} {v : Value} {l : List Nat} {u u' : Value} (h : OwnN w B v l) (hg : Gr w u w' u') (hne : v.ownBlock = none ∨ v.ownBlock ≠ u.ownBlock) : OwnN w' B v l := World.ownsRow.kept h hg.grow hne
theorem OwnN.cf {w w' : World} {B : Nat} {v : Value} {l : List Nat} {r : Nat} (h : OwnN w B v l) (hc : Cf (· = r) w w') (hne : v.ownBlock ≠ some r) : OwnN w' B v l :=
 World.ownsRow.kept (row := some r) h ⟨hc.os, hc.tape, hc.output, hc.size, fun k hk hk2 => hc.block k hk (fun e => hk2 (by rw [e]))⟩ (.inr hne)
theorem OwnN.below {w w' : World} {B : Nat} {v : Value} {l : List Nat} (h : OwnN w B v l) (hb : Below w.heap.size w w') : OwnN w' B v l := h.gr (Gr.ofBelow (.slice none 0 0) hb) (by
 cases hv : v.ownBlock with
 | none => exact .inl rfl
 | some k => exact .inr (by simp [Value.ownBlock]))
theorem OwnN.apart {w : World} {B : Nat} {v : Value} {l : List Nat} (h : OwnN w B v l) {g : Nat} {xs : Array Value} {t : TypeId} {fr : Nat × Nat} (hg : w.heap[g]? = some (.cells xs t fr)) (ht : t ≠ 3) : v.ownBlock ≠ some g := by
 intro e
 unfold OwnN at h
 rcases h.2 with ⟨rfl, _⟩ | ⟨q, cap, cur, rfl, _, hh, _⟩
 ·cases e
 ·simp only [Value.ownBlock, Option.some.injEq] at e
  subst e
  rw [hg] at hh
  simp at hh
  exact ht hh.2.1
theorem step_appN {ops : Array Oper} {o : Oper} {a : Act} {w : World} {K : Act → World → Prop} {Q : Exit → Act → World → Prop} {E : Prop} (hgd : o.guard = none) (s x : Operand)
  (ho : o.op = .call { callee := .builtin .append, args := #[s, x], argTypes := #[114, 114] }) (B : Nat) (l : List Nat) (y : Nat) (v : Value) (g : Nat) (hs : a.eval s = v) (hx : a.eval x = .slice (some ⟨g, 0, none⟩) 1 1)
  (hown : OwnN w B v l) (hy : w.cell? ⟨g, 0, none⟩ = some (.int .i64 (y : Int))) (hb : l.length + 1 ≤ 1000000) (hbase : B ≤ w.heap.size)
  (h : ∀ v' w', OwnN w' B v' (l ++ [y]) → Gr w v w' v' → K (a.put o.dst v') w') :
  if Region.wanted o (yielded ops a.tmps) = true then Oper.wp Tryz.prog o a w K Q else E := by
 have hw : Region.wanted o (yielded ops a.tmps) = true := by simp [Region.wanted, hgd]
 rw [if_pos hw]
 obtain ⟨i0, hi, hz0, hz1, hz2⟩ := info_parts infoI
 obtain ⟨v', w', hr, h1, h2, _, h4⟩ := run_append_own_at (P := Tryz.prog) w B 114 o.type 3 i0 (.int .i64 0) 1 8 Tryz.underlying114 hi hz0 hz1 hz2 rfl (by decide) v l.length (NI l) hown ⟨g, 0, none⟩ 1 1 (NI [y]) (by simp [NI])
  (fun j u hu => by
   have h1 : j < 1 := by have := (List.getElem?_eq_some_iff.1 hu).1; simpa [NI] using this
   obtain rfl : j = 0 := by omega
   simp [NI] at hu
   rw [← hu]
   simpa [Addr.add] using hy) (NI_one [y]) (by unfold maxLen; omega) (by omega) hbase
 have hfin := h v' w' (by unfold OwnN; rw [show NI (l ++ [y]) = NI l ++ NI [y] from by simp [NI], List.length_append]; exact h1) ⟨h2, h4.imp id fun e => ⟨_, e, Nat.le_refl _⟩⟩
 unfold Oper.wp
 simp [execOp, ho, resolve, invoke, builtin, hs, hx, hr, Result.andThen]
 exact hfin
def PR (w : World) (a : Nat) (k : Int) (n : Nat) (vb vs : Value) : Prop := w.heap[a]? = some (.cells #[.int .i64 k, .int .i64 (n : Int), vb, vs] 116 (0, 0))
theorem PR.cells {w : World} {a : Nat} {k : Int} {n : Nat} {vb vs : Value} (h : PR w a k n vb vs) : w.cell? ⟨a, 0, none⟩ = some (.int .i64 k) ∧ w.cell? ⟨a, 1, none⟩ = some (.int .i64 (n : Int)) ∧ w.cell? ⟨a, 2, none⟩ = some vb ∧ w.cell? ⟨a, 3, none⟩ = some vs := by
 unfold PR at h
 refine ⟨?_, ?_, ?_, ?_⟩
 ·rw [cell_of_row _ _ 0 _ _ _ h]; rfl
 ·rw [cell_of_row _ _ 1 _ _ _ h]; rfl
 ·rw [cell_of_row _ _ 2 _ _ _ h]; rfl
 ·rw [cell_of_row _ _ 3 _ _ _ h]; rfl
theorem PR.free {w : World} {a : Nat} {k : Int} {n : Nat} {vb vs : Value} (h : PR w a k n vb vs) (i : Nat) : w.frozen? ⟨a, i, none⟩ = false := by
 unfold PR at h
 simp [World.frozen?, h]
theorem PR.set3 {w : World} {a : Nat} {k : Int} {n : Nat} {vb vs : Value} (h : PR w a k n vb vs) (v : Value) : PR (w.setCell ⟨a, 3, none⟩ v) a k n vb v := by
 unfold PR at *
 simpa using set_row (w := w) (a := a) (i := 3) (cs := [.int .i64 k, .int .i64 (n : Int), vb, vs]) (u := v) h
theorem PR.set2 {w : World} {a : Nat} {k : Int} {n : Nat} {vb vs : Value} (h : PR w a k n vb vs) (v : Value) : PR (w.setCell ⟨a, 2, none⟩ v) a k n v vs := by
 unfold PR at *
 simpa using set_row (w := w) (a := a) (i := 2) (cs := [.int .i64 k, .int .i64 (n : Int), vb, vs]) (u := v) h
theorem PR.cf {w w' : World} {a : Nat} {k : Int} {n : Nat} {vb vs : Value} {F : Nat → Prop} (h : PR w a k n vb vs) (hc : Cf F w w') (hf : ¬ F a) : PR w' a k n vb vs := (hc.block a (lt_some h) hf).trans h
theorem Bk.cf {w w' : World} {g : Nat} {l : List Int} {F : Nat → Prop} (h : Bk w g l) (hc : Cf F w w') (hf : ¬ F g) : Bk w' g l := (hc.block g (lt_some h) hf).trans h
theorem Cf.ofGr {w w' : World} {v v' : Value} {F : Nat → Prop} (h : Gr w v w' v') (hf : ∀ g, v.ownBlock = some g → F g) : Cf F w w' := ⟨h.grow.os, h.grow.tape, h.grow.output, h.grow.size, fun k hk hk2 => h.grow.block k hk (fun e => hk2 (hf k e.symm))⟩
structure Pt (w u : World) (a rr : Nat) (k : Int) (n gb bn : Nat) (body : List Int) (vs : Value) (st : List Nat) (p : Nat) : Prop where
 row : PR u a k n (.slice (some ⟨gb, 0, none⟩) bn bn) vs
 bk : Bk u gb body
 rd : Rd u rr (some ⟨gb, 0, none⟩) bn bn p false
 own : OwnN u w.heap.size vs st
 cf : Cf (· = a) w u
 hp : p ≤ bn
 hr : rr = w.heap.size
theorem Pt.types {w u : World} {a rr : Nat} {k : Int} {n gb bn : Nat} {body : List Int} {vs : Value} {st : List Nat} {p : Nat} (h : Pt w u a rr k n gb bn body vs st p) : a ≠ gb ∧ a ≠ rr ∧ gb ≠ rr ∧ vs.ownBlock ≠ some a ∧ vs.ownBlock ≠ some gb ∧ vs.ownBlock ≠ some rr := by
 have h1 := h.row
 have h2 := h.bk
 have h3 := h.rd
 unfold PR at h1
 unfold Bk at h2
 unfold Rd at h3
 refine ⟨?_, ?_, ?_, h.own.apart h1 (by decide), h.own.apart h2 (by decide), h.own.apart h3 (by decide)⟩
 ·rintro rfl; rw [h1] at h2; simp at h2
 ·rintro rfl; rw [h1] at h3; simp at h3
 ·rintro rfl; rw [h2] at h3; simp at h3
end Go.Proofs.YtjpmfgoodcldcaaGreatDoor

namespace Go.Proofs.YtjpmfgoodcldcaaGreatDoor
set_option maxRecDepth 100000
open Go.RowKit
theorem Pt.put {w u v : World} {a rr : Nat} {k : Int} {n gb bn : Nat} {body : List Int} {vs vs' : Value} {st : List Nat} {p : Nat} (h : Pt w u a rr k n gb bn body vs st p) {x : World} (hx : Below u.heap.size u x) (ho : OwnN v w.heap.size vs' (st ++ [p])) (hg : Gr x vs v vs') :
  Pt w (v.setCell ⟨a, 3, none⟩ vs') a rr k n gb bn body vs' (st ++ [p]) p := by
 obtain ⟨t1, t2, t3, t4, t5, t6⟩ := h.types
 have e1 : PR x a k n (.slice (some ⟨gb, 0, none⟩) bn bn) vs := box_on h.row hx
 have e2 : Bk x gb body := h.bk.on hx
 have e3 : Rd x rr (some ⟨gb, 0, none⟩) bn bn p false := box_on h.rd hx
 have e4 : OwnN x w.heap.size vs st := h.own.below hx
 have f1 : PR v a k n (.slice (some ⟨gb, 0, none⟩) bn bn) vs := (hg.grow.block a (lt_some e1) (fun e => t4 e.symm)).trans e1
 have f2 : Bk v gb body := (hg.grow.block gb (lt_some e2) (fun e => t5 e.symm)).trans e2
 have f3 : Rd v rr (some ⟨gb, 0, none⟩) bn bn p false := (hg.grow.block rr (lt_some e3) (fun e => t6 e.symm)).trans e3
 have hc := Cf.set v a 3 vs'
 refine ⟨f1.set3 vs', f2.cf hc (fun e => t1 e.symm), f3.cf hc (fun e => t2 e.symm), ho.cf hc ?_, ?_, h.hp, h.hr⟩
 ·unfold PR at f1
  exact ho.apart f1 (by decide)
 ·have g1 : Cf (· = a) w x := h.cf.go (Cf.of_below hx)
  have g2 : Cf (fun i => w.heap.size ≤ i) x v := Cf.ofGr hg fun g e => by
   have := e4
   unfold OwnN at this
   exact (this.lt g e).1
  refine (g1.trans g2 ?_).go hc
  intro i hi e
  omega
theorem Pt.row_gr {w u v : World} {a rr : Nat} {k : Int} {n gb bn : Nat} {body : List Int} {vs vs' : Value} {st : List Nat} {p : Nat} (h : Pt w u a rr k n gb bn body vs st p) {x : World} (hx : Below u.heap.size u x) (hg : Gr x vs v vs') : PR v a k n (.slice (some ⟨gb, 0, none⟩) bn bn) vs := by
 obtain ⟨t1, t2, t3, t4, t5, t6⟩ := h.types
 have e1 : PR x a k n (.slice (some ⟨gb, 0, none⟩) bn bn) vs := box_on h.row hx
 exact (hg.grow.block a (lt_some e1) (fun e => t4 e.symm)).trans e1
def prv (cs : List Cl) : Option (List Int) := cs.getLast?.map Cl.key
def PartTo (m : Nat) (w : World) (a : Nat) (k : Int) (n gb bn : Nat) (body : List Int) (e : Ending) (w' : World) : Prop :=
 ∃ b, e = .returned (.bool b) ∧ Hid (Cf (· = a) w w') ∧ Hid ((b = true ∧ ∃ cs vs, part k n m none body = some cs ∧ PR w' a k n (.slice (some ⟨gb, 0, none⟩) bn bn) vs ∧ OwnN w' w.heap.size vs (sts 0 cs) ∧ Bk w' gb body) ∨ (b = false ∧ part k n m none body = none))
structure Pw (k : Int) (n m : Nat) (body : List Int) (cs : List Cl) (j p : Nat) : Prop where
 len : cs.length = j
 at_ : p = (bdy cs).length
 eq : part k n m none body = (part k n (m - j) (prv cs) (body.drop p)).map (cs ++ ·)
theorem Pw.start (k : Int) (n m : Nat) (body : List Int) : Pw k n m body [] 0 0 := ⟨rfl, rfl, by simp [prv]⟩
theorem Pw.fail {k : Int} {n m : Nat} {body : List Int} {cs : List Cl} {j p : Nat} (h : Pw k n m body cs j p) (hj : j < m) (hp : pCell (body.drop p) = none) : part k n m none body = none := by
 rw [h.eq, show m - j = (m - j - 1) + 1 by omega, part, hp]
 rfl
theorem Pw.bad {k : Int} {n m : Nat} {body : List Int} {cs : List Cl} {j p q : Nat} {c : Cl} (h : Pw k n m body cs j p) (hj : j < m) (hp : pCell (body.drop p) = some (c, body.drop q)) (hc : ¬ (mayP k n c ∧ ahead (prv cs) c.key)) : part k n m none body = none := by
 rw [h.eq, show m - j = (m - j - 1) + 1 by omega, part, hp]
 simp only
 rw [if_neg hc]
 rfl
theorem Pw.next {k : Int} {n m : Nat} {body : List Int} {cs : List Cl} {j p q : Nat} {c : Cl} (h : Pw k n m body cs j p) (hw : Wf body) (hj : j < m) (hq : q ≤ body.length) (hpl : p ≤ body.length) (hp : pCell (body.drop p) = some (c, body.drop q)) (hc : mayP k n c ∧ ahead (prv cs) c.key) : Pw k n m body (cs ++ [c]) (j + 1) q ∧ sts 0 (cs ++ [c]) = sts 0 cs ++ [p] := by
 have hi := (pCell_inv (hw.drop p) hp).1
 have hl := congrArg List.length hi
 rw [List.length_append, List.length_drop, List.length_drop] at hl
 have ha := h.at_
 refine ⟨⟨by simp [h.len], ?_, ?_⟩, ?_⟩
 ·rw [bdy_append, List.length_append, ← ha, show bdy [c] = cB c from by simp [bdy]]
  omega
 ·rw [h.eq, show m - j = (m - (j + 1)) + 1 by omega, part, hp]
  simp only
  rw [if_pos hc, show prv (cs ++ [c]) = some c.key from by simp [prv]]
  cases part k (n : Int) (m - (j + 1)) (some c.key) (body.drop q) <;> simp
 ·rw [sts_append, Nat.zero_add, ← ha]
  rfl
theorem Pw.done {k : Int} {n m : Nat} {body : List Int} {cs : List Cl} {p : Nat} (h : Pw k n m body cs m p) (hpl : p ≤ body.length) : (p = body.length → part k n m none body = some cs) ∧ (p ≠ body.length → part k n m none body = none) := by
 have he := h.eq
 rw [Nat.sub_self, part] at he
 constructor
 ·intro e
  rw [he, if_pos (by rw [e]; simp)]
  simp
 ·intro e
  rw [he, if_neg (by intro h; have := congrArg List.length h; rw [List.length_drop] at this; simp at this; omega)]
  rfl
end Go.Proofs.YtjpmfgoodcldcaaGreatDoor
