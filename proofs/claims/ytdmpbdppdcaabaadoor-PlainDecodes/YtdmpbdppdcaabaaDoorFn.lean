/- plain.Page.parted: a round's first half. -/
import Derived.Test.YtdmpbdppdcaabaaDoorFm
namespace Go.Proofs.YtdmpbdppdcaabaaDoor
open Go.RowKit

set_option maxRecDepth 100000 in
theorem Cf.alloc_go {F : Nat → Prop} {a b : World} (h : Cf F a b) (o : Obj) : Cf F a (b.alloc o) := h.go (Cf.alloc F b o)
set_option maxRecDepth 100000 in
/-- A number is put behind the starts. -/
theorem Pt.put {w u v : World} {a rr : Nat} {k : Int} {n gb bn : Nat} {body : List Int} {vs vs' : Value} {st : List Nat} {p : Nat} (h : Pt w u a rr k n gb bn body vs st p) {x : World} (hx : Below u.heap.size u x) (ho : OwnN v w.heap.size vs' (st ++ [p])) (hg : Gr x vs v vs') :
    Pt w (v.setCell ⟨a, 3, none⟩ vs') a rr k n gb bn body vs' (st ++ [p]) p := by
  obtain ⟨t1, t2, t3, t4, t5, t6⟩ := h.types
  have e1 : PR x a k n (.slice (some ⟨gb, 0, none⟩) bn bn) vs := box_on h.row hx
  have e2 : Bk x gb body := h.bk.on hx
  have e3 : Rd x rr (some ⟨gb, 0, none⟩) bn bn p false := box_on h.rd hx
  have e4 : OwnN x w.heap.size vs st := h.own.below hx
  have f1 : PR v a k n (.slice (some ⟨gb, 0, none⟩) bn bn) vs := (hg.grow.block a (lt_some e1) (fun e => t4 e.symm)).trans e1
  have f2 : Bk v gb body := (hg.grow.block gb (lt_some e2) (fun e => t5 e.symm)).trans e2
  have f3 : Rd v rr (some ⟨gb, 0, none⟩) bn bn p false := (hg.grow.block rr (lt_some e3) (fun e => t6 e.symm)).trans e3
  have hc := Cf.set v a 3 vs'
  refine ⟨f1.set3 vs', f2.cf hc (fun e => t1 e.symm), f3.cf hc (fun e => t2 e.symm), ho.cf hc ?_, ?_, h.hp, h.hr⟩
  · unfold PR at f1
    exact ho.apart f1 (by decide)
  · have g1 : Cf (· = a) w x := h.cf.go (Cf.of_below hx)
    have g2 : Cf (fun i => w.heap.size ≤ i) x v := Cf.ofGr hg fun g e => by
      have := e4
      unfold OwnN at this
      exact (this.lt g e).1
    refine (g1.trans g2 ?_).go hc
    intro i hi e
    omega
set_option maxRecDepth 100000 in
theorem Pt.row_gr {w u v : World} {a rr : Nat} {k : Int} {n gb bn : Nat} {body : List Int} {vs vs' : Value} {st : List Nat} {p : Nat} (h : Pt w u a rr k n gb bn body vs st p) {x : World} (hx : Below u.heap.size u x) (hg : Gr x vs v vs') : PR v a k n (.slice (some ⟨gb, 0, none⟩) bn bn) vs := by
  obtain ⟨t1, t2, t3, t4, t5, t6⟩ := h.types
  have e1 : PR x a k n (.slice (some ⟨gb, 0, none⟩) bn bn) vs := box_on h.row hx
  exact (hg.grow.block a (lt_some e1) (fun e => t4 e.symm)).trans e1
/-- The key of the cell ahead. -/
def prv (cs : List Cl) : Option (List Int) := cs.getLast?.map Cl.key
/-- What parted comes to. -/
def PartTo (m : Nat) (w : World) (a : Nat) (k : Int) (n gb bn : Nat) (body : List Int) (e : Ending) (w' : World) : Prop :=
  ∃ b, e = .returned (.bool b) ∧ Hid (Cf (· = a) w w') ∧ Hid ((b = true ∧ ∃ cs vs, part k n m none body = some cs ∧ PR w' a k n (.slice (some ⟨gb, 0, none⟩) bn bn) vs ∧ OwnN w' w.heap.size vs (sts 0 cs) ∧ Bk w' gb body) ∨ (b = false ∧ part k n m none body = none))
/-- Where the walk through the body stands. -/
structure Pw (k : Int) (n m : Nat) (body : List Int) (cs : List Cl) (j p : Nat) : Prop where
  len : cs.length = j
  at_ : p = (bdy cs).length
  eq : part k n m none body = (part k n (m - j) (prv cs) (body.drop p)).map (cs ++ ·)
set_option maxRecDepth 100000 in
theorem Pw.start (k : Int) (n m : Nat) (body : List Int) : Pw k n m body [] 0 0 := ⟨rfl, rfl, by simp [prv]⟩
set_option maxRecDepth 100000 in
theorem Pw.fail {k : Int} {n m : Nat} {body : List Int} {cs : List Cl} {j p : Nat} (h : Pw k n m body cs j p) (hj : j < m) (hp : pCell (body.drop p) = none) : part k n m none body = none := by
  rw [h.eq, show m - j = (m - j - 1) + 1 by omega, part, hp]
  rfl
set_option maxRecDepth 100000 in
theorem Pw.bad {k : Int} {n m : Nat} {body : List Int} {cs : List Cl} {j p q : Nat} {c : Cl} (h : Pw k n m body cs j p) (hj : j < m) (hp : pCell (body.drop p) = some (c, body.drop q)) (hc : ¬ (mayP k n c ∧ ahead (prv cs) c.key)) : part k n m none body = none := by
  rw [h.eq, show m - j = (m - j - 1) + 1 by omega, part, hp]
  simp only
  rw [if_neg hc]
  rfl
set_option maxRecDepth 100000 in
theorem Pw.next {k : Int} {n m : Nat} {body : List Int} {cs : List Cl} {j p q : Nat} {c : Cl} (h : Pw k n m body cs j p) (hw : Wf body) (hj : j < m) (hq : q ≤ body.length) (hpl : p ≤ body.length) (hp : pCell (body.drop p) = some (c, body.drop q)) (hc : mayP k n c ∧ ahead (prv cs) c.key) : Pw k n m body (cs ++ [c]) (j + 1) q ∧ sts 0 (cs ++ [c]) = sts 0 cs ++ [p] := by
  have hi := (pCell_inv (hw.drop p) hp).1
  have hl := congrArg List.length hi
  rw [List.length_append, List.length_drop, List.length_drop] at hl
  have ha := h.at_
  refine ⟨⟨by simp [h.len], ?_, ?_⟩, ?_⟩
  · rw [bdy_append, List.length_append, ← ha, show bdy [c] = cB c from by simp [bdy]]
    omega
  · rw [h.eq, show m - j = (m - (j + 1)) + 1 by omega, part, hp]
    simp only
    rw [if_pos hc, show prv (cs ++ [c]) = some c.key from by simp [prv]]
    cases part k (n : Int) (m - (j + 1)) (some c.key) (body.drop q) <;> simp
  · rw [sts_append, Nat.zero_add, ← ha]
    rfl
set_option maxRecDepth 100000 in
theorem Pw.done {k : Int} {n m : Nat} {body : List Int} {cs : List Cl} {p : Nat} (h : Pw k n m body cs m p) (hpl : p ≤ body.length) : (p = body.length → part k n m none body = some cs) ∧ (p ≠ body.length → part k n m none body = none) := by
  have he := h.eq
  rw [Nat.sub_self, part] at he
  constructor
  · intro e
    rw [he, if_pos (by rw [e]; simp)]
    simp
  · intro e
    rw [he, if_neg (by intro h; have := congrArg List.length h; rw [List.length_drop] at this; simp at this; omega)]
    rfl
end Go.Proofs.YtdmpbdppdcaabaaDoor
