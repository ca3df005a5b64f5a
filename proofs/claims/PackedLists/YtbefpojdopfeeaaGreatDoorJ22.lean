/- Pages of the packed kind as they are laid: plain mathematics. -/
import Derived.Test.YtbefpojdopfeeaaGreatDoorJ15
import Derived.Test.YtbefpojdopfeeaaGreatDoorJ21
namespace Go.Proofs.YtbefpojdopfeeaaGreatDoor
open Go.RowKit

/-- How much of the next cell's key is left out. -/
def cutn (m : Nat) (f : Bool) (cs : List Cl) : Nat := if f = true ∧ cs = [] then 0 else m
set_option maxRecDepth 100000 in
theorem qbd_snoc (m : Nat) : ∀ (f : Bool) (cs : List Cl) (c : Cl), qbd m f (cs ++ [c]) = qbd m f cs ++ qB (cutn m f cs) c
  | f, [], c => by cases f <;> simp [qbd, cutn]
  | f, d :: r, c => by
    have ih := qbd_snoc m false r c
    simp only [List.cons_append, qbd, ih, List.append_assoc]
    simp [cutn]
set_option maxRecDepth 100000 in
theorem qst_snoc (m : Nat) : ∀ (f : Bool) (b : Nat) (cs : List Cl) (c : Cl), qst m f b (cs ++ [c]) = qst m f b cs ++ [b + (qbd m f cs).length]
  | f, b, [], c => by simp [qst, qbd]
  | f, b, d :: r, c => by
    have ih := qst_snoc m false (b + (qB (if f then 0 else m) d).length) r c
    simp only [List.cons_append, qst, ih, qbd, List.length_append]
    rw [Nat.add_assoc]
set_option maxRecDepth 100000 in
theorem qst_at (m : Nat) : ∀ (f : Bool) (b : Nat) (cs : List Cl) (i : Nat) (c : Cl), cs[i]? = some c → ∃ r p, (qst m f b cs).getD i 0 = b + p ∧ (qbd m f cs).drop p = qB (if f = true ∧ i = 0 then 0 else m) c ++ r
  | f, b, [], i, c, h => by simp at h
  | f, b, d :: r, 0, c, h => by
    simp at h
    subst h
    refine ⟨qbd m false r, 0, by simp [qst], ?_⟩
    simp [qbd]
  | f, b, d :: r, i + 1, c, h => by
    obtain ⟨t, p, h1, h2⟩ := qst_at m false (b + (qB (if f then 0 else m) d).length) r i c (by simpa using h)
    refine ⟨t, (qB (if f then 0 else m) d).length + p, ?_, ?_⟩
    · simp only [qst, List.getD_cons_succ]
      rw [h1, Nat.add_assoc]
    · simp only [qbd]
      rw [← List.drop_drop, List.drop_left, h2]
      simp
set_option maxRecDepth 100000 in
theorem qst_le (m : Nat) : ∀ (f : Bool) (b : Nat) (cs : List Cl) (s : Nat), s ∈ qst m f b cs → s ≤ b + (qbd m f cs).length
  | _, _, [], s, h => by simp [qst] at h
  | f, b, c :: r, s, h => by
    simp only [qst, List.mem_cons] at h
    simp only [qbd, List.length_append]
    rcases h with rfl | h
    · omega
    · have := qst_le m false _ r s h
      omega
set_option maxRecDepth 100000 in
/-- Where the cells lie in what is laid. -/
theorem layQ_of {k : Int} {P : List Int} {cs : List Cl} (hb : Beg k P cs) (hf : ∀ c ∈ cs, c.fit) : LayQ k P cs (qbd P.length (whl k) cs) (qst P.length (whl k) 0 cs) := by
  refine ⟨qst_length _ _ _ _, hb, hf, fun i c hi => ?_⟩
  obtain ⟨r, p, h1, h2⟩ := qst_at P.length (whl k) 0 cs i c hi
  refine ⟨r, ?_⟩
  rw [h1, Nat.zero_add, h2]
  simp [whl]
set_option maxRecDepth 100000 in
theorem wrL_laid (k : Int) (n : Nat) (P : List Int) (cs : List Cl) : wrL k n P (qbd P.length (whl k) cs) (qst P.length (whl k) 0 cs) = pkL k n P cs := by
  unfold wrL pkL
  rw [qst_length, ← qst_shift, Nat.add_zero, szQ_eq]
set_option maxRecDepth 100000 in
theorem qbd_pre (m : Nat) : ∀ (f : Bool) (cs : List Cl) (j : Nat), (qbd m f (cs.take j)).length ≤ (qbd m f cs).length
  | _, [], _ => by simp
  | f, c :: r, 0 => by simp [qbd]
  | f, c :: r, j + 1 => by
    have := qbd_pre m false r j
    simp only [List.take_succ_cons, qbd, List.length_append]
    omega
set_option maxRecDepth 100000 in
theorem cutn_at (k : Int) (m : Nat) (cs : List Cl) (j : Nat) (hj : j ≤ cs.length) : cutn m (whl k) (cs.take j) = if k = 3 ∧ j = 0 then 0 else m := by
  unfold cutn whl
  have : cs.take j = [] ↔ j = 0 := by
    rw [List.take_eq_nil_iff]
    constructor
    · rintro (h | h)
      · exact h
      · subst h; simpa using hj
    · exact .inl
  simp [this]
set_option maxRecDepth 100000 in
theorem Beg.cut_le {k : Int} {P : List Int} {cs : List Cl} (h : Beg k P cs) (j : Nat) (c : Cl) (hj : cs[j]? = some c) : (if k = 3 ∧ j = 0 then 0 else P.length) ≤ c.key.length := by
  split
  · omega
  · next hc => exact beg_len (h c (mem_ktl hj hc))
end Go.Proofs.YtbefpojdopfeeaaGreatDoor

/- packed.Page's row, and what is laid. -/

namespace Go.Proofs.YtbefpojdopfeeaaGreatDoor
open Go.RowKit

/-- A page's row. -/
def QR (w : World) (a : Nat) (k n : Int) (vp vb vs : Value) (ws : Int) : Prop := w.heap[a]? = some (.cells #[.int .i64 k, .int .i64 n, vp, vb, vs, .int .i64 ws] 63 (0, 0))
set_option maxRecDepth 100000 in
theorem QR.cells {w : World} {a : Nat} {k n : Int} {vp vb vs : Value} {ws : Int} (h : QR w a k n vp vb vs ws) :
    w.cell? ⟨a, 0, none⟩ = some (.int .i64 k) ∧ w.cell? ⟨a, 1, none⟩ = some (.int .i64 n) ∧ w.cell? ⟨a, 2, none⟩ = some vp ∧ w.cell? ⟨a, 3, none⟩ = some vb ∧ w.cell? ⟨a, 4, none⟩ = some vs ∧ w.cell? ⟨a, 5, none⟩ = some (.int .i64 ws) := by
  unfold QR at h
  refine ⟨?_, ?_, ?_, ?_, ?_, ?_⟩
  · rw [cell_of_row _ _ 0 _ _ _ h]; rfl
  · rw [cell_of_row _ _ 1 _ _ _ h]; rfl
  · rw [cell_of_row _ _ 2 _ _ _ h]; rfl
  · rw [cell_of_row _ _ 3 _ _ _ h]; rfl
  · rw [cell_of_row _ _ 4 _ _ _ h]; rfl
  · rw [cell_of_row _ _ 5 _ _ _ h]; rfl
set_option maxRecDepth 100000 in
theorem QR.free {w : World} {a : Nat} {k n : Int} {vp vb vs : Value} {ws : Int} (h : QR w a k n vp vb vs ws) (i : Nat) : w.frozen? ⟨a, i, none⟩ = false := by
  unfold QR at h
  simp [World.frozen?, h]
set_option maxRecDepth 100000 in
theorem QR.set2 {w : World} {a : Nat} {k n : Int} {vp vb vs : Value} {ws : Int} (h : QR w a k n vp vb vs ws) (v : Value) : QR (w.setCell ⟨a, 2, none⟩ v) a k n v vb vs ws := by
  unfold QR at *
  simpa using set_row (w := w) (a := a) (i := 2) (cs := [.int .i64 k, .int .i64 n, vp, vb, vs, .int .i64 ws]) (u := v) h
set_option maxRecDepth 100000 in
theorem QR.set3 {w : World} {a : Nat} {k n : Int} {vp vb vs : Value} {ws : Int} (h : QR w a k n vp vb vs ws) (v : Value) : QR (w.setCell ⟨a, 3, none⟩ v) a k n vp v vs ws := by
  unfold QR at *
  simpa using set_row (w := w) (a := a) (i := 3) (cs := [.int .i64 k, .int .i64 n, vp, vb, vs, .int .i64 ws]) (u := v) h
set_option maxRecDepth 100000 in
theorem QR.set4 {w : World} {a : Nat} {k n : Int} {vp vb vs : Value} {ws : Int} (h : QR w a k n vp vb vs ws) (v : Value) : QR (w.setCell ⟨a, 4, none⟩ v) a k n vp vb v ws := by
  unfold QR at *
  simpa using set_row (w := w) (a := a) (i := 4) (cs := [.int .i64 k, .int .i64 n, vp, vb, vs, .int .i64 ws]) (u := v) h
set_option maxRecDepth 100000 in
theorem QR.cf {w w' : World} {a : Nat} {k n : Int} {vp vb vs : Value} {ws : Int} {F : Nat → Prop} (h : QR w a k n vp vb vs ws) (hc : Cf F w w') (hf : ¬ F a) : QR w' a k n vp vb vs ws := (hc.block a (lt_some h) hf).trans h
set_option maxRecDepth 100000 in
theorem QR.gr {w w' : World} {a : Nat} {k n : Int} {vp vb vs : Value} {ws : Int} {v v' : Value} (h : QR w a k n vp vb vs ws) (hg : Gr w v w' v') (hf : v.ownBlock ≠ some a) : QR w' a k n vp vb vs ws := (hg.grow.block a (lt_some h) (fun e => hf e.symm)).trans h
set_option maxRecDepth 100000 in
theorem Cf.ofGr {w w' : World} {v v' : Value} {F : Nat → Prop} (h : Gr w v w' v') (hf : ∀ g, v.ownBlock = some g → F g) : Cf F w w' := ⟨h.grow.os, h.grow.tape, h.grow.output, h.grow.size, fun k hk hk2 => h.grow.block k hk (fun e => hk2 (hf k e.symm))⟩
set_option maxRecDepth 100000 in
/-- Bytes of one's own don't lie in a block of another type. -/
theorem OwnB.apart {w : World} {B : Nat} {v : Value} {l : List Int} (h : OwnB w B v l) {g : Nat} {xs : Array Value} {t : TypeId} {fr : Nat × Nat} (hg : w.heap[g]? = some (.cells xs t fr)) (ht : t ≠ 5) : v.ownBlock ≠ some g := by
  intro e
  unfold OwnB at h
  rcases h.2 with ⟨rfl, _⟩ | ⟨q, cap, cur, rfl, _, hh, _⟩
  · cases e
  · simp only [Value.ownBlock, Option.some.injEq] at e
    subst e
    rw [hg] at hh
    simp at hh
    exact ht hh.2.1
set_option maxRecDepth 100000 in
theorem OwnB.apartN {w : World} {B C : Nat} {v u : Value} {l : List Int} {m : List Nat} (h : OwnB w B v l) (g : OwnN w C u m) : v.ownBlock = none ∨ v.ownBlock ≠ u.ownBlock := by
  unfold OwnN at g
  rcases g.2 with ⟨rfl, _⟩ | ⟨q, cap, cur, rfl, _, hh, _⟩
  · cases hv : v.ownBlock with
    | none => exact .inl rfl
    | some k => exact .inr (by simp [Value.ownBlock])
  · exact .inr (h.apart hh (by decide))
set_option maxRecDepth 100000 in
theorem OwnN.apartB {w : World} {B C : Nat} {v u : Value} {l : List Int} {m : List Nat} (g : OwnN w C u m) (h : OwnB w B v l) : u.ownBlock = none ∨ u.ownBlock ≠ v.ownBlock := by
  unfold OwnB at h
  rcases h.2 with ⟨rfl, _⟩ | ⟨q, cap, cur, rfl, _, hh, _⟩
  · cases hv : u.ownBlock with
    | none => exact .inl rfl
    | some k => exact .inr (by simp [Value.ownBlock])
  · exact .inr (g.apart hh (by decide))
set_option maxRecDepth 100000 in
theorem OwnB.gr {w w' : World} {B : Nat} {v : Value} {l : List Int} {u u' : Value} (h : OwnB w B v l) (hg : Gr w u w' u') (hne : v.ownBlock = none ∨ v.ownBlock ≠ u.ownBlock) : OwnB w' B v l := World.ownsRow.kept h hg.grow hne
set_option maxRecDepth 100000 in
theorem OwnB.cf {w w' : World} {B : Nat} {v : Value} {l : List Int} {r : Nat} (h : OwnB w B v l) (hc : Cf (· = r) w w') (hne : v.ownBlock ≠ some r) : OwnB w' B v l :=
  World.ownsRow.kept (row := some r) h ⟨hc.os, hc.tape, hc.output, hc.size, fun k hk hk2 => hc.block k hk (fun e => hk2 (by rw [e]))⟩ (.inr hne)
set_option maxRecDepth 100000 in
theorem OwnB.grow_below {w w' : World} {B : Nat} {v v' : Value} {l : List Int} (h : OwnB w B v l) (hg : Gr w v w' v') (hB : B ≤ w.heap.size) : Below B w w' := hg.below h hB
set_option maxRecDepth 100000 in
theorem OwnN.grow_below {w w' : World} {B : Nat} {v v' : Value} {l : List Nat} (h : OwnN w B v l) (hg : Gr w v w' v') (hB : B ≤ w.heap.size) : Below B w w' := own_below h hB hg.grow
set_option maxRecDepth 100000 in
theorem OwnN.nil (w : World) (B : Nat) : OwnN w B (.slice none 0 0) [] := World.ownsRow_nil w B 3 1
/-- A page whose bytes and starts are its own, all from B on: w: as it was begun. -/
structure Lq (w u : World) (B a : Nat) (k n : Int) (vp vb vs : Value) (ws : Int) (body : List Int) (st : List Nat) : Prop where
  row : QR u a k n vp vb vs ws
  ob : OwnB u B vb body
  on : OwnN u B vs st
  be : Below B w u
  hB : B ≤ w.heap.size
  ha : B ≤ a
set_option maxRecDepth 100000 in
theorem Lq.go {w u v : World} {B a : Nat} {k n : Int} {vp vb vs : Value} {ws : Int} {body : List Int} {st : List Nat} (h : Lq w u B a k n vp vb vs ws body st) (hb : Below u.heap.size u v) : Lq w v B a k n vp vb vs ws body st :=
  ⟨box_on h.row hb, h.ob.on (Nat.le_refl _) hb, h.on.below hb, bl_go h.be h.hB hb, h.hB, h.ha⟩
set_option maxRecDepth 100000 in
theorem Lq.apartB {w u : World} {B a : Nat} {k n : Int} {vp vb vs : Value} {ws : Int} {body : List Int} {st : List Nat} (h : Lq w u B a k n vp vb vs ws body st) : vb.ownBlock ≠ some a := by
  have := h.row
  unfold QR at this
  exact h.ob.apart this (by decide)
set_option maxRecDepth 100000 in
theorem Lq.apartS {w u : World} {B a : Nat} {k n : Int} {vp vb vs : Value} {ws : Int} {body : List Int} {st : List Nat} (h : Lq w u B a k n vp vb vs ws body st) : vs.ownBlock ≠ some a := by
  have := h.row
  unfold QR at this
  exact h.on.apart this (by decide)
set_option maxRecDepth 100000 in
theorem Lq.le {w u : World} {B a : Nat} {k n : Int} {vp vb vs : Value} {ws : Int} {body : List Int} {st : List Nat} (h : Lq w u B a k n vp vb vs ws body st) : B ≤ u.heap.size := Nat.le_trans h.hB h.be.size
set_option maxRecDepth 100000 in
/-- A number is put behind the starts: ahead of the store. -/
theorem Lq.row_st {w u v : World} {B a : Nat} {k n : Int} {vp vb vs vs' : Value} {ws : Int} {body : List Int} {st : List Nat} (h : Lq w u B a k n vp vb vs ws body st) {x : World} (hx : Below u.heap.size u x) (hg : Gr x vs v vs') : QR v a k n vp vb vs ws := (h.go hx).row.gr hg (h.go hx).apartS
set_option maxRecDepth 100000 in
/-- A number is put behind the starts. -/
theorem Lq.put_st {w u v : World} {B a : Nat} {k n : Int} {vp vb vs vs' : Value} {ws : Int} {body : List Int} {st st' : List Nat} (h : Lq w u B a k n vp vb vs ws body st) {x : World} (hx : Below u.heap.size u x) (ho : OwnN v B vs' st') (hg : Gr x vs v vs') :
    Lq w (v.setCell ⟨a, 4, none⟩ vs') B a k n vp vb vs' ws body st' := by
  have h1 := h.go hx
  have hr := h.row_st hx hg
  have hb : OwnB v B vb body := h1.ob.gr hg (h1.ob.apartN h1.on)
  have hc := Cf.set v a 4 vs'
  have hbe : Below B w v := h1.be.trans (h1.on.grow_below hg h1.le)
  have hr2 := hr
  unfold QR at hr2
  exact ⟨hr.set4 vs', hb.cf hc (hb.apart hr2 (by decide)), ho.cf hc (ho.apart hr2 (by decide)), hbe.trans (hc.below (Nat.le_trans h.hB hbe.size) (by intro i hi e; have := h.ha; omega)), h.hB, h.ha⟩
set_option maxRecDepth 100000 in
/-- Bytes are put behind the body: ahead of the store. -/
theorem Lq.row_bd {w u v : World} {B a : Nat} {k n : Int} {vp vb vs vb' : Value} {ws : Int} {body : List Int} {st : List Nat} (h : Lq w u B a k n vp vb vs ws body st) {x : World} (hx : Below u.heap.size u x) (hg : Gr x vb v vb') : QR v a k n vp vb vs ws := (h.go hx).row.gr hg (h.go hx).apartB
set_option maxRecDepth 100000 in
/-- Bytes are put behind the body. -/
theorem Lq.put_bd {w u v : World} {B a : Nat} {k n : Int} {vp vb vs vb' : Value} {ws : Int} {body body' : List Int} {st : List Nat} (h : Lq w u B a k n vp vb vs ws body st) {x : World} (hx : Below u.heap.size u x) (ho : OwnB v B vb' body') (hg : Gr x vb v vb') :
    Lq w (v.setCell ⟨a, 3, none⟩ vb') B a k n vp vb' vs ws body' st := by
  have h1 := h.go hx
  have hr := h.row_bd hx hg
  have hb : OwnN v B vs st := h1.on.gr hg (h1.on.apartB h1.ob)
  have hc := Cf.set v a 3 vb'
  have hbe : Below B w v := h1.be.trans (h1.ob.grow_below hg h1.le)
  have hr2 := hr
  unfold QR at hr2
  exact ⟨hr.set3 vb', ho.cf hc (ho.apart hr2 (by decide)), hb.cf hc (hb.apart hr2 (by decide)), hbe.trans (hc.below (Nat.le_trans h.hB hbe.size) (by intro i hi e; have := h.ha; omega)), h.hB, h.ha⟩
set_option maxRecDepth 100000 in
/-- It is a page. -/
theorem Lq.pg {w u : World} {B a : Nat} {k : Int} {n : Nat} {po : Option Addr} {pn pc : Nat} {vb vs : Value} {ws : Int} {P body : List Int} {st : List Nat} (h : Lq w u B a k n (.slice po pn pc) vb vs ws body st) (hP : Sl u po pn pc P) (hw : Wf body) (hb : body.length ≤ 140737488355328) (hs : st.length ≤ 140737488355328) :
    ∃ bo bc so sc, vb = .slice bo body.length bc ∧ vs = .slice so st.length sc ∧ PgQ u a k n po pn pc bo body.length bc so st.length sc ws P body st := by
  obtain ⟨bo, bc, rfl, hbs, _⟩ := h.ob.sl hw hb
  obtain ⟨so, sc, rfl, hss⟩ := h.on.sln hs
  exact ⟨bo, bc, so, sc, rfl, rfl, ⟨h.row, hP, hbs, hss⟩⟩
end Go.Proofs.YtbefpojdopfeeaaGreatDoor
