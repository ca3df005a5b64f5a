/- packed.Page.written. -/
import Derived.Test.YtaicpmlcklkjgaaGreatDoorJ30
import Derived.Test.YtaicpmlcklkjgaaGreatDoorJ17
import Derived.Test.YtaicpmlcklkjgaaGreatDoorJ20
namespace Go.Proofs.YtaicpmlcklkjgaaGreatDoor
open Go.RowKit

set_option maxRecDepth 100000 in
theorem OwnZ.more {w : World} {g N : Nat} {l : List Int} (h : OwnZ w g N l) (m : Nat) (hm : l.length + m ≤ N) : OwnZ w g N (l ++ zs m) := by
  obtain ⟨h1, h2⟩ := h
  refine ⟨?_, by rw [List.length_append, zs_length]; exact hm⟩
  rw [List.append_assoc, ← zs_add, List.length_append, zs_length, show m + (N - (l.length + m)) = N - l.length by omega]
  exact h1
set_option maxRecDepth 100000 in
theorem OwnZ.sl {w : World} {g N : Nat} {l : List Int} (h : OwnZ w g N l) (hw : Wf l) (hN : N ≤ 140737488355328) : Sl w (some ⟨g, 0, none⟩) l.length N l := by
  obtain ⟨h1, h2⟩ := h
  refine ⟨rfl, h2, by omega, hw, (by intro h; cases h), .inr ⟨g, 0, rfl, lt_some h1, fun i hi => ?_⟩⟩
  rw [Nat.zero_add, h1.cell i (by rw [List.length_append]; omega)]
  simp [List.getD, List.getElem?_append_left hi]
end Go.Proofs.YtaicpmlcklkjgaaGreatDoor

/- packed.shared. -/

namespace Go.Proofs.YtaicpmlcklkjgaaGreatDoor
open Go.RowKit

set_option maxRecDepth 100000 in
theorem SlE.item {w : World} {G : Nat} {ao : Option Addr} {n cap : Nat} {cs : List Cl} (h : SlE w G ao n cap cs) (i : Nat) (hi : i < n) : ∃ b off c, ao = some ⟨b, off, none⟩ ∧ b < w.heap.size ∧ cs[i]? = some c ∧ EAt w G b (off + i * 6) c := by
  have hl := h.hlen
  rcases h.hat with h0 | ⟨b, off, e, hb, hc⟩
  · omega
  · obtain ⟨c, hci⟩ : ∃ c, cs[i]? = some c := ⟨_, List.getElem?_eq_getElem (by omega)⟩
    exact ⟨b, off, c, e, hb, hci, hc i c hci⟩
set_option maxRecDepth 100000 in
theorem SlE.piece {w : World} {G b off n cap : Nat} {cs : List Cl} (h : SlE w G (some ⟨b, off, none⟩) n cap cs) (i k c : Nat) (hk : i + k ≤ n) (hc : k ≤ c) : SlE w G (some ⟨b, off + i * 6, none⟩) k c ((cs.drop i).take k) := by
  have hl := h.hlen
  refine ⟨by rw [List.length_take, List.length_drop]; omega, hc, by have := h.hroom; omega, (by intro h; cases h), ?_⟩
  rcases h.hat with h0 | ⟨b', off', e, hb, hcs⟩
  · exact .inl (by omega)
  · injection e with e
    injection e with e1 e2
    subst e1 e2
    refine .inr ⟨b, off + i * 6, rfl, hb, fun j c hj => ?_⟩
    have hjl := (List.getElem?_eq_some_iff.1 hj).1
    rw [List.length_take, List.length_drop] at hjl
    rw [List.getElem?_take_of_lt (by omega), List.getElem?_drop] at hj
    have := hcs (i + j) c hj
    rwa [show off + (i + j) * 6 = off + i * 6 + j * 6 by omega] at this
set_option maxRecDepth 100000 in
/-- An entry's key, at any world behind. -/
theorem EAt.key {w : World} {G b off : Nat} {c : Cl} (h : EAt w G b off c) (hf : c.key.length ≤ 140737488355328) : ∃ ho hn hc ko kn kc vo vn vc, w.cell? ⟨b, off, none⟩ = some (.slice ho hn hc) ∧ w.cell? ⟨b, off + 1, none⟩ = some (.slice ko kn kc) ∧ w.cell? ⟨b, off + 2, none⟩ = some (.int .i64 c.kd) ∧ w.cell? ⟨b, off + 3, none⟩ = some (.slice vo vn vc) ∧ w.cell? ⟨b, off + 4, none⟩ = some (.int .i64 c.pg) ∧ w.cell? ⟨b, off + 5, none⟩ = some (.int .i64 c.ct) ∧
    (∃ h key, Sl w ho hn hc h ∧ Sl w ko kn kc key ∧ h ++ key = c.key) ∧ ∀ u, Below w.heap.size w u → Calls Tryz.prog 203 #[.agg #[.slice ho hn hc, .slice ko kn kc, .int .i64 c.kd, .slice vo vn vc, .int .i64 c.pg, .int .i64 c.ct]] u fun e w' => ∃ a cp, e = .returned (.slice a c.key.length cp) ∧ Hid (Sl w' a c.key.length cp c.key) ∧ Hid (Below u.heap.size u w') := by
  obtain ⟨ho, hn, hc, ko, kn, kc, vo, vn, vc, h', key, h0, h1, h2, h3, h4, h5, s1, s2, s3, e, _⟩ := h
  refine ⟨ho, hn, hc, ko, kn, kc, vo, vn, vc, h0, h1, h2, h3, h4, h5, ⟨h', key, s1, s2, e⟩, fun u hu => ?_⟩
  have hlen : hn + kn = c.key.length := by rw [← e, List.length_append, s1.hlen, s2.hlen]
  refine (keyq_any ho hn hc ko kn kc c.kd vo vn vc c.pg c.ct h' key u (s1.on (Nat.le_refl _) hu) (s2.on (Nat.le_refl _) hu) (by omega)).mono ?_
  rintro x w' ⟨v', rfl, HO, HB⟩
  have ho' := HO.out
  rw [e] at ho'
  obtain ⟨a, cp, hv, hs, _⟩ := ho'.sl (by rw [← e]; exact s1.wf.append s2.wf) hf
  exact ⟨a, cp, by rw [hv], hidden hs, HB⟩
end Go.Proofs.YtaicpmlcklkjgaaGreatDoor

/- Pages of the packed kind as they are laid: plain mathematics. -/

namespace Go.Proofs.YtaicpmlcklkjgaaGreatDoor
open Go.RowKit

/-- How much of the next cell's key is left out. -/
def cutn (m : Nat) (f : Bool) (cs : List Cl) : Nat := if f = true ∧ cs = [] then 0 else m
set_option maxRecDepth 100000 in
theorem qbd_snoc (m : Nat) : ∀ (f : Bool) (cs : List Cl) (c : Cl), qbd m f (cs ++ [c]) = qbd m f cs ++ qB (cutn m f cs) c
  | f, [], c => by cases f <;> simp [qbd, cutn]
  | f, d :: r, c => by
    have ih := qbd_snoc m false r c
    simp only [List.cons_append, qbd, ih, List.append_assoc]
    simp [cutn]
set_option maxRecDepth 100000 in
theorem qst_snoc (m : Nat) : ∀ (f : Bool) (b : Nat) (cs : List Cl) (c : Cl), qst m f b (cs ++ [c]) = qst m f b cs ++ [b + (qbd m f cs).length]
  | f, b, [], c => by simp [qst, qbd]
  | f, b, d :: r, c => by
    have ih := qst_snoc m false (b + (qB (if f then 0 else m) d).length) r c
    simp only [List.cons_append, qst, ih, qbd, List.length_append]
    rw [Nat.add_assoc]
end Go.Proofs.YtaicpmlcklkjgaaGreatDoor

/- packed.Page's row, and what is laid. -/

namespace Go.Proofs.YtaicpmlcklkjgaaGreatDoor
open Go.RowKit

/-- A page's row. -/
def QR (w : World) (a : Nat) (k n : Int) (vp vb vs : Value) (ws : Int) : Prop := w.heap[a]? = some (.cells #[.int .i64 k, .int .i64 n, vp, vb, vs, .int .i64 ws] 164 (0, 0))
set_option maxRecDepth 100000 in
theorem QR.cells {w : World} {a : Nat} {k n : Int} {vp vb vs : Value} {ws : Int} (h : QR w a k n vp vb vs ws) :
    w.cell? ⟨a, 0, none⟩ = some (.int .i64 k) ∧ w.cell? ⟨a, 1, none⟩ = some (.int .i64 n) ∧ w.cell? ⟨a, 2, none⟩ = some vp ∧ w.cell? ⟨a, 3, none⟩ = some vb ∧ w.cell? ⟨a, 4, none⟩ = some vs ∧ w.cell? ⟨a, 5, none⟩ = some (.int .i64 ws) := by
  unfold QR at h
  refine ⟨?_, ?_, ?_, ?_, ?_, ?_⟩
  · rw [cell_of_row _ _ 0 _ _ _ h]; rfl
  · rw [cell_of_row _ _ 1 _ _ _ h]; rfl
  · rw [cell_of_row _ _ 2 _ _ _ h]; rfl
  · rw [cell_of_row _ _ 3 _ _ _ h]; rfl
  · rw [cell_of_row _ _ 4 _ _ _ h]; rfl
  · rw [cell_of_row _ _ 5 _ _ _ h]; rfl
set_option maxRecDepth 100000 in
theorem QR.free {w : World} {a : Nat} {k n : Int} {vp vb vs : Value} {ws : Int} (h : QR w a k n vp vb vs ws) (i : Nat) : w.frozen? ⟨a, i, none⟩ = false := by
  unfold QR at h
  simp [World.frozen?, h]
set_option maxRecDepth 100000 in
theorem QR.set2 {w : World} {a : Nat} {k n : Int} {vp vb vs : Value} {ws : Int} (h : QR w a k n vp vb vs ws) (v : Value) : QR (w.setCell ⟨a, 2, none⟩ v) a k n v vb vs ws := by
  unfold QR at *
  simpa using set_row (w := w) (a := a) (i := 2) (cs := [.int .i64 k, .int .i64 n, vp, vb, vs, .int .i64 ws]) (u := v) h
set_option maxRecDepth 100000 in
theorem QR.set3 {w : World} {a : Nat} {k n : Int} {vp vb vs : Value} {ws : Int} (h : QR w a k n vp vb vs ws) (v : Value) : QR (w.setCell ⟨a, 3, none⟩ v) a k n vp v vs ws := by
  unfold QR at *
  simpa using set_row (w := w) (a := a) (i := 3) (cs := [.int .i64 k, .int .i64 n, vp, vb, vs, .int .i64 ws]) (u := v) h
set_option maxRecDepth 100000 in
theorem QR.set4 {w : World} {a : Nat} {k n : Int} {vp vb vs : Value} {ws : Int} (h : QR w a k n vp vb vs ws) (v : Value) : QR (w.setCell ⟨a, 4, none⟩ v) a k n vp vb v ws := by
  unfold QR at *
  simpa using set_row (w := w) (a := a) (i := 4) (cs := [.int .i64 k, .int .i64 n, vp, vb, vs, .int .i64 ws]) (u := v) h
set_option maxRecDepth 100000 in
theorem QR.cf {w w' : World} {a : Nat} {k n : Int} {vp vb vs : Value} {ws : Int} {F : Nat → Prop} (h : QR w a k n vp vb vs ws) (hc : Cf F w w') (hf : ¬ F a) : QR w' a k n vp vb vs ws := (hc.block a (lt_some h) hf).trans h
set_option maxRecDepth 100000 in
theorem QR.gr {w w' : World} {a : Nat} {k n : Int} {vp vb vs : Value} {ws : Int} {v v' : Value} (h : QR w a k n vp vb vs ws) (hg : Gr w v w' v') (hf : v.ownBlock ≠ some a) : QR w' a k n vp vb vs ws := (hg.grow.block a (lt_some h) (fun e => hf e.symm)).trans h
set_option maxRecDepth 100000 in
/-- Bytes of one's own don't lie in a block of another type. -/
theorem OwnB.apart {w : World} {B : Nat} {v : Value} {l : List Int} (h : OwnB w B v l) {g : Nat} {xs : Array Value} {t : TypeId} {fr : Nat × Nat} (hg : w.heap[g]? = some (.cells xs t fr)) (ht : t ≠ 5) : v.ownBlock ≠ some g := by
  intro e
  unfold OwnB at h
  rcases h.2 with ⟨rfl, _⟩ | ⟨q, cap, cur, rfl, _, hh, _⟩
  · cases e
  · simp only [Value.ownBlock, Option.some.injEq] at e
    subst e
    rw [hg] at hh
    simp at hh
    exact ht hh.2.1
set_option maxRecDepth 100000 in
theorem OwnB.apartN {w : World} {B C : Nat} {v u : Value} {l : List Int} {m : List Nat} (h : OwnB w B v l) (g : OwnN w C u m) : v.ownBlock = none ∨ v.ownBlock ≠ u.ownBlock := by
  unfold OwnN at g
  rcases g.2 with ⟨rfl, _⟩ | ⟨q, cap, cur, rfl, _, hh, _⟩
  · cases hv : v.ownBlock with
    | none => exact .inl rfl
    | some k => exact .inr (by simp [Value.ownBlock])
  · exact .inr (h.apart hh (by decide))
set_option maxRecDepth 100000 in
theorem OwnN.apartB {w : World} {B C : Nat} {v u : Value} {l : List Int} {m : List Nat} (g : OwnN w C u m) (h : OwnB w B v l) : u.ownBlock = none ∨ u.ownBlock ≠ v.ownBlock := by
  unfold OwnB at h
  rcases h.2 with ⟨rfl, _⟩ | ⟨q, cap, cur, rfl, _, hh, _⟩
  · cases hv : u.ownBlock with
    | none => exact .inl rfl
    | some k => exact .inr (by simp [Value.ownBlock])
  · exact .inr (g.apart hh (by decide))
set_option maxRecDepth 100000 in
theorem OwnB.gr {w w' : World} {B : Nat} {v : Value} {l : List Int} {u u' : Value} (h : OwnB w B v l) (hg : Gr w u w' u') (hne : v.ownBlock = none ∨ v.ownBlock ≠ u.ownBlock) : OwnB w' B v l := World.ownsRow.kept h hg.grow hne
set_option maxRecDepth 100000 in
theorem OwnB.cf {w w' : World} {B : Nat} {v : Value} {l : List Int} {r : Nat} (h : OwnB w B v l) (hc : Cf (· = r) w w') (hne : v.ownBlock ≠ some r) : OwnB w' B v l :=
  World.ownsRow.kept (row := some r) h ⟨hc.os, hc.tape, hc.output, hc.size, fun k hk hk2 => hc.block k hk (fun e => hk2 (by rw [e]))⟩ (.inr hne)
/-- A page whose bytes and starts are its own, all from B on: w: as it was begun. -/
structure Lq (w u : World) (B a : Nat) (k n : Int) (vp vb vs : Value) (ws : Int) (body : List Int) (st : List Nat) : Prop where
  row : QR u a k n vp vb vs ws
  ob : OwnB u B vb body
  on : OwnN u B vs st
  be : Below B w u
  hB : B ≤ w.heap.size
  ha : B ≤ a
set_option maxRecDepth 100000 in
theorem Lq.go {w u v : World} {B a : Nat} {k n : Int} {vp vb vs : Value} {ws : Int} {body : List Int} {st : List Nat} (h : Lq w u B a k n vp vb vs ws body st) (hb : Below u.heap.size u v) : Lq w v B a k n vp vb vs ws body st :=
  ⟨box_on h.row hb, h.ob.on (Nat.le_refl _) hb, h.on.below hb, bl_go h.be h.hB hb, h.hB, h.ha⟩
set_option maxRecDepth 100000 in
theorem Lq.apartB {w u : World} {B a : Nat} {k n : Int} {vp vb vs : Value} {ws : Int} {body : List Int} {st : List Nat} (h : Lq w u B a k n vp vb vs ws body st) : vb.ownBlock ≠ some a := by
  have := h.row
  unfold QR at this
  exact h.ob.apart this (by decide)
set_option maxRecDepth 100000 in
theorem Lq.le {w u : World} {B a : Nat} {k n : Int} {vp vb vs : Value} {ws : Int} {body : List Int} {st : List Nat} (h : Lq w u B a k n vp vb vs ws body st) : B ≤ u.heap.size := Nat.le_trans h.hB h.be.size
set_option maxRecDepth 100000 in
/-- It is a page. -/
theorem Lq.pg {w u : World} {B a : Nat} {k : Int} {n : Nat} {po : Option Addr} {pn pc : Nat} {vb vs : Value} {ws : Int} {P body : List Int} {st : List Nat} (h : Lq w u B a k n (.slice po pn pc) vb vs ws body st) (hP : Sl u po pn pc P) (hw : Wf body) (hb : body.length ≤ 140737488355328) (hs : st.length ≤ 140737488355328) :
    ∃ bo bc so sc, vb = .slice bo body.length bc ∧ vs = .slice so st.length sc ∧ PgQ u a k n po pn pc bo body.length bc so st.length sc ws P body st := by
  obtain ⟨bo, bc, rfl, hbs, _⟩ := h.ob.sl hw hb
  obtain ⟨so, sc, rfl, hss⟩ := h.on.sln hs
  exact ⟨bo, bc, so, sc, rfl, rfl, ⟨h.row, hP, hbs, hss⟩⟩
end Go.Proofs.YtaicpmlcklkjgaaGreatDoor
