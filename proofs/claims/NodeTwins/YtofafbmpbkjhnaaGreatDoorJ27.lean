import Derived.Test.YtofafbmpbkjhnaaGreatDoorJ25
import Derived.Test.YtofafbmpbkjhnaaGreatDoorJ26
import Derived.Test.YtofafbmpbkjhnaaGreatDoorJ19
import Derived.Deep.DeepCutAuto
import Derived.Deep.CutRange
import Derived.Deep.RegionHeld
namespace Go.Proofs.YtofafbmpbkjhnaaGreatDoor
set_option maxRecDepth 100000
open Go.RowKit
def cutn (m : Nat) (f : Bool) (cs : List Cl) : Nat := if f = true ∧ cs = [] then 0 else m
theorem qbd_snoc (m : Nat) : ∀ (f : Bool) (cs : List Cl) (c : Cl), qbd m f (cs ++ [c]) = qbd m f cs ++ qB (cutn m f cs) c
 | f, [], c => by cases f <;> simp [qbd, cutn]
 | f, d :: r, c => by
  have ih := qbd_snoc m false r c
  simp only [List.cons_append, qbd, ih, zM]
  simp [cutn]
theorem qst_snoc (m : Nat) : ∀ (f : Bool) (b : Nat) (cs : List Cl) (c : Cl), qst m f b (cs ++ [c]) = qst m f b cs ++ [b + (qbd m f cs).length]
 | f, b, [], c => by simp [qst, qbd]
 | f, b, d :: r, c => by
  have ih := qst_snoc m false (b + (qB (if f then 0 else m) d).length) r c
  simp only [List.cons_append, qst, ih, qbd, zG]
  rw [Nat.add_assoc]
theorem qst_at (m : Nat) : ∀ (f : Bool) (b : Nat) (cs : List Cl) (i : Nat) (c : Cl), cs[i]? = some c → ∃ r p, (qst m f b cs).getD i 0 = b + p ∧ (qbd m f cs).drop p = qB (if f = true ∧ i = 0 then 0 else m) c ++ r
 | f, b, [], i, c, h => by simp at h
 | f, b, d :: r, 0, c, h => by
  simp at h
  subst h
  refine ⟨qbd m false r, 0, by simp [qst], ?_⟩
  simp [qbd]
 | f, b, d :: r, i + 1, c, h => by
  obtain ⟨t, p, h1, h2⟩ := qst_at m false (b + (qB (if f then 0 else m) d).length) r i c (by simpa using h)
  refine ⟨t, (qB (if f then 0 else m) d).length + p, ?_, ?_⟩
  ·simp only [qst, List.getD_cons_succ]
   rw [h1, Nat.add_assoc]
  ·simp only [qbd]
   rw [← List.drop_drop, List.drop_left, h2]
   simp
theorem qst_le (m : Nat) : ∀ (f : Bool) (b : Nat) (cs : List Cl) (s : Nat), s ∈ qst m f b cs → s ≤ b + (qbd m f cs).length
 | _, _, [], s, h => by simp [qst] at h
 | f, b, c :: r, s, h => by
  simp only [qst, List.mem_cons] at h
  simp only [qbd, zG]
  rcases h with rfl | h
  ·omega
  ·have := qst_le m false _ r s h
   omega
theorem layQ_of {k : Int} {P : List Int} {cs : List Cl} (hb : Beg k P cs) (hf : ∀ c ∈ cs, c.fit) : LayQ k P cs (qbd P.length (whl k) cs) (qst P.length (whl k) 0 cs) := by
 refine ⟨zcn _ _ _ _, hb, hf, fun i c hi => ?_⟩
 obtain ⟨r, p, h1, h2⟩ := qst_at P.length (whl k) 0 cs i c hi
 refine ⟨r, ?_⟩
 rw [h1, Nat.zero_add, h2]
 simp [whl]
theorem wrL_laid (k : Int) (n : Nat) (P : List Int) (cs : List Cl) : wrL k n P (qbd P.length (whl k) cs) (qst P.length (whl k) 0 cs) = pkL k n P cs := by
 unfold wrL pkL
 rw [zcn, ← qst_shift, Nat.add_zero, szQ_eq]
theorem qbd_pre (m : Nat) : ∀ (f : Bool) (cs : List Cl) (j : Nat), (qbd m f (cs.take j)).length ≤ (qbd m f cs).length
 | _, [], _ => by simp
 | f, c :: r, 0 => by simp [qbd]
 | f, c :: r, j + 1 => by
  have := qbd_pre m false r j
  simp only [List.take_succ_cons, qbd, zG]
  omega
theorem cutn_at (k : Int) (m : Nat) (cs : List Cl) (j : Nat) (hj : j ≤ cs.length) : cutn m (whl k) (cs.take j) = if k = 3 ∧ j = 0 then 0 else m := by
 unfold cutn whl
 have : cs.take j = [] ↔ j = 0 := by
  rw [List.take_eq_nil_iff]
  constructor
  ·rintro (h | h)
   ·exact h
   ·subst h; simpa using hj
  ·exact .inl
 simp [this]
theorem Beg.cut_le {k : Int} {P : List Int} {cs : List Cl} (h : Beg k P cs) (j : Nat) (c : Cl) (hj : cs[j]? = some c) : (if k = 3 ∧ j = 0 then 0 else P.length) ≤ c.key.length := by
 split
 ·omega
 ·next hc => exact beg_len (h c (zco hj hc))
def QR (w : World) (a : Nat) (k n : Int) (vp vb vs : Value) (ws : Int) : Prop := w.heap[a]? = some (.cells #[.int .i64 k, .int .i64 n, vp, vb, vs, .int .i64 ws] 164 (0, 0))
theorem QR.cells {w : World} {a : Nat} {k n : Int} {vp vb vs : Value} {ws : Int} (h : QR w a k n vp vb vs ws) :
  w.cell? ⟨a, 0, none⟩ = some (.int .i64 k) ∧ w.cell? ⟨a, 1, none⟩ = some (.int .i64 n) ∧ w.cell? ⟨a, 2, none⟩ = some vp ∧ w.cell? ⟨a, 3, none⟩ = some vb ∧ w.cell? ⟨a, 4, none⟩ = some vs ∧ w.cell? ⟨a, 5, none⟩ = some (.int .i64 ws) := by
 unfold QR at h
 refine ⟨?_, ?_, ?_, ?_, ?_, ?_⟩
 ·rw [cell_of_row _ _ 0 _ _ _ h]; rfl
 ·rw [cell_of_row _ _ 1 _ _ _ h]; rfl
 ·rw [cell_of_row _ _ 2 _ _ _ h]; rfl
 ·rw [cell_of_row _ _ 3 _ _ _ h]; rfl
 ·rw [cell_of_row _ _ 4 _ _ _ h]; rfl
 ·rw [cell_of_row _ _ 5 _ _ _ h]; rfl
theorem QR.free {w : World} {a : Nat} {k n : Int} {vp vb vs : Value} {ws : Int} (h : QR w a k n vp vb vs ws) (i : Nat) : w.frozen? ⟨a, i, none⟩ = false := by
 unfold QR at h
 simp [World.frozen?, h]
theorem QR.set3 {w : World} {a : Nat} {k n : Int} {vp vb vs : Value} {ws : Int} (h : QR w a k n vp vb vs ws) (v : Value) : QR (w.setCell ⟨a, 3, none⟩ v) a k n vp v vs ws := by
 unfold QR at *
 simpa using zam (w := w) (a := a) (i := 3) (cs := [.int .i64 k, .int .i64 n, vp, vb, vs, .int .i64 ws]) (u := v) h
theorem QR.set4 {w : World} {a : Nat} {k n : Int} {vp vb vs : Value} {ws : Int} (h : QR w a k n vp vb vs ws) (v : Value) : QR (w.setCell ⟨a, 4, none⟩ v) a k n vp vb v ws := by
 unfold QR at *
 simpa using zam (w := w) (a := a) (i := 4) (cs := [.int .i64 k, .int .i64 n, vp, vb, vs, .int .i64 ws]) (u := v) h
theorem QR.gr {w w' : World} {a : Nat} {k n : Int} {vp vb vs : Value} {ws : Int} {v v' : Value} (h : QR w a k n vp vb vs ws) (hg : Gr w v w' v') (hf : v.ownBlock ≠ some a) : QR w' a k n vp vb vs ws := (hg.grow.block a (zah h) (fun e => hf e.symm)).trans h
theorem OwnB.apart {w : World} {B : Nat} {v : Value} {l : List Int} (h : OwnB w B v l) {g : Nat} {xs : Array Value} {t : TypeId} {fr : Nat × Nat} (hg : w.heap[g]? = some (.cells xs t fr)) (ht : t ≠ 5) : v.ownBlock ≠ some g := by
 intro e
 unfold OwnB at h
 rcases h.2 with ⟨rfl, _⟩ | ⟨q, cap, cur, rfl, _, hh, _⟩
 ·cases e
 ·simp only [Value.ownBlock, Option.some.injEq] at e
  subst e
  rw [hg] at hh
  simp at hh
  exact ht hh.2.1
theorem OwnB.apartN {w : World} {B C : Nat} {v u : Value} {l : List Int} {m : List Nat} (h : OwnB w B v l) (g : OwnN w C u m) : v.ownBlock = none ∨ v.ownBlock ≠ u.ownBlock := by
 unfold OwnN at g
 rcases g.2 with ⟨rfl, _⟩ | ⟨q, cap, cur, rfl, _, hh, _⟩
 ·cases hv : v.ownBlock with
  | none => exact .inl rfl
  | some k => exact .inr (by simp [Value.ownBlock])
 ·exact .inr (h.apart hh (by decide))
theorem OwnN.apartB {w : World} {B C : Nat} {v u : Value} {l : List Int} {m : List Nat} (g : OwnN w C u m) (h : OwnB w B v l) : u.ownBlock = none ∨ u.ownBlock ≠ v.ownBlock := by
 unfold OwnB at h
 rcases h.2 with ⟨rfl, _⟩ | ⟨q, cap, cur, rfl, _, hh, _⟩
 ·cases hv : u.ownBlock with
  | none => exact .inl rfl
  | some k => exact .inr (by simp [Value.ownBlock])
 ·exact .inr (g.apart hh (by decide))
theorem OwnB.gr {w w' : World} {B : Nat} {v : Value} {l : List Int} {u u' : Value} (h : OwnB w B v l) (hg : Gr w u w' u') (hne : v.ownBlock = none ∨ v.ownBlock ≠ u.ownBlock) : OwnB w' B v l := World.ownsRow.kept h hg.grow hne
theorem OwnB.cf {w w' : World} {B : Nat} {v : Value} {l : List Int} {r : Nat} (h : OwnB w B v l) (hc : Cf (· = r) w w') (hne : v.ownBlock ≠ some r) : OwnB w' B v l :=
 World.ownsRow.kept (row := some r) h ⟨hc.os, hc.tape, hc.output, hc.size, fun k hk hk2 => hc.block k hk (fun e => hk2 (by rw [e]))⟩ (.inr hne)
theorem OwnB.grow_below {w w' : World} {B : Nat} {v v' : Value} {l : List Int} (h : OwnB w B v l) (hg : Gr w v w' v') (hB : B ≤ w.heap.size) : Below B w w' := hg.below h hB
theorem OwnN.grow_below {w w' : World} {B : Nat} {v v' : Value} {l : List Nat} (h : OwnN w B v l) (hg : Gr w v w' v') (hB : B ≤ w.heap.size) : Below B w w' := zcq h hB hg.grow
structure Lq (w u : World) (B a : Nat) (k n : Int) (vp vb vs : Value) (ws : Int) (body : List Int) (st : List Nat) : Prop where
 row : QR u a k n vp vb vs ws
 ob : OwnB u B vb body
 on : OwnN u B vs st
 be : Below B w u
 hB : B ≤ w.heap.size
 ha : B ≤ a
theorem Lq.go {w u v : World} {B a : Nat} {k n : Int} {vp vb vs : Value} {ws : Int} {body : List Int} {st : List Nat} (h : Lq w u B a k n vp vb vs ws body st) (hb : Below u.heap.size u v) : Lq w v B a k n vp vb vs ws body st :=
 ⟨zaf h.row hb, h.ob.on Lr hb, h.on.below hb, zab h.be h.hB hb, h.hB, h.ha⟩
theorem Lq.apartB {w u : World} {B a : Nat} {k n : Int} {vp vb vs : Value} {ws : Int} {body : List Int} {st : List Nat} (h : Lq w u B a k n vp vb vs ws body st) : vb.ownBlock ≠ some a := by
 have := h.row
 unfold QR at this
 exact h.ob.apart this (by decide)
theorem Lq.apartS {w u : World} {B a : Nat} {k n : Int} {vp vb vs : Value} {ws : Int} {body : List Int} {st : List Nat} (h : Lq w u B a k n vp vb vs ws body st) : vs.ownBlock ≠ some a := by
 have := h.row
 unfold QR at this
 exact h.on.apart this (by decide)
theorem Lq.le {w u : World} {B a : Nat} {k n : Int} {vp vb vs : Value} {ws : Int} {body : List Int} {st : List Nat} (h : Lq w u B a k n vp vb vs ws body st) : B ≤ u.heap.size := zN h.hB h.be.size
theorem Lq.row_st {w u v : World} {B a : Nat} {k n : Int} {vp vb vs vs' : Value} {ws : Int} {body : List Int} {st : List Nat} (h : Lq w u B a k n vp vb vs ws body st) {x : World} (hx : Below u.heap.size u x) (hg : Gr x vs v vs') : QR v a k n vp vb vs ws := (h.go hx).row.gr hg (h.go hx).apartS
theorem Lq.put_st {w u v : World} {B a : Nat} {k n : Int} {vp vb vs vs' : Value} {ws : Int} {body : List Int} {st st' : List Nat} (h : Lq w u B a k n vp vb vs ws body st) {x : World} (hx : Below u.heap.size u x) (ho : OwnN v B vs' st') (hg : Gr x vs v vs') :
  Lq w (v.setCell ⟨a, 4, none⟩ vs') B a k n vp vb vs' ws body st' := by
 have h1 := h.go hx
 have hr := h.row_st hx hg
 have hb : OwnB v B vb body := h1.ob.gr hg (h1.ob.apartN h1.on)
 have hc := Cf.set v a 4 vs'
 have hbe : Below B w v := h1.be.trans (h1.on.grow_below hg h1.le)
 have hr2 := hr
 unfold QR at hr2
 exact ⟨hr.set4 vs', hb.cf hc (hb.apart hr2 (by decide)), ho.cf hc (ho.apart hr2 (by decide)), hbe.trans (hc.below (zN h.hB hbe.size) (by intro i hi e; have := h.ha; omega)), h.hB, h.ha⟩
theorem Lq.row_bd {w u v : World} {B a : Nat} {k n : Int} {vp vb vs vb' : Value} {ws : Int} {body : List Int} {st : List Nat} (h : Lq w u B a k n vp vb vs ws body st) {x : World} (hx : Below u.heap.size u x) (hg : Gr x vb v vb') : QR v a k n vp vb vs ws := (h.go hx).row.gr hg (h.go hx).apartB
theorem Lq.put_bd {w u v : World} {B a : Nat} {k n : Int} {vp vb vs vb' : Value} {ws : Int} {body body' : List Int} {st : List Nat} (h : Lq w u B a k n vp vb vs ws body st) {x : World} (hx : Below u.heap.size u x) (ho : OwnB v B vb' body') (hg : Gr x vb v vb') :
  Lq w (v.setCell ⟨a, 3, none⟩ vb') B a k n vp vb' vs ws body' st := by
 have h1 := h.go hx
 have hr := h.row_bd hx hg
 have hb : OwnN v B vs st := h1.on.gr hg (h1.on.apartB h1.ob)
 have hc := Cf.set v a 3 vb'
 have hbe : Below B w v := h1.be.trans (h1.ob.grow_below hg h1.le)
 have hr2 := hr
 unfold QR at hr2
 exact ⟨hr.set3 vb', ho.cf hc (ho.apart hr2 (by decide)), hb.cf hc (hb.apart hr2 (by decide)), hbe.trans (hc.below (zN h.hB hbe.size) (by intro i hi e; have := h.ha; omega)), h.hB, h.ha⟩
theorem Lq.pg {w u : World} {B a : Nat} {k : Int} {n : Nat} {po : Option Addr} {pn pc : Nat} {vb vs : Value} {ws : Int} {P body : List Int} {st : List Nat} (h : Lq w u B a k n (.slice po pn pc) vb vs ws body st) (hP : Sl u po pn pc P) (hw : Wf body) (hb : body.length ≤ 140737488355328) (hs : st.length ≤ 140737488355328) :
  ∃ bo bc so sc, vb = .slice bo body.length bc ∧ vs = .slice so st.length sc ∧ PgQ u a k n po pn pc bo body.length bc so st.length sc ws P body st := by
 obtain ⟨bo, bc, rfl, hbs, _⟩ := h.ob.sl hw hb
 obtain ⟨so, sc, rfl, hss⟩ := h.on.sln hs
 exact ⟨bo, bc, so, sc, rfl, rfl, ⟨h.row, hP, hbs, hss⟩⟩
theorem OwnB.shape {w : World} {B : Nat} {v : Value} {l : List Int} (h : OwnB w B v l) : ∃ ao c, v = .slice ao l.length c := by
 unfold OwnB at h
 rcases h.2 with ⟨rfl, hn⟩ | ⟨g, cap, cur, rfl, _⟩
 ·exact ⟨none, 0, by rw [hn]⟩
 ·exact ⟨_, cap, rfl⟩
theorem OwnB.len {w : World} {B : Nat} {ao : Option Addr} {n c : Nat} {l : List Int} (h : OwnB w B (.slice ao n c) l) : n = l.length := by
 obtain ⟨a, c', e⟩ := h.shape
 injection e
theorem OwnN.len {w : World} {B : Nat} {ao : Option Addr} {n c : Nat} {l : List Nat} (h : OwnN w B (.slice ao n c) l) : n = l.length := by
 obtain ⟨a, c', e⟩ := h.shape
 injection e
theorem Lo.far {w : World} {B G : Nat} {v : Value} {l : List Int} {ao : Option Addr} {n : Nat} (h : Lo G ao n) (ho : OwnB w B v l) (hG : G ≤ B) : Far ao n v := by
 rcases h with h | h
 ·exact .inl h
 ·exact ho.far fun p hp => zO (h p hp) hG
theorem zcw (k : Int) (j : Nat) (po : Option Addr) (pn pc : Nat) : ∃ (qo : Option Addr) (qn qc : Nat), ((qo = none ∧ qn = 0 ∧ qc = 0 ∧ (k = 3 ∧ j = 0)) ∨ (qo = po ∧ qn = pn ∧ qc = pc ∧ ¬ (k = 3 ∧ j = 0))) ∧
  ∀ (w : World) (a : Nat) (n : Int) (vb vs : Value) (ws : Int), QR w a k n (.slice po pn pc) vb vs ws → Calls Tryz.prog 199 #[.pointer (some ⟨a, 0, none⟩), .int .i64 (j : Int)] w fun e w' => e = .returned (.slice qo qn qc) ∧ w' = w := by
 by_cases hc : k = 3 ∧ j = 0
 ·refine ⟨none, 0, 0, .inl ⟨rfl, rfl, rfl, hc⟩, fun w a n vb vs ws h => ?_⟩
  obtain ⟨c0, c1, c2, c3, c4, c5⟩ := h.cells
  have HSW : Hid (Calls Tryz.prog 153 #[.int .i64 k, .int .i64 (j : Int)] w fun e w' => e = .returned (.bool true) ∧ w' = w) := zaa (by
   have := zba k (j : Int) w
   rwa [decide_eq_true (show k = 3 ∧ (j : Int) = 0 by omega)] at this)
  clear h hc
  go_enter Tryz.func199, Tryz.ntmps199
  go_wp2_with (go_at_call 153; refine zae HSW.out ?_)
  go_ret
  exact ⟨rfl, rfl⟩
 ·refine ⟨po, pn, pc, .inr ⟨rfl, rfl, rfl, hc⟩, fun w a n vb vs ws h => ?_⟩
  obtain ⟨c0, c1, c2, c3, c4, c5⟩ := h.cells
  have HSW : Hid (Calls Tryz.prog 153 #[.int .i64 k, .int .i64 (j : Int)] w fun e w' => e = .returned (.bool false) ∧ w' = w) := zaa (by
   have := zba k (j : Int) w
   rwa [decide_eq_false (show ¬ (k = 3 ∧ (j : Int) = 0) by omega)] at this)
  clear h hc
  go_enter Tryz.func199, Tryz.ntmps199
  go_wp2_with (go_at_call 153; refine zae HSW.out ?_)
  go_ret
  exact ⟨rfl, rfl⟩
def LaidTo (k : Int) (n : Nat) (cs : List Cl) (w : World) (e : Ending) (w' : World) : Prop :=
 ∃ (w1 : World) (a : Nat) (po : Option Addr) (pn pc : Nat) (vb vs : Value), e = .returned (.pointer (some ⟨a, 0, none⟩)) ∧ Hid (Lq w1 w' w1.heap.size a k n (.slice po pn pc) vb vs 0 (qbd (shP k cs).length (whl k) cs) (qst (shP k cs).length (whl k) 0 cs)) ∧ Hid (Sl w1 po pn pc (shP k cs)) ∧ Hid (Below w.heap.size w w1) ∧ Hid (Nw w.heap.size po pn)
set_option maxHeartbeats 4000000 in
theorem laid_any (k : Int) (n : Nat) (G : Nat) (ao : Option Addr) (m cap : Nat) (cs : List Cl) (w : World) (hs : SlE w G ao m cap cs) (hG : G ≤ w.heap.size) (hr : Rs cs) (hf : ∀ c ∈ cs, c.fit) (hm : m ≤ 65536) (hz : (qbd (shP k cs).length (whl k) cs).length ≤ 1099511627776) :
  Calls Tryz.prog 157 #[.int .i64 k, .int .i64 (n : Int), .slice ao m cap] w fun e w' => LaidTo k n cs w e w' := by
 have HS := zaa hs
 have HF := zaa hf
 have HLEN := zaa hs.hlen
 have HSH := zaa (shared_any k G ao m cap cs w hs hr hf)
 have HBG := zaa (zbz k cs)
 have HZ := zaa hz
 clear hs hr hf hz
 go_enter Tryz.func157, Tryz.ntmps157
 go_wp2_with (go_at_call 197; refine HSH.out.mono ?_; rintro e w1 ⟨po, pn, pc, rfl, HP, HB1, HNW⟩; refine Hid.out ?_)
 apply zaa
 obtain ⟨B, hB⟩ : ∃ B, w1.heap.size = B := ⟨_, rfl⟩
 have HBE := zaa hB
 have HLQ0 : Hid (Lq w1 (w1.alloc (.cells #[.int .i64 k, .int .i64 (n : Int), .slice po pn pc, .slice none 0 0, .slice none 0 0, .int .i64 0] 164)) B B k n (.slice po pn pc) (.slice none 0 0) (.slice none 0 0) 0 [] []) := by
  refine zaa ⟨?_, OwnB.nil _ _, OwnN.nil _ _, ?_, Nat.le_of_eq hB.symm, Lr⟩
  ·rw [← hB]; exact heap_alloc_last w1 _
  ·rw [← hB]; exact zac Br Lr _
 have HPL := zaa HP.out.hlen
 have HGB : Hid (G ≤ B) := zaa (by have := HB1.out.size; omega)
 clear HSH
 go_wp2_with fail
 try rw [hB]
 clear hB
 go_loopw [19] (fun i wr => ∃ (j : Nat) (bo : Option Addr) (bn bc : Nat) (so : Option Addr) (sn sc : Nat), j ≤ m ∧ i = .int .i64 j ∧ Hid (Lq w1 wr B B k n (.slice po pn pc) (.slice bo bn bc) (.slice so sn sc) 0 (qbd (shP k cs).length (whl k) (cs.take j)) (qst (shP k cs).length (whl k) 0 (cs.take j)))) (fun i _ => m - (intOf i).toNat)
 case atStart => exact ⟨0, none, 0, 0, none, 0, 0, by omega, rfl, by simpa [qbd, qst] using HLQ0⟩
 case round =>
  clear HLQ0
  obtain ⟨j, bo, bn, bc, so, sn, sc, hj, rfl, HQ⟩ := hrel
  have bj : (j : Int) ≤ 65536 := by omega
  by_cases hlt : j < m
  ·have hltI : (j : Int) < (m : Int) := by omega
   obtain ⟨b, off, c, rfl, hbl, hci, hE⟩ := HS.out.item j hlt
   have hcf := HF.out c (List.mem_of_getElem? hci)
   obtain ⟨ho, hn, hc, ko, kn, kc, vo, vn, vc, h, key, e0, e1, e2, e3, e4, e5, s1, s2, s3, hke, l1, l2, l3⟩ := hE
   have HBW : Hid (Below w.heap.size w wr) := zaa (HB1.out.trans (HQ.out.be.mono (by have := HB1.out.size; have := HBE.out; omega)))
   have d0 := (HBW.out.cell (p := ⟨b, off + j * 6, none⟩) hbl).trans e0
   have d1 := (HBW.out.cell (p := ⟨b, off + j * 6 + 1, none⟩) hbl).trans e1
   have d2 := (HBW.out.cell (p := ⟨b, off + j * 6 + 2, none⟩) hbl).trans e2
   have d3 := (HBW.out.cell (p := ⟨b, off + j * 6 + 3, none⟩) hbl).trans e3
   have d4 := (HBW.out.cell (p := ⟨b, off + j * 6 + 4, none⟩) hbl).trans e4
   have d5 := (HBW.out.cell (p := ⟨b, off + j * 6 + 5, none⟩) hbl).trans e5
   have HSL := zaa (And.intro s1 (And.intro s2 (And.intro s3 (And.intro hke (And.intro l1 (And.intro l2 l3))))))
   have HCI := zaa hci
   have HCF := zaa hcf
   clear e0 e1 e2 e3 e4 e5 s1 s2 s3 hke l1 l2 l3 hci hcf
   go_upto_region 5 with fail
   obtain ⟨x, hx⟩ : ∃ x, wr.alloc (.cells #[.slice ho hn hc, .slice ko kn kc, .int .i64 c.kd, .slice vo vn vc, .int .i64 c.pg, .int .i64 c.ct] 159) = x := ⟨_, rfl⟩
   have hbx : Below wr.heap.size wr x := by rw [← hx]; exact zac Br Lr _
   obtain ⟨g9, hg9⟩ : ∃ g9, wr.heap.size = g9 := ⟨_, rfl⟩
   have HE6 : Hid (E6 x g9 (.slice ho hn hc) (.slice ko kn kc) (.int .i64 c.kd) (.slice vo vn vc) (.int .i64 c.pg) (.int .i64 c.ct)) := zaa (by rw [← hx, ← hg9]; exact E6.box _ _ _ _ _ _ _)
   have HQX := zaa (HQ.out.go hbx)
   have HGA : Hid (¬ g9 = B) := zaa (by have := zah HQ.out.row; omega)
   rw [hx, hg9]
   clear hx hg9 hbx d0 d1 d2 d3 d4 d5 HBW HQ
   obtain ⟨c0, c1, c2, c3, c4, c5⟩ := HQX.out.row.cells
   have c4a := fun o => (HQX.out.go (zac (Below.refl _ x) Lr o)).row.cells.2.2.2.2.1
   have hbn := HQX.out.ob.len
   have hsn := HQX.out.on.len
   have hbnb : bn ≤ 1099511627776 := by rw [hbn]; exact zN (qbd_pre _ _ _ _) HZ.out
   have HBN := zaa hbn
   have HL : Hid ((qst (shP k cs).length (whl k) 0 (cs.take j)).length + 1 ≤ 1000000) := zaa (by rw [zcn, zJ]; omega)
   have hBx : B ≤ x.heap.size := HQX.out.le
   have hbnI : (bn : Int) ≤ 1099511627776 := by omega
   clear hbn hsn
   go_cut [] from 24 to 37 (fun u1 => ∃ (so1 : Option Addr) (sn1 sc1 : Nat), Hid (Lq w1 u1 B B k n (.slice po pn pc) (.slice bo bn bc) (.slice so1 sn1 sc1) 0 (qbd (shP k cs).length (whl k) (cs.take j)) (qst (shP k cs).length (whl k) 0 (cs.take j) ++ [bn])) ∧ Hid (E6 u1 g9 (.slice ho hn hc) (.slice ko kn kc) (.int .i64 c.kd) (.slice vo vn vc) (.int .i64 c.pg) (.int .i64 c.ct)))
   case first =>
    go_wp2_with fail
    go_region_law (first | (refine step_appN rfl (.tmp 28) (.tmp 34) rfl B (qst (shP k cs).length (whl k) 0 (cs.take j)) bn (.slice so sn sc) x.heap.size rfl rfl (HQX.out.on.below (by first | exact zac Br Lr _ | exact (zac Br Lr _).drew | exact zad (zac Br Lr _) _)) (by simp) HL.out (by simp; omega) ?_; intro v1 w2 ho1 hg1; obtain ⟨so1, sc1, rfl⟩ := ho1.shape; have HL1 := zaa (HQX.out.put_st (by first | exact zac Br Lr _ | exact (zac Br Lr _).drew | exact zad (zac Br Lr _) _) ho1 hg1); have hr1 := HQX.out.row_st (by first | exact zac Br Lr _ | exact (zac Br Lr _).drew | exact zad (zac Br Lr _) _) hg1; have HE1 : Hid (E6 w2 g9 (.slice ho hn hc) (.slice ko kn kc) (.int .i64 c.kd) (.slice vo vn vc) (.int .i64 c.pg) (.int .i64 c.ct)) := zaa (by
      have hy := HE6.out
      unfold E6 at hy
      exact (show E6 _ g9 _ _ _ _ _ _ from zaf HE6.out (by first | exact zac Br Lr _ | exact (zac Br Lr _).drew | exact zad (zac Br Lr _) _)).gr hg1 (HQX.out.on.apart hy (by decide))); obtain ⟨x0, x1, x2, x3, x4, x5⟩ := hr1.cells; have x6 := hr1.free 4; clear ho1 hg1 hr1))
    all_goals (try go_wp2_with fail)
    all_goals go_meet
    all_goals exact ⟨so1, _, sc1, by simpa using HL1, zaa (HE1.out.cf (Cf.set _ _ _ _) HGA.out)⟩
   obtain ⟨so1, sn1, sc1, HQ1, HE1⟩ := hcut
   obtain ⟨u1, hu1⟩ : ∃ u1, u1 = wc := ⟨_, rfl⟩
   subst hu1
   clear c0 c1 c2 c3 c4 c5 c4a HQX HE6 HL hBx
   obtain ⟨qo, qn, qc, hqc, hhd⟩ := zcw k j po pn pc
   have HHD : Hid (∀ u, Below u1.heap.size u1 u → Calls Tryz.prog 199 #[.pointer (some ⟨B, 0, none⟩), .int .i64 (j : Int)] u fun e w' => e = .returned (.slice qo qn qc) ∧ w' = u) := zaa fun u hu => hhd u B n _ _ 0 (HQ1.out.go hu).row
   have hqn : qn = if k = 3 ∧ j = 0 then 0 else (shP k cs).length := by
    rcases hqc with ⟨_, h2, _, h4⟩ | ⟨_, h2, _, h4⟩
    ·rw [if_pos h4, h2]
    ·rw [if_neg h4, h2, HPL.out]
   have HAP : Hid (∀ u, Below u1.heap.size u1 u → Calls Tryz.prog 198 #[.agg #[.slice ho hn hc, .slice ko kn kc, .int .i64 c.kd, .slice vo vn vc, .int .i64 c.pg, .int .i64 c.ct], .slice bo bn bc, .int .i64 (qn : Int)] u fun e w' => ∃ bo' bn' bc', e = .returned (.slice bo' bn' bc') ∧ w'.cell? ⟨B, 3, none⟩ = some (.slice bo bn bc) ∧ w'.frozen? ⟨B, 3, none⟩ = false ∧ Hid (Lq w1 (w'.setCell ⟨B, 3, none⟩ (.slice bo' bn' bc')) B B k n (.slice po pn pc) (.slice bo' bn' bc') (.slice so1 sn1 sc1) 0 (qbd (shP k cs).length (whl k) (cs.take (j + 1))) (qst (shP k cs).length (whl k) 0 (cs.take (j + 1))))) := by
    refine zaa fun u hu => ?_
    obtain ⟨s1, s2, s3, hke, l1, l2, l3⟩ := HSL.out
    have hq2 := HQ1.out.go hu
    have hbw : Below w.heap.size w u := HB1.out.trans (hq2.be.mono (by have := HB1.out.size; have := HBE.out; omega))
    have hln : hn + kn = c.key.length := by rw [← hke, zG, s1.hlen, s2.hlen]
    have hkb := HCF.out.key
    have hvb := HCF.out.val
    have hvl := s3.hlen
    have htk : cs.take (j + 1) = cs.take j ++ [c] := by rw [List.take_add_one, HCI.out]; rfl
    have hjl : j ≤ cs.length := by rw [HLEN.out]; omega
    have hcut : cutn (shP k cs).length (whl k) (cs.take j) = qn := by rw [cutn_at k _ cs j hjl, hqn]
    refine (eappended_any (.slice bo bn bc) B _ ho hn hc ko kn kc c.kd vo vn vc c.pg c.ct h key c.val qn u hq2.ob hq2.le (s1.on Lr hbw) (s2.on Lr hbw) (s3.on Lr hbw) (l1.far hq2.ob HGB.out) (l2.far hq2.ob HGB.out) (l3.far hq2.ob HGB.out) (by rw [hqn, hln]; exact HBG.out.cut_le j c HCI.out) (by rw [← HBN.out]; omega)).mono ?_
    rintro e w' ⟨v', rfl, HO, HG⟩
    have ho2 := HO.out
    rw [hke] at ho2
    obtain ⟨bo', bc', rfl⟩ := ho2.shape
    have hl := hq2.put_bd Br ho2 HG.out
    have hr := hq2.row_bd Br HG.out
    refine ⟨bo', _, bc', rfl, hr.cells.2.2.2.1, hr.free 3, zaa ?_⟩
    rw [htk, qbd_snoc, qst_snoc, hcut, Nat.zero_add, ← HBN.out]
    exact hl
   obtain ⟨c0, c1, c2, c3, c4, c5⟩ := HQ1.out.row.cells
   obtain ⟨y0, y1, y2, y3, y4, y5⟩ := HE1.out.cells
   clear hhd hqn hqc HBN
   go_wp2_with fail
   go_region_with (first
    | (go_at_call 199; refine zae (HHD.out _ (by first | exact Br | exact Br.drew | exact zad Br _)) ?_)
    | (go_at_call 198; refine (HAP.out _ (by first | exact Br | exact Br.drew | exact zad Br _)).mono ?_; rintro e w3 ⟨bo1, bn1, bc1, rfl, z3, z4, HL3⟩))
   all_goals
    go_wp2
    go_roundw
    case rel => exact ⟨j + 1, bo1, bn1, bc1, so1, sn1, sc1, by omega, by go_num, HL3⟩
    case measure => simp [intOf]; omega
  ·obtain rfl : j = m := by omega
   have hlI : ¬ (j : Int) < (j : Int) := by omega
   go_wp2
   go_ret
   refine ⟨w1, B, po, pn, pc, .slice bo bn bc, .slice so sn sc, rfl, ?_, HP, HB1, HNW⟩
   have h := HQ.out
   rw [List.take_of_length_le (by rw [HLEN.out]; exact Lr)] at h
   rw [HBE.out]
   exact zaa h
end Go.Proofs.YtofafbmpbkjhnaaGreatDoor
