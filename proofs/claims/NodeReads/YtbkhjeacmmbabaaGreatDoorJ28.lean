import Derived.Test.YtbkhjeacmmbabaaGreatDoorJ27
import Derived.Deep.DeepCutAuto
import Derived.Deep.CutRange
import Derived.Deep.RegionHeld
import Derived.Lib.LazyBuf
namespace Go.Proofs.YtbkhjeacmmbabaaGreatDoor
set_option maxRecDepth 100000
set_option maxHeartbeats 4000000
open Go.RowKit
def cutn (m : Nat) (f : Bool) (cs : List Cl) : Nat := if f = true ∧ cs = [] then 0 else m
theorem qbd_snoc (m : Nat) : ∀ (f : Bool) (cs : List Cl) (c : Cl), qbd m f (cs ++ [c]) = qbd m f cs ++ qB (cutn m f cs) c
 | f, [], c => by cases f <;> simp [qbd, cutn]
 | f, d :: r, c => by
  have ih := qbd_snoc m false r c
  simp only [List.cons_append, qbd, ih, zM]
  simp [cutn]
theorem qst_snoc (m : Nat) : ∀ (f : Bool) (b : Nat) (cs : List Cl) (c : Cl), qst m f b (cs ++ [c]) = qst m f b cs ++ [b + (qbd m f cs).length]
 | f, b, [], c => by simp [qst, qbd]
 | f, b, d :: r, c => by
  have ih := qst_snoc m false (b + (qB (if f then 0 else m) d).length) r c
  simp only [List.cons_append, qst, ih, qbd, zG]
  rw [Nat.add_assoc]
theorem qst_at (m : Nat) : ∀ (f : Bool) (b : Nat) (cs : List Cl) (i : Nat) (c : Cl), cs[i]? = some c → ∃ r p, (qst m f b cs).getD i 0 = b + p ∧ (qbd m f cs).drop p = qB (if f = true ∧ i = 0 then 0 else m) c ++ r
 | f, b, [], i, c, h => by simp at h
 | f, b, d :: r, 0, c, h => by
  simp at h
  subst h
  refine ⟨qbd m false r, 0, by simp [qst], ?_⟩
  simp [qbd]
 | f, b, d :: r, i + 1, c, h => by
  obtain ⟨t, p, h1, h2⟩ := qst_at m false (b + (qB (if f then 0 else m) d).length) r i c (by simpa using h)
  refine ⟨t, (qB (if f then 0 else m) d).length + p, ?_, ?_⟩
  ·simp only [qst, List.getD_cons_succ]
   rw [h1, Nat.add_assoc]
  ·simp only [qbd]
   rw [← List.drop_drop, List.drop_left, h2]
   simp
theorem qst_le (m : Nat) : ∀ (f : Bool) (b : Nat) (cs : List Cl) (s : Nat), s ∈ qst m f b cs → s ≤ b + (qbd m f cs).length
 | _, _, [], s, h => by simp [qst] at h
 | f, b, c :: r, s, h => by
  simp only [qst, List.mem_cons] at h
  simp only [qbd, zG]
  rcases h with rfl | h
  ·omega
  ·have := qst_le m false _ r s h
   omega
theorem layQ_of {k : Int} {P : List Int} {cs : List Cl} (hb : Beg k P cs) (hf : ∀ c ∈ cs, c.fit) : LayQ k P cs (qbd P.length (whl k) cs) (qst P.length (whl k) 0 cs) := by
 refine ⟨zbm _ _ _ _, hb, hf, fun i c hi => ?_⟩
 obtain ⟨r, p, h1, h2⟩ := qst_at P.length (whl k) 0 cs i c hi
 refine ⟨r, ?_⟩
 rw [h1, Nat.zero_add, h2]
 simp [whl]
theorem wrL_laid (k : Int) (n : Nat) (P : List Int) (cs : List Cl) : wrL k n P (qbd P.length (whl k) cs) (qst P.length (whl k) 0 cs) = pkL k n P cs := by
 unfold wrL pkL
 rw [zbm, ← qst_shift, Nat.add_zero, zbn]
theorem qbd_pre (m : Nat) : ∀ (f : Bool) (cs : List Cl) (j : Nat), (qbd m f (cs.take j)).length ≤ (qbd m f cs).length
 | _, [], _ => by simp
 | f, c :: r, 0 => by simp [qbd]
 | f, c :: r, j + 1 => by
  have := qbd_pre m false r j
  simp only [List.take_succ_cons, qbd, zG]
  omega
theorem cutn_at (k : Int) (m : Nat) (cs : List Cl) (j : Nat) (hj : j ≤ cs.length) : cutn m (whl k) (cs.take j) = if k = 3 ∧ j = 0 then 0 else m := by
 unfold cutn whl
 have : cs.take j = [] ↔ j = 0 := by
  rw [List.take_eq_nil_iff]
  constructor
  ·rintro (h | h)
   ·exact h
   ·subst h; simpa using hj
  ·exact .inl
 simp [this]
theorem Beg.cut_le {k : Int} {P : List Int} {cs : List Cl} (h : Beg k P cs) (j : Nat) (c : Cl) (hj : cs[j]? = some c) : (if k = 3 ∧ j = 0 then 0 else P.length) ≤ c.key.length := by
 split
 ·omega
 ·next hc => exact beg_len (h c (mem_ktl hj hc))
def QR (w : World) (a : Nat) (k n : Int) (vp vb vs : Value) (ws : Int) : Prop := w.heap[a]? = some (.cells #[.int .i64 k, .int .i64 n, vp, vb, vs, .int .i64 ws] 128 (0, 0))
theorem QR.cells {w : World} {a : Nat} {k n : Int} {vp vb vs : Value} {ws : Int} (h : QR w a k n vp vb vs ws) :
  w.cell? ⟨a, 0, none⟩ = some (.int .i64 k) ∧ w.cell? ⟨a, 1, none⟩ = some (.int .i64 n) ∧ w.cell? ⟨a, 2, none⟩ = some vp ∧ w.cell? ⟨a, 3, none⟩ = some vb ∧ w.cell? ⟨a, 4, none⟩ = some vs ∧ w.cell? ⟨a, 5, none⟩ = some (.int .i64 ws) := by
 unfold QR at h
 refine ⟨?_, ?_, ?_, ?_, ?_, ?_⟩
 ·rw [cell_of_row _ _ 0 _ _ _ h]; rfl
 ·rw [cell_of_row _ _ 1 _ _ _ h]; rfl
 ·rw [cell_of_row _ _ 2 _ _ _ h]; rfl
 ·rw [cell_of_row _ _ 3 _ _ _ h]; rfl
 ·rw [cell_of_row _ _ 4 _ _ _ h]; rfl
 ·rw [cell_of_row _ _ 5 _ _ _ h]; rfl
theorem QR.free {w : World} {a : Nat} {k n : Int} {vp vb vs : Value} {ws : Int} (h : QR w a k n vp vb vs ws) (i : Nat) : w.frozen? ⟨a, i, none⟩ = false := by
 unfold QR at h
 simp [World.frozen?, h]
theorem QR.set3 {w : World} {a : Nat} {k n : Int} {vp vb vs : Value} {ws : Int} (h : QR w a k n vp vb vs ws) (v : Value) : QR (w.setCell ⟨a, 3, none⟩ v) a k n vp v vs ws := by
 unfold QR at *
 simpa using zaw (w := w) (a := a) (i := 3) (cs := [.int .i64 k, .int .i64 n, vp, vb, vs, .int .i64 ws]) (u := v) h
theorem QR.set4 {w : World} {a : Nat} {k n : Int} {vp vb vs : Value} {ws : Int} (h : QR w a k n vp vb vs ws) (v : Value) : QR (w.setCell ⟨a, 4, none⟩ v) a k n vp vb v ws := by
 unfold QR at *
 simpa using zaw (w := w) (a := a) (i := 4) (cs := [.int .i64 k, .int .i64 n, vp, vb, vs, .int .i64 ws]) (u := v) h
theorem QR.cf {w w' : World} {a : Nat} {k n : Int} {vp vb vs : Value} {ws : Int} {F : Nat → Prop} (h : QR w a k n vp vb vs ws) (hc : Cf F w w') (hf : ¬ F a) : QR w' a k n vp vb vs ws := (hc.block a (zaf h) hf).trans h
theorem QR.gr {w w' : World} {a : Nat} {k n : Int} {vp vb vs : Value} {ws : Int} {v v' : Value} (h : QR w a k n vp vb vs ws) (hg : Gr w v w' v') (hf : v.ownBlock ≠ some a) : QR w' a k n vp vb vs ws := (hg.grow.block a (zaf h) (fun e => hf e.symm)).trans h
theorem OwnB.apart {w : World} {B : Nat} {v : Value} {l : List Int} (h : OwnB w B v l) {g : Nat} {xs : Array Value} {t : TypeId} {fr : Nat × Nat} (hg : w.heap[g]? = some (.cells xs t fr)) (ht : t ≠ 5) : v.ownBlock ≠ some g := by
 intro e
 unfold OwnB at h
 rcases h.2 with ⟨rfl, _⟩ | ⟨q, cap, cur, rfl, _, hh, _⟩
 ·cases e
 ·simp only [Value.ownBlock, Option.some.injEq] at e
  subst e
  rw [hg] at hh
  simp at hh
  exact ht hh.2.1
theorem OwnB.apartN {w : World} {B C : Nat} {v u : Value} {l : List Int} {m : List Nat} (h : OwnB w B v l) (g : OwnN w C u m) : v.ownBlock = none ∨ v.ownBlock ≠ u.ownBlock := by
 unfold OwnN at g
 rcases g.2 with ⟨rfl, _⟩ | ⟨q, cap, cur, rfl, _, hh, _⟩
 ·cases hv : v.ownBlock with
  | none => exact .inl rfl
  | some k => exact .inr (by simp [Value.ownBlock])
 ·exact .inr (h.apart hh (by decide))
theorem OwnN.apartB {w : World} {B C : Nat} {v u : Value} {l : List Int} {m : List Nat} (g : OwnN w C u m) (h : OwnB w B v l) : u.ownBlock = none ∨ u.ownBlock ≠ v.ownBlock := by
 unfold OwnB at h
 rcases h.2 with ⟨rfl, _⟩ | ⟨q, cap, cur, rfl, _, hh, _⟩
 ·cases hv : u.ownBlock with
  | none => exact .inl rfl
  | some k => exact .inr (by simp [Value.ownBlock])
 ·exact .inr (g.apart hh (by decide))
theorem OwnB.gr {w w' : World} {B : Nat} {v : Value} {l : List Int} {u u' : Value} (h : OwnB w B v l) (hg : Gr w u w' u') (hne : v.ownBlock = none ∨ v.ownBlock ≠ u.ownBlock) : OwnB w' B v l := World.ownsRow.kept h hg.grow hne
theorem OwnB.cf {w w' : World} {B : Nat} {v : Value} {l : List Int} {r : Nat} (h : OwnB w B v l) (hc : Cf (· = r) w w') (hne : v.ownBlock ≠ some r) : OwnB w' B v l :=
 World.ownsRow.kept (row := some r) h ⟨hc.os, hc.tape, hc.output, hc.size, fun k hk hk2 => hc.block k hk (fun e => hk2 (by rw [e]))⟩ (.inr hne)
theorem OwnB.grow_below {w w' : World} {B : Nat} {v v' : Value} {l : List Int} (h : OwnB w B v l) (hg : Gr w v w' v') (hB : B ≤ w.heap.size) : Below B w w' := hg.below h hB
theorem OwnN.grow_below {w w' : World} {B : Nat} {v v' : Value} {l : List Nat} (h : OwnN w B v l) (hg : Gr w v w' v') (hB : B ≤ w.heap.size) : Below B w w' := zde h hB hg.grow
structure Lq (w u : World) (B a : Nat) (k n : Int) (vp vb vs : Value) (ws : Int) (body : List Int) (st : List Nat) : Prop where
 row : QR u a k n vp vb vs ws
 ob : OwnB u B vb body
 on : OwnN u B vs st
 be : Below B w u
 hB : B ≤ w.heap.size
 ha : B ≤ a
theorem Lq.go {w u v : World} {B a : Nat} {k n : Int} {vp vb vs : Value} {ws : Int} {body : List Int} {st : List Nat} (h : Lq w u B a k n vp vb vs ws body st) (hb : Below u.heap.size u v) : Lq w v B a k n vp vb vs ws body st :=
 ⟨zag h.row hb, h.ob.on Lr hb, h.on.below hb, zae h.be h.hB hb, h.hB, h.ha⟩
theorem Lq.apartB {w u : World} {B a : Nat} {k n : Int} {vp vb vs : Value} {ws : Int} {body : List Int} {st : List Nat} (h : Lq w u B a k n vp vb vs ws body st) : vb.ownBlock ≠ some a := by
 have := h.row
 unfold QR at this
 exact h.ob.apart this (by decide)
theorem Lq.apartS {w u : World} {B a : Nat} {k n : Int} {vp vb vs : Value} {ws : Int} {body : List Int} {st : List Nat} (h : Lq w u B a k n vp vb vs ws body st) : vs.ownBlock ≠ some a := by
 have := h.row
 unfold QR at this
 exact h.on.apart this (by decide)
theorem Lq.le {w u : World} {B a : Nat} {k n : Int} {vp vb vs : Value} {ws : Int} {body : List Int} {st : List Nat} (h : Lq w u B a k n vp vb vs ws body st) : B ≤ u.heap.size := zN h.hB h.be.size
theorem Lq.row_st {w u v : World} {B a : Nat} {k n : Int} {vp vb vs vs' : Value} {ws : Int} {body : List Int} {st : List Nat} (h : Lq w u B a k n vp vb vs ws body st) {x : World} (hx : Below u.heap.size u x) (hg : Gr x vs v vs') : QR v a k n vp vb vs ws := (h.go hx).row.gr hg (h.go hx).apartS
theorem Lq.put_st {w u v : World} {B a : Nat} {k n : Int} {vp vb vs vs' : Value} {ws : Int} {body : List Int} {st st' : List Nat} (h : Lq w u B a k n vp vb vs ws body st) {x : World} (hx : Below u.heap.size u x) (ho : OwnN v B vs' st') (hg : Gr x vs v vs') :
  Lq w (v.setCell ⟨a, 4, none⟩ vs') B a k n vp vb vs' ws body st' := by
 have h1 := h.go hx
 have hr := h.row_st hx hg
 have hb : OwnB v B vb body := h1.ob.gr hg (h1.ob.apartN h1.on)
 have hc := Cf.set v a 4 vs'
 have hbe : Below B w v := h1.be.trans (h1.on.grow_below hg h1.le)
 have hr2 := hr
 unfold QR at hr2
 exact ⟨hr.set4 vs', hb.cf hc (hb.apart hr2 (by decide)), ho.cf hc (ho.apart hr2 (by decide)), hbe.trans (hc.below (zN h.hB hbe.size) (by intro i hi e; have := h.ha; omega)), h.hB, h.ha⟩
theorem Lq.row_bd {w u v : World} {B a : Nat} {k n : Int} {vp vb vs vb' : Value} {ws : Int} {body : List Int} {st : List Nat} (h : Lq w u B a k n vp vb vs ws body st) {x : World} (hx : Below u.heap.size u x) (hg : Gr x vb v vb') : QR v a k n vp vb vs ws := (h.go hx).row.gr hg (h.go hx).apartB
theorem Lq.put_bd {w u v : World} {B a : Nat} {k n : Int} {vp vb vs vb' : Value} {ws : Int} {body body' : List Int} {st : List Nat} (h : Lq w u B a k n vp vb vs ws body st) {x : World} (hx : Below u.heap.size u x) (ho : OwnB v B vb' body') (hg : Gr x vb v vb') :
  Lq w (v.setCell ⟨a, 3, none⟩ vb') B a k n vp vb' vs ws body' st := by
 have h1 := h.go hx
 have hr := h.row_bd hx hg
 have hb : OwnN v B vs st := h1.on.gr hg (h1.on.apartB h1.ob)
 have hc := Cf.set v a 3 vb'
 have hbe : Below B w v := h1.be.trans (h1.ob.grow_below hg h1.le)
 have hr2 := hr
 unfold QR at hr2
 exact ⟨hr.set3 vb', ho.cf hc (ho.apart hr2 (by decide)), hb.cf hc (hb.apart hr2 (by decide)), hbe.trans (hc.below (zN h.hB hbe.size) (by intro i hi e; have := h.ha; omega)), h.hB, h.ha⟩
theorem Lq.pg {w u : World} {B a : Nat} {k : Int} {n : Nat} {po : Option Addr} {pn pc : Nat} {vb vs : Value} {ws : Int} {P body : List Int} {st : List Nat} (h : Lq w u B a k n (.slice po pn pc) vb vs ws body st) (hP : Sl u po pn pc P) (hw : Wf body) (hb : body.length ≤ 140737488355328) (hs : st.length ≤ 140737488355328) :
  ∃ bo bc so sc, vb = .slice bo body.length bc ∧ vs = .slice so st.length sc ∧ PgQ u a k n po pn pc bo body.length bc so st.length sc ws P body st := by
 obtain ⟨bo, bc, rfl, hbs, _⟩ := h.ob.sl hw hb
 obtain ⟨so, sc, rfl, hss⟩ := h.on.sln hs
 exact ⟨bo, bc, so, sc, rfl, rfl, ⟨h.row, hP, hbs, hss⟩⟩
theorem OwnB.shape {w : World} {B : Nat} {v : Value} {l : List Int} (h : OwnB w B v l) : ∃ ao c, v = .slice ao l.length c := by
 unfold OwnB at h
 rcases h.2 with ⟨rfl, hn⟩ | ⟨g, cap, cur, rfl, _⟩
 ·exact ⟨none, 0, by rw [hn]⟩
 ·exact ⟨_, cap, rfl⟩
theorem OwnB.len {w : World} {B : Nat} {ao : Option Addr} {n c : Nat} {l : List Int} (h : OwnB w B (.slice ao n c) l) : n = l.length := by
 obtain ⟨a, c', e⟩ := h.shape
 injection e
theorem OwnN.len {w : World} {B : Nat} {ao : Option Addr} {n c : Nat} {l : List Nat} (h : OwnN w B (.slice ao n c) l) : n = l.length := by
 obtain ⟨a, c', e⟩ := h.shape
 injection e
theorem Lo.far {w : World} {B G : Nat} {v : Value} {l : List Int} {ao : Option Addr} {n : Nat} (h : Lo G ao n) (ho : OwnB w B v l) (hG : G ≤ B) : Far ao n v := by
 rcases h with h | h
 ·exact .inl h
 ·exact ho.far fun p hp => zO (h p hp) hG
theorem head_row (k : Int) (j : Nat) (po : Option Addr) (pn pc : Nat) : ∃ (qo : Option Addr) (qn qc : Nat), ((qo = none ∧ qn = 0 ∧ qc = 0 ∧ (k = 3 ∧ j = 0)) ∨ (qo = po ∧ qn = pn ∧ qc = pc ∧ ¬ (k = 3 ∧ j = 0))) ∧
  ∀ (w : World) (a : Nat) (n : Int) (vb vs : Value) (ws : Int), QR w a k n (.slice po pn pc) vb vs ws → Calls Tryz.prog 127 #[.pointer (some ⟨a, 0, none⟩), .int .i64 (j : Int)] w fun e w' => e = .returned (.slice qo qn qc) ∧ w' = w := by
 by_cases hc : k = 3 ∧ j = 0
 ·refine ⟨none, 0, 0, .inl ⟨rfl, rfl, rfl, hc⟩, fun w a n vb vs ws h => ?_⟩
  obtain ⟨c0, c1, c2, c3, c4, c5⟩ := h.cells
  have HSW : Hid (Calls Tryz.prog 82 #[.int .i64 k, .int .i64 (j : Int)] w fun e w' => e = .returned (.bool true) ∧ w' = w) := zaa (by
   have := zdm k (j : Int) w
   rwa [decide_eq_true (show k = 3 ∧ (j : Int) = 0 by omega)] at this)
  clear h hc
  go_enter Tryz.func127, Tryz.ntmps127
  go_wp2_with (go_at_call 82; refine zac HSW.out ?_)
  go_ret
  exact ⟨rfl, rfl⟩
 ·refine ⟨po, pn, pc, .inr ⟨rfl, rfl, rfl, hc⟩, fun w a n vb vs ws h => ?_⟩
  obtain ⟨c0, c1, c2, c3, c4, c5⟩ := h.cells
  have HSW : Hid (Calls Tryz.prog 82 #[.int .i64 k, .int .i64 (j : Int)] w fun e w' => e = .returned (.bool false) ∧ w' = w) := zaa (by
   have := zdm k (j : Int) w
   rwa [decide_eq_false (show ¬ (k = 3 ∧ (j : Int) = 0) by omega)] at this)
  clear h hc
  go_enter Tryz.func127, Tryz.ntmps127
  go_wp2_with (go_at_call 82; refine zac HSW.out ?_)
  go_ret
  exact ⟨rfl, rfl⟩
def LaidTo (k : Int) (n : Nat) (cs : List Cl) (w : World) (e : Ending) (w' : World) : Prop :=
 ∃ (w1 : World) (a : Nat) (po : Option Addr) (pn pc : Nat) (vb vs : Value), e = .returned (.pointer (some ⟨a, 0, none⟩)) ∧ Hid (Lq w1 w' w1.heap.size a k n (.slice po pn pc) vb vs 0 (qbd (shP k cs).length (whl k) cs) (qst (shP k cs).length (whl k) 0 cs)) ∧ Hid (Sl w1 po pn pc (shP k cs)) ∧ Hid (Below w.heap.size w w1) ∧ Hid (Nw w.heap.size po pn)
theorem laid_any (k : Int) (n : Nat) (G : Nat) (ao : Option Addr) (m cap : Nat) (cs : List Cl) (w : World) (hs : SlE w G ao m cap cs) (hG : G ≤ w.heap.size) (hr : Rs cs) (hf : ∀ c ∈ cs, c.fit) (hm : m ≤ 65536) (hz : (qbd (shP k cs).length (whl k) cs).length ≤ 1099511627776) :
  Calls Tryz.prog 86 #[.int .i64 k, .int .i64 (n : Int), .slice ao m cap] w fun e w' => LaidTo k n cs w e w' := by
 have HS := zaa hs
 have HF := zaa hf
 have HLEN := zaa hs.hlen
 have HSH := zaa (shared_any k G ao m cap cs w hs hr hf)
 have HBG := zaa (zce k cs)
 have HZ := zaa hz
 clear hs hr hf hz
 go_enter Tryz.func86, Tryz.ntmps86
 go_wp2_with (go_at_call 125; refine HSH.out.mono ?_; rintro e w1 ⟨po, pn, pc, rfl, HP, HB1, HNW⟩; refine Hid.out ?_)
 apply zaa
 obtain ⟨B, hB⟩ : ∃ B, w1.heap.size = B := ⟨_, rfl⟩
 have HBE := zaa hB
 have HLQ0 : Hid (Lq w1 (w1.alloc (.cells #[.int .i64 k, .int .i64 (n : Int), .slice po pn pc, .slice none 0 0, .slice none 0 0, .int .i64 0] 128)) B B k n (.slice po pn pc) (.slice none 0 0) (.slice none 0 0) 0 [] []) := by
  refine zaa ⟨?_, OwnB.nil _ _, OwnN.nil _ _, ?_, Nat.le_of_eq hB.symm, Lr⟩
  ·rw [← hB]; exact heap_alloc_last w1 _
  ·rw [← hB]; exact zad Br Lr _
 have HPL := zaa HP.out.hlen
 have HGB : Hid (G ≤ B) := zaa (by have := HB1.out.size; omega)
 clear HSH
 go_wp2_with fail
 try rw [hB]
 clear hB
 go_loopw [19] (fun i wr => ∃ (j : Nat) (bo : Option Addr) (bn bc : Nat) (so : Option Addr) (sn sc : Nat), j ≤ m ∧ i = .int .i64 j ∧ Hid (Lq w1 wr B B k n (.slice po pn pc) (.slice bo bn bc) (.slice so sn sc) 0 (qbd (shP k cs).length (whl k) (cs.take j)) (qst (shP k cs).length (whl k) 0 (cs.take j)))) (fun i _ => m - (intOf i).toNat)
 case atStart => exact ⟨0, none, 0, 0, none, 0, 0, by omega, rfl, by simpa [qbd, qst] using HLQ0⟩
 case round =>
  clear HLQ0
  obtain ⟨j, bo, bn, bc, so, sn, sc, hj, rfl, HQ⟩ := hrel
  have bj : (j : Int) ≤ 65536 := by omega
  by_cases hlt : j < m
  ·have hltI : (j : Int) < (m : Int) := by omega
   obtain ⟨b, off, c, rfl, hbl, hci, hE⟩ := HS.out.item j hlt
   have hcf := HF.out c (List.mem_of_getElem? hci)
   obtain ⟨ho, hn, hc, ko, kn, kc, vo, vn, vc, h, key, e0, e1, e2, e3, e4, e5, s1, s2, s3, hke, l1, l2, l3⟩ := hE
   have HBW : Hid (Below w.heap.size w wr) := zaa (HB1.out.trans (HQ.out.be.mono (by have := HB1.out.size; have := HBE.out; omega)))
   have d0 := (HBW.out.cell (p := ⟨b, off + j * 6, none⟩) hbl).trans e0
   have d1 := (HBW.out.cell (p := ⟨b, off + j * 6 + 1, none⟩) hbl).trans e1
   have d2 := (HBW.out.cell (p := ⟨b, off + j * 6 + 2, none⟩) hbl).trans e2
   have d3 := (HBW.out.cell (p := ⟨b, off + j * 6 + 3, none⟩) hbl).trans e3
   have d4 := (HBW.out.cell (p := ⟨b, off + j * 6 + 4, none⟩) hbl).trans e4
   have d5 := (HBW.out.cell (p := ⟨b, off + j * 6 + 5, none⟩) hbl).trans e5
   have HSL := zaa (And.intro s1 (And.intro s2 (And.intro s3 (And.intro hke (And.intro l1 (And.intro l2 l3))))))
   have HCI := zaa hci
   have HCF := zaa hcf
   clear e0 e1 e2 e3 e4 e5 s1 s2 s3 hke l1 l2 l3 hci hcf
   go_upto_region 5 with fail
   obtain ⟨x, hx⟩ : ∃ x, wr.alloc (.cells #[.slice ho hn hc, .slice ko kn kc, .int .i64 c.kd, .slice vo vn vc, .int .i64 c.pg, .int .i64 c.ct] 123) = x := ⟨_, rfl⟩
   have hbx : Below wr.heap.size wr x := by rw [← hx]; exact zad Br Lr _
   obtain ⟨g9, hg9⟩ : ∃ g9, wr.heap.size = g9 := ⟨_, rfl⟩
   have HE6 : Hid (E6 x g9 (.slice ho hn hc) (.slice ko kn kc) (.int .i64 c.kd) (.slice vo vn vc) (.int .i64 c.pg) (.int .i64 c.ct)) := zaa (by rw [← hx, ← hg9]; exact E6.box _ _ _ _ _ _ _)
   have HQX := zaa (HQ.out.go hbx)
   have HGA : Hid (¬ g9 = B) := zaa (by have := zaf HQ.out.row; omega)
   rw [hx, hg9]
   clear hx hg9 hbx d0 d1 d2 d3 d4 d5 HBW HQ
   obtain ⟨c0, c1, c2, c3, c4, c5⟩ := HQX.out.row.cells
   have c4a := fun o => (HQX.out.go (zad (Below.refl _ x) Lr o)).row.cells.2.2.2.2.1
   have hbn := HQX.out.ob.len
   have hsn := HQX.out.on.len
   have hbnb : bn ≤ 1099511627776 := by rw [hbn]; exact zN (qbd_pre _ _ _ _) HZ.out
   have HBN := zaa hbn
   have HL : Hid ((qst (shP k cs).length (whl k) 0 (cs.take j)).length + 1 ≤ 1000000) := zaa (by rw [zbm, zJ]; omega)
   have hBx : B ≤ x.heap.size := HQX.out.le
   have hbnI : (bn : Int) ≤ 1099511627776 := by omega
   clear hbn hsn
   go_cut [] from 24 to 37 (fun u1 => ∃ (so1 : Option Addr) (sn1 sc1 : Nat), Hid (Lq w1 u1 B B k n (.slice po pn pc) (.slice bo bn bc) (.slice so1 sn1 sc1) 0 (qbd (shP k cs).length (whl k) (cs.take j)) (qst (shP k cs).length (whl k) 0 (cs.take j) ++ [bn])) ∧ Hid (E6 u1 g9 (.slice ho hn hc) (.slice ko kn kc) (.int .i64 c.kd) (.slice vo vn vc) (.int .i64 c.pg) (.int .i64 c.ct)))
   case first =>
    go_wp2_with fail
    go_region_law (first | (refine step_appN rfl (.tmp 28) (.tmp 34) rfl B (qst (shP k cs).length (whl k) 0 (cs.take j)) bn (.slice so sn sc) x.heap.size rfl rfl (HQX.out.on.below (by first | exact zad Br Lr _ | exact (zad Br Lr _).drew | exact zab (zad Br Lr _) _)) (by simp) HL.out (by simp; omega) ?_; intro v1 w2 ho1 hg1; obtain ⟨so1, sc1, rfl⟩ := ho1.shape; have HL1 := zaa (HQX.out.put_st (by first | exact zad Br Lr _ | exact (zad Br Lr _).drew | exact zab (zad Br Lr _) _) ho1 hg1); have hr1 := HQX.out.row_st (by first | exact zad Br Lr _ | exact (zad Br Lr _).drew | exact zab (zad Br Lr _) _) hg1; have HE1 : Hid (E6 w2 g9 (.slice ho hn hc) (.slice ko kn kc) (.int .i64 c.kd) (.slice vo vn vc) (.int .i64 c.pg) (.int .i64 c.ct)) := zaa (by
      have hy := HE6.out
      unfold E6 at hy
      exact (show E6 _ g9 _ _ _ _ _ _ from zag HE6.out (by first | exact zad Br Lr _ | exact (zad Br Lr _).drew | exact zab (zad Br Lr _) _)).gr hg1 (HQX.out.on.apart hy (by decide))); obtain ⟨x0, x1, x2, x3, x4, x5⟩ := hr1.cells; have x6 := hr1.free 4; clear ho1 hg1 hr1))
    all_goals (try go_wp2_with fail)
    all_goals go_meet
    all_goals exact ⟨so1, _, sc1, by simpa using HL1, zaa (HE1.out.cf (Cf.set _ _ _ _) HGA.out)⟩
   obtain ⟨so1, sn1, sc1, HQ1, HE1⟩ := hcut
   obtain ⟨u1, hu1⟩ : ∃ u1, u1 = wc := ⟨_, rfl⟩
   subst hu1
   clear c0 c1 c2 c3 c4 c5 c4a HQX HE6 HL hBx
   obtain ⟨qo, qn, qc, hqc, hhd⟩ := head_row k j po pn pc
   have HHD : Hid (∀ u, Below u1.heap.size u1 u → Calls Tryz.prog 127 #[.pointer (some ⟨B, 0, none⟩), .int .i64 (j : Int)] u fun e w' => e = .returned (.slice qo qn qc) ∧ w' = u) := zaa fun u hu => hhd u B n _ _ 0 (HQ1.out.go hu).row
   have hqn : qn = if k = 3 ∧ j = 0 then 0 else (shP k cs).length := by
    rcases hqc with ⟨_, h2, _, h4⟩ | ⟨_, h2, _, h4⟩
    ·rw [if_pos h4, h2]
    ·rw [if_neg h4, h2, HPL.out]
   have HAP : Hid (∀ u, Below u1.heap.size u1 u → Calls Tryz.prog 126 #[.agg #[.slice ho hn hc, .slice ko kn kc, .int .i64 c.kd, .slice vo vn vc, .int .i64 c.pg, .int .i64 c.ct], .slice bo bn bc, .int .i64 (qn : Int)] u fun e w' => ∃ bo' bn' bc', e = .returned (.slice bo' bn' bc') ∧ w'.cell? ⟨B, 3, none⟩ = some (.slice bo bn bc) ∧ w'.frozen? ⟨B, 3, none⟩ = false ∧ Hid (Lq w1 (w'.setCell ⟨B, 3, none⟩ (.slice bo' bn' bc')) B B k n (.slice po pn pc) (.slice bo' bn' bc') (.slice so1 sn1 sc1) 0 (qbd (shP k cs).length (whl k) (cs.take (j + 1))) (qst (shP k cs).length (whl k) 0 (cs.take (j + 1))))) := by
    refine zaa fun u hu => ?_
    obtain ⟨s1, s2, s3, hke, l1, l2, l3⟩ := HSL.out
    have hq2 := HQ1.out.go hu
    have hbw : Below w.heap.size w u := HB1.out.trans (hq2.be.mono (by have := HB1.out.size; have := HBE.out; omega))
    have hln : hn + kn = c.key.length := by rw [← hke, zG, s1.hlen, s2.hlen]
    have hkb := HCF.out.key
    have hvb := HCF.out.val
    have hvl := s3.hlen
    have htk : cs.take (j + 1) = cs.take j ++ [c] := by rw [List.take_add_one, HCI.out]; rfl
    have hjl : j ≤ cs.length := by rw [HLEN.out]; omega
    have hcut : cutn (shP k cs).length (whl k) (cs.take j) = qn := by rw [cutn_at k _ cs j hjl, hqn]
    refine (eappended_any (.slice bo bn bc) B _ ho hn hc ko kn kc c.kd vo vn vc c.pg c.ct h key c.val qn u hq2.ob hq2.le (s1.on Lr hbw) (s2.on Lr hbw) (s3.on Lr hbw) (l1.far hq2.ob HGB.out) (l2.far hq2.ob HGB.out) (l3.far hq2.ob HGB.out) (by rw [hqn, hln]; exact HBG.out.cut_le j c HCI.out) (by rw [← HBN.out]; omega)).mono ?_
    rintro e w' ⟨v', rfl, HO, HG⟩
    have ho2 := HO.out
    rw [hke] at ho2
    obtain ⟨bo', bc', rfl⟩ := ho2.shape
    have hl := hq2.put_bd Br ho2 HG.out
    have hr := hq2.row_bd Br HG.out
    refine ⟨bo', _, bc', rfl, hr.cells.2.2.2.1, hr.free 3, zaa ?_⟩
    rw [htk, qbd_snoc, qst_snoc, hcut, Nat.zero_add, ← HBN.out]
    exact hl
   obtain ⟨c0, c1, c2, c3, c4, c5⟩ := HQ1.out.row.cells
   obtain ⟨y0, y1, y2, y3, y4, y5⟩ := HE1.out.cells
   clear hhd hqn hqc HBN
   go_wp2_with fail
   go_region_with (first
    | (go_at_call 127; refine zac (HHD.out _ (by first | exact Br | exact Br.drew | exact zab Br _)) ?_)
    | (go_at_call 126; refine (HAP.out _ (by first | exact Br | exact Br.drew | exact zab Br _)).mono ?_; rintro e w3 ⟨bo1, bn1, bc1, rfl, z3, z4, HL3⟩))
   all_goals
    go_wp2
    go_roundw
    case rel => exact ⟨j + 1, bo1, bn1, bc1, so1, sn1, sc1, by omega, by go_num, HL3⟩
    case measure => simp [intOf]; omega
  ·obtain rfl : j = m := by omega
   have hlI : ¬ (j : Int) < (j : Int) := by omega
   go_wp2
   go_ret
   refine ⟨w1, B, po, pn, pc, .slice bo bn bc, .slice so sn sc, rfl, ?_, HP, HB1, HNW⟩
   have h := HQ.out
   rw [List.take_of_length_le (by rw [HLEN.out]; exact Lr)] at h
   rw [HBE.out]
   exact zaa h
def CopQ (key val : List Int) (kn : Nat) (kd : Int) (vn : Nat) (pg ct : Int) (w : World) (e : Ending) (w' : World) : Prop :=
 ∃ a1 c1 g2, e = .returned (.agg #[.slice a1 kn c1, .int .i64 kd, .slice (some ⟨g2, 0, none⟩) vn vn, .int .i64 pg, .int .i64 ct]) ∧ Hid (OwnB w' w.heap.size (.slice a1 kn c1) key ∧ Bk w' g2 val ∧ w.heap.size ≤ g2 ∧ (Value.slice a1 kn c1).ownBlock ≠ some g2) ∧ Hid (Below w.heap.size w w')
theorem OwnB.same {w w' : World} {B : Nat} {v : Value} {l : List Int} (h : OwnB w B v l) (hb : ∀ k, v.ownBlock = some k → w'.heap[k]? = w.heap[k]?) : OwnB w' B v l := by
 unfold OwnB at *
 refine ⟨h.1, ?_⟩
 rcases h.2 with h2 | ⟨g, cap, cur, e, hg, hh, r⟩
 ·exact .inl h2
 ·exact .inr ⟨g, cap, cur, e, hg, (hb g (by rw [e]; rfl)).trans hh, r⟩
theorem ecopied_any (ho : Option Addr) (hn hc : Nat) (ko : Option Addr) (kn kc : Nat) (kd : Int) (vo : Option Addr) (vn vc : Nat) (pg ct : Int) (h key val : List Int) (K : Nat) (w : World) (hh : Sl w ho hn hc h) (hk : Sl w ko kn kc key) (hv : Sl w vo vn vc val) (hK : hn + kn = K) (hb : K ≤ 140737488355328) :
  Calls Tryz.prog 90 #[.agg #[.slice ho hn hc, .slice ko kn kc, .int .i64 kd, .slice vo vn vc, .int .i64 pg, .int .i64 ct]] w fun e w' => CopQ (h ++ key) val K kd vn pg ct w e w' := by
 obtain ⟨i0, hi, hz0, hz1, hz2⟩ := info_parts zbj
 have hsz : (Tryz.prog.info? 5).map (·.size) = some 1 := by rw [hi]; simp [hz1]
 obtain ⟨s, hs⟩ : ∃ s, w.heap.size = s := ⟨_, rfl⟩
 have HSW := zaa hs
 obtain ⟨x, hx⟩ : ∃ x, ((w.alloc (.cells #[.slice ho hn hc, .slice ko kn kc, .int .i64 kd, .slice vo vn vc, .int .i64 pg, .int .i64 ct] 123)).alloc (.cells #[.slice none 0 0, .int .i64 0, .slice none 0 0, .int .i64 0, .int .i64 0] 50)).alloc (.cells #[.slice ko kn kc, .int .i64 kd, .slice vo vn vc, .int .i64 pg, .int .i64 ct] 50) = x := ⟨_, rfl⟩
 have hbx : Below w.heap.size w x := by rw [← hx]; exact zad (zad (zad Br Lr _) Lr _) Lr _
 have z1 : (w.alloc (.cells #[.slice ho hn hc, .slice ko kn kc, .int .i64 kd, .slice vo vn vc, .int .i64 pg, .int .i64 ct] 123)).heap.size = s + 1 := by rw [← hs]; simp
 have z2 : ((w.alloc (.cells #[.slice ho hn hc, .slice ko kn kc, .int .i64 kd, .slice vo vn vc, .int .i64 pg, .int .i64 ct] 123)).alloc (.cells #[.slice none 0 0, .int .i64 0, .slice none 0 0, .int .i64 0, .int .i64 0] 50)).heap.size = s + 2 := by rw [← hs]; simp
 have HE : Hid (E6 x s (.slice ho hn hc) (.slice ko kn kc) (.int .i64 kd) (.slice vo vn vc) (.int .i64 pg) (.int .i64 ct)) := by
  rw [← hx, ← hs]
  exact zaa (zag (zag (E6.box w _ _ _ _ _ _) (zad Br Lr _)) (zad Br Lr _))
 have HR : Hid (C5 x (s + 1) (.slice none 0 0) (.int .i64 0) (.slice none 0 0) (.int .i64 0) (.int .i64 0)) := by
  rw [← hx, ← z1]
  exact zaa (zag (C5.box _ _ _ _ _ _) (zad Br Lr _))
 have HC : Hid (C5 x (s + 2) (.slice ko kn kc) (.int .i64 kd) (.slice vo vn vc) (.int .i64 pg) (.int .i64 ct)) := by
  rw [← hx, ← z2]
  exact zaa (C5.box _ _ _ _ _ _)
 have HXS : Hid (x.heap.size = s + 3) := zaa (by rw [← hx, ← hs]; simp)
 have HV := zaa (hv.on Lr hbx)
 have HBX := zaa hbx
 have HK := zaa (keyq_any ho hn hc ko kn kc kd vo vn vc pg ct h key x (hh.on Lr hbx) (hk.on Lr hbx) (by omega))
 unfold eV at HK
 have HKL : Hid ((h ++ key).length = K) := zaa (by rw [zG, hh.hlen, hk.hlen, hK])
 have hvr := hv.hroom
 obtain ⟨c0, c1, c2, c3, c4, c5⟩ := HE.out.cells
 clear hh hk hv hbx z1 z2
 go_enter Tryz.func90, Tryz.ntmps90
 go_wp2_with (go_at_call 130; refine HK.out.mono ?_; rintro e w1 ⟨v1, rfl, HO1, HB1⟩; refine Hid.out ?_)
 apply zaa
 have ho1 := HO1.out
 obtain ⟨a1, k1, rfl⟩ := ho1.shape
 rw [HKL.out] at ho1 ⊢
 have HO1 := zaa ho1
 clear ho1
 have HC1 : Hid (C5 w1 (s + 2) (.slice ko kn kc) (.int .i64 kd) (.slice vo vn vc) (.int .i64 pg) (.int .i64 ct)) := zaa (zag HC.out HB1.out)
 have HE1 : Hid (E6 w1 s (.slice ho hn hc) (.slice ko kn kc) (.int .i64 kd) (.slice vo vn vc) (.int .i64 pg) (.int .i64 ct)) := zaa (zag HE.out HB1.out)
 have HR1 : Hid (C5 w1 (s + 1) (.slice none 0 0) (.int .i64 0) (.slice none 0 0) (.int .i64 0) (.int .i64 0)) := zaa (zag HR.out HB1.out)
 have HV1 : Hid (Sl w1 vo vn vc val) := zaa (HV.out.on Lr HB1.out)
 have hap := HO1.out.apart5 HC1.out
 obtain ⟨y, hy⟩ : ∃ y, w1.setCell ⟨s + 2, 0, none⟩ (.slice a1 K k1) = y := ⟨_, rfl⟩
 have hcy : Cf (· = s + 2) w1 y := by rw [← hy]; exact Cf.set _ _ _ _
 have HC2 : Hid (C5 y (s + 2) (.slice a1 K k1) (.int .i64 kd) (.slice vo vn vc) (.int .i64 pg) (.int .i64 ct)) := zaa (by rw [← hy]; exact (HC1.out.set _).1)
 have HE2 : Hid (E6 y s (.slice ho hn hc) (.slice ko kn kc) (.int .i64 kd) (.slice vo vn vc) (.int .i64 pg) (.int .i64 ct)) := zaa (HE1.out.cf hcy (by omega))
 have HR2 : Hid (C5 y (s + 1) (.slice none 0 0) (.int .i64 0) (.slice none 0 0) (.int .i64 0) (.int .i64 0)) := zaa (HR1.out.cf hcy (by omega))
 have HV2 : Hid (Sl y vo vn vc val) := zaa (HV1.out.cf hcy (HV1.out.apart5 HC1.out))
 have HO2 : Hid (OwnB y (s + 3) (.slice a1 K k1) (h ++ key)) := zaa (by rw [← HXS.out]; exact HO1.out.cf hcy hap)
 have HB2 : Hid (Below w.heap.size w y) := zaa ((zae HBX.out Lr HB1.out).trans (hcy.below (zN HBX.out.size HB1.out.size) (by intro i hi e; omega)))
 obtain ⟨f0, f1, f2, f3, f4⟩ := HC1.out.free
 obtain ⟨d0, d1, d2, d3, d4⟩ := HC1.out.cells
 clear c0 c1 c2 c3 c4 c5
 obtain ⟨c0, c1, c2, c3, c4, c5⟩ := HE2.out.cells
 clear hap hcy HC HE HR HV HC1 HE1 HR1 HV1 HO1 HB1 HK HBX
 go_wp2_with (at_make; refine wpList_make_full _ rfl _ _ 22 rfl y.heap.size 5 i0 (.int .u8 0) 1 Tryz.underlying22 hi hz0 hz1 .i64 .i64 vn vn vn rfl rfl rfl rfl (by rw [hz2]; omega) (by unfold maxLen; omega) Lr ?_; refine Hid.out ?_)
 apply zaa
 intro w3 hown3 hg3
 have hb3 : Below y.heap.size y w3 := Br.grown hg3 Lr (fun k hk => by cases hk)
 obtain ⟨g, hg⟩ : ∃ g, y.heap.size = g := ⟨_, rfl⟩
 obtain ⟨cur, hcur, hcs⟩ : ∃ cur : List Value, w3.heap[y.heap.size]? = some (.cells cur.toArray 5 (0, 0)) ∧ cur.length = vn := by
  rcases hown3.2 with ⟨h, _⟩ | ⟨g, c, cur, h, _, hh, _, _, hs, _⟩
  ·cases h
  ·cases h
   exact ⟨cur.toList, by simpa using hh, by simpa using hs⟩
 have HGS : Hid (s + 3 ≤ g) := zaa (by
  have h1 := HB2.out.size
  have h2 := zaf HC2.out
  omega)
 have HKB : Hid (∀ i, (Value.slice a1 K k1).ownBlock = some i → s + 3 ≤ i ∧ i < g) := zaa fun i e => by
  have := HO2.out
  unfold OwnB at this
  have h2 := this.lt i e
  omega
 rw [hg] at hcur ⊢
 have HC3 : Hid (C5 w3 (s + 2) (.slice a1 K k1) (.int .i64 kd) (.slice vo vn vc) (.int .i64 pg) (.int .i64 ct)) := zaa (zag HC2.out hb3)
 have HE3 : Hid (E6 w3 s (.slice ho hn hc) (.slice ko kn kc) (.int .i64 kd) (.slice vo vn vc) (.int .i64 pg) (.int .i64 ct)) := zaa (zag HE2.out hb3)
 have HR3 : Hid (C5 w3 (s + 1) (.slice none 0 0) (.int .i64 0) (.slice none 0 0) (.int .i64 0) (.int .i64 0)) := zaa (zag HR2.out hb3)
 have hv3 : Sl w3 vo vn vc val := HV2.out.on Lr hb3
 have ho3 : OwnB w3 (s + 3) (.slice a1 K k1) (h ++ key) := HO2.out.on Lr hb3
 obtain ⟨t, ht⟩ : ∃ t, w3.setCell ⟨s + 2, 2, none⟩ (.slice (some ⟨g, 0, none⟩) vn vn) = t := ⟨_, rfl⟩
 have hct : Cf (· = s + 2) w3 t := by rw [← ht]; exact Cf.set _ _ _ _
 have HC4 : Hid (C5 t (s + 2) (.slice a1 K k1) (.int .i64 kd) (.slice (some ⟨g, 0, none⟩) vn vn) (.int .i64 pg) (.int .i64 ct)) := zaa (by rw [← ht]; exact (HC3.out.set _).2.2.1)
 have HE4 : Hid (E6 t s (.slice ho hn hc) (.slice ko kn kc) (.int .i64 kd) (.slice vo vn vc) (.int .i64 pg) (.int .i64 ct)) := zaa (HE3.out.cf hct (by omega))
 have HR4 : Hid (C5 t (s + 1) (.slice none 0 0) (.int .i64 0) (.slice none 0 0) (.int .i64 0) (.int .i64 0)) := zaa (HR3.out.cf hct (by omega))
 have hv4 : Sl t vo vn vc val := hv3.cf hct (hv3.apart5 HC3.out)
 have HO4 : Hid (OwnB t (s + 3) (.slice a1 K k1) (h ++ key)) := zaa (ho3.cf hct (ho3.apart5 HC3.out))
 have HB4 : Hid (Below w.heap.size w t) := zaa ((zae HB2.out Lr hb3).trans (hct.below (zN HB2.out.size hb3.size) (by intro i hi e; omega)))
 have HCU : Hid (t.heap[g]? = some (.cells cur.toArray 5 (0, 0))) := zaa ((hct.block g (zaf hcur) (by have := HGS.out; omega)).trans hcur)
 have HP : Hid (0 < (By val).length → some (⟨g, 0, none⟩ : Addr) = some ⟨g, 0, none⟩ ∧ ∃ ad, vo = some ad ∧ ∀ j v, (By val)[j]? = some v → t.cell? (ad.add j) = some v) := zaa (by
  intro hp
  rw [zbk, hv4.hlen] at hp
  rcases hv4.hat with h0 | ⟨b, off, rfl, hbb, hc⟩
  ·omega
  ·refine ⟨rfl, _, rfl, fun j v hj => ?_⟩
   obtain ⟨h1, rfl⟩ := getElem?_By val j v hj
   rw [Addr.add_lit]
   exact hc j (by rw [← hv4.hlen]; exact h1))
 have HVL := zaa hv4.hlen
 obtain ⟨e0, e1, e2, e3, e4⟩ := HC3.out.cells
 obtain ⟨h0, h1, h2, h3, h4⟩ := HC3.out.free
 clear c0 c1 c2 c3 c4 c5 d0 d1 d2 d3 d4 f0 f1 f2 f3 f4 hy
 obtain ⟨c0, c1, c2, c3, c4, c5⟩ := HE4.out.cells
 obtain ⟨d0, d1, d2, d3, d4⟩ := HC4.out.cells
 have hbt : Below t.heap.size t t := Br
 have hgt : g < t.heap.size := zaf HCU.out
 clear hown3 hg3 hb3 hcur hv3 ho3 hct hv4 HC2 HE2 HR2 HV2 HO2 HB2 HC3 HE3 HR3
 go_wp2_with (refine wpList_copy_splice rfl _ _ 22 22 rfl 5 Tryz.underlying22 hsz _ _ vn vn vn vc rfl rfl g 0 cur 5 HCU.out (By val) (by rw [zbk, HVL.out]; exact (Nat.min_self vn).symm) HP.out (by rw [zbk, HVL.out]; omega) (zby val) g t Br Lr ?_; refine Hid.out ?_)
 apply zaa
 intro w5 hh5 hb5
 have HBK : Hid (Bk w5 g val) := by
  have h' := hh5.out
  rw [show splice cur 0 (By val) = By val from by simp [splice, zbk, HVL.out, hcs]] at h'
  exact zaa h'
 have hgs := HGS.out
 have HC5 : Hid (C5 w5 (s + 2) (.slice a1 K k1) (.int .i64 kd) (.slice (some ⟨g, 0, none⟩) vn vn) (.int .i64 pg) (.int .i64 ct)) := zaa ((hb5.block _ (by omega)).trans HC4.out)
 have HR5 : Hid (C5 w5 (s + 1) (.slice none 0 0) (.int .i64 0) (.slice none 0 0) (.int .i64 0) (.int .i64 0)) := zaa ((hb5.block _ (by omega)).trans HR4.out)
 have HB5 : Hid (Below w.heap.size w w5) := zaa (HB4.out.trans (hb5.mono (by have := HSW.out; omega)))
 have HO5 : Hid (OwnB w5 (s + 3) (.slice a1 K k1) (h ++ key)) := zaa (HO4.out.same fun i e => hb5.block i (HKB.out i e).2)
 clear c0 c1 c2 c3 c4 c5 d0 d1 d2 d3 d4 e0 e1 e2 e3 e4 h0 h1 h2 h3 h4 ht HC4 HR4 HE4 HB4 HO4 HCU HP hh5 hb5
 obtain ⟨d0, d1, d2, d3, d4⟩ := HC5.out.cells
 obtain ⟨b0, b1, b2, b3, b4⟩ := HR5.out.cells
 obtain ⟨f0, f1, f2, f3, f4⟩ := HR5.out.free
 go_wp2
 refine bodyPost_ret (results_cell_row rfl _ _ (s + 1) 50 #[.slice a1 K k1, .int .i64 kd, .slice (some ⟨g, 0, none⟩) vn vn, .int .i64 pg, .int .i64 ct] (0, 0) _ (by rfl) (HR5.out.put _ _ _ _ _) Tryz.underlying50 rfl zal) rfl ?_
 have hf := zas w5 (s + 1) (.slice a1 K k1) (.int .i64 kd) (.slice (some ⟨g, 0, none⟩) vn vn) (.int .i64 pg) (.int .i64 ct)
 have hws := HSW.out
 exact ⟨a1, k1, g, rfl, zaa ⟨(HO5.out.low (by omega)).cf hf (HO5.out.apart5 HR5.out), HBK.out.cf hf (HBK.out.apart5 HR5.out), by omega, fun e => by have := HKB.out g e; omega⟩, zaa (HB5.out.trans (hf.below HB5.out.size (by intro i hi e; omega)))⟩
theorem zed (w : World) (ao : Option Addr) (n cap p : Nat) (l : List Int) (hs : Sl w ao n cap l) (hp : p + 2 ≤ n) :
  Calls Tryz.prog 131 #[.slice ao n cap, .int .i64 (p : Int)] w fun e w' => e = .returned (.int .i64 (rdN l p 2)) ∧ ∃ q, w' = w.drewN q := by
 have hlen := hs.hlen
 have hr := hs.hroom
 rw [rdN2 l p (by omega)]
 rcases hs.hat with h | ⟨b, off, rfl, hb, hc⟩
 ·omega
 obtain ⟨p', hp'⟩ : ∃ p', p + 1 = p' := ⟨_, rfl⟩
 have hpI : (p : Int) + 1 = (p' : Int) := by omega
 have c0 := hc p (by omega)
 have c1 := hc p' (by omega)
 have y0 := hs.wf.getD p
 have y1 := hs.wf.getD p'
 have p0 : (p : Int) < (n : Int) := by omega
 have p1 : (p' : Int) < (n : Int) := by omega
 have p2 : p < n := by omega
 have p3 : p' < n := by omega
 clear hc hs
 rw [hp']
 clear hp'
 generalize l.getD p 0 = a at *
 generalize l.getD p' 0 = c at *
 have ho := or_short a c y0 y1
 have hw0 : IntKind.i64.wrap a = a := by rw [IntKind.wrap_i64]; omega
 have hw1 : IntKind.i64.wrap c = c := by rw [IntKind.wrap_i64]; omega
 have hw : IntKind.i64.wrap (a * 256) = a * 256 := by rw [IntKind.wrap_i64]; omega
 go_enter Tryz.func131, Tryz.ntmps131
 go_wp2_with fail
 go_quiet (fail)
 go_wp2
 go_ret
 exact ⟨rfl, _, rfl⟩
theorem clone_any (a : Addr) (n cap : Nat) (l : List Int) (w : World) (hs : Sl w (some a) n cap l) :
  Calls Tryz.prog 132 #[.slice (some a) n cap] w fun e w' => ∃ g c, e = .returned (.slice (some ⟨g, 0, none⟩) n c) ∧ Hid (OwnB w' w.heap.size (.slice (some ⟨g, 0, none⟩) n c) l ∧ w.heap.size ≤ g ∧ g < w'.heap.size) ∧ Hid (Below w.heap.size w w') := by
 obtain ⟨x, hx⟩ : ∃ x, w.alloc (.cells #[] 5) = x := ⟨_, rfl⟩
 have hbx : Below w.heap.size w x := by rw [← hx]; exact zad Br Lr _
 have HS := zaa (hs.on Lr hbx)
 have hroom := hs.hroom
 have HLN := zaa hs.hlen
 have HO : Hid (OwnB x w.heap.size (.slice (some ⟨w.heap.size, 0, none⟩) 0 0) []) := zaa (by
  refine ⟨rfl, .inr ⟨w.heap.size, 0, #[], rfl, Lr, ?_, Lr, Nat.zero_le _, rfl, rfl⟩⟩
  rw [← hx]
  exact heap_alloc_last w _)
 have HBX := zaa hbx
 have hxs : w.heap.size ≤ x.heap.size := hbx.size
 have he : (binOp .eql 22 (.slice (some a) n cap) (.slice none 0 0)).run Tryz.prog w = .ok (.bool false) w := run_eql_slice_nil (P := Tryz.prog) w 22 5 (some a) n cap Tryz.underlying22
 clear hs hbx
 go_enter Tryz.func132, Tryz.ntmps132
 go_wp2_with (at_builtin; refine zau _ rfl _ _ rfl w.heap.size [] l _ (some a) n cap rfl rfl HO.out HS.out (by simp; omega) hxs ?_; refine Hid.out ?_)
 apply zaa
 intro v1 w1 ho1 g1
 replace ho1 : OwnB w1 w.heap.size v1 l := by simpa using ho1
 have HB : Hid (Below w.heap.size w w1) := zaa (HBX.out.trans (g1.below HO.out hxs))
 obtain ⟨g, c, rfl, hg, hgl⟩ : ∃ g c, v1 = .slice (some ⟨g, 0, none⟩) n c ∧ w.heap.size ≤ g ∧ g < w1.heap.size := by
  have hb := ho1
  unfold OwnB at hb
  rcases hb.2 with ⟨e, _⟩ | ⟨g, c, cur, e, hg, hh, _⟩
  ·have := g1.own
   rw [e] at this
   simp [Value.ownBlock] at this
  ·exact ⟨g, c, by rw [e, HLN.out], hg, zaf hh⟩
 have HO1 := zaa ho1
 clear ho1 g1
 go_wp2
 go_ret
 exact ⟨g, c, rfl, zaa ⟨HO1.out, hg, hgl⟩, HB⟩
theorem riseQ_any (ao bo : Option Addr) (n m c d : Nat) (la lb : List Int) (w : World) (ha : Sl w ao n c la) (hb : Sl w bo m d lb) :
  Calls Tryz.prog 85 #[.slice ao n c, .slice bo m d] w fun e w' => e = .returned (.bool (decide (kl la lb))) ∧ w' = w := by
 have hr := compare_any ao bo n m c d la lb w ha hb
 have hq : decide (kl la lb) = decide (ordL la lb < 0) := by
  have := ordL_three la lb
  refine decide_eq_decide.2 ?_
  unfold kl
  omega
 rw [hq]
 clear ha hb hq
 generalize ordL la lb = x at *
 go_enter Tryz.func85, Tryz.ntmps85
 go_wp2_with (go_at_call 111; refine zac hr ?_)
 go_ret
 exact ⟨rfl, rfl⟩
end Go.Proofs.YtbkhjeacmmbabaaGreatDoor
