import Derived.Test.YtfgffajgfgifhaaGreatDoorJ44
namespace Go.Proofs.YtfgffajgfgifhaaGreatDoor
set_option maxRecDepth 100000
set_option maxHeartbeats 8000000
open Go.RowKit
theorem LayR.det {k : Int} {n : Nat} {s : Qs} {cs : List Cl} {c c' : Int} {t t' : Qs} (h : LayR k n s cs c t) (h' : LayR k n s cs c' t') : c' = c ∧ t' = t := by
 rcases h with ⟨a, rfl, rfl⟩ | ⟨a, rfl, rfl⟩ <;> rcases h' with ⟨b, rfl, rfl⟩ | ⟨b, rfl, rfl⟩
 ·exact ⟨rfl, rfl⟩
 ·exact absurd a b
 ·exact absurd b a
 ·exact ⟨rfl, rfl⟩
theorem PutR.det {k : Int} {n : Nat} {s : Qs} {i j : Nat} {x : Cl} {c c' : Int} {t t' : Qs} (h : PutR k n s i j x c t) (h' : PutR k n s i j x c' t') : c' = c ∧ t' = t := by
 rcases h with ⟨a, rfl, rfl⟩ | ⟨a, a2, rfl, rfl⟩ | ⟨a, a2, h⟩
 ·rcases h' with ⟨b, rfl, rfl⟩ | ⟨b, _⟩ | ⟨b, _⟩
  ·exact ⟨rfl, rfl⟩
  ·exact absurd b a
  ·exact absurd b a
 ·rcases h' with ⟨b, _⟩ | ⟨b, b2, rfl, rfl⟩ | ⟨b, b2, _⟩
  ·exact absurd a b
  ·exact ⟨rfl, rfl⟩
  ·exact absurd b2 a2
 ·rcases h' with ⟨b, _⟩ | ⟨b, b2, _⟩ | ⟨b, b2, h'⟩
  ·exact absurd a b
  ·exact absurd a2 b2
  ·rcases h with ⟨p, rfl, rfl⟩ | ⟨p, h⟩ <;> rcases h' with ⟨p', rfl, rfl⟩ | ⟨p', h'⟩
   ·exact ⟨rfl, rfl⟩
   ·exact absurd p p'
   ·exact absurd p' p
   ·exact h.det h'
theorem InsR.det {k : Int} {n : Nat} {s : Qs} {I : Int} {x : Cl} {c c' : Int} {t t' : Qs} (h : InsR k n s I x c t) (h' : InsR k n s I x c' t') : c' = c ∧ t' = t := by
 rcases h with ⟨a, rfl, rfl⟩ | ⟨i, e, hi, h⟩ <;> rcases h' with ⟨a', rfl, rfl⟩ | ⟨i', e', hi', h'⟩
 ·exact ⟨rfl, rfl⟩
 ·exact absurd ⟨by omega, by omega⟩ a
 ·exact absurd ⟨by omega, by omega⟩ a'
 ·obtain rfl : i' = i := by omega
  exact h.det h'
theorem SetR.det {k : Int} {n : Nat} {s : Qs} {I : Int} {x : Cl} {c c' : Int} {t t' : Qs} (h : SetR k n s I x c t) (h' : SetR k n s I x c' t') : c' = c ∧ t' = t := by
 rcases h with ⟨a, rfl, rfl⟩ | ⟨i, e, hi, h⟩ <;> rcases h' with ⟨a', rfl, rfl⟩ | ⟨i', e', hi', h'⟩
 ·exact ⟨rfl, rfl⟩
 ·exact absurd ⟨by omega, by omega⟩ a
 ·exact absurd ⟨by omega, by omega⟩ a'
 ·obtain rfl : i' = i := by omega
  exact h.det h'
theorem RemR.det {k : Int} {n : Nat} {s : Qs} {I : Int} {c c' : Int} {t t' : Qs} (h : RemR k n s I c t) (h' : RemR k n s I c' t') : c' = c ∧ t' = t := by
 rcases h with ⟨a, rfl, rfl⟩ | ⟨i, d, e, hi, h⟩ <;> rcases h' with ⟨a', rfl, rfl⟩ | ⟨i', d', e', hi', h'⟩
 ·exact ⟨rfl, rfl⟩
 ·have := (zH.1 hi').1
  exact absurd ⟨by omega, by omega⟩ a
 ·have := (zH.1 hi).1
  exact absurd ⟨by omega, by omega⟩ a'
 ·obtain rfl : i' = i := by omega
  rw [hi] at hi'
  injection hi' with hi'
  subst hi'
  rcases h with ⟨p, h⟩ | ⟨p, rfl, rfl⟩ <;> rcases h' with ⟨p', h'⟩ | ⟨p', rfl, rfl⟩
  ·exact h.det h'
  ·exact absurd p p'
  ·exact absurd p' p
  ·exact ⟨rfl, rfl⟩
theorem Pk.qd {w w' : World} {K : Nat → Prop} {a : Nat} {k : Int} {n : Nat} {s : Qs} (h : Pk w K a k n s) {r : Nat} {k' : Int} {n' : Nat} {lv sv : Value} {ws : Int} (hq : QD w r k' n' lv sv ws) (hl : (∃ a b c, lv = .slice a b c) ∧ ∃ a b c, sv = .slice a b c) (hr : ¬ K r) (hc : Cf (· = r) w w') : Pk w' K a k n s := by
 obtain ⟨po, pn, pc, bo, bn, bc, so, sn, sc, body, st, h⟩ := h
 have hne : ∀ b, K b → ¬ b = r := fun b hb e => hr (e ▸ hb)
 refine ⟨po, pn, pc, bo, bn, bc, so, sn, sc, body, st, ⟨⟨?_, h.pg.pre.qd hq hl hc, ?_, ?_, h.pg.far, h.pg.ha⟩, h.lay, h.wf, h.far, h.ok, h.sum, h.ka, h.kb, h.ks, h.kp, fun b e => zO (h.kl b e) hc.size⟩⟩
 ·exact (hc.block a (h.kl a h.ka) (hne a h.ka)).trans h.pg.row
 ·exact h.pg.ob.agr7 fun g e => hc.block g (h.kl g (h.kb g e)) (hne g (h.kb g e))
 ·have h6 := h.pg.on
  unfold OwnN at h6 ⊢
  refine ⟨h6.1, ?_⟩
  rcases h6.2 with h8 | ⟨g, c, cur, e, hg, hh, rr⟩
  ·exact .inl h8
  ·have hk := h.ks g (by rw [e]; rfl)
   exact .inr ⟨g, c, cur, e, hg, (hc.block g (h.kl g hk) (hne g hk)).trans hh, rr⟩
theorem Dm.sls {w : World} {K : Nat → Prop} {r : Nat} {k : Int} {n : Nat} {s : Qs} (h : Dm w K r k n s) : ∃ k' n' lv sv ws, QD w r k' n' lv sv ws ∧ ((∃ a b c, lv = .slice a b c) ∧ ∃ a b c, sv = .slice a b c) := by
 obtain ⟨lo, N, lc, vs, so, sn, sc, h⟩ := h
 exact ⟨_, _, _, _, _, h.row, h.row.sls⟩
structure Pr (w : World) (K : Nat → Prop) (a : Nat) (G : Nat → Prop) (r : Nat) (k : Int) (n : Nat) (s : Qs) : Prop where
 our : Pk w K a k n s
 doc : Dm w G r k n s
 nr : ¬ K r
 dis : ∀ b, K b → ¬ G b
theorem Pr.go {w w' : World} {K G : Nat → Prop} {a r : Nat} {k : Int} {n : Nat} {s : Qs} (h : Pr w K a G r k n s) (hb : Below w.heap.size w w') : Pr w' K a G r k n s := ⟨h.our.go hb, h.doc.go hb, h.nr, h.dis⟩
theorem Pr.both {w u w' : World} {K G : Nat → Prop} {a r : Nat} {k : Int} {n : Nat} {s t : Qs} (h : Pr w K a G r k n s) (h1 : Pk u (Zk K w u) a k n t) (c1 : Cf K w u) (h2 : Dm w' (Zk G u w') r k n t) (c2 : Cf (· = r) u w') : Pr w' (Zk K w u) a (Zk G u w') r k n t := by
 have hrw := h.doc.rl
 obtain ⟨k', n', lv, sv, ws, hq, hl⟩ := h.doc.sls
 have hq' : QD u r k' n' lv sv ws := (c1.block r hrw h.nr).trans hq
 have hnr : ¬ Zk K w u r := Zk.nr h.nr hrw
 refine ⟨h1.qd hq' hl hnr c2, h2, hnr, ?_⟩
 rintro b (e | e) (f | f)
 ·exact h.dis b e f
 ·have := h.our.kl b e
  have := c1.size
  omega
 ·have := h.doc.kl b f
  omega
 ·omega
theorem Pr.mid {w u : World} {K G : Nat → Prop} {a r : Nat} {k : Int} {n : Nat} {s : Qs} (h : Pr w K a G r k n s) (c1 : Cf K w u) : Dm u G r k n s :=
 h.doc.keep (Agr.cf h.doc.kl c1 fun x hx e => h.dis x e hx) (c1.block r h.doc.rl h.nr) c1.size
theorem newQ7_any (k n : Int) (w : World) : Calls Tryz.prog 6 #[.int .i64 k, .int .i64 n] w fun e w' => NewQ k n w e w' := by
 cases h1 : decide (isKd k) with
 | false =>
  have hk : ¬ isKd k := by simpa using h1
  go_enter Tryz.func6, Tryz.ntmps6
  go_wp2_with (go_at_call 27; refine zae (zcd _ _) ?_; rw [h1])
  go_ret2
  exact ⟨none, 1, rfl, Br, .inl ⟨rfl, rfl, fun h => hk h.1⟩⟩
 | true =>
  have hk : isKd k := by simpa using h1
  cases h2 : decide (pw n) with
  | false =>
   have hn : ¬ pw n := by simpa using h2
   have HN := zaa hn
   have HK := zaa hk
   clear hn hk
   go_enter Tryz.func6, Tryz.ntmps6
   go_wp2_with (first | (go_at_call 27; refine zae (zcd _ _) ?_; rw [h1]) | (go_at_call 28; refine zae (zcq _ _) ?_; rw [h2]))
   go_ret2
   exact ⟨none, 1, rfl, Br, .inl ⟨rfl, rfl, fun h => HN.out h.2⟩⟩
  | true =>
   have hn : pw n := by simpa using h2
   have HN := zaa hn
   have HK := zaa hk
   clear hn hk
   go_enter Tryz.func6, Tryz.ntmps6
   go_wp2_with (first | (go_at_call 27; refine zae (zcd _ _) ?_; rw [h1]) | (go_at_call 28; refine zae (zcq _ _) ?_; rw [h2]))
   go_ret2
   exact ⟨_, 0, rfl, Br.alloc Lr _, .inr ⟨rfl, rfl, HK.out, HN.out, heap_alloc_last w _⟩⟩
structure Op7 where
 q : Int
 x : Int
 c : Cl
 key : List Int
def OAt7 (w : World) (b off : Nat) (o : Op7) : Prop :=
 ∃ ka kc va vc qa qc, w.cell? ⟨b, off, none⟩ = some (.int .i64 o.q) ∧ w.cell? ⟨b, off + 1, none⟩ = some (.int .i64 o.x) ∧ w.cell? ⟨b, off + 2, none⟩ = some (.slice ka o.c.key.length kc) ∧ w.cell? ⟨b, off + 3, none⟩ = some (.int .i64 o.c.kd) ∧ w.cell? ⟨b, off + 4, none⟩ = some (.slice va o.c.val.length vc) ∧ w.cell? ⟨b, off + 5, none⟩ = some (.int .i64 o.c.pg) ∧ w.cell? ⟨b, off + 6, none⟩ = some (.int .i64 o.c.ct) ∧ w.cell? ⟨b, off + 7, none⟩ = some (.slice qa o.key.length qc) ∧ Sl w ka o.c.key.length kc o.c.key ∧ Sl w va o.c.val.length vc o.c.val ∧ Sl w qa o.key.length qc o.key
structure SlO7 (w : World) (ao : Option Addr) (n cap : Nat) (os : List Op7) : Prop where
 hlen : os.length = n
 hcap : n ≤ cap
 hat : n = 0 ∨ ∃ b off, ao = some ⟨b, off, none⟩ ∧ b < w.heap.size ∧ ∀ i o, os[i]? = some o → OAt7 w b (off + i * 8) o
def O8 (w : World) (g : Nat) (x0 x1 x2 x3 x4 x5 x6 x7 : Value) : Prop := w.heap[g]? = some (.cells #[x0, x1, x2, x3, x4, x5, x6, x7] 41 (0, 0))
theorem O8.cells {w : World} {g : Nat} {x0 x1 x2 x3 x4 x5 x6 x7 : Value} (h : O8 w g x0 x1 x2 x3 x4 x5 x6 x7) :
  w.cell? ⟨g, 0, none⟩ = some x0 ∧ w.cell? ⟨g, 1, none⟩ = some x1 ∧ w.cell? ⟨g, 2, none⟩ = some x2 ∧ w.cell? ⟨g, 3, none⟩ = some x3 ∧ w.cell? ⟨g, 4, none⟩ = some x4 ∧ w.cell? ⟨g, 5, none⟩ = some x5 ∧ w.cell? ⟨g, 6, none⟩ = some x6 ∧ w.cell? ⟨g, 7, none⟩ = some x7 := by
 unfold O8 at h
 refine ⟨?_, ?_, ?_, ?_, ?_, ?_, ?_, ?_⟩ <;> (rw [cell_of_row _ _ _ _ _ _ h]; rfl)
theorem O8.box (w : World) (x0 x1 x2 x3 x4 x5 x6 x7 : Value) : O8 (w.alloc (.cells #[x0, x1, x2, x3, x4, x5, x6, x7] 41)) w.heap.size x0 x1 x2 x3 x4 x5 x6 x7 := heap_alloc_last w _
theorem O8.cf {w w' : World} {g : Nat} {x0 x1 x2 x3 x4 x5 x6 x7 : Value} {F : Nat → Prop} (h : O8 w g x0 x1 x2 x3 x4 x5 x6 x7) (hc : Cf F w w') (hg : ¬ F g) : O8 w' g x0 x1 x2 x3 x4 x5 x6 x7 := (hc.block g (zag h) hg).trans h
theorem Sl.outk {w0 w : World} {K : Nat → Prop} {ao : Option Addr} {n cap : Nat} {l : List Int} (h : Sl w0 ao n cap l) (hl : ∀ b, K b → w0.heap.size ≤ b) (_ : Below w0.heap.size w0 w) : OutK K ao n := by
 rcases h.hat with h0 | ⟨b, off, e, hlt, _⟩
 ·exact .inl h0
 ·refine .inr fun p hp hk => ?_
  rw [e] at hp
  injection hp with hp
  subst hp
  have := hl _ hk
  simp only at this
  omega
theorem Sl.agr {w u : World} {ao : Option Addr} {n c : Nat} {l : List Int} (h : Sl w ao n c l) (ha : n = 0 ∨ ∀ p, ao = some p → u.heap[p.block]? = w.heap[p.block]?) (hs : w.heap.size ≤ u.heap.size) : Sl u ao n c l := by
 refine ⟨h.hlen, h.hcap, h.hroom, h.wf, h.hnil, ?_⟩
 rcases ha with h0 | ha
 ·exact .inl h0
 ·rcases h.hat with h0 | ⟨b, off, e, hb, hat⟩
  ·exact .inl h0
  ·refine .inr ⟨b, off, e, zO hb hs, fun i hi => ?_⟩
   rw [← hat i hi]
   have h1 := ha _ e
   simp only at h1
   simp only [World.cell?, h1]
theorem Sl.outz {w u : World} {K : Nat → Prop} {ao : Option Addr} {n c : Nat} {l : List Int} (h : Sl w ao n c l) (ho : OutK K ao n) (hc : Cf K w u) : Sl u ao n c l := by
 rcases h.hat with h0 | ⟨b, off, e, hb, _⟩
 ·exact h.agr (.inl h0) hc.size
 ·refine h.agr (ho.imp id fun f p hp => ?_) hc.size
  rw [e] at hp
  injection hp with hp
  subst hp
  exact hc.block b hb (f _ e)
theorem Pk.keep {w w' : World} {K : Nat → Prop} {a : Nat} {k : Int} {n : Nat} {s : Qs} (h : Pk w K a k n s) (ha : Agr K w w') (hs : w.heap.size ≤ w'.heap.size) : Pk w' K a k n s := by
 obtain ⟨po, pn, pc, bo, bn, bc, so, sn, sc, body, st, h⟩ := h
 refine ⟨po, pn, pc, bo, bn, bc, so, sn, sc, body, st, ⟨⟨?_, h.pg.pre.agr (h.kp.imp id fun f p e => ha _ (f p e)) hs, ?_, ?_, h.pg.far, h.pg.ha⟩, h.lay, h.wf, h.far, h.ok, h.sum, h.ka, h.kb, h.ks, h.kp, fun b e => zO (h.kl b e) hs⟩⟩
 ·exact (ha a h.ka).trans h.pg.row
 ·exact h.pg.ob.agr7 fun g e => ha g (h.kb g e)
 ·have h6 := h.pg.on
  unfold OwnN at h6 ⊢
  refine ⟨h6.1, ?_⟩
  rcases h6.2 with h8 | ⟨g, c, cur, e, hg, hh, rr⟩
  ·exact .inl h8
  ·exact .inr ⟨g, c, cur, e, hg, (ha g (h.ks g (by rw [e]; rfl))).trans hh, rr⟩
theorem Pr.keep {w w' : World} {K G F : Nat → Prop} {a r : Nat} {k : Int} {n : Nat} {s : Qs} (h : Pr w K a G r k n s) (hc : Cf F w w') (h1 : ∀ b, F b → ¬ K b) (h2 : ∀ b, F b → ¬ G b) (h3 : ¬ F r) : Pr w' K a G r k n s :=
 ⟨h.our.keep (Agr.cf h.our.kl hc fun x hx f => h1 x f hx) hc.size, h.doc.keep (Agr.cf h.doc.kl hc fun x hx f => h2 x f hx) (hc.block r h.doc.rl h3) hc.size, h.nr, h.dis⟩
def StepTo (K : Nat → Prop) (a : Nat) (G : Nat → Prop) (r : Nat) (k : Int) (n : Nat) (w : World) (e : Ending) (w' : World) : Prop :=
 e = .returned (.bool true) ∧ Hid (∃ t K' G', Pr w' K' a G' r k n t ∧ (∀ b, K' b → Zk K w w' b) ∧ (∀ b, G' b → Zk G w w' b)) ∧ Hid (Cf (fun b => K b ∨ b = r) w w')
theorem C5.one {w : World} {g : Nat} {c : Cl} {ka va : Option Addr} {kc vc : Nat} (h : C5 w g (.slice ka c.key.length kc) (.int .i64 c.kd) (.slice va c.val.length vc) (.int .i64 c.pg) (.int .i64 c.ct)) (h1 : Sl w ka c.key.length kc c.key) (h2 : Sl w va c.val.length vc c.val) : SlC w (some ⟨g, 0, none⟩) 1 1 [c] := by
 obtain ⟨c0, c1, c2, c3, c4⟩ := h.cells
 refine ⟨rfl, Lr, by omega, (fun e => by cases e), .inr ⟨g, 0, rfl, zag h, fun i d hd => ?_⟩⟩
 have hi : i = 0 := by
  have := (zH.1 hd).1
  simpa using this
 subst hi
 simp at hd
 subst hd
 exact ⟨ka, kc, va, vc, by simpa using c0, by simpa using c1, by simpa using c2, by simpa using c3, by simpa using c4, h1, h2⟩
theorem own_lent {w : World} {B g : Nat} {l : List Int} (h : OwnB w B (.slice (some ⟨g, 0, none⟩) (l.length + 3) (l.length + 3)) (l ++ [71, 72, 73])) (hw : Wf l) (hl : l.length + 3 ≤ 140737488355328) : Sl w (some ⟨g, 0, none⟩) l.length (l.length + 3) l := by
 have h1 := OwnB.sl8 h (hw.append (by intro x hx; simp at hx; omega)) (by simp; omega)
 have h2 := h1.take l.length (by omega)
 rwa [List.take_left] at h2
theorem dtidy_any (w : World) (K : Nat → Prop) (r : Nat) (k : Int) (n : Nat) (s : Qs) (h : Dm w K r k n s) (hn : pw n) :
  Calls Tryz.prog 35 #[.pointer (some ⟨r, 0, none⟩)] w fun e w' => e = .returned (.tuple #[]) ∧ Hid (Dm w' (Zk K w w') r k n ⟨shP k s.cs, s.cs, 0⟩) ∧ Hid (Cf (· = r) w w') := by
 have hok := h.ok
 have hn2 := zai hn
 have hz := hok.lay
 have hz2 := zal k (shP k s.cs).length s.cs
 obtain ⟨lo, N, lc, vs, so, sn, sc, hA⟩ := h
 obtain ⟨l1, l2, l3, l4, l5⟩ := hA.lens hn
 refine (dtidy_mid (Mid.start hA) (by omega) hok.wf (by omega)).mono ?_
 rintro e w' ⟨rfl, HM⟩
 obtain ⟨so', sn', sc', hm⟩ := HM.out
 refine ⟨rfl, zaa (hm.dm ⟨zbe k _, hok.rs, hok.may, hok.wf, ?_⟩), zaa hm.cf⟩
 rw [zca]
 simpa using hz
def Q17 (R : Int → Qs → Prop) (K : Nat → Prop) (a : Nat) (k : Int) (n : Nat) (x : World) (code : Int) (w' : World) : Prop := ∃ t, R code t ∧ Pk w' (Zk K x w') a k n t ∧ Cf K x w'
def Q27 (K : Nat → Prop) (a : Nat) (G : Nat → Prop) (r : Nat) (k : Int) (n : Nat) (x : World) (w' : World) : Prop := ∃ t K' G', Pr w' K' a G' r k n t ∧ (∀ b, K' b → Zk K x w' b) ∧ (∀ b, G' b → Zk G x w' b) ∧ Cf (fun b => K b ∨ b = r) x w'
theorem Pr.q27 {x u w' : World} {K G : Nat → Prop} {a r : Nat} {k : Int} {n : Nat} {s t : Qs} (h : Pr x K a G r k n s) (h1 : Pk u (Zk K x u) a k n t) (c1 : Cf K x u) (h2 : Dm w' (Zk G u w') r k n t) (c2 : Cf (· = r) u w') : Q27 K a G r k n x w' := by
 have s1 := c1.size
 have s2 := c2.size
 refine ⟨t, _, _, h.both h1 c1 h2 c2, fun b e => ?_, fun b e => ?_, (c1.wideQ fun b e => .inl e).go (c2.wideQ fun b e => .inr e)⟩
 ·rcases e with e | e
  ·exact .inl e
  ·exact .inr ⟨e.1, by omega⟩
 ·rcases e with e | e
  ·exact .inl e
  ·exact .inr ⟨by omega, e.2⟩
theorem Q27.step {w x w' : World} {K G : Nat → Prop} {a r : Nat} {k : Int} {n : Nat} (hb : Below w.heap.size w x) (h : Q27 K a G r k n x w') : StepTo K a G r k n w (.returned (.bool true)) w' := by
 obtain ⟨t, K', G', h1, h2, h3, h4⟩ := h
 have s1 := hb.size
 refine ⟨rfl, zaa ⟨t, K', G', h1, fun b e => ?_, fun b e => ?_⟩, zaa ((Cf.of_below hb).go h4)⟩
 ·rcases h2 b e with e | e
  ·exact .inl e
  ·exact .inr ⟨by omega, e.2⟩
 ·rcases h3 b e with e | e
  ·exact .inl e
  ·exact .inr ⟨by omega, e.2⟩
theorem step_tidy (w : World) (K : Nat → Prop) (a : Nat) (G : Nat → Prop) (r : Nat) (k : Int) (n : Nat) (s : Qs) (hP : Pr w K a G r k n s) (hn : pw n) (kp : Value) (I : Int) (ka va qa : Option Addr) (kn kc vn vc qn qc : Nat) (c1 c3 c4 : Int) :
  Calls Tryz.prog 8 #[kp, .pointer (some ⟨a, 0, none⟩), .pointer (some ⟨r, 0, none⟩), .agg #[.int .i64 4, .int .i64 I, .slice ka kn kc, .int .i64 c1, .slice va vn vc, .int .i64 c3, .int .i64 c4, .slice qa qn qc]] w (StepTo K a G r k n w) := by
 obtain ⟨x, hx⟩ : ∃ x, w.alloc (.cells #[.int .i64 4, .int .i64 I, .slice ka kn kc, .int .i64 c1, .slice va vn vc, .int .i64 c3, .int .i64 c4, .slice qa qn qc] 41) = x := ⟨_, rfl⟩
 have hbx : Below w.heap.size w x := by rw [← hx]; exact zac Br Lr _
 have HO8 : Hid (O8 x w.heap.size (.int .i64 4) (.int .i64 I) (.slice ka kn kc) (.int .i64 c1) (.slice va vn vc) (.int .i64 c3) (.int .i64 c4) (.slice qa qn qc)) := zaa (by rw [← hx]; exact O8.box _ _ _ _ _ _ _ _ _)
 obtain ⟨y, hy⟩ : ∃ y, x.alloc (.cells #[.slice ka kn kc, .int .i64 c1, .slice va vn vc, .int .i64 c3, .int .i64 c4] 39) = y := ⟨_, rfl⟩
 have hby : Below x.heap.size x y := by rw [← hy]; exact zac Br Lr _
 have HWY := zaa (zab hbx Lr hby)
 have HPY := zaa (hP.go HWY.out)
 have HN := zaa hn
 have HT1 := zaa (tidyQ_any y K a k n s HPY.out.our hn)
 obtain ⟨o0, o1, o2, o3, o4, o5, o6, o7⟩ := HO8.out.cells
 have HO8Y := zaa (show O8 y w.heap.size _ _ _ _ _ _ _ _ from zaf HO8.out hby)
 obtain ⟨p0, p1, p2, p3, p4, p5, p6, p7⟩ := HO8Y.out.cells
 clear hP hn hbx hby
 go_enter Tryz.func8, Tryz.ntmps8
 go_wp2_with (go_at_call 15; refine HT1.out.mono ?_; rintro e u ⟨rfl, HP1, HC1⟩; refine Hid.out ?_)
 apply zaa
 have HT2 := zaa (dtidy_any u G r k n s (HPY.out.mid HC1.out) HN.out)
 clear o0 o1 o2 o3 o4 o5 o6 o7 p0 p1 p2 p3 p4 p5 p6 p7 HT1
 go_wp2_with (go_at_call 35; refine HT2.out.mono ?_; rintro e u2 ⟨rfl, HD2, HC2⟩; refine Hid.out ?_)
 apply zaa
 go_wp2
 go_ret
 exact Q27.step HWY.out (HPY.out.q27 HP1.out HC1.out HD2.out HC2.out)
theorem step_rem (w : World) (K : Nat → Prop) (a : Nat) (G : Nat → Prop) (r : Nat) (k : Int) (n : Nat) (s : Qs) (hP : Pr w K a G r k n s) (hn : pw n) (kp : Value) (I : Int) (ka va qa : Option Addr) (kn kc vn vc qn qc : Nat) (c1 c3 c4 : Int) :
  Calls Tryz.prog 8 #[kp, .pointer (some ⟨a, 0, none⟩), .pointer (some ⟨r, 0, none⟩), .agg #[.int .i64 3, .int .i64 I, .slice ka kn kc, .int .i64 c1, .slice va vn vc, .int .i64 c3, .int .i64 c4, .slice qa qn qc]] w (StepTo K a G r k n w) := by
 obtain ⟨x, hx⟩ : ∃ x, w.alloc (.cells #[.int .i64 3, .int .i64 I, .slice ka kn kc, .int .i64 c1, .slice va vn vc, .int .i64 c3, .int .i64 c4, .slice qa qn qc] 41) = x := ⟨_, rfl⟩
 have hbx : Below w.heap.size w x := by rw [← hx]; exact zac Br Lr _
 have HO8 : Hid (O8 x w.heap.size (.int .i64 3) (.int .i64 I) (.slice ka kn kc) (.int .i64 c1) (.slice va vn vc) (.int .i64 c3) (.int .i64 c4) (.slice qa qn qc)) := zaa (by rw [← hx]; exact O8.box _ _ _ _ _ _ _ _ _)
 obtain ⟨y, hy⟩ : ∃ y, x.alloc (.cells #[.slice ka kn kc, .int .i64 c1, .slice va vn vc, .int .i64 c3, .int .i64 c4] 39) = y := ⟨_, rfl⟩
 have hby : Below x.heap.size x y := by rw [← hy]; exact zac Br Lr _
 have HWY := zaa (zab hbx Lr hby)
 have HPY := zaa (hP.go HWY.out)
 have HN := zaa hn
 have HKL := zaa hP.our.kl
 obtain ⟨o0, o1, o2, o3, o4, o5, o6, o7⟩ := HO8.out.cells
 have HO8Y := zaa (show O8 y w.heap.size _ _ _ _ _ _ _ _ from zaf HO8.out hby)
 obtain ⟨p0, p1, p2, p3, p4, p5, p6, p7⟩ := HO8Y.out.cells
 have HK1 : Hid (∀ v, Below y.heap.size y v → Calls Tryz.prog 13 #[.pointer (some ⟨a, 0, none⟩), .int .i64 I] v fun e w' => ∃ code, e = .returned (.int .i64 code) ∧ w'.cell? ⟨w.heap.size, 1, none⟩ = some (.int .i64 I) ∧ Hid (Q17 (RemR k n s I) K a k n y code w')) := zaa fun v hv => by
  refine (removeQ_any v K a k n s (HPY.out.our.go hv) I HN.out).mono ?_
  rintro e w' ⟨code, t, rfl, HR, HPk, HC⟩
  have hsz := HWY.out.size
  have hcf := (Cf.of_below hv).go HC.out
  refine ⟨code, rfl, ?_, zaa ⟨t, HR.out, HPk.out.wide (Zk.from hv.size) (Zk.lt (fun b e => zO (HKL.out b e) (zN hsz hcf.size)) Lr), hcf⟩⟩
  exact (O8.cf HO8Y.out hcf (fun e => by have := HKL.out _ e; omega)).cells.2.1
 have HK2 : Hid (∀ v code, Q17 (RemR k n s I) K a k n y code v → Calls Tryz.prog 34 #[.pointer (some ⟨r, 0, none⟩), .int .i64 I] v fun e w' => e = .returned (.int .i64 code) ∧ Hid (Q27 K a G r k n y w')) := zaa fun v code hq => by
  obtain ⟨t, h1, h2, h3⟩ := hq
  refine (dremove_any v G r k n s (HPY.out.mid h3) HN.out I).mono ?_
  rintro e w' ⟨code', t', rfl, HR, HD, HC⟩
  obtain ⟨rfl, rfl⟩ := RemR.det h1 HR.out
  exact ⟨rfl, zaa (HPY.out.q27 h2 h3 HD.out HC.out)⟩
 clear hP hn hbx hby
 go_enter Tryz.func8, Tryz.ntmps8
 go_wp2_with fail
 go_region_with (first
  | (go_at_call 13; refine (HK1.out _ (by first | exact Br | exact Br.drew | exact zad Br _)).mono ?_; rintro e u1 ⟨code, rfl, b1, HQ1⟩)
  | (go_at_call 34; refine (HK2.out _ code (by first | exact HQ1.out | exact HQ1.out.drew)).mono ?_; rintro e u2 ⟨rfl, HQ2⟩))
 all_goals
  go_wp2
  go_ret
  first
   | exact Q27.step HWY.out HQ2.out
   | exact Q27.step HWY.out HQ2.out.drew
variable {st : Prop}
structure Pz (st : Prop) (w : World) (K : Nat → Prop) (a : Nat) (G : Nat → Prop) (r : Nat) (X : Nat → Prop) (kb N P : Nat) (k : Int) (n : Nat) (s : Qs) : Prop where
 pr : Pr w K a G r k n s
 kz : Kz st w X kb N P
 x1 : ∀ b, X b → ¬ K b ∧ ¬ G b
 x2 : ¬ X r
def StepK (st : Prop) (K : Nat → Prop) (a : Nat) (G : Nat → Prop) (r : Nat) (X : Nat → Prop) (kb N P : Nat) (k : Int) (n : Nat) (w : World) (e : Ending) (w' : World) : Prop :=
 e = .returned (.bool true) ∧ Hid (∃ t K' G' X' N' P', Pz st w' K' a G' r X' kb N' P' k n t ∧ (∀ b, K' b → Zk K w w' b) ∧ (∀ b, G' b → Zk G w w' b) ∧ (∀ b, X' b → Zk X w w' b) ∧ N' ≤ N + 3 ∧ P' ≤ P + 1) ∧ Hid (Cf (fun b => (K b ∨ b = r) ∨ X b) w w')
theorem Zk.old {K : Nat → Prop} {w w' : World} {b : Nat} (h : Zk K w w' b) (hb : b < w.heap.size) : K b := by
 rcases h with h | h
 ·exact h
 ·omega
theorem StepTo.k {w w' : World} {e : Ending} {K G X : Nat → Prop} {a r kb N P : Nat} {k : Int} {n : Nat} {s : Qs} (h : Pz st w K a G r X kb N P k n s) (hs : StepTo K a G r k n w e w') : StepK st K a G r X kb N P k n w e w' := by
 obtain ⟨rfl, H1, H2⟩ := hs
 obtain ⟨t, K', G', p1, p2, p3⟩ := H1.out
 refine ⟨rfl, zaa ⟨t, K', G', X, N, P, ⟨p1, h.kz.keep H2.out (fun b e f => ?_), fun b e => ⟨fun f => ?_, fun f => ?_⟩, h.x2⟩, p2, p3, fun b e => .inl e, by omega, by omega⟩, zaa (H2.out.wideQ fun b e => .inl e)⟩
 ·rcases e with e | rfl
  ·exact (h.x1 b f).1 e
  ·exact h.x2 f
 ·exact (h.x1 b e).1 ((p2 b f).old (h.kz.lt b e))
 ·exact (h.x1 b e).2 ((p3 b f).old (h.kz.lt b e))
variable {st : Prop}
structure Kst (st : Prop) (w u : World) (X : Nat → Prop) (kb N P : Nat) (Y : Nat → Prop) : Prop where
 kz : Kz st u Y kb N P
 sub : ∀ b, Y b → Zk X w u b
 cf : Cf X w u
theorem Kst.start {w : World} {X : Nat → Prop} {kb N P : Nat} (h : Kz st w X kb N P) : Kst st w w X kb N P X := ⟨h, fun _ e => .inl e, Cf.refl _ _⟩
theorem Kst.go {w u u' : World} {X Y : Nat → Prop} {kb N P : Nat} (h : Kst st w u X kb N P Y) (hb : Below u.heap.size u u') : Kst st w u' X kb N P Y := by
 refine ⟨h.kz.go hb, fun b e => ?_, h.cf.go (Cf.of_below hb)⟩
 rcases h.sub b e with f | f
 ·exact .inl f
 ·exact .inr ⟨f.1, zO f.2 hb.size⟩
theorem Kst.pr {w u : World} {K G X Y : Nat → Prop} {a r kb N P N' P' : Nat} {k : Int} {n : Nat} {s : Qs} (h : Kst st w u X kb N' P' Y) (hp : Pz st w K a G r X kb N P k n s) : Pr u K a G r k n s :=
 hp.pr.keep h.cf (fun b e => (hp.x1 b e).1) (fun b e => (hp.x1 b e).2) hp.x2
theorem Kst.step {w u : World} {K G X Y : Nat → Prop} {a r kb N P N' P' : Nat} {k : Int} {n : Nat} {s : Qs} (h : Kst st w u X kb N' P' Y) (hp : Pz st w K a G r X kb N P k n s) (hN : N' ≤ N + 3) (hP : P' ≤ P + 1) : StepK st K a G r X kb N P k n w (.returned (.bool true)) u := by
 have hk := hp.pr.our.kl
 have hg := hp.pr.doc.kl
 have hr := hp.pr.doc.rl
 refine ⟨rfl, zaa ⟨s, K, G, Y, N', P', ⟨h.pr hp, h.kz, fun b e => ⟨fun f => ?_, fun f => ?_⟩, fun e => ?_⟩, fun b e => .inl e, fun b e => .inl e, h.sub, hN, hP⟩, zaa (h.cf.wideQ fun b e => .inr e)⟩
 ·exact (hp.x1 b ((h.sub b e).old (hk b f))).1 f
 ·exact (hp.x1 b ((h.sub b e).old (hg b f))).2 f
 ·exact hp.x2 ((h.sub r e).old hr)
theorem Kst.take {w u : World} {X Y : Nat → Prop} {kb N P : Nat} (h : Kst st w u X kb N P Y) (B : Nat) (ao : Option Addr) (n c : Nat) (l : List Int) (ho : OwnB u B (.slice ao n c) l) (hl : Wf l ∧ l.length ≤ 65536) (hY : ∀ g, (Value.slice ao n c).ownBlock = some g → w.heap.size ≤ g ∧ ¬ Y g) (hN : N ≤ 9000000000000) (hP : P ≤ 1300000000000) :
  Calls Tryz.prog 38 #[.pointer (some ⟨kb, 0, none⟩), .slice ao n c] u fun e w' => e = .returned (.tuple #[]) ∧ Hid (∃ Z, Kst st w w' X kb (N + 1) (if N % 2 = 0 then P + 1 else P) Z ∧ (∀ b, Z b → Y b ∨ (Value.slice ao n c).ownBlock = some b ∨ u.heap.size ≤ b)) ∧ Hid (Cf (fun b => Y b ∨ (Value.slice ao n c).ownBlock = some b) u w') := by
 refine (h.kz.take B ao n c l ho hl (fun g e => (hY g e).2) hN hP).mono ?_
 rintro e w' ⟨rfl, H1, H2⟩
 obtain ⟨Z, hz, hs⟩ := H1.out
 have s1 := h.cf.size
 have s2 := H2.out.size
 refine ⟨rfl, zaa ⟨Z, ⟨hz, fun b e => ?_, h.cf.trans H2.out fun b hb e => ?_⟩, fun b e => ?_⟩, H2⟩
 ·rcases hs b e with f | f | f
  ·rcases h.sub b f with f | f
   ·exact .inl f
   ·exact .inr ⟨f.1, zO f.2 s2⟩
  ·exact .inr ⟨(hY b f).1, zO (row_lt ho f) s2⟩
  ·exact .inr ⟨by omega, f.2⟩
 ·rcases e with e | e
  ·exact (h.sub b e).old hb
  ·have := (hY b e).1
   omega
 ·rcases hs b e with f | f | f
  ·exact .inl f
  ·exact .inr (.inl f)
  ·exact .inr (.inr f.1)
theorem Kst.bump {w u : World} {X Y : Nat → Prop} {kb N P : Nat} (h : Kst st w u X kb N P Y) : Kst st w (u.setCell ⟨kb, 0, none⟩ (.int .i64 ((N : Int) + 1))) X kb (N + 1) (if N % 2 = 0 then P + 1 else P - 1) Y := by
 obtain ⟨⟨v1, v2, V, W, h1, hw, hsy, h2, h3, h4, h5, h6, h7⟩, hs, hc⟩ := h
 have hk : Kv (u.setCell ⟨kb, 0, none⟩ (.int .i64 ((N : Int) + 1))) kb (N + 1) v1 v2 V W := h1.setN (N + 1)
 have hz : (u.setCell ⟨kb, 0, none⟩ (.int .i64 ((N : Int) + 1))).heap.size = u.heap.size := by simp [World.setCell]
 have hcf : Cf (· = kb) u (u.setCell ⟨kb, 0, none⟩ (.int .i64 ((N : Int) + 1))) := Cf.setCell (F := (· = kb)) u (p := ⟨kb, 0, none⟩) rfl _
 refine ⟨⟨v1, v2, V, W, hk, hw, fun e => (hsy e).cf fun t x g ht f => hcf.block g (h7 g (h6 t x g ht f)) fun k => ?_, ?_, h3, h4, h5, h6, fun b e => by rw [hz]; exact h7 b e⟩, fun b e => ?_, hc.trans hcf fun b hb e => ?_⟩
 ·obtain ⟨D, _, q2, _⟩ := hsy e
  subst k
  exact zbg (q2 t x ht).1 h1.box kp_ne8 f
 ·split <;> omega
 ·rcases hs b e with f | f
  ·exact .inl f
  ·exact .inr ⟨f.1, by rw [hz]; exact f.2⟩
 ·subst e
  exact (hs _ h3).old hb
theorem Kst.cells {w u : World} {X Y : Nat → Prop} {kb N P : Nat} (h : Kst st w u X kb N P Y) : u.cell? ⟨kb, 0, none⟩ = some (.int .i64 (N : Int)) ∧ (∀ i, u.frozen? ⟨kb, i, none⟩ = false) ∧ kb < u.heap.size := by
 obtain ⟨⟨v1, v2, V, W, h1, _, _, _, h3, _, _, _, h7⟩, _, _⟩ := h
 exact ⟨h1.cells.1, h1.cells.2.2.2, h7 kb h3⟩
theorem Bk.own8 {w : World} {B g n : Nat} {l : List Int} (h : Bk w g l) (hg : B ≤ g) (hl : l.length = n) (hn : n ≤ 140737488355328) : OwnB w B (.slice (some ⟨g, 0, none⟩) n n) l := by
 unfold Bk at h
 have hbl : (By l).length = n := by rw [← hl]; simp [By]
 unfold OwnB
 rw [hl]
 exact ⟨by rw [hbl]; omega, .inr ⟨g, n, _, rfl, hg, h, Lr, by unfold maxLen; omega, by simp [hbl], by rw [Nat.mul_one, ← hbl]; simp⟩⟩
theorem own_ge7 {w : World} {B : Nat} {v : Value} {l : List Int} (h : OwnB w B v l) {g : Nat} (e : v.ownBlock = some g) : B ≤ g := by
 unfold OwnB at h
 rcases h.2 with ⟨f, _⟩ | ⟨g', c, cur, f, hg, _⟩
 ·rw [f] at e
  cases e
 ·rw [f] at e
  simp [Value.ownBlock] at e
  omega
theorem prefix_any (w : World) (a : Nat) (k : Int) (n : Nat) (po : Option Addr) (pn pc : Nat) (bo : Option Addr) (bn bc : Nat) (so : Option Addr) (sn sc : Nat) (ws : Int) (P body : List Int) (st : List Nat) (h : PgQ w a k n po pn pc bo bn bc so sn sc ws P body st) :
  Calls Tryz.prog 81 #[.pointer (some ⟨a, 0, none⟩)] w fun e w' => ∃ ao c, e = .returned (.slice ao P.length c) ∧ Hid (OwnB w' w.heap.size (.slice ao P.length c) P) ∧ Hid (Below w.heap.size w w') := by
 obtain ⟨c0, c1, c2, c3, c4, c5⟩ := h.cells
 have hpl := h.pre.hlen
 rw [hpl]
 cases po with
 | none =>
  have h0 := h.pre.hnil rfl
  have h1 := h.pre.hcap
  obtain rfl : pc = 0 := h0
  obtain rfl : pn = 0 := by omega
  have hP : P = [] := List.eq_nil_of_length_eq_zero hpl
  have HCL : Hid (Calls Tryz.prog 100 #[.slice none 0 0] w fun e w' => e = .returned (.slice none 0 0) ∧ w' = w) := zaa (by
   have he : (binOp .eql 37 (.slice none 0 0) (.slice none 0 0)).run Tryz.prog w = .ok (.bool true) w := run_eql_slice_nil (P := Tryz.prog) w 37 5 none 0 0 Tryz.underlying37
   clear h h1 hpl hP c0 c1 c2 c3 c4 c5
   go_enter Tryz.func100, Tryz.ntmps100
   go_wp2_with fail
   go_ret
   exact ⟨rfl, rfl⟩)
  subst hP
  clear h h1 hpl
  go_enter Tryz.func81, Tryz.ntmps81
  go_wp2_with (go_at_call 100; refine zae HCL.out ?_)
  go_ret
  exact ⟨none, 0, rfl, zaa (OwnB.nil _ _), zaa Br⟩
 | some p =>
  have HCL := zaa (clone_any p pn pc P w h.pre)
  clear h hpl
  go_enter Tryz.func81, Tryz.ntmps81
  go_wp2_with (go_at_call 100; refine HCL.out.mono ?_; rintro e w2 ⟨g, c, rfl, HO, HB⟩)
  go_ret
  exact ⟨_, c, rfl, zaa HO.out.1, HB⟩
theorem Pk.prefix {w : World} {K : Nat → Prop} {a : Nat} {k : Int} {n : Nat} {s : Qs} (h : Pk w K a k n s) (hn : pw n) :
  Calls Tryz.prog 81 #[.pointer (some ⟨a, 0, none⟩)] w fun e w' => ∃ ao c, e = .returned (.slice ao s.P.length c) ∧ Hid (OwnB w' w.heap.size (.slice ao s.P.length c) s.P) ∧ Hid (Below w.heap.size w w') := by
 have hn2 := zai hn
 obtain ⟨po, pn, pc, bo, bn, bc, so, sn, sc, body, st, hA⟩ := h
 exact prefix_any w a k n po pn pc bo bn bc so sn sc _ s.P body st (hA.pgq hn2.2)
structure AskD (w : World) (r : Nat) (k : Int) (n : Nat) (s : Qs) : Prop where
 pwf : Wf s.P ∧ s.P.length ≤ 65536
 len : Calls Tryz.prog 85 #[.pointer (some ⟨r, 0, none⟩)] w fun e w' => e = .returned (.int .i64 (s.cs.length : Int)) ∧ w' = w
 kind : Calls Tryz.prog 86 #[.pointer (some ⟨r, 0, none⟩)] w fun e w' => e = .returned (.int .i64 k) ∧ w' = w
 waste : Calls Tryz.prog 84 #[.pointer (some ⟨r, 0, none⟩)] w fun e w' => e = .returned (.int .i64 (s.ws : Int)) ∧ w' = w
 used : Calls Tryz.prog 83 #[.pointer (some ⟨r, 0, none⟩)] w fun e w' => e = .returned (.int .i64 ((szQ k s.P.length s.cs : Nat) : Int)) ∧ Hid (Below w.heap.size w w')
 cell : ∀ x : Int, Calls Tryz.prog 79 #[.pointer (some ⟨r, 0, none⟩), .int .i64 x] w (CelQ (cellQ s.cs x) (if 0 ≤ x ∧ x < (s.cs.length : Int) then 0 else 64) w)
 find : ∀ (qo : Option Addr) (qn qc : Nat) (q : List Int), Sl w qo qn qc q → Calls Tryz.prog 80 #[.pointer (some ⟨r, 0, none⟩), .slice qo qn qc] w fun e w' => zbk s.cs q w e w'
 pref : Calls Tryz.prog 82 #[.pointer (some ⟨r, 0, none⟩)] w fun e w' => ∃ v, e = .returned v ∧ Hid (OwnB w' w.heap.size v s.P) ∧ Hid (Below w.heap.size w w')
 bytes : isKd k → Calls Tryz.prog 36 #[.pointer (some ⟨r, 0, none⟩)] w fun e w' => ∃ v, e = .returned v ∧ Hid (OwnB w' w.heap.size v (pkB k n s.cs)) ∧ Hid (Below w.heap.size w w')
theorem Dm.asks {w : World} {K : Nat → Prop} {r : Nat} {k : Int} {n : Nat} {s : Qs} (h : Dm w K r k n s) (hn : pw n) : AskD w r k n s := by
 have hn2 := zai hn
 obtain ⟨lo, N, lc, vs, so, sn, sc, hA⟩ := h
 obtain ⟨l1, l2, l3, l4, l5⟩ := hA.lens hn
 have hok := hA.ok
 have hsl := hA.cells.slc (by omega)
 have hfit : ∀ c ∈ s.cs, c.fit := fun c hc => (hok.may c hc).fit (by omega)
 refine ⟨⟨(hA.pre w (Agr.refl _ _)).wf, by omega⟩, ?_, dkind_any w r k n _ _ _ hA.row, dwaste_any w r k n _ _ _ hA.row, ?_, fun x => dcell_any w K r k n lo N lc _ _ vs s.cs hA.row hA.cells hA.kl (by omega) x, fun qo qn qc q hq => dfind_any w K r k n lo N lc _ _ vs s.cs hA.row hA.cells hA.kl (by omega) hok.rs qo qn qc q hq, dprefix_any w r k n _ so sn sc _ s.P hA.row (hA.pre w (Agr.refl _ _)), fun hk => dbytes_any w r k n lo N lc _ _ s.cs hA.row hsl (by omega) hfit ?_⟩
 ·rw [l1]
  exact dlen_any w r k n lo N lc _ _ hA.row
 ·rw [l2]
  refine dused_any w r k n lo N lc so sn sc _ s.cs hA.row hsl (fun j c hj hnk => ?_) hfit (by omega) (by omega)
  have h1 := hok.beg.cut_le j c hj
  rw [if_neg hnk] at h1
  omega
 ·have h1 := hok.lay
  unfold encQ
  rw [if_pos ⟨hk, hn⟩, if_pos (chk_of none s.cs hok.may hok.rs (fun _ _ => trivial)), if_neg (by omega)]
end Go.Proofs.YtfgffajgfgifhaaGreatDoor
