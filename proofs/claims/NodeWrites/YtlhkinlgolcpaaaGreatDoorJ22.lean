import Derived.Test.YtlhkinlgolcpaaaGreatDoorJ06
import Derived.Test.YtlhkinlgolcpaaaGreatDoorJ08
import Derived.Test.YtlhkinlgolcpaaaGreatDoorJ21
import Derived.Test.YtlhkinlgolcpaaaGreatDoorJ15
import Derived.Deep.DeepCutAuto
import Derived.Deep.CutRange
import Derived.Deep.RegionHeld
import Derived.Test.YtlhkinlgolcpaaaGreatDoorJ05
import Derived.Lib.LazyBuf
import Derived.Test.YtlhkinlgolcpaaaGreatDoorJ09
namespace Go.Proofs.YtlhkinlgolcpaaaGreatDoor
set_option maxRecDepth 100000
open Go.RowKit
def QR (w : World) (a : Nat) (k n : Int) (vp vb vs : Value) (ws : Int) : Prop := w.heap[a]? = some (.cells #[.int .i64 k, .int .i64 n, vp, vb, vs, .int .i64 ws] 105 (0, 0))
theorem QR.cells {w : World} {a : Nat} {k n : Int} {vp vb vs : Value} {ws : Int} (h : QR w a k n vp vb vs ws) :
  w.cell? ⟨a, 0, none⟩ = some (.int .i64 k) ∧ w.cell? ⟨a, 1, none⟩ = some (.int .i64 n) ∧ w.cell? ⟨a, 2, none⟩ = some vp ∧ w.cell? ⟨a, 3, none⟩ = some vb ∧ w.cell? ⟨a, 4, none⟩ = some vs ∧ w.cell? ⟨a, 5, none⟩ = some (.int .i64 ws) := by
 unfold QR at h
 refine ⟨?_, ?_, ?_, ?_, ?_, ?_⟩
 ·rw [cell_of_row _ _ 0 _ _ _ h]; rfl
 ·rw [cell_of_row _ _ 1 _ _ _ h]; rfl
 ·rw [cell_of_row _ _ 2 _ _ _ h]; rfl
 ·rw [cell_of_row _ _ 3 _ _ _ h]; rfl
 ·rw [cell_of_row _ _ 4 _ _ _ h]; rfl
 ·rw [cell_of_row _ _ 5 _ _ _ h]; rfl
theorem QR.free {w : World} {a : Nat} {k n : Int} {vp vb vs : Value} {ws : Int} (h : QR w a k n vp vb vs ws) (i : Nat) : w.frozen? ⟨a, i, none⟩ = false := by
 unfold QR at h
 simp [World.frozen?, h]
theorem QR.set3 {w : World} {a : Nat} {k n : Int} {vp vb vs : Value} {ws : Int} (h : QR w a k n vp vb vs ws) (v : Value) : QR (w.setCell ⟨a, 3, none⟩ v) a k n vp v vs ws := by
 unfold QR at *
 simpa using set_row (w := w) (a := a) (i := 3) (cs := [.int .i64 k, .int .i64 n, vp, vb, vs, .int .i64 ws]) (u := v) h
theorem QR.set4 {w : World} {a : Nat} {k n : Int} {vp vb vs : Value} {ws : Int} (h : QR w a k n vp vb vs ws) (v : Value) : QR (w.setCell ⟨a, 4, none⟩ v) a k n vp vb v ws := by
 unfold QR at *
 simpa using set_row (w := w) (a := a) (i := 4) (cs := [.int .i64 k, .int .i64 n, vp, vb, vs, .int .i64 ws]) (u := v) h
theorem QR.gr {w w' : World} {a : Nat} {k n : Int} {vp vb vs : Value} {ws : Int} {v v' : Value} (h : QR w a k n vp vb vs ws) (hg : Gr w v w' v') (hf : v.ownBlock ≠ some a) : QR w' a k n vp vb vs ws := (hg.grow.block a (lt_some h) (fun e => hf e.symm)).trans h
theorem OwnB.apart {w : World} {B : Nat} {v : Value} {l : List Int} (h : OwnB w B v l) {g : Nat} {xs : Array Value} {t : TypeId} {fr : Nat × Nat} (hg : w.heap[g]? = some (.cells xs t fr)) (ht : t ≠ 5) : v.ownBlock ≠ some g := by
 intro e
 unfold OwnB at h
 rcases h.2 with ⟨rfl, _⟩ | ⟨q, cap, cur, rfl, _, hh, _⟩
 ·cases e
 ·simp only [Value.ownBlock, Option.some.injEq] at e
  subst e
  rw [hg] at hh
  simp at hh
  exact ht hh.2.1
theorem OwnB.apartN {w : World} {B C : Nat} {v u : Value} {l : List Int} {m : List Nat} (h : OwnB w B v l) (g : OwnN w C u m) : v.ownBlock = none ∨ v.ownBlock ≠ u.ownBlock := by
 unfold OwnN at g
 rcases g.2 with ⟨rfl, _⟩ | ⟨q, cap, cur, rfl, _, hh, _⟩
 ·cases hv : v.ownBlock with
  | none => exact .inl rfl
  | some k => exact .inr (by simp [Value.ownBlock])
 ·exact .inr (h.apart hh (by decide))
theorem OwnN.apartB {w : World} {B C : Nat} {v u : Value} {l : List Int} {m : List Nat} (g : OwnN w C u m) (h : OwnB w B v l) : u.ownBlock = none ∨ u.ownBlock ≠ v.ownBlock := by
 unfold OwnB at h
 rcases h.2 with ⟨rfl, _⟩ | ⟨q, cap, cur, rfl, _, hh, _⟩
 ·cases hv : u.ownBlock with
  | none => exact .inl rfl
  | some k => exact .inr (by simp [Value.ownBlock])
 ·exact .inr (g.apart hh (by decide))
theorem OwnB.gr {w w' : World} {B : Nat} {v : Value} {l : List Int} {u u' : Value} (h : OwnB w B v l) (hg : Gr w u w' u') (hne : v.ownBlock = none ∨ v.ownBlock ≠ u.ownBlock) : OwnB w' B v l := World.ownsRow.kept h hg.grow hne
theorem OwnB.cf {w w' : World} {B : Nat} {v : Value} {l : List Int} {r : Nat} (h : OwnB w B v l) (hc : Cf (· = r) w w') (hne : v.ownBlock ≠ some r) : OwnB w' B v l :=
 World.ownsRow.kept (row := some r) h ⟨hc.os, hc.tape, hc.output, hc.size, fun k hk hk2 => hc.block k hk (fun e => hk2 (by rw [e]))⟩ (.inr hne)
theorem OwnB.grow_below {w w' : World} {B : Nat} {v v' : Value} {l : List Int} (h : OwnB w B v l) (hg : Gr w v w' v') (hB : B ≤ w.heap.size) : Below B w w' := hg.below h hB
theorem OwnN.grow_below {w w' : World} {B : Nat} {v v' : Value} {l : List Nat} (h : OwnN w B v l) (hg : Gr w v w' v') (hB : B ≤ w.heap.size) : Below B w w' := own_below h hB hg.grow
structure Lq (w u : World) (B a : Nat) (k n : Int) (vp vb vs : Value) (ws : Int) (body : List Int) (st : List Nat) : Prop where
 row : QR u a k n vp vb vs ws
 ob : OwnB u B vb body
 on : OwnN u B vs st
 be : Below B w u
 hB : B ≤ w.heap.size
 ha : B ≤ a
theorem Lq.go {w u v : World} {B a : Nat} {k n : Int} {vp vb vs : Value} {ws : Int} {body : List Int} {st : List Nat} (h : Lq w u B a k n vp vb vs ws body st) (hb : Below u.heap.size u v) : Lq w v B a k n vp vb vs ws body st :=
 ⟨box_on h.row hb, h.ob.on (Nat.le_refl _) hb, h.on.below hb, bl_go h.be h.hB hb, h.hB, h.ha⟩
theorem Lq.apartB {w u : World} {B a : Nat} {k n : Int} {vp vb vs : Value} {ws : Int} {body : List Int} {st : List Nat} (h : Lq w u B a k n vp vb vs ws body st) : vb.ownBlock ≠ some a := by
 have := h.row
 unfold QR at this
 exact h.ob.apart this (by decide)
theorem Lq.apartS {w u : World} {B a : Nat} {k n : Int} {vp vb vs : Value} {ws : Int} {body : List Int} {st : List Nat} (h : Lq w u B a k n vp vb vs ws body st) : vs.ownBlock ≠ some a := by
 have := h.row
 unfold QR at this
 exact h.on.apart this (by decide)
theorem Lq.le {w u : World} {B a : Nat} {k n : Int} {vp vb vs : Value} {ws : Int} {body : List Int} {st : List Nat} (h : Lq w u B a k n vp vb vs ws body st) : B ≤ u.heap.size := Nat.le_trans h.hB h.be.size
theorem Lq.row_st {w u v : World} {B a : Nat} {k n : Int} {vp vb vs vs' : Value} {ws : Int} {body : List Int} {st : List Nat} (h : Lq w u B a k n vp vb vs ws body st) {x : World} (hx : Below u.heap.size u x) (hg : Gr x vs v vs') : QR v a k n vp vb vs ws := (h.go hx).row.gr hg (h.go hx).apartS
theorem Lq.put_st {w u v : World} {B a : Nat} {k n : Int} {vp vb vs vs' : Value} {ws : Int} {body : List Int} {st st' : List Nat} (h : Lq w u B a k n vp vb vs ws body st) {x : World} (hx : Below u.heap.size u x) (ho : OwnN v B vs' st') (hg : Gr x vs v vs') :
  Lq w (v.setCell ⟨a, 4, none⟩ vs') B a k n vp vb vs' ws body st' := by
 have h1 := h.go hx
 have hr := h.row_st hx hg
 have hb : OwnB v B vb body := h1.ob.gr hg (h1.ob.apartN h1.on)
 have hc := Cf.set v a 4 vs'
 have hbe : Below B w v := h1.be.trans (h1.on.grow_below hg h1.le)
 have hr2 := hr
 unfold QR at hr2
 exact ⟨hr.set4 vs', hb.cf hc (hb.apart hr2 (by decide)), ho.cf hc (ho.apart hr2 (by decide)), hbe.trans (hc.below (Nat.le_trans h.hB hbe.size) (by intro i hi e; have := h.ha; omega)), h.hB, h.ha⟩
theorem Lq.row_bd {w u v : World} {B a : Nat} {k n : Int} {vp vb vs vb' : Value} {ws : Int} {body : List Int} {st : List Nat} (h : Lq w u B a k n vp vb vs ws body st) {x : World} (hx : Below u.heap.size u x) (hg : Gr x vb v vb') : QR v a k n vp vb vs ws := (h.go hx).row.gr hg (h.go hx).apartB
theorem Lq.put_bd {w u v : World} {B a : Nat} {k n : Int} {vp vb vs vb' : Value} {ws : Int} {body body' : List Int} {st : List Nat} (h : Lq w u B a k n vp vb vs ws body st) {x : World} (hx : Below u.heap.size u x) (ho : OwnB v B vb' body') (hg : Gr x vb v vb') :
  Lq w (v.setCell ⟨a, 3, none⟩ vb') B a k n vp vb' vs ws body' st := by
 have h1 := h.go hx
 have hr := h.row_bd hx hg
 have hb : OwnN v B vs st := h1.on.gr hg (h1.on.apartB h1.ob)
 have hc := Cf.set v a 3 vb'
 have hbe : Below B w v := h1.be.trans (h1.ob.grow_below hg h1.le)
 have hr2 := hr
 unfold QR at hr2
 exact ⟨hr.set3 vb', ho.cf hc (ho.apart hr2 (by decide)), hb.cf hc (hb.apart hr2 (by decide)), hbe.trans (hc.below (Nat.le_trans h.hB hbe.size) (by intro i hi e; have := h.ha; omega)), h.hB, h.ha⟩
theorem Lq.pg {w u : World} {B a : Nat} {k : Int} {n : Nat} {po : Option Addr} {pn pc : Nat} {vb vs : Value} {ws : Int} {P body : List Int} {st : List Nat} (h : Lq w u B a k n (.slice po pn pc) vb vs ws body st) (hP : Sl u po pn pc P) (hw : Wf body) (hb : body.length ≤ 140737488355328) (hs : st.length ≤ 140737488355328) :
  ∃ bo bc so sc, vb = .slice bo body.length bc ∧ vs = .slice so st.length sc ∧ PgQ u a k n po pn pc bo body.length bc so st.length sc ws P body st := by
 obtain ⟨bo, bc, rfl, hbs, _⟩ := h.ob.sl hw hb
 obtain ⟨so, sc, rfl, hss⟩ := h.on.sln hs
 exact ⟨bo, bc, so, sc, rfl, rfl, ⟨h.row, hP, hbs, hss⟩⟩
end Go.Proofs.YtlhkinlgolcpaaaGreatDoor

namespace Go.Proofs.YtlhkinlgolcpaaaGreatDoor
set_option maxRecDepth 100000
open Go.RowKit
theorem OwnB.shape {w : World} {B : Nat} {v : Value} {l : List Int} (h : OwnB w B v l) : ∃ ao c, v = .slice ao l.length c := by
 unfold OwnB at h
 rcases h.2 with ⟨rfl, hn⟩ | ⟨g, cap, cur, rfl, _⟩
 ·exact ⟨none, 0, by rw [hn]⟩
 ·exact ⟨_, cap, rfl⟩
theorem OwnB.len {w : World} {B : Nat} {ao : Option Addr} {n c : Nat} {l : List Int} (h : OwnB w B (.slice ao n c) l) : n = l.length := by
 obtain ⟨a, c', e⟩ := h.shape
 injection e
theorem OwnN.len {w : World} {B : Nat} {ao : Option Addr} {n c : Nat} {l : List Nat} (h : OwnN w B (.slice ao n c) l) : n = l.length := by
 obtain ⟨a, c', e⟩ := h.shape
 injection e
theorem Lo.far {w : World} {B G : Nat} {v : Value} {l : List Int} {ao : Option Addr} {n : Nat} (h : Lo G ao n) (ho : OwnB w B v l) (hG : G ≤ B) : Far ao n v := by
 rcases h with h | h
 ·exact .inl h
 ·exact ho.far fun p hp => Nat.lt_of_lt_of_le (h p hp) hG
theorem head_row (k : Int) (j : Nat) (po : Option Addr) (pn pc : Nat) : ∃ (qo : Option Addr) (qn qc : Nat), ((qo = none ∧ qn = 0 ∧ qc = 0 ∧ (k = 3 ∧ j = 0)) ∨ (qo = po ∧ qn = pn ∧ qc = pc ∧ ¬ (k = 3 ∧ j = 0))) ∧
  ∀ (w : World) (a : Nat) (n : Int) (vb vs : Value) (ws : Int), QR w a k n (.slice po pn pc) vb vs ws → Calls Tryz.prog 129 #[.pointer (some ⟨a, 0, none⟩), .int .i64 (j : Int)] w fun e w' => e = .returned (.slice qo qn qc) ∧ w' = w := by
 by_cases hc : k = 3 ∧ j = 0
 ·refine ⟨none, 0, 0, .inl ⟨rfl, rfl, rfl, hc⟩, fun w a n vb vs ws h => ?_⟩
  obtain ⟨c0, c1, c2, c3, c4, c5⟩ := h.cells
  have HSW : Hid (Calls Tryz.prog 91 #[.int .i64 k, .int .i64 (j : Int)] w fun e w' => e = .returned (.bool true) ∧ w' = w) := hidden (by
   have := standsWhole_any k (j : Int) w
   rwa [decide_eq_true (show k = 3 ∧ (j : Int) = 0 by omega)] at this)
  clear h hc
  go_enter Tryz.func129, Tryz.ntmps129
  go_wp2_with (first | (go_at_call 91; refine same_call HSW.out ?_))
  go_ret
  exact ⟨rfl, rfl⟩
 ·refine ⟨po, pn, pc, .inr ⟨rfl, rfl, rfl, hc⟩, fun w a n vb vs ws h => ?_⟩
  obtain ⟨c0, c1, c2, c3, c4, c5⟩ := h.cells
  have HSW : Hid (Calls Tryz.prog 91 #[.int .i64 k, .int .i64 (j : Int)] w fun e w' => e = .returned (.bool false) ∧ w' = w) := hidden (by
   have := standsWhole_any k (j : Int) w
   rwa [decide_eq_false (show ¬ (k = 3 ∧ (j : Int) = 0) by omega)] at this)
  clear h hc
  go_enter Tryz.func129, Tryz.ntmps129
  go_wp2_with (first | (go_at_call 91; refine same_call HSW.out ?_))
  go_ret
  exact ⟨rfl, rfl⟩
def LaidTo (k : Int) (n : Nat) (cs : List Cl) (w : World) (e : Ending) (w' : World) : Prop :=
 ∃ (w1 : World) (a : Nat) (po : Option Addr) (pn pc : Nat) (vb vs : Value), e = .returned (.pointer (some ⟨a, 0, none⟩)) ∧ Hid (Lq w1 w' w1.heap.size a k n (.slice po pn pc) vb vs 0 (qbd (shP k cs).length (whl k) cs) (qst (shP k cs).length (whl k) 0 cs)) ∧ Hid (Sl w1 po pn pc (shP k cs)) ∧ Hid (Below w.heap.size w w1) ∧ Hid (Nw w.heap.size po pn)
set_option maxHeartbeats 4000000 in
theorem laid_any (k : Int) (n : Nat) (G : Nat) (ao : Option Addr) (m cap : Nat) (cs : List Cl) (w : World) (hs : SlE w G ao m cap cs) (hG : G ≤ w.heap.size) (hr : Rs cs) (hf : ∀ c ∈ cs, c.fit) (hm : m ≤ 65536) (hz : (qbd (shP k cs).length (whl k) cs).length ≤ 1099511627776) :
  Calls Tryz.prog 95 #[.int .i64 k, .int .i64 (n : Int), .slice ao m cap] w fun e w' => LaidTo k n cs w e w' := by
 have HS := hidden hs
 have HF := hidden hf
 have HLEN := hidden hs.hlen
 have HSH := hidden (shared_any k G ao m cap cs w hs hr hf)
 have HBG := hidden (shP_beg k cs)
 have HZ := hidden hz
 clear hs hr hf hz
 go_enter Tryz.func95, Tryz.ntmps95
 go_wp2_with (first | (go_at_call 127; refine HSH.out.mono ?_; rintro e w1 ⟨po, pn, pc, rfl, HP, HB1, HNW⟩; refine Hid.out ?_))
 apply hidden
 obtain ⟨B, hB⟩ : ∃ B, w1.heap.size = B := ⟨_, rfl⟩
 have HBE := hidden hB
 have HLQ0 : Hid (Lq w1 (w1.alloc (.cells #[.int .i64 k, .int .i64 (n : Int), .slice po pn pc, .slice none 0 0, .slice none 0 0, .int .i64 0] 105)) B B k n (.slice po pn pc) (.slice none 0 0) (.slice none 0 0) 0 [] []) := by
  refine hidden ⟨?_, OwnB.nil _ _, OwnN.nil _ _, ?_, Nat.le_of_eq hB.symm, Nat.le_refl _⟩
  ·rw [← hB]; exact heap_alloc_last w1 _
  ·rw [← hB]; exact bl_al (Below.refl _ _) (Nat.le_refl _) _
 have HPL := hidden HP.out.hlen
 have HGB : Hid (G ≤ B) := hidden (by have := HB1.out.size; omega)
 clear HSH
 go_wp2_with fail
 try rw [hB]
 clear hB
 go_loopw [19] (fun i wr => ∃ (j : Nat) (bo : Option Addr) (bn bc : Nat) (so : Option Addr) (sn sc : Nat), j ≤ m ∧ i = .int .i64 j ∧ Hid (Lq w1 wr B B k n (.slice po pn pc) (.slice bo bn bc) (.slice so sn sc) 0 (qbd (shP k cs).length (whl k) (cs.take j)) (qst (shP k cs).length (whl k) 0 (cs.take j)))) (fun i _ => m - (intOf i).toNat)
 case atStart => exact ⟨0, none, 0, 0, none, 0, 0, by omega, rfl, by simpa [qbd, qst] using HLQ0⟩
 case round =>
  clear HLQ0
  obtain ⟨j, bo, bn, bc, so, sn, sc, hj, rfl, HQ⟩ := hrel
  have bj : (j : Int) ≤ 65536 := by omega
  by_cases hlt : j < m
  ·have hltI : (j : Int) < (m : Int) := by omega
   obtain ⟨b, off, c, rfl, hbl, hci, hE⟩ := HS.out.item j hlt
   have hcf := HF.out c (List.mem_of_getElem? hci)
   obtain ⟨ho, hn, hc, ko, kn, kc, vo, vn, vc, h, key, e0, e1, e2, e3, e4, e5, s1, s2, s3, hke, l1, l2, l3⟩ := hE
   have HBW : Hid (Below w.heap.size w wr) := hidden (HB1.out.trans (HQ.out.be.mono (by have := HB1.out.size; have := HBE.out; omega)))
   have d0 := (HBW.out.cell (p := ⟨b, off + j * 6, none⟩) hbl).trans e0
   have d1 := (HBW.out.cell (p := ⟨b, off + j * 6 + 1, none⟩) hbl).trans e1
   have d2 := (HBW.out.cell (p := ⟨b, off + j * 6 + 2, none⟩) hbl).trans e2
   have d3 := (HBW.out.cell (p := ⟨b, off + j * 6 + 3, none⟩) hbl).trans e3
   have d4 := (HBW.out.cell (p := ⟨b, off + j * 6 + 4, none⟩) hbl).trans e4
   have d5 := (HBW.out.cell (p := ⟨b, off + j * 6 + 5, none⟩) hbl).trans e5
   have HSL := hidden (And.intro s1 (And.intro s2 (And.intro s3 (And.intro hke (And.intro l1 (And.intro l2 l3))))))
   have HCI := hidden hci
   have HCF := hidden hcf
   clear e0 e1 e2 e3 e4 e5 s1 s2 s3 hke l1 l2 l3 hci hcf
   go_upto_region 5 with fail
   obtain ⟨x, hx⟩ : ∃ x, wr.alloc (.cells #[.slice ho hn hc, .slice ko kn kc, .int .i64 c.kd, .slice vo vn vc, .int .i64 c.pg, .int .i64 c.ct] 100) = x := ⟨_, rfl⟩
   have hbx : Below wr.heap.size wr x := by rw [← hx]; exact bl_al (Below.refl _ _) (Nat.le_refl _) _
   obtain ⟨g9, hg9⟩ : ∃ g9, wr.heap.size = g9 := ⟨_, rfl⟩
   have HE6 : Hid (E6 x g9 (.slice ho hn hc) (.slice ko kn kc) (.int .i64 c.kd) (.slice vo vn vc) (.int .i64 c.pg) (.int .i64 c.ct)) := hidden (by rw [← hx, ← hg9]; exact E6.box _ _ _ _ _ _ _)
   have HQX := hidden (HQ.out.go hbx)
   have HGA : Hid (¬ g9 = B) := hidden (by have := lt_some HQ.out.row; omega)
   rw [hx, hg9]
   clear hx hg9 hbx d0 d1 d2 d3 d4 d5 HBW HQ
   obtain ⟨c0, c1, c2, c3, c4, c5⟩ := HQX.out.row.cells
   have c4a := fun o => (HQX.out.go (bl_al (Below.refl _ x) (Nat.le_refl _) o)).row.cells.2.2.2.2.1
   have hbn := HQX.out.ob.len
   have hsn := HQX.out.on.len
   have hbnb : bn ≤ 1099511627776 := by rw [hbn]; exact Nat.le_trans (qbd_pre _ _ _ _) HZ.out
   have HBN := hidden hbn
   have HL : Hid ((qst (shP k cs).length (whl k) 0 (cs.take j)).length + 1 ≤ 1000000) := hidden (by rw [qst_length, List.length_take]; omega)
   have hBx : B ≤ x.heap.size := HQX.out.le
   have hbnI : (bn : Int) ≤ 1099511627776 := by omega
   clear hbn hsn
   go_cut [] from 24 to 37 (fun u1 => ∃ (so1 : Option Addr) (sn1 sc1 : Nat), Hid (Lq w1 u1 B B k n (.slice po pn pc) (.slice bo bn bc) (.slice so1 sn1 sc1) 0 (qbd (shP k cs).length (whl k) (cs.take j)) (qst (shP k cs).length (whl k) 0 (cs.take j) ++ [bn])) ∧ Hid (E6 u1 g9 (.slice ho hn hc) (.slice ko kn kc) (.int .i64 c.kd) (.slice vo vn vc) (.int .i64 c.pg) (.int .i64 c.ct)))
   case first =>
    go_wp2_with fail
    go_region_law (first | (refine step_appN rfl (.tmp 28) (.tmp 34) rfl B (qst (shP k cs).length (whl k) 0 (cs.take j)) bn (.slice so sn sc) x.heap.size rfl rfl (HQX.out.on.below (by first | exact bl_al (Below.refl _ _) (Nat.le_refl _) _ | exact (bl_al (Below.refl _ _) (Nat.le_refl _) _).drew | exact bl_dr (bl_al (Below.refl _ _) (Nat.le_refl _) _) _)) (by simp) HL.out (by simp; omega) ?_; intro v1 w2 ho1 hg1; obtain ⟨so1, sc1, rfl⟩ := ho1.shape; have HL1 := hidden (HQX.out.put_st (by first | exact bl_al (Below.refl _ _) (Nat.le_refl _) _ | exact (bl_al (Below.refl _ _) (Nat.le_refl _) _).drew | exact bl_dr (bl_al (Below.refl _ _) (Nat.le_refl _) _) _) ho1 hg1); have hr1 := HQX.out.row_st (by first | exact bl_al (Below.refl _ _) (Nat.le_refl _) _ | exact (bl_al (Below.refl _ _) (Nat.le_refl _) _).drew | exact bl_dr (bl_al (Below.refl _ _) (Nat.le_refl _) _) _) hg1; have HE1 : Hid (E6 w2 g9 (.slice ho hn hc) (.slice ko kn kc) (.int .i64 c.kd) (.slice vo vn vc) (.int .i64 c.pg) (.int .i64 c.ct)) := hidden (by
      have hy := HE6.out
      unfold E6 at hy
      exact (show E6 _ g9 _ _ _ _ _ _ from box_on HE6.out (by first | exact bl_al (Below.refl _ _) (Nat.le_refl _) _ | exact (bl_al (Below.refl _ _) (Nat.le_refl _) _).drew | exact bl_dr (bl_al (Below.refl _ _) (Nat.le_refl _) _) _)).gr hg1 (HQX.out.on.apart hy (by decide))); obtain ⟨x0, x1, x2, x3, x4, x5⟩ := hr1.cells; have x6 := hr1.free 4; clear ho1 hg1 hr1))
    all_goals (try go_wp2_with fail)
    all_goals go_meet
    all_goals exact ⟨so1, _, sc1, by simpa using HL1, hidden (HE1.out.cf (Cf.set _ _ _ _) HGA.out)⟩
   obtain ⟨so1, sn1, sc1, HQ1, HE1⟩ := hcut
   obtain ⟨u1, hu1⟩ : ∃ u1, u1 = wc := ⟨_, rfl⟩
   subst hu1
   clear c0 c1 c2 c3 c4 c5 c4a HQX HE6 HL hBx
   obtain ⟨qo, qn, qc, hqc, hhd⟩ := head_row k j po pn pc
   have HHD : Hid (∀ u, Below u1.heap.size u1 u → Calls Tryz.prog 129 #[.pointer (some ⟨B, 0, none⟩), .int .i64 (j : Int)] u fun e w' => e = .returned (.slice qo qn qc) ∧ w' = u) := hidden fun u hu => hhd u B n _ _ 0 (HQ1.out.go hu).row
   have hqn : qn = if k = 3 ∧ j = 0 then 0 else (shP k cs).length := by
    rcases hqc with ⟨_, h2, _, h4⟩ | ⟨_, h2, _, h4⟩
    ·rw [if_pos h4, h2]
    ·rw [if_neg h4, h2, HPL.out]
   have HAP : Hid (∀ u, Below u1.heap.size u1 u → Calls Tryz.prog 128 #[.agg #[.slice ho hn hc, .slice ko kn kc, .int .i64 c.kd, .slice vo vn vc, .int .i64 c.pg, .int .i64 c.ct], .slice bo bn bc, .int .i64 (qn : Int)] u fun e w' => ∃ bo' bn' bc', e = .returned (.slice bo' bn' bc') ∧ w'.cell? ⟨B, 3, none⟩ = some (.slice bo bn bc) ∧ w'.frozen? ⟨B, 3, none⟩ = false ∧ Hid (Lq w1 (w'.setCell ⟨B, 3, none⟩ (.slice bo' bn' bc')) B B k n (.slice po pn pc) (.slice bo' bn' bc') (.slice so1 sn1 sc1) 0 (qbd (shP k cs).length (whl k) (cs.take (j + 1))) (qst (shP k cs).length (whl k) 0 (cs.take (j + 1))))) := by
    refine hidden fun u hu => ?_
    obtain ⟨s1, s2, s3, hke, l1, l2, l3⟩ := HSL.out
    have hq2 := HQ1.out.go hu
    have hbw : Below w.heap.size w u := HB1.out.trans (hq2.be.mono (by have := HB1.out.size; have := HBE.out; omega))
    have hln : hn + kn = c.key.length := by rw [← hke, List.length_append, s1.hlen, s2.hlen]
    have hkb := HCF.out.key
    have hvb := HCF.out.val
    have hvl := s3.hlen
    have htk : cs.take (j + 1) = cs.take j ++ [c] := by rw [List.take_add_one, HCI.out]; rfl
    have hjl : j ≤ cs.length := by rw [HLEN.out]; omega
    have hcut : cutn (shP k cs).length (whl k) (cs.take j) = qn := by rw [cutn_at k _ cs j hjl, hqn]
    refine (eappended_any (.slice bo bn bc) B _ ho hn hc ko kn kc c.kd vo vn vc c.pg c.ct h key c.val qn u hq2.ob hq2.le (s1.on (Nat.le_refl _) hbw) (s2.on (Nat.le_refl _) hbw) (s3.on (Nat.le_refl _) hbw) (l1.far hq2.ob HGB.out) (l2.far hq2.ob HGB.out) (l3.far hq2.ob HGB.out) (by rw [hqn, hln]; exact HBG.out.cut_le j c HCI.out) (by rw [← HBN.out]; omega)).mono ?_
    rintro e w' ⟨v', rfl, HO, HG⟩
    have ho2 := HO.out
    rw [hke] at ho2
    obtain ⟨bo', bc', rfl⟩ := ho2.shape
    have hl := hq2.put_bd (Below.refl _ _) ho2 HG.out
    have hr := hq2.row_bd (Below.refl _ _) HG.out
    refine ⟨bo', _, bc', rfl, hr.cells.2.2.2.1, hr.free 3, hidden ?_⟩
    rw [htk, qbd_snoc, qst_snoc, hcut, Nat.zero_add, ← HBN.out]
    exact hl
   obtain ⟨c0, c1, c2, c3, c4, c5⟩ := HQ1.out.row.cells
   obtain ⟨y0, y1, y2, y3, y4, y5⟩ := HE1.out.cells
   clear hhd hqn hqc HBN
   go_wp2_with fail
   go_region_with (first
    | (go_at_call 129; refine same_call (HHD.out _ (by first | exact Below.refl _ _ | exact (Below.refl _ _).drew | exact bl_dr (Below.refl _ _) _)) ?_)
    | (go_at_call 128; refine (HAP.out _ (by first | exact Below.refl _ _ | exact (Below.refl _ _).drew | exact bl_dr (Below.refl _ _) _)).mono ?_; rintro e w3 ⟨bo1, bn1, bc1, rfl, z3, z4, HL3⟩))
   all_goals
    go_wp2
    go_roundw
    case rel => exact ⟨j + 1, bo1, bn1, bc1, so1, sn1, sc1, by omega, by go_num, HL3⟩
    case measure => simp [intOf]; omega
  ·obtain rfl : j = m := by omega
   have hlI : ¬ (j : Int) < (j : Int) := by omega
   go_wp2
   go_ret
   refine ⟨w1, B, po, pn, pc, .slice bo bn bc, .slice so sn sc, rfl, ?_, HP, HB1, HNW⟩
   have h := HQ.out
   rw [List.take_of_length_le (by rw [HLEN.out]; exact Nat.le_refl _)] at h
   rw [HBE.out]
   exact hidden h
end Go.Proofs.YtlhkinlgolcpaaaGreatDoor

namespace Go.Proofs.YtlhkinlgolcpaaaGreatDoor
set_option maxRecDepth 100000
open Go.RowKit
theorem riseQ_any (ao bo : Option Addr) (n m c d : Nat) (la lb : List Int) (w : World) (ha : Sl w ao n c la) (hb : Sl w bo m d lb) :
  Calls Tryz.prog 94 #[.slice ao n c, .slice bo m d] w fun e w' => e = .returned (.bool (decide (kl la lb))) ∧ w' = w := by
 have hr := compare_any ao bo n m c d la lb w ha hb
 have hq : decide (kl la lb) = decide (ordL la lb < 0) := by
  have := ordL_three la lb
  refine decide_eq_decide.2 ?_
  unfold kl
  omega
 rw [hq]
 clear ha hb hq
 generalize ordL la lb = x at *
 go_enter Tryz.func94, Tryz.ntmps94
 go_wp2_with (go_at_call 113; refine same_call hr ?_)
 go_ret
 exact ⟨rfl, rfl⟩
end Go.Proofs.YtlhkinlgolcpaaaGreatDoor

namespace Go.Proofs.YtlhkinlgolcpaaaGreatDoor
set_option maxRecDepth 100000
open Go.RowKit
theorem SlE.wf {w : World} {G : Nat} {ao : Option Addr} {n cap : Nat} {cs : List Cl} (h : SlE w G ao n cap cs) : ∀ c ∈ cs, c.Wf := by
 intro c hc
 obtain ⟨i, hi, e⟩ := List.getElem_of_mem hc
 rcases h.hat with h0 | ⟨b, off, _, _, hcs⟩
 ·have := h.hlen; omega
 ·obtain ⟨_, _, _, _, _, _, _, _, _, h1, key, _, _, _, _, _, _, s1, s2, s3, e2, _⟩ := hcs i c (by rw [List.getElem?_eq_getElem hi, e])
  exact ⟨by rw [← e2]; exact s1.wf.append s2.wf, s3.wf⟩
def Ld (w : World) (b : Nat) (k : Int) (n : Nat) (cs : List Cl) : Prop :=
 ∃ po pn pc bo bn bc so sn sc, PgQ w b k n po pn pc bo bn bc so sn sc 0 (shP k cs) (qbd (shP k cs).length (whl k) cs) (qst (shP k cs).length (whl k) 0 cs)
theorem LaidTo.ld {k : Int} {n : Nat} {cs : List Cl} {w w' : World} {e : Ending} (h : LaidTo k n cs w e w') (hwf : ∀ c ∈ cs, c.Wf) (hf : ∀ c ∈ cs, c.fit) (hm : cs.length ≤ 65536) (hz : (qbd (shP k cs).length (whl k) cs).length ≤ 1099511627776) :
  ∃ b, e = .returned (.pointer (some ⟨b, 0, none⟩)) ∧ Hid (Ld w' b k n cs) ∧ Hid (Below w.heap.size w w') ∧ Hid (w.heap.size ≤ b) := by
 obtain ⟨w1, a, po, pn, pc, vb, vs, rfl, HL, HP, HB, _⟩ := h
 have hb := HL.out.be
 obtain ⟨bo, bc, so, sc, rfl, rfl, hpg⟩ := HL.out.pg (HP.out.on (Nat.le_refl _) hb) (qbd_wf _ _ _ fun c hc => ⟨hwf c hc, hf c hc⟩) (by omega) (by rw [qst_length]; omega)
 exact ⟨a, rfl, hidden ⟨po, pn, pc, bo, _, bc, so, _, sc, hpg⟩, hidden (bl_go HB.out (Nat.le_refl _) hb), hidden (Nat.le_trans HB.out.size HL.out.ha)⟩
theorem written_ld {w : World} {b : Nat} {k : Int} {n : Nat} {cs : List Cl} (h : Ld w b k n cs) (hk : isKd k) (hn : pw n) (hfit : szQ k (shP k cs).length cs ≤ n) (ht : Tab w) (h0 : 1 < w.heap.size) :
  Calls Tryz.prog 96 #[.pointer (some ⟨b, 0, none⟩)] w fun e w' => ∃ g, e = .returned (.slice (some ⟨g, 0, none⟩) n n) ∧ w.heap.size ≤ g ∧ Hid (Bk w' g (pkB k n cs)) ∧ Hid (Below w.heap.size w w') := by
 obtain ⟨po, pn, pc, bo, bn, bc, so, sn, sc, hpg⟩ := h
 have hz := szQ_eq k (shP k cs).length cs
 have hn2 := pw_nat hn
 have := written_any w b k n po pn pc bo bn bc so sn sc 0 _ _ _ hpg hk (by omega) (by rw [qst_length]; omega) (fun s hs => by have := qst_le _ _ _ _ s hs; omega) ht h0
 rw [wrL_laid] at this
 exact this
end Go.Proofs.YtlhkinlgolcpaaaGreatDoor

namespace Go.Proofs.YtlhkinlgolcpaaaGreatDoor
set_option maxRecDepth 100000
open Go.RowKit
structure PO (w : World) (B a : Nat) (k : Int) (n : Nat) (po : Option Addr) (pn pc : Nat) (vb vs : Value) (ws : Int) (P body : List Int) (st : List Nat) : Prop where
 row : QR w a k n (.slice po pn pc) vb vs ws
 pre : Sl w po pn pc P
 ob : OwnB w B vb body
 on : OwnN w B vs st
 far : Far po pn vb
 ha : B ≤ a
theorem PO.go {w v : World} {B a : Nat} {k : Int} {n : Nat} {po : Option Addr} {pn pc : Nat} {vb vs : Value} {ws : Int} {P body : List Int} {st : List Nat} (h : PO w B a k n po pn pc vb vs ws P body st) (hb : Below w.heap.size w v) : PO v B a k n po pn pc vb vs ws P body st :=
 ⟨box_on h.row hb, h.pre.on (Nat.le_refl _) hb, h.ob.on (Nat.le_refl _) hb, h.on.below hb, h.far, h.ha⟩
theorem PO.pg {w : World} {B a : Nat} {k : Int} {n : Nat} {po : Option Addr} {pn pc : Nat} {vb vs : Value} {ws : Int} {P body : List Int} {st : List Nat} (h : PO w B a k n po pn pc vb vs ws P body st) (hw : Wf body) (hb : body.length ≤ 140737488355328) (hs : st.length ≤ 140737488355328) :
  ∃ bo bc so sc, vb = .slice bo body.length bc ∧ vs = .slice so st.length sc ∧ PgQ w a k n po pn pc bo body.length bc so st.length sc ws P body st := by
 obtain ⟨bo, bc, rfl, hbs, _⟩ := h.ob.sl hw hb
 obtain ⟨so, sc, rfl, hss⟩ := h.on.sln hs
 exact ⟨bo, bc, so, sc, rfl, rfl, ⟨h.row, h.pre, hbs, hss⟩⟩
end Go.Proofs.YtlhkinlgolcpaaaGreatDoor

namespace Go.Proofs.YtlhkinlgolcpaaaGreatDoor
set_option maxRecDepth 100000
open Go.RowKit
theorem equal7 (ao bo : Option Addr) (n m c d : Nat) (la lb : List Int) (w : World) (ha : Sl w ao n c la) (hb : Sl w bo m d lb) :
  Calls Tryz.prog 89 #[.slice ao n c, .slice bo m d] w fun e w' => e = .returned (.bool (decide (la = lb))) ∧ w' = w := by
 have h1 := conv_sl ha
 have h2 := conv_sl hb
 have h3 := str_beq ha.wf hb.wf
 clear ha hb
 go_enter Tryz.func89, Tryz.ntmps89
 go_wp2
 go_ret
 exact ⟨rfl, rfl⟩
theorem chk_rs {k p : Int} : ∀ {pr : Option (List Int)} {cs : List Cl}, chk k p pr cs = 0 → Rs cs
 | _, [], _ => List.Pairwise.nil
 | pr, e :: r, h => by
  unfold chk at h
  split at h
  ·split at h
   ·exact List.Pairwise.cons (fun d hd => chk_first h d hd) (chk_rs h)
   ·simp at h
  ·simp at h
theorem chk_fit {k : Int} {n : Nat} {pr : Option (List Int)} {cs : List Cl} (h : chk k n pr cs = 0) (hn : pw n) : ∀ c ∈ cs, c.fit := fun c hc => (chk_may h c hc).fit (by have := pw_nat hn; omega)
end Go.Proofs.YtlhkinlgolcpaaaGreatDoor

namespace Go.Proofs.YtlhkinlgolcpaaaGreatDoor
set_option maxRecDepth 100000
open Go.RowKit
theorem hasPrefix_any (ao bo : Option Addr) (n m c d : Nat) (la lb : List Int) (w : World) (ha : Sl w ao n c la) (hb : Sl w bo m d lb) :
  Calls Tryz.prog 218 #[.slice ao n c, .slice bo m d] w fun e w' => e = .returned (.bool (decide (la.take lb.length = lb))) ∧ w' = w := by
 have h1 := ha.hlen
 have h2 := hb.hlen
 have h3 := ha.hcap
 by_cases hle : m ≤ n
 ·have HE := hidden (equal7 ao bo m m c d (la.take m) lb w (ha.take m hle) hb)
  have hmI : (m : Int) ≤ (n : Int) := by omega
  have hmc : m ≤ c := by omega
  have hmcI : (m : Int) ≤ (c : Int) := by omega
  rw [h2]
  generalize decide (la.take m = lb) = bb at *
  clear ha hb
  go_enter Tryz.func218, Tryz.ntmps218
  go_wp2_with (first | (go_at_call 89; refine same_call HE.out ?_))
  go_ret
  exact ⟨rfl, rfl⟩
 ·have hmI : ¬ (m : Int) ≤ (n : Int) := by omega
  have hd : decide (la.take lb.length = lb) = false := decide_eq_false (by
   intro h
   have := congrArg List.length h
   rw [List.length_take] at this
   omega)
  rw [hd]
  clear ha hb
  go_enter Tryz.func218, Tryz.ntmps218
  go_wp2
  go_ret
  exact ⟨rfl, rfl⟩
set_option maxHeartbeats 1000000 in
theorem cut_row (ao bo : Option Addr) (n m c d : Nat) (la lb : List Int) (w : World) (ha : Sl w ao n c la) (hb : Sl w bo m d lb) : ∃ (ro : Option Addr) (rn rc : Nat) (b : Bool), b = decide (la.take lb.length = lb) ∧ Sl w ro rn rc (if b then la.drop lb.length else la) ∧
  ∀ u, Below w.heap.size w u → Calls Tryz.prog 212 #[.slice ao n c, .slice bo m d] u fun e w' => e = .returned (.tuple #[.slice ro rn rc, .bool b]) ∧ w' = u := by
 have h1 := ha.hlen
 have h2 := hb.hlen
 have h3 := ha.hcap
 have HP := hidden (fun u (hu : Below w.heap.size w u) => hasPrefix_any ao bo n m c d la lb u (ha.on (Nat.le_refl _) hu) (hb.on (Nat.le_refl _) hu))
 cases hd : decide (la.take lb.length = lb) with
 | false =>
  rw [hd] at HP
  refine ⟨ao, n, c, false, rfl, by simpa using ha, fun u hu => ?_⟩
  have HQ := hidden (HP.out u hu)
  clear ha hb HP hu
  go_enter Tryz.func212, Tryz.ntmps212
  go_wp2_with (first | (go_at_call 218; refine same_call HQ.out ?_))
  go_ret2
  exact ⟨rfl, rfl⟩
 | true =>
  rw [hd] at HP
  have hmn : m ≤ n := by
   have := congrArg List.length (show la.take lb.length = lb by simpa using hd)
   rw [List.length_take] at this
   omega
  have hmc : m ≤ c := by omega
  have hmcI : (m : Int) ≤ (c : Int) := by omega
  have hmnI : (m : Int) ≤ (n : Int) := by omega
  rw [h2]
  rcases sl_from ha m hmn with ⟨rfl, rfl, rfl⟩ | ⟨a, rfl, ⟨hcn, hs⟩ | ⟨hcn, hs⟩⟩
  ·obtain rfl : m = 0 := by omega
   refine ⟨none, 0, 0, true, rfl, by simpa using ha, fun u hu => ?_⟩
   have HQ := hidden (HP.out u hu)
   clear ha hb HP hu
   go_enter Tryz.func212, Tryz.ntmps212
   go_wp2_with (first | (go_at_call 218; refine same_call HQ.out ?_))
   go_ret2
   exact ⟨rfl, rfl⟩
  ·subst hcn
   obtain rfl : n = c := by omega
   refine ⟨some a, n - n, n - n, true, rfl, by simpa using hs, fun u hu => ?_⟩
   have HQ := hidden (HP.out u hu)
   clear ha hb HP hu hs
   go_enter Tryz.func212, Tryz.ntmps212
   go_wp2_with (first | (go_at_call 218; refine same_call HQ.out ?_))
   go_ret2
   exact ⟨by simp, rfl⟩
  ·have hcn2 : c - m ≠ 0 := by omega
   have hcn3 : m < c := by omega
   have hcn4 : (m : Int) < (c : Int) := by omega
   refine ⟨some (a.add m), n - m, c - m, true, rfl, by simpa using hs, fun u hu => ?_⟩
   have HQ := hidden (HP.out u hu)
   clear ha hb HP hu hs
   go_enter Tryz.func212, Tryz.ntmps212
   go_wp2_with (first | (go_at_call 218; refine same_call HQ.out ?_))
   go_ret2
   exact ⟨by simp, rfl⟩
end Go.Proofs.YtlhkinlgolcpaaaGreatDoor

namespace Go.Proofs.YtlhkinlgolcpaaaGreatDoor
set_option maxRecDepth 100000
open Go.RowKit
structure Ag (w : World) (a b1 b2 b3 b4 : Nat) (qo : Option Addr) (qn qc : Nat) (ro : Option Addr) (rn rc : Nat) (b : Bool) (P q : List Int) : Prop where
 c1 : w.cell? ⟨b1, 0, none⟩ = some (.pointer (some ⟨a, 0, none⟩))
 c2 : w.cell? ⟨b2, 0, none⟩ = some (.slice qo qn qc)
 c3 : w.cell? ⟨b3, 0, none⟩ = some (.bool b)
 c4 : w.cell? ⟨b4, 0, none⟩ = some (.slice ro rn rc)
 l1 : b1 < w.heap.size
 l2 : b2 < w.heap.size
 l3 : b3 < w.heap.size
 l4 : b4 < w.heap.size
 hq : Sl w qo qn qc q
 hr : Sl w ro rn rc (if b then q.drop P.length else q)
 hb : b = decide (q.take P.length = P)
end Go.Proofs.YtlhkinlgolcpaaaGreatDoor
