import Derived.Test.YtbkhjeacmmbabaaGreatDoorJ07
import Derived.Deep.DeepCutAuto
import Derived.Deep.CutRange
import Derived.Deep.RegionHeld
namespace Go.Proofs.YtbkhjeacmmbabaaGreatDoor
set_option maxRecDepth 100000
open Go.RowKit
theorem zT {P : Program} {ops : Array Oper} {Q : Exit → Act → World → Prop} {md : Region.Mode} {S : World → Prop} (i : Nat) {oi : Oper} (v : Value) {fuel : Nat} {listed : Array Bool} {a : Act} {w : World} (hi : ops[i]? = some oi) (hv : ∀ w, S w → (execOp a.eval oi).run P w = .ok (.value v) w) (h : wpAnyH P md ops Q S fuel (listed.setIfInBounds i true) (a.put oi.dst v) w) (hQ : ∀ c a w, Q (.panic c) (a.put oi.dst v) w → Q (.panic c) a w := by exact fun _ _ _ h => h) (hs : Region.noSelect ops = true := by kernel_rfl) (hf : Region.free md ops listed i = true := by kernel_rfl) (hr : (Region.ready md ops listed).contains i = true := by kernel_rfl) (hw : Region.wanted oi (yielded ops a.tmps) = true := by rfl) (hS : S w := by assumption) : wpAnyH P md ops Q S (fuel + 1) listed a w := wpAnyH_take hi hs hf hr hQ (Or.inl ⟨hw, hv⟩) hS h
theorem zU {P : Program} {ops : Array Oper} {Q : Exit → Act → World → Prop} {md : Region.Mode} {S : World → Prop} (i : Nat) {oi : Oper} {fuel : Nat} {listed : Array Bool} {a : Act} {w : World} (hi : ops[i]? = some oi) (h : wpAnyH P md ops Q S fuel (listed.setIfInBounds i true) (a.put oi.dst undef) w) (hQ : ∀ c a w, Q (.panic c) (a.put oi.dst undef) w → Q (.panic c) a w := by exact fun _ _ _ h => h) (hs : Region.noSelect ops = true := by kernel_rfl) (hf : Region.free md ops listed i = true := by kernel_rfl) (hr : (Region.ready md ops listed).contains i = true := by kernel_rfl) (hw : Region.wanted oi (yielded ops a.tmps) = false := by rfl) (hS : S w := by assumption) : wpAnyH P md ops Q S (fuel + 1) listed a w := wpAnyH_take hi hs hf hr hQ (Or.inr ⟨hw, rfl⟩) hS h
def Cn (_ : Nat) (p : Prop) : Prop := p
theorem zCi (k : Nat) {p : Prop} (h : Cn k p) : p := h
theorem zCo {k : Nat} {p : Prop} (h : p) : Cn k p := h
theorem zTc {P : Program} {ops : Array Oper} {Q : Exit → Act → World → Prop} {md : Region.Mode} {S : World → Prop} {i : Nat} {oi : Oper} (v : Value) {fuel : Nat} {listed : Array Bool} {a : Act} {w : World} (hi : ops[i]? = some oi) (hv : ∀ w, S w → (execOp a.eval oi).run P w = .ok (.value v) w) (h : Cn (i + 1) (wpAnyH P md ops Q S fuel (listed.setIfInBounds i true) (a.put oi.dst v) w)) (hQ : ∀ c a w, Q (.panic c) (a.put oi.dst v) w → Q (.panic c) a w := by exact fun _ _ _ h => h) (hs : Region.noSelect ops = true := by kernel_rfl) (hf : Region.free md ops listed i = true := by kernel_rfl) (hr : (Region.ready md ops listed).contains i = true := by kernel_rfl) (hw : Region.wanted oi (yielded ops a.tmps) = true := by rfl) (hS : S w := by assumption) : Cn i (wpAnyH P md ops Q S (fuel + 1) listed a w) := zT i v hi hv h hQ hs hf hr hw hS
theorem zUc {P : Program} {ops : Array Oper} {Q : Exit → Act → World → Prop} {md : Region.Mode} {S : World → Prop} {i : Nat} {oi : Oper} {fuel : Nat} {listed : Array Bool} {a : Act} {w : World} (hi : ops[i]? = some oi) (h : Cn (i + 1) (wpAnyH P md ops Q S fuel (listed.setIfInBounds i true) (a.put oi.dst undef) w)) (hQ : ∀ c a w, Q (.panic c) (a.put oi.dst undef) w → Q (.panic c) a w := by exact fun _ _ _ h => h) (hs : Region.noSelect ops = true := by kernel_rfl) (hf : Region.free md ops listed i = true := by kernel_rfl) (hr : (Region.ready md ops listed).contains i = true := by kernel_rfl) (hw : Region.wanted oi (yielded ops a.tmps) = false := by rfl) (hS : S w := by assumption) : Cn i (wpAnyH P md ops Q S (fuel + 1) listed a w) := zU i hi h hQ hs hf hr hw hS
theorem zV {P : Program} {ops : Array Oper} {Q : Exit → Act → World → Prop} {md : Region.Mode} {S : World → Prop} {fuel : Nat} {listed : Array Bool} {a : Act} {w : World} {i : Nat} {o : Oper} (ho : ops[i]? = some o) (h : ∀ K' : Act → World → Prop, Shut (∀ a w, S w → (S w → wpAnyH P md ops Q S fuel (listed.setIfInBounds i true) a w) → K' a w) → if Region.wanted o (yielded ops a.tmps) = true then Oper.wp P o a w K' Q else K' (a.put o.dst undef) w) : AllReadyH P md ops Q S fuel listed a w [i] := AllReadyH.cons ho h AllReadyH.nil
theorem zY {P : Program} {ops : Array Oper} {Q : Exit → Act → World → Prop} {md : Region.Mode} {S : World → Prop} {fuel : Nat} {listed : Array Bool} {a : Act} {w : World} {i : Nat} {o : Oper} (ho : ops[i]? = some o) (h : ∀ K' : Act → World → Prop, Shut (∀ a w, S w → (S w → wpAnyH P md ops Q S fuel (listed.setIfInBounds i true) a w) → K' a w) → if Region.wanted o (yielded ops a.tmps) = true then Oper.wp P o a w K' Q else K' (a.put o.dst undef) w) (hr : Region.ready md ops listed = [i] := by kernel_rfl) : wpAnyH P md ops Q S (fuel + 1) listed a w := wpAnyH_ready hr zv (zV ho h)
theorem Pt.cell {w u v : World} {a rr : Nat} {k : Int} {n gb bn : Nat} {body : List Int} {vs : Value} {st : List Nat} {p q : Nat} (h : Pt w u a rr k n gb bn body vs st p) (hc : Cf (· = rr) u v) (hr : Rd v rr (some ⟨gb, 0, none⟩) bn bn q false) (hq : q ≤ bn) : Pt w v a rr k n gb bn body vs st q := by
 obtain ⟨t1, t2, t3, t4, t5, t6⟩ := h.types
 refine ⟨h.row.cf hc t2, h.bk.cf hc t3, hr, h.own.cf hc t6, ?_, hq, h.hr⟩
 refine h.cf.trans hc ?_
 intro i hi e
 have := h.hr
 omega
theorem Pt.on {w u v : World} {a rr : Nat} {k : Int} {n gb bn : Nat} {body : List Int} {vs : Value} {st : List Nat} {p : Nat} (h : Pt w u a rr k n gb bn body vs st p) (hb : Below u.heap.size u v) : Pt w v a rr k n gb bn body vs st p :=
 ⟨zag h.row hb, h.bk.on hb, zag h.rd hb, h.own.below hb, h.cf.go (Cf.of_below hb), h.hp, h.hr⟩
theorem Sl.same {w w' : World} {ao : Option Addr} {n cap : Nat} {l : List Int} {g : Nat} (h : Sl w ao n cap l) (hl : ∀ x, ao = some x → x.block = g) (hs : w.heap.size ≤ w'.heap.size) (hb : w'.heap[g]? = w.heap[g]?) : Sl w' ao n cap l := by
 refine ⟨h.hlen, h.hcap, h.hroom, h.wf, h.hnil, ?_⟩
 rcases h.hat with h0 | ⟨b, off, e, B, hc⟩
 ·exact .inl h0
 ·have A : b = g := hl _ e
  refine .inr ⟨b, off, e, zq, fun i hi => ?_⟩
  rw [← hc i hi]
  exact World.cell?_of_block (by rw [A]; exact hb)
def LK (u : World) (lo : Option Addr) (ln lc gb : Nat) (cs : List Cl) : Prop := cs = [] ∨ ∃ q, prv cs = some q ∧ Sl u lo ln lc q ∧ ∀ x, lo = some x → x.block = gb
theorem LK.mv {u u' : World} {lo : Option Addr} {ln lc gb : Nat} {cs : List Cl} {body : List Int} (h : LK u lo ln lc gb cs) (h1 : Bk u gb body) (h2 : Bk u' gb body) (hs : u.heap.size ≤ u'.heap.size) : LK u' lo ln lc gb cs := by
 rcases h with h | ⟨q, e, hq, hl⟩
 ·exact .inl h
 ·exact .inr ⟨q, e, hq.same hl hs (h2.trans h1.symm), hl⟩
set_option maxHeartbeats 2000000 in
theorem parted_any (m : Nat) (w : World) (a : Nat) (k : Int) (n gb bn : Nat) (body : List Int) (v0 : Value) (F : PR w a k n (.slice (some ⟨gb, 0, none⟩) bn bn) v0) (C2 : Bk w gb body) (C3 : body.length = bn) (C4 : Wf body) (hn : pw n) (G8 : bn ≤ 65536) (hm : m ≤ 65536) :
  Calls Tryz.prog 122 #[.pointer (some ⟨a, 0, none⟩), .int .i64 (m : Int)] w fun e w' => PartTo m w a k n gb bn body e w' := by
 obtain ⟨i0, hi, F2, F3, F4⟩ := info_parts infoI
 have G9 := zas hn
 have A6 := zaa F
 have B5 := zaa C2
 have C6 := zaa C4
 have P := zaa C3
 obtain ⟨c0, c1, c2, c3⟩ := F.cells
 clear F C2 C4 C3 hn
 go_enter Tryz.func122, Tryz.ntmps122
 go_wp2_with (at_make; refine wpList_make_own _ rfl _ _ 116 rfl w.heap.size 3 i0 (.int .i64 0) 1 Tryz.underlying116 hi F2 F3 .i64 .i64 _ m rfl rfl rfl (by rw [F4]; omega) zml zv ?_; refine Hid.out ?_)
 apply zaa
 obtain ⟨rr, Y⟩ : ∃ rr, w.heap.size = rr := ⟨_, rfl⟩
 obtain ⟨u, hu⟩ : ∃ u, w.alloc (.cells #[.slice (some ⟨gb, 0, none⟩) bn bn, .int .i64 0, .bool false] 151) = u := ⟨_, rfl⟩
 have C7 : u.heap.size = rr + 1 := by rw [← hu, ← Y]; simp
 have Z : Below w.heap.size w u := by rw [← hu]; exact zab Br Lr _
 have L : Hid (Rd u rr (some ⟨gb, 0, none⟩) bn bn 0 false) := by rw [← hu, ← Y]; exact zaa (heap_alloc_last w _)
 have B6 : Hid (PR u a k n (.slice (some ⟨gb, 0, none⟩) bn bn) v0) := zaa (zag A6.out Z)
 have C8 : Hid (Bk u gb body) := zaa (B5.out.on Z)
 have C9 := zaa Z
 rw [hu, Y]
 intro w1 H I
 have Q : Below u.heap.size u w1 := Br.grown I Lr (fun k hk => by cases hk)
 have O : Hid (PR w1 a k n (.slice (some ⟨gb, 0, none⟩) bn bn) v0) := zaa (zag B6.out Q)
 obtain ⟨f0, f1, f2, f3⟩ := O.out.cells
 have e4 := O.out.free 3
 have A : Hid (Pt w (w1.setCell ⟨a, 3, none⟩ (.slice (some ⟨rr + 1, 0, none⟩) 0 m)) a rr k n gb bn body (.slice (some ⟨rr + 1, 0, none⟩) 0 m) [] 0) := by
  have hc := Cf.set w1 a 3 (.slice (some ⟨rr + 1, 0, none⟩) 0 m)
  have hb' : Bk w1 gb body := C8.out.on Q
  have hr' : Rd w1 rr (some ⟨gb, 0, none⟩) bn bn 0 false := zag L.out Q
  have F := O.out
  have o1 : OwnN w1 w.heap.size (.slice (some ⟨rr + 1, 0, none⟩) 0 m) [] := by rw [Y]; first | exact H | (rw [C7] at H; exact H)
  unfold PR at F
  have n1 : ¬ gb = a := by rintro rfl; unfold Bk at hb'; rw [F] at hb'; simp at hb'
  have n2 : ¬ rr = a := by rintro rfl; unfold Rd at hr'; rw [F] at hr'; simp at hr'
  exact zaa ⟨O.out.set3 _, hb'.cf hc n1, hr'.cf hc n2, o1.cf hc (o1.apart F zd), ((Cf.of_below C9.out).go (Cf.of_below (Q.mono C9.out.size |> fun h => ⟨h.os, h.tape, h.output, h.size, fun i hi => Q.block i hi⟩))).go hc, Nat.zero_le _, Y.symm⟩
 have G := zaa (Pw.start k n m body)
 clear H I Q B6 C8 L O c0 c1 c2 c3 hu C7 Z A6 B5
 go_wp2_with fail
 clear f0 f1 f2 f3 e4
 go_loopw [20, 6] (fun i lst wr => ∃ (j : Nat) (lo : Option Addr) (ln lc : Nat) (so : Option Addr) (sn sc : Nat) (cs : List Cl) (p : Nat), j ≤ m ∧ i = .int .i64 j ∧ lst = .slice lo ln lc ∧ Hid (Pt w wr a rr k n gb bn body (.slice so sn sc) (sts 0 cs) p) ∧ Hid (Pw k n m body cs j p) ∧ Hid (LK wr lo ln lc gb cs)) (fun i _ _ => m - (intOf i).toNat)
 case atStart => exact ⟨0, none, 0, 0, some ⟨rr + 1, 0, none⟩, 0, m, [], 0, zq, rfl, rfl, A, G, .inl rfl⟩
 case round =>
  clear A G
  obtain ⟨j, lo, ln, lc, so, sn, sc, cs, p, hj, rfl, rfl, A, G, D0⟩ := hrel
  have bj : (j : Int) ≤ 65536 := zq
  have bm : (m : Int) ≤ 65536 := zq
  by_cases A9 : j < m
  ·have G7 : (j : Int) < (m : Int) := zq
   obtain ⟨c0, c1, c2, c3⟩ := A.out.row.cells
   have r0 := A.out.rd.c0
   have r1 := A.out.rd.c1
   have r2 := A.out.rd.c2
   have HL : Hid ((sts 0 cs).length + 1 ≤ 1000000) := zaa (by rw [zak, G.out.len]; omega)
   have F5 : w.heap.size ≤ wr.heap.size := A.out.cf.size
   have c3a := fun o => (A.out.on (zab (Below.refl _ wr) Lr o)).row.cells.2.2.2
   go_upto_region 7 with fail
   go_cut [] from 23 to 33 (fun u1 => ∃ so1 sn1 sc1, Hid (Pt w u1 a rr k n gb bn body (.slice so1 sn1 sc1) (sts 0 cs ++ [p]) p) ∧ Hid (wr.heap.size ≤ u1.heap.size))
   case first =>
    go_wp2_with fail
    go_region_law (first | (refine step_appN rfl (.tmp 27) (.tmp 30) rfl w.heap.size (sts 0 cs) p (.slice so sn sc) wr.heap.size rfl rfl (A.out.own.below (by first | exact zab Br Lr _ | exact (zab Br Lr _).drew | exact zac (zab Br Lr _) _)) zv HL.out zso ?_; intro v1 w1 H I; obtain ⟨so1, sc1, rfl, _⟩ := H.sln (by rw [zG]; have := HL.out; simp; omega); have D := zaa (A.out.put (by first | exact zab Br Lr _ | exact (zab Br Lr _).drew | exact zac (zab Br Lr _) _) H I); have A0 : Hid (wr.heap.size ≤ w1.heap.size) := zaa (zN zv I.grow.size); obtain ⟨x0, x1, x2, x3⟩ := (A.out.row_gr (by first | exact zab Br Lr _ | exact (zab Br Lr _).drew | exact zac (zab Br Lr _) _) I).cells; have x4 := (A.out.row_gr (by first | exact zab Br Lr _ | exact (zab Br Lr _).drew | exact zac (zab Br Lr _) _) I).free 3; clear H I))
    all_goals (try go_wp2_with fail)
    all_goals go_meet
    all_goals exact ⟨so1, _, sc1, by simpa using D, zaa (by simpa [World.setCell] using A0.out)⟩
   obtain ⟨so1, sn1, sc1, D, A0⟩ := hcut
   have B7 : Hid (LK wc lo ln lc gb cs) := zaa (D0.out.mv A.out.bk D.out.bk A0.out)
   clear c0 c1 c2 c3 r0 r1 r2 HL F5 c3a D0 A0 A
   obtain ⟨u1, F6⟩ : ∃ u1, u1 = wc := ⟨_, rfl⟩
   subst F6
   have D3 := zaa (cell_any body u1 rr gb 0 bn bn p false D.out.rd (D.out.bk.sl P.out C6.out zq) D.out.hp)
   go_wp2_with (go_at_call 120; refine D3.out.mono ?_; rintro e w2 ⟨ko, kn, kc, kd, vo, vn, vc, pg, ct, q, en, key, val, rfl, L, R, HQ⟩; refine Hid.out ?_)
   apply zaa
   clear D3
   go_upto_region 9 with fail
   obtain ⟨A1, A2, B8, hq, A7⟩ := HQ.out
   have D4 := zaa A1
   have F7 := zaa A2
   have E8 := A1.hroom
   have E9 := A2.hroom
   have D5 := zaa A1.hlen
   have D7 := zaa A2.hlen
   have F0 := zaa B8
   have W := zaa A7
   clear HQ A1 A2 B8 A7
   obtain ⟨t1, t2, t3, t4, t5, t6⟩ := D.out.types
   have X : Hid (PR w2 a k n (.slice (some ⟨gb, 0, none⟩) bn bn) (.slice so1 sn1 sc1)) := zaa (D.out.row.cf R.out t2)
   have U : Hid (Bk w2 gb body) := zaa (D.out.bk.cf R.out t3)
   have B9 : Hid (LK w2 lo ln lc gb cs) := zaa (B7.out.mv D.out.bk U.out R.out.size)
   clear t1 t2 t3 t4 t5 t6 B7
   obtain ⟨x, hx⟩ : ∃ x, w2.alloc (.cells #[.slice ko kn kc, .int .i64 kd, .slice vo vn vc, .int .i64 pg, .int .i64 ct] 50) = x := ⟨_, rfl⟩
   have M : Below w2.heap.size w2 x := by rw [← hx]; exact zab Br Lr _
   obtain ⟨g8, B0⟩ : ∃ g8, w2.heap.size = g8 := ⟨_, rfl⟩
   have B1 : Hid (C5 x g8 (.slice ko kn kc) (.int .i64 kd) (.slice vo vn vc) (.int .i64 pg) (.int .i64 ct)) := by rw [← hx, ← B0]; exact zaa (C5.box _ _ _ _ _ _)
   rw [hx, B0]
   have A3 := zaa M
   obtain ⟨c0, c1, c2, c3⟩ := (show PR x a k n (.slice (some ⟨gb, 0, none⟩) bn bn) (.slice so1 sn1 sc1) from zag X.out M).cells
   obtain ⟨z0, z1, z2, z3, z4⟩ := B1.out.cells
   have r2 := (show Rd x rr (some ⟨gb, 0, none⟩) bn bn q en from zag L.out M).c2
   have B2 : Hid (Sl x ko kn kc key) := zaa (D4.out.on Lr M)
   have C0 : Hid (LK x lo ln lc gb cs) := zaa (B9.out.mv U.out (U.out.on M) M.size)
   clear hx M B0
   go_cut [60] from 35 to 60 (fun v u2 => ∃ bb : Bool, v = .bool bb ∧ Hid (bb = true ↔ (en = true ∨ ¬ (mayN k n kn kd vn pg ct ∧ zap (prv cs) key))) ∧ Hid (Below x.heap.size x u2))
   case first =>
    cases en with
    | true =>
     go_wp2_with fail
     go_quiet (fail)
     go_wp2_with fail
     go_meet
     exact ⟨true, rfl, zaa zv, zaa (zac Br _)⟩
    | false =>
     have A4 := zaa (fun u => mayBe_any k (n : Int) ko kn kc kd vo vn vc pg ct u zq zq E8 E9)
     have J : Hid (∀ y, Below x.heap.size x y → y.cell? ⟨rr, 2, none⟩ = some (.bool false) ∧ y.cell? ⟨a, 0, none⟩ = some (.int .i64 k) ∧ y.cell? ⟨a, 1, none⟩ = some (.int .i64 (n : Int)) ∧ y.cell? ⟨g8, 0, none⟩ = some (.slice ko kn kc) ∧ y.cell? ⟨g8, 1, none⟩ = some (.int .i64 kd) ∧ y.cell? ⟨g8, 2, none⟩ = some (.slice vo vn vc) ∧ y.cell? ⟨g8, 3, none⟩ = some (.int .i64 pg) ∧ y.cell? ⟨g8, 4, none⟩ = some (.int .i64 ct)) := by
      refine zaa fun y hy => ?_
      have h5 : C5 y g8 (.slice ko kn kc) (.int .i64 kd) (.slice vo vn vc) (.int .i64 pg) (.int .i64 ct) := zag B1.out hy
      obtain ⟨e0, e1, e2, e3, e4⟩ := h5.cells
      obtain ⟨d0, d1, d2, d3⟩ := (show PR y a k n (.slice (some ⟨gb, 0, none⟩) bn bn) (.slice so1 sn1 sc1) from zag (zag X.out A3.out) hy).cells
      exact ⟨(show Rd y rr (some ⟨gb, 0, none⟩) bn bn q false from zag (zag L.out A3.out) hy).c2, d0, d1, e0, e1, e2, e3, e4⟩
     cases N : decide (mayN k n kn kd vn pg ct) with
     | false =>
      go_wp2_with fail
      refine wp_region_held_drew (S := (fun u => u.cell? ⟨rr, 2, none⟩ = some (.bool false) ∧ u.cell? ⟨a, 0, none⟩ = some (.int .i64 k) ∧ u.cell? ⟨a, 1, none⟩ = some (.int .i64 (n : Int)) ∧ u.cell? ⟨g8, 0, none⟩ = some (.slice ko kn kc) ∧ u.cell? ⟨g8, 1, none⟩ = some (.int .i64 kd) ∧ u.cell? ⟨g8, 2, none⟩ = some (.slice vo vn vc) ∧ u.cell? ⟨g8, 3, none⟩ = some (.int .i64 pg) ∧ u.cell? ⟨g8, 4, none⟩ = some (.int .i64 ct))) (by kernel_rfl) (J.out _ Br.drew) (fun C => ?_)
      refine zCi 0 ?_
      iterate 12 (refine zTc ?_ rfl ?_ ?_; rotate_left; (· (rintro w ⟨s0, s1, s2, s3, s4, s5, s6, s7⟩; go_simp; try with_reducible rfl)); try simp only [Act.put, zA, zB, zC, zD, zE, zF])
      refine zCo ?_
      refine zY (i := 12) rfl fun K hK => ?_
      go_simp
      go_at_call 71
      refine (A4.out _).mono ?_
      rintro e y ⟨rfl, B⟩
      have E : Hid (Below x.heap.size x y) := zaa (by first | exact B | exact zae Br.drew Lr B | exact zae (zac Br _) Lr B)
      obtain ⟨y0, y1, y2, y3, y4, y5, y6, y7⟩ := J.out y E.out
      clear B
      rw [N]
      dsimp only
      refine hK.out _ _ ⟨y0, y1, y2, y3, y4, y5, y6, y7⟩ (fun C => ?_)
      clear hK K
      try simp only [Act.put, zA, zB, zC, zD, zE, zF]
      refine zCi 13 ?_
      iterate 3 (refine zTc ?_ rfl ?_ ?_; rotate_left; (· (rintro w ⟨s0, s1, s2, s3, s4, s5, s6, s7⟩; go_simp; try with_reducible rfl)); try simp only [Act.put, zA, zB, zC, zD, zE, zF])
      refine zCo ?_
      refine zCi 16 ?_
      iterate 9 (refine zUc rfl ?_; try simp only [Act.put, zA, zB, zC, zD, zE, zF])
      refine zCo ?_
      refine zT 25 ?_ rfl ?_ ?_
      rotate_left
      ·(rintro w ⟨s0, s1, s2, s3, s4, s5, s6, s7⟩; go_simp; try with_reducible rfl)
      try simp only [Act.put, zA, zB, zC, zD, zE, zF]
      refine wpAnyH_done (by kernel_rfl) ?_ _
      try go_wp2_with fail
      go_meet
      exact ⟨true, rfl, zaa (by simp at N; simp [N]), E⟩
     | true =>
      have D8 : mayN k n kn kd vn pg ct := by simpa using N
      by_cases F8 : j = 0
      ·subst F8
       have D9 : cs = [] := List.eq_nil_of_length_eq_zero G.out.len
       have F9 := zaa D9
       clear D9
       go_wp2_with fail
       refine wp_region_held_drew (S := (fun u => u.cell? ⟨rr, 2, none⟩ = some (.bool false) ∧ u.cell? ⟨a, 0, none⟩ = some (.int .i64 k) ∧ u.cell? ⟨a, 1, none⟩ = some (.int .i64 (n : Int)) ∧ u.cell? ⟨g8, 0, none⟩ = some (.slice ko kn kc) ∧ u.cell? ⟨g8, 1, none⟩ = some (.int .i64 kd) ∧ u.cell? ⟨g8, 2, none⟩ = some (.slice vo vn vc) ∧ u.cell? ⟨g8, 3, none⟩ = some (.int .i64 pg) ∧ u.cell? ⟨g8, 4, none⟩ = some (.int .i64 ct))) (by kernel_rfl) (J.out _ Br.drew) (fun C => ?_)
       refine zCi 0 ?_
       iterate 12 (refine zTc ?_ rfl ?_ ?_; rotate_left; (· (rintro w ⟨s0, s1, s2, s3, s4, s5, s6, s7⟩; go_simp; try with_reducible rfl)); try simp only [Act.put, zA, zB, zC, zD, zE, zF])
       refine zCo ?_
       refine zY (i := 12) rfl fun K hK => ?_
       go_simp
       go_at_call 71
       refine (A4.out _).mono ?_
       rintro e y ⟨rfl, B⟩
       have E : Hid (Below x.heap.size x y) := zaa (by first | exact B | exact zae Br.drew Lr B | exact zae (zac Br _) Lr B)
       obtain ⟨y0, y1, y2, y3, y4, y5, y6, y7⟩ := J.out y E.out
       clear B
       rw [N]
       dsimp only
       refine hK.out _ _ ⟨y0, y1, y2, y3, y4, y5, y6, y7⟩ (fun C => ?_)
       clear hK K
       try simp only [Act.put, zA, zB, zC, zD, zE, zF]
       refine zCi 13 ?_
       iterate 6 (refine zTc ?_ rfl ?_ ?_; rotate_left; (· (rintro w ⟨s0, s1, s2, s3, s4, s5, s6, s7⟩; go_simp; try with_reducible rfl)); try simp only [Act.put, zA, zB, zC, zD, zE, zF])
       refine zCo ?_
       refine zCi 19 ?_
       iterate 5 (refine zUc rfl ?_; try simp only [Act.put, zA, zB, zC, zD, zE, zF])
       refine zCo ?_
       refine zCi 24 ?_
       iterate 2 (refine zTc ?_ rfl ?_ ?_; rotate_left; (· (rintro w ⟨s0, s1, s2, s3, s4, s5, s6, s7⟩; go_simp; try with_reducible rfl)); try simp only [Act.put, zA, zB, zC, zD, zE, zF])
       refine zCo ?_
       refine wpAnyH_done (by kernel_rfl) ?_ _
       try go_wp2_with fail
       go_meet
       exact ⟨false, rfl, zaa (by simp [F9.out, prv, zap, D8]), E⟩
      ·have G0 : 0 < (j : Int) := zq
       have G1 : 0 < j := zq
       have dj1 : decide (0 < (j : Int)) = true := decide_eq_true G0
       have dj2 : decide (0 < j) = true := decide_eq_true G1
       have E0 : Hid (∃ ql, prv cs = some ql ∧ ∀ y, Below x.heap.size x y → Sl y lo ln lc ql ∧ Sl y ko kn kc key) := by
        rcases C0.out with h | ⟨ql, e, hs, _⟩
        ·exact absurd G.out.len (by rw [h]; simp; omega)
        ·exact zaa ⟨ql, e, fun y hy => ⟨hs.on Lr hy, B2.out.on Lr hy⟩⟩
       obtain ⟨ql, E1, E2⟩ := E0.out
       have E3 := zaa E1
       have V := zaa E2
       clear E1 E2 E0
       cases T : decide (kl ql key) with
       | true =>
        go_wp2_with fail
        refine wp_region_held_drew (S := (fun u => u.cell? ⟨rr, 2, none⟩ = some (.bool false) ∧ u.cell? ⟨a, 0, none⟩ = some (.int .i64 k) ∧ u.cell? ⟨a, 1, none⟩ = some (.int .i64 (n : Int)) ∧ u.cell? ⟨g8, 0, none⟩ = some (.slice ko kn kc) ∧ u.cell? ⟨g8, 1, none⟩ = some (.int .i64 kd) ∧ u.cell? ⟨g8, 2, none⟩ = some (.slice vo vn vc) ∧ u.cell? ⟨g8, 3, none⟩ = some (.int .i64 pg) ∧ u.cell? ⟨g8, 4, none⟩ = some (.int .i64 ct))) (by kernel_rfl) (J.out _ Br.drew) (fun C => ?_)
        refine zCi 0 ?_
        iterate 12 (refine zTc ?_ rfl ?_ ?_; rotate_left; (· (rintro w ⟨s0, s1, s2, s3, s4, s5, s6, s7⟩; go_simp; try with_reducible rfl)); try simp only [Act.put, zA, zB, zC, zD, zE, zF])
        refine zCo ?_
        refine zY (i := 12) rfl fun K hK => ?_
        go_simp
        go_at_call 71
        refine (A4.out _).mono ?_
        rintro e y ⟨rfl, B⟩
        have E : Hid (Below x.heap.size x y) := zaa (by first | exact B | exact zae Br.drew Lr B | exact zae (zac Br _) Lr B)
        obtain ⟨y0, y1, y2, y3, y4, y5, y6, y7⟩ := J.out y E.out
        clear B
        rw [N]
        dsimp only
        refine hK.out _ _ ⟨y0, y1, y2, y3, y4, y5, y6, y7⟩ (fun C => ?_)
        clear hK K
        try simp only [Act.put, zA, zB, zC, zD, zE, zF]
        refine zCi 13 ?_
        iterate 9 (refine zTc ?_ rfl ?_ ?_; rotate_left; (· (rintro w ⟨s0, s1, s2, s3, s4, s5, s6, s7⟩; go_simp; try with_reducible rfl)); try simp only [Act.put, zA, zB, zC, zD, zE, zF])
        refine zCo ?_
        refine zY (i := 22) rfl fun K hK => ?_
        go_simp
        go_at_call 72
        refine zad (rise_any _ _ _ _ _ _ _ _ _ (V.out _ E.out).1 (V.out _ E.out).2) ?_
        rw [T]
        dsimp only
        refine hK.out _ _ ⟨y0, y1, y2, y3, y4, y5, y6, y7⟩ (fun C => ?_)
        clear hK K
        try simp only [Act.put, zA, zB, zC, zD, zE, zF]
        refine zCi 23 ?_
        iterate 3 (refine zTc ?_ rfl ?_ ?_; rotate_left; (· (rintro w ⟨s0, s1, s2, s3, s4, s5, s6, s7⟩; go_simp; try with_reducible rfl)); try simp only [Act.put, zA, zB, zC, zD, zE, zF])
        refine zCo ?_
        refine wpAnyH_done (by kernel_rfl) ?_ _
        try go_wp2_with fail
        go_meet
        exact ⟨false, rfl, zaa (by simp at T; simp [E3.out, zap, D8, T]), E⟩
       | false =>
        go_wp2_with fail
        refine wp_region_held_drew (S := (fun u => u.cell? ⟨rr, 2, none⟩ = some (.bool false) ∧ u.cell? ⟨a, 0, none⟩ = some (.int .i64 k) ∧ u.cell? ⟨a, 1, none⟩ = some (.int .i64 (n : Int)) ∧ u.cell? ⟨g8, 0, none⟩ = some (.slice ko kn kc) ∧ u.cell? ⟨g8, 1, none⟩ = some (.int .i64 kd) ∧ u.cell? ⟨g8, 2, none⟩ = some (.slice vo vn vc) ∧ u.cell? ⟨g8, 3, none⟩ = some (.int .i64 pg) ∧ u.cell? ⟨g8, 4, none⟩ = some (.int .i64 ct))) (by kernel_rfl) (J.out _ Br.drew) (fun C => ?_)
        refine zCi 0 ?_
        iterate 12 (refine zTc ?_ rfl ?_ ?_; rotate_left; (· (rintro w ⟨s0, s1, s2, s3, s4, s5, s6, s7⟩; go_simp; try with_reducible rfl)); try simp only [Act.put, zA, zB, zC, zD, zE, zF])
        refine zCo ?_
        refine zY (i := 12) rfl fun K hK => ?_
        go_simp
        go_at_call 71
        refine (A4.out _).mono ?_
        rintro e y ⟨rfl, B⟩
        have E : Hid (Below x.heap.size x y) := zaa (by first | exact B | exact zae Br.drew Lr B | exact zae (zac Br _) Lr B)
        obtain ⟨y0, y1, y2, y3, y4, y5, y6, y7⟩ := J.out y E.out
        clear B
        rw [N]
        dsimp only
        refine hK.out _ _ ⟨y0, y1, y2, y3, y4, y5, y6, y7⟩ (fun C => ?_)
        clear hK K
        try simp only [Act.put, zA, zB, zC, zD, zE, zF]
        refine zCi 13 ?_
        iterate 9 (refine zTc ?_ rfl ?_ ?_; rotate_left; (· (rintro w ⟨s0, s1, s2, s3, s4, s5, s6, s7⟩; go_simp; try with_reducible rfl)); try simp only [Act.put, zA, zB, zC, zD, zE, zF])
        refine zCo ?_
        refine zY (i := 22) rfl fun K hK => ?_
        go_simp
        go_at_call 72
        refine zad (rise_any _ _ _ _ _ _ _ _ _ (V.out _ E.out).1 (V.out _ E.out).2) ?_
        rw [T]
        dsimp only
        refine hK.out _ _ ⟨y0, y1, y2, y3, y4, y5, y6, y7⟩ (fun C => ?_)
        clear hK K
        try simp only [Act.put, zA, zB, zC, zD, zE, zF]
        refine zCi 23 ?_
        iterate 3 (refine zTc ?_ rfl ?_ ?_; rotate_left; (· (rintro w ⟨s0, s1, s2, s3, s4, s5, s6, s7⟩; go_simp; try with_reducible rfl)); try simp only [Act.put, zA, zB, zC, zD, zE, zF])
        refine zCo ?_
        refine wpAnyH_done (by kernel_rfl) ?_ _
        try go_wp2_with fail
        go_meet
        exact ⟨true, rfl, zaa (by simp at T; simp [E3.out, zap, T]), E⟩
   obtain ⟨bb, rfl, B3, A5⟩ := hcut
   clear c0 c1 c2 c3 z0 z1 z2 z3 z4 r2
   have F1 : Hid (Cf (· = a) w wc) := by
    refine zaa (((D.out.cf.trans R.out ?_).go (Cf.of_below A3.out)).go (Cf.of_below A5.out))
    intro i hi e
    have := D.out.hr
    omega
   cases bb with
   | true =>
    have G2 : Hid (part k n m none body = none) := by
     refine zaa ?_
     rcases W.out with ⟨h1, h2⟩ | ⟨h1, h2⟩
     ·rcases B3.out.1 rfl with h3 | h3
      ·rw [h2] at h3; cases h3
      ·refine G.out.bad A9 h1 ?_
       rw [← mayP_iff]
       simpa only [D5.out, D7.out] using h3
     ·exact G.out.fail A9 h1
    go_wp2
    go_ret
    exact ⟨false, rfl, F1, zaa (.inr ⟨rfl, G2.out⟩)⟩
   | false =>
    have B4 : ¬ (en = true ∨ ¬ (mayN k n kn kd vn pg ct ∧ zap (prv cs) key)) := fun h => by
     have := B3.out.2 h
     cases this
    have G3 : en = false := by
     cases en with
     | true => exact absurd (.inl rfl) B4
     | false => rfl
    subst G3
    have A8 : mayN k n kn kd vn pg ct ∧ zap (prv cs) key := Classical.byContradiction fun h => B4 (.inr h)
    have E4 : Hid (Pw k n m body (cs ++ [⟨key, kd, val, pg, ct⟩]) (j + 1) q ∧ sts 0 (cs ++ [⟨key, kd, val, pg, ct⟩]) = sts 0 cs ++ [p]) := by
     rcases W.out with ⟨h1, h2⟩ | ⟨h1, h2⟩
     ·refine zaa (G.out.next C6.out A9 (by rw [P.out]; exact hq) (by rw [P.out]; exact D.out.hp) h1 ?_)
      rw [← mayP_iff]
      simpa only [D5.out, D7.out] using A8
     ·cases h2
    have G4 : Hid (Pt w wc a rr k n gb bn body (.slice so1 sn1 sc1) (sts 0 (cs ++ [⟨key, kd, val, pg, ct⟩])) q) := by
     rw [E4.out.2]
     exact zaa (((D.out.cell R.out L.out hq).on A3.out).on A5.out)
    have G5 : Hid (LK wc ko kn kc gb (cs ++ [⟨key, kd, val, pg, ct⟩])) := zaa (.inr ⟨key, by simp [prv], B2.out.on Lr A5.out, F0.out⟩)
    have z0 := (show C5 wc g8 (.slice ko kn kc) (.int .i64 kd) (.slice vo vn vc) (.int .i64 pg) (.int .i64 ct) from zag B1.out A5.out).cells.1
    clear B4 A8 B3 W D4 F7 B2 C0 B9 X U L R D
    go_wp2
    go_roundw
    case rel => exact ⟨j + 1, ko, kn, kc, so1, sn1, sc1, _, q, zq, by go_num, rfl, G4, zaa E4.out.1, G5⟩
    case measure => simp [intOf]; omega
  ·obtain rfl : j = m := zq
   have H0 : ¬ (j : Int) < (j : Int) := zq
   obtain ⟨c0, c1, c2, c3⟩ := A.out.row.cells
   have r1 := A.out.rd.c1
   have G6 : p ≤ body.length := by rw [P.out]; exact A.out.hp
   have E5 := G.out.done G6
   have E7 := zaa E5
   have C1 : ∀ q : Nat, Hid (Cf (· = a) w (wr.drewN q)) := fun q => zaa (A.out.cf.go (Cf.drew _ _ _))
   have H1 := A.out.hp
   clear E5
   by_cases he : p = bn
   ·subst he
    go_wp2_with fail
    go_quiet (fail)
    go_wp2
    go_ret
    exact ⟨true, rfl, C1 _, zaa (.inl ⟨rfl, cs, .slice so sn sc, E7.out.1 P.out.symm, (A.out.on (zac Br _)).row, (A.out.on (zac Br _)).own, (A.out.on (zac Br _)).bk⟩)⟩
   ·have d1 : ((p : Int) == (bn : Int)) = false := by rw [beq_eq_false_iff_ne]; omega
    have d2 : ¬ (p : Int) = (bn : Int) := zq
    go_wp2_with fail
    go_quiet (fail)
    go_wp2
    go_ret
    exact ⟨false, rfl, C1 _, zaa (.inr ⟨rfl, E7.out.2 (by rw [P.out]; exact he)⟩)⟩
theorem zW2 {p : Prop} (h : p := by first | exact zab Br Lr _ | exact (zab Br Lr _).drew | exact zac (zab Br Lr _) _) : p := h
end Go.Proofs.YtbkhjeacmmbabaaGreatDoor
