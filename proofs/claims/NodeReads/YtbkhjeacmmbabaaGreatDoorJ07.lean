import Derived.Test.YtbkhjeacmmbabaaGreatDoorJ06
import Derived.Deep.DeepCutAuto
import Derived.Deep.CutRange
import Derived.Deep.RegionHeld
namespace Go.Proofs.YtbkhjeacmmbabaaGreatDoor
set_option maxRecDepth 100000
open Go.RowKit
theorem zT {P : Program} {ops : Array Oper} {Q : Exit → Act → World → Prop} {md : Region.Mode} {S : World → Prop} {i : Nat} {oi : Oper} {v : Value} {fuel : Nat} {listed : Array Bool} {a : Act} {w : World} (hi : ops[i]? = some oi) (hv : ∀ w, S w → (execOp a.eval oi).run P w = .ok (.value v) w) (hQ : ∀ c a w, Q (.panic c) (a.put oi.dst v) w → Q (.panic c) a w) (h : wpAnyH P md ops Q S fuel (listed.setIfInBounds i true) (a.put oi.dst v) w) (hs : Region.noSelect ops = true := by kernel_rfl) (hf : Region.free md ops listed i = true := by kernel_rfl) (hr : (Region.ready md ops listed).contains i = true := by kernel_rfl) (hw : Region.wanted oi (yielded ops a.tmps) = true := by rfl) (hS : S w := by assumption) : wpAnyH P md ops Q S (fuel + 1) listed a w := wpAnyH_take hi hs hf hr hQ (Or.inl ⟨hw, hv⟩) hS h
theorem zU {P : Program} {ops : Array Oper} {Q : Exit → Act → World → Prop} {md : Region.Mode} {S : World → Prop} {i : Nat} {oi : Oper} {fuel : Nat} {listed : Array Bool} {a : Act} {w : World} (hi : ops[i]? = some oi) (hQ : ∀ c a w, Q (.panic c) (a.put oi.dst undef) w → Q (.panic c) a w) (h : wpAnyH P md ops Q S fuel (listed.setIfInBounds i true) (a.put oi.dst undef) w) (hs : Region.noSelect ops = true := by kernel_rfl) (hf : Region.free md ops listed i = true := by kernel_rfl) (hr : (Region.ready md ops listed).contains i = true := by kernel_rfl) (hw : Region.wanted oi (yielded ops a.tmps) = false := by rfl) (hS : S w := by assumption) : wpAnyH P md ops Q S (fuel + 1) listed a w := wpAnyH_take hi hs hf hr hQ (Or.inr ⟨hw, rfl⟩) hS h
theorem zV {P : Program} {ops : Array Oper} {Q : Exit → Act → World → Prop} {md : Region.Mode} {S : World → Prop} {fuel : Nat} {listed : Array Bool} {a : Act} {w : World} {i : Nat} {o : Oper} (ho : ops[i]? = some o) (h : ∀ K' : Act → World → Prop, Shut (∀ a w, S w → (S w → wpAnyH P md ops Q S fuel (listed.setIfInBounds i true) a w) → K' a w) → if Region.wanted o (yielded ops a.tmps) = true then Oper.wp P o a w K' Q else K' (a.put o.dst undef) w) : AllReadyH P md ops Q S fuel listed a w [i] := AllReadyH.cons ho h AllReadyH.nil
theorem zY {P : Program} {ops : Array Oper} {Q : Exit → Act → World → Prop} {md : Region.Mode} {S : World → Prop} {fuel : Nat} {listed : Array Bool} {a : Act} {w : World} {i : Nat} {o : Oper} (ho : ops[i]? = some o) (h : ∀ K' : Act → World → Prop, Shut (∀ a w, S w → (S w → wpAnyH P md ops Q S fuel (listed.setIfInBounds i true) a w) → K' a w) → if Region.wanted o (yielded ops a.tmps) = true then Oper.wp P o a w K' Q else K' (a.put o.dst undef) w) (hr : Region.ready md ops listed = [i] := by kernel_rfl) : wpAnyH P md ops Q S (fuel + 1) listed a w := wpAnyH_ready hr (by simp) (zV ho h)
theorem Pt.cell {w u v : World} {a rr : Nat} {k : Int} {n gb bn : Nat} {body : List Int} {vs : Value} {st : List Nat} {p q : Nat} (h : Pt w u a rr k n gb bn body vs st p) (hc : Cf (· = rr) u v) (hr : Rd v rr (some ⟨gb, 0, none⟩) bn bn q false) (hq : q ≤ bn) : Pt w v a rr k n gb bn body vs st q := by
 obtain ⟨t1, t2, t3, t4, t5, t6⟩ := h.types
 refine ⟨h.row.cf hc t2, h.bk.cf hc t3, hr, h.own.cf hc t6, ?_, hq, h.hr⟩
 refine h.cf.trans hc ?_
 intro i hi e
 have := h.hr
 omega
theorem Pt.on {w u v : World} {a rr : Nat} {k : Int} {n gb bn : Nat} {body : List Int} {vs : Value} {st : List Nat} {p : Nat} (h : Pt w u a rr k n gb bn body vs st p) (hb : Below u.heap.size u v) : Pt w v a rr k n gb bn body vs st p :=
 ⟨zag h.row hb, h.bk.on hb, zag h.rd hb, h.own.below hb, h.cf.go (Cf.of_below hb), h.hp, h.hr⟩
theorem Sl.same {w w' : World} {ao : Option Addr} {n cap : Nat} {l : List Int} {g : Nat} (h : Sl w ao n cap l) (hl : ∀ x, ao = some x → x.block = g) (hs : w.heap.size ≤ w'.heap.size) (hb : w'.heap[g]? = w.heap[g]?) : Sl w' ao n cap l := by
 refine ⟨h.hlen, h.hcap, h.hroom, h.wf, h.hnil, ?_⟩
 rcases h.hat with h0 | ⟨b, off, e, hlt, hc⟩
 ·exact .inl h0
 ·have hbg : b = g := hl _ e
  refine .inr ⟨b, off, e, by omega, fun i hi => ?_⟩
  rw [← hc i hi]
  exact World.cell?_of_block (by rw [hbg]; exact hb)
def LK (u : World) (lo : Option Addr) (ln lc gb : Nat) (cs : List Cl) : Prop := cs = [] ∨ ∃ q, prv cs = some q ∧ Sl u lo ln lc q ∧ ∀ x, lo = some x → x.block = gb
theorem LK.mv {u u' : World} {lo : Option Addr} {ln lc gb : Nat} {cs : List Cl} {body : List Int} (h : LK u lo ln lc gb cs) (h1 : Bk u gb body) (h2 : Bk u' gb body) (hs : u.heap.size ≤ u'.heap.size) : LK u' lo ln lc gb cs := by
 rcases h with h | ⟨q, e, hq, hl⟩
 ·exact .inl h
 ·exact .inr ⟨q, e, hq.same hl hs (h2.trans h1.symm), hl⟩
set_option maxHeartbeats 2000000 in
theorem parted_any (m : Nat) (w : World) (a : Nat) (k : Int) (n gb bn : Nat) (body : List Int) (v0 : Value) (hrow : PR w a k n (.slice (some ⟨gb, 0, none⟩) bn bn) v0) (hbk : Bk w gb body) (hbl : body.length = bn) (hwf : Wf body) (hn : pw n) (hbn : bn ≤ 65536) (hm : m ≤ 65536) :
  Calls Tryz.prog 122 #[.pointer (some ⟨a, 0, none⟩), .int .i64 (m : Int)] w fun e w' => PartTo m w a k n gb bn body e w' := by
 obtain ⟨i0, hi, hz0, hz1, hz2⟩ := info_parts infoI
 have hn2 := zao hn
 have HROW0 := zaa hrow
 have HBK0 := zaa hbk
 have HWF := zaa hwf
 have HBL := zaa hbl
 obtain ⟨c0, c1, c2, c3⟩ := hrow.cells
 clear hrow hbk hwf hbl hn
 go_enter Tryz.func122, Tryz.ntmps122
 go_wp2_with (at_make; refine wpList_make_own _ rfl _ _ 116 rfl w.heap.size 3 i0 (.int .i64 0) 1 Tryz.underlying116 hi hz0 hz1 .i64 .i64 _ m rfl rfl rfl (by rw [hz2]; omega) (by unfold maxLen; omega) (by simp) ?_; refine Hid.out ?_)
 apply zaa
 obtain ⟨rr, hrr⟩ : ∃ rr, w.heap.size = rr := ⟨_, rfl⟩
 obtain ⟨u, hu⟩ : ∃ u, w.alloc (.cells #[.slice (some ⟨gb, 0, none⟩) bn bn, .int .i64 0, .bool false] 151) = u := ⟨_, rfl⟩
 have hus : u.heap.size = rr + 1 := by rw [← hu, ← hrr]; simp
 have hbu : Below w.heap.size w u := by rw [← hu]; exact zad Br Lr _
 have HRD : Hid (Rd u rr (some ⟨gb, 0, none⟩) bn bn 0 false) := by rw [← hu, ← hrr]; exact zaa (heap_alloc_last w _)
 have HROW : Hid (PR u a k n (.slice (some ⟨gb, 0, none⟩) bn bn) v0) := zaa (zag HROW0.out hbu)
 have HBK : Hid (Bk u gb body) := zaa (HBK0.out.on hbu)
 have HBU := zaa hbu
 rw [hu, hrr]
 intro w1 ho1 hg1
 have hb1 : Below u.heap.size u w1 := Br.grown hg1 Lr (fun k hk => by cases hk)
 have HRW1 : Hid (PR w1 a k n (.slice (some ⟨gb, 0, none⟩) bn bn) v0) := zaa (zag HROW.out hb1)
 obtain ⟨f0, f1, f2, f3⟩ := HRW1.out.cells
 have e4 := HRW1.out.free 3
 have HPT : Hid (Pt w (w1.setCell ⟨a, 3, none⟩ (.slice (some ⟨rr + 1, 0, none⟩) 0 m)) a rr k n gb bn body (.slice (some ⟨rr + 1, 0, none⟩) 0 m) [] 0) := by
  have hc := Cf.set w1 a 3 (.slice (some ⟨rr + 1, 0, none⟩) 0 m)
  have hb' : Bk w1 gb body := HBK.out.on hb1
  have hr' : Rd w1 rr (some ⟨gb, 0, none⟩) bn bn 0 false := zag HRD.out hb1
  have hrow := HRW1.out
  have o1 : OwnN w1 w.heap.size (.slice (some ⟨rr + 1, 0, none⟩) 0 m) [] := by rw [hrr]; first | exact ho1 | (rw [hus] at ho1; exact ho1)
  unfold PR at hrow
  have n1 : ¬ gb = a := by rintro rfl; unfold Bk at hb'; rw [hrow] at hb'; simp at hb'
  have n2 : ¬ rr = a := by rintro rfl; unfold Rd at hr'; rw [hrow] at hr'; simp at hr'
  exact zaa ⟨HRW1.out.set3 _, hb'.cf hc n1, hr'.cf hc n2, o1.cf hc (o1.apart hrow (by decide)), ((Cf.of_below HBU.out).go (Cf.of_below (hb1.mono HBU.out.size |> fun h => ⟨h.os, h.tape, h.output, h.size, fun i hi => hb1.block i hi⟩))).go hc, Nat.zero_le _, hrr.symm⟩
 have HPW := zaa (Pw.start k n m body)
 clear ho1 hg1 hb1 HROW HBK HRD HRW1 c0 c1 c2 c3 hu hus hbu HROW0 HBK0
 go_wp2_with fail
 clear f0 f1 f2 f3 e4
 go_loopw [20, 6] (fun i lst wr => ∃ (j : Nat) (lo : Option Addr) (ln lc : Nat) (so : Option Addr) (sn sc : Nat) (cs : List Cl) (p : Nat), j ≤ m ∧ i = .int .i64 j ∧ lst = .slice lo ln lc ∧ Hid (Pt w wr a rr k n gb bn body (.slice so sn sc) (sts 0 cs) p) ∧ Hid (Pw k n m body cs j p) ∧ Hid (LK wr lo ln lc gb cs)) (fun i _ _ => m - (intOf i).toNat)
 case atStart => exact ⟨0, none, 0, 0, some ⟨rr + 1, 0, none⟩, 0, m, [], 0, by omega, rfl, rfl, HPT, HPW, .inl rfl⟩
 case round =>
  clear HPT HPW
  obtain ⟨j, lo, ln, lc, so, sn, sc, cs, p, hj, rfl, rfl, HPT, HPW, HLK⟩ := hrel
  have bj : (j : Int) ≤ 65536 := by omega
  have bm : (m : Int) ≤ 65536 := by omega
  by_cases hlt : j < m
  ·have hltI : (j : Int) < (m : Int) := by omega
   obtain ⟨c0, c1, c2, c3⟩ := HPT.out.row.cells
   have r0 := HPT.out.rd.c0
   have r1 := HPT.out.rd.c1
   have r2 := HPT.out.rd.c2
   have HL : Hid ((sts 0 cs).length + 1 ≤ 1000000) := zaa (by rw [zak, HPW.out.len]; omega)
   have hws : w.heap.size ≤ wr.heap.size := HPT.out.cf.size
   have c3a := fun o => (HPT.out.on (zad (Below.refl _ wr) Lr o)).row.cells.2.2.2
   go_upto_region 7 with fail
   go_cut [] from 23 to 33 (fun u1 => ∃ so1 sn1 sc1, Hid (Pt w u1 a rr k n gb bn body (.slice so1 sn1 sc1) (sts 0 cs ++ [p]) p) ∧ Hid (wr.heap.size ≤ u1.heap.size))
   case first =>
    go_wp2_with fail
    go_region_law (first | (refine step_appN rfl (.tmp 27) (.tmp 30) rfl w.heap.size (sts 0 cs) p (.slice so sn sc) wr.heap.size rfl rfl (HPT.out.own.below (by first | exact zad Br Lr _ | exact (zad Br Lr _).drew | exact zab (zad Br Lr _) _)) (by simp) HL.out (by simp; omega) ?_; intro v1 w1 ho1 hg1; obtain ⟨so1, sc1, rfl, _⟩ := ho1.sln (by rw [zG]; have := HL.out; simp; omega); have HP1 := zaa (HPT.out.put (by first | exact zad Br Lr _ | exact (zad Br Lr _).drew | exact zab (zad Br Lr _) _) ho1 hg1); have HZ1 : Hid (wr.heap.size ≤ w1.heap.size) := zaa (zN (by simp) hg1.grow.size); obtain ⟨x0, x1, x2, x3⟩ := (HPT.out.row_gr (by first | exact zad Br Lr _ | exact (zad Br Lr _).drew | exact zab (zad Br Lr _) _) hg1).cells; have x4 := (HPT.out.row_gr (by first | exact zad Br Lr _ | exact (zad Br Lr _).drew | exact zab (zad Br Lr _) _) hg1).free 3; clear ho1 hg1))
    all_goals (try go_wp2_with fail)
    all_goals go_meet
    all_goals exact ⟨so1, _, sc1, by simpa using HP1, zaa (by simpa [World.setCell] using HZ1.out)⟩
   obtain ⟨so1, sn1, sc1, HP1, HZ1⟩ := hcut
   have HLK1 : Hid (LK wc lo ln lc gb cs) := zaa (HLK.out.mv HPT.out.bk HP1.out.bk HZ1.out)
   clear c0 c1 c2 c3 r0 r1 r2 HL hws c3a HLK HZ1 HPT
   obtain ⟨u1, hu1⟩ : ∃ u1, u1 = wc := ⟨_, rfl⟩
   subst hu1
   have HCL := zaa (cell_any body u1 rr gb 0 bn bn p false HP1.out.rd (HP1.out.bk.sl HBL.out HWF.out (by omega)) HP1.out.hp)
   go_wp2_with (go_at_call 120; refine HCL.out.mono ?_; rintro e w2 ⟨ko, kn, kc, kd, vo, vn, vc, pg, ct, q, en, key, val, rfl, HRD, HCF, HQ⟩; refine Hid.out ?_)
   apply zaa
   clear HCL
   go_upto_region 9 with fail
   obtain ⟨hkS, hvS, hloc, hq, hcase⟩ := HQ.out
   have HKS := zaa hkS
   have HVS := zaa hvS
   have hknr := hkS.hroom
   have hvnr := hvS.hroom
   have HKL := zaa hkS.hlen
   have HVL := zaa hvS.hlen
   have HLOC := zaa hloc
   have HCASE := zaa hcase
   clear HQ hkS hvS hloc hcase
   obtain ⟨t1, t2, t3, t4, t5, t6⟩ := HP1.out.types
   have HROW2 : Hid (PR w2 a k n (.slice (some ⟨gb, 0, none⟩) bn bn) (.slice so1 sn1 sc1)) := zaa (HP1.out.row.cf HCF.out t2)
   have HBK2 : Hid (Bk w2 gb body) := zaa (HP1.out.bk.cf HCF.out t3)
   have HLK2 : Hid (LK w2 lo ln lc gb cs) := zaa (HLK1.out.mv HP1.out.bk HBK2.out HCF.out.size)
   clear t1 t2 t3 t4 t5 t6 HLK1
   obtain ⟨x, hx⟩ : ∃ x, w2.alloc (.cells #[.slice ko kn kc, .int .i64 kd, .slice vo vn vc, .int .i64 pg, .int .i64 ct] 50) = x := ⟨_, rfl⟩
   have hbx : Below w2.heap.size w2 x := by rw [← hx]; exact zad Br Lr _
   obtain ⟨g8, hg8⟩ : ∃ g8, w2.heap.size = g8 := ⟨_, rfl⟩
   have HC5 : Hid (C5 x g8 (.slice ko kn kc) (.int .i64 kd) (.slice vo vn vc) (.int .i64 pg) (.int .i64 ct)) := by rw [← hx, ← hg8]; exact zaa (C5.box _ _ _ _ _ _)
   rw [hx, hg8]
   have HBX := zaa hbx
   obtain ⟨c0, c1, c2, c3⟩ := (show PR x a k n (.slice (some ⟨gb, 0, none⟩) bn bn) (.slice so1 sn1 sc1) from zag HROW2.out hbx).cells
   obtain ⟨z0, z1, z2, z3, z4⟩ := HC5.out.cells
   have r2 := (show Rd x rr (some ⟨gb, 0, none⟩) bn bn q en from zag HRD.out hbx).c2
   have HKX : Hid (Sl x ko kn kc key) := zaa (HKS.out.on Lr hbx)
   have HLKX : Hid (LK x lo ln lc gb cs) := zaa (HLK2.out.mv HBK2.out (HBK2.out.on hbx) hbx.size)
   clear hx hbx hg8
   go_cut [60] from 35 to 60 (fun v u2 => ∃ bb : Bool, v = .bool bb ∧ Hid (bb = true ↔ (en = true ∨ ¬ (mayN k n kn kd vn pg ct ∧ zar (prv cs) key))) ∧ Hid (Below x.heap.size x u2))
   case first =>
    cases en with
    | true =>
     go_wp2_with fail
     go_quiet (fail)
     go_wp2_with fail
     go_meet
     exact ⟨true, rfl, zaa (by simp), zaa (zab Br _)⟩
    | false =>
     have HMB := zaa (fun u => mayBe_any k (n : Int) ko kn kc kd vo vn vc pg ct u (by omega) (by omega) hknr hvnr)
     have HFY : Hid (∀ y, Below x.heap.size x y → y.cell? ⟨rr, 2, none⟩ = some (.bool false) ∧ y.cell? ⟨a, 0, none⟩ = some (.int .i64 k) ∧ y.cell? ⟨a, 1, none⟩ = some (.int .i64 (n : Int)) ∧ y.cell? ⟨g8, 0, none⟩ = some (.slice ko kn kc) ∧ y.cell? ⟨g8, 1, none⟩ = some (.int .i64 kd) ∧ y.cell? ⟨g8, 2, none⟩ = some (.slice vo vn vc) ∧ y.cell? ⟨g8, 3, none⟩ = some (.int .i64 pg) ∧ y.cell? ⟨g8, 4, none⟩ = some (.int .i64 ct)) := by
      refine zaa fun y hy => ?_
      have h5 : C5 y g8 (.slice ko kn kc) (.int .i64 kd) (.slice vo vn vc) (.int .i64 pg) (.int .i64 ct) := zag HC5.out hy
      obtain ⟨e0, e1, e2, e3, e4⟩ := h5.cells
      obtain ⟨d0, d1, d2, d3⟩ := (show PR y a k n (.slice (some ⟨gb, 0, none⟩) bn bn) (.slice so1 sn1 sc1) from zag (zag HROW2.out HBX.out) hy).cells
      exact ⟨(show Rd y rr (some ⟨gb, 0, none⟩) bn bn q false from zag (zag HRD.out HBX.out) hy).c2, d0, d1, e0, e1, e2, e3, e4⟩
     cases hmb : decide (mayN k n kn kd vn pg ct) with
     | false =>
      go_wp2_with fail
      refine wp_region_held_drew (S := (fun u => u.cell? ⟨rr, 2, none⟩ = some (.bool false) ∧ u.cell? ⟨a, 0, none⟩ = some (.int .i64 k) ∧ u.cell? ⟨a, 1, none⟩ = some (.int .i64 (n : Int)) ∧ u.cell? ⟨g8, 0, none⟩ = some (.slice ko kn kc) ∧ u.cell? ⟨g8, 1, none⟩ = some (.int .i64 kd) ∧ u.cell? ⟨g8, 2, none⟩ = some (.slice vo vn vc) ∧ u.cell? ⟨g8, 3, none⟩ = some (.int .i64 pg) ∧ u.cell? ⟨g8, 4, none⟩ = some (.int .i64 ct))) (by kernel_rfl) (HFY.out _ Br.drew) (fun hHeld => ?_)
      refine zT (i := 0) (v := ?_) rfl ?_ (fun _ _ _ h => h) ?_
      rotate_left
      ·(rintro w ⟨s0, s1, s2, s3, s4, s5, s6, s7⟩; go_simp; try with_reducible rfl)
      try simp only [Act.put, zA, zC, zD, zE, zF]
      refine zT (i := 1) (v := ?_) rfl ?_ (fun _ _ _ h => h) ?_
      rotate_left
      ·(rintro w ⟨s0, s1, s2, s3, s4, s5, s6, s7⟩; go_simp; try with_reducible rfl)
      try simp only [Act.put, zA, zB, zC, zD, zE, zF]
      refine zT (i := 2) (v := ?_) rfl ?_ (fun _ _ _ h => h) ?_
      rotate_left
      ·(rintro w ⟨s0, s1, s2, s3, s4, s5, s6, s7⟩; go_simp; try with_reducible rfl)
      try simp only [Act.put, zA, zB, zC, zD, zE, zF]
      refine zT (i := 3) (v := ?_) rfl ?_ (fun _ _ _ h => h) ?_
      rotate_left
      ·(rintro w ⟨s0, s1, s2, s3, s4, s5, s6, s7⟩; go_simp; try with_reducible rfl)
      try simp only [Act.put, zA, zB, zC, zD, zE, zF]
      refine zT (i := 4) (v := ?_) rfl ?_ (fun _ _ _ h => h) ?_
      rotate_left
      ·(rintro w ⟨s0, s1, s2, s3, s4, s5, s6, s7⟩; go_simp; try with_reducible rfl)
      try simp only [Act.put, zA, zB, zC, zD, zE, zF]
      refine zT (i := 5) (v := ?_) rfl ?_ (fun _ _ _ h => h) ?_
      rotate_left
      ·(rintro w ⟨s0, s1, s2, s3, s4, s5, s6, s7⟩; go_simp; try with_reducible rfl)
      try simp only [Act.put, zA, zB, zC, zD, zE, zF]
      refine zT (i := 6) (v := ?_) rfl ?_ (fun _ _ _ h => h) ?_
      rotate_left
      ·(rintro w ⟨s0, s1, s2, s3, s4, s5, s6, s7⟩; go_simp; try with_reducible rfl)
      try simp only [Act.put, zA, zB, zC, zD, zE, zF]
      refine zT (i := 7) (v := ?_) rfl ?_ (fun _ _ _ h => h) ?_
      rotate_left
      ·(rintro w ⟨s0, s1, s2, s3, s4, s5, s6, s7⟩; go_simp; try with_reducible rfl)
      try simp only [Act.put, zA, zB, zC, zD, zE, zF]
      refine zT (i := 8) (v := ?_) rfl ?_ (fun _ _ _ h => h) ?_
      rotate_left
      ·(rintro w ⟨s0, s1, s2, s3, s4, s5, s6, s7⟩; go_simp; try with_reducible rfl)
      try simp only [Act.put, zA, zB, zC, zD, zE, zF]
      refine zT (i := 9) (v := ?_) rfl ?_ (fun _ _ _ h => h) ?_
      rotate_left
      ·(rintro w ⟨s0, s1, s2, s3, s4, s5, s6, s7⟩; go_simp; try with_reducible rfl)
      try simp only [Act.put, zA, zB, zC, zD, zE, zF]
      refine zT (i := 10) (v := ?_) rfl ?_ (fun _ _ _ h => h) ?_
      rotate_left
      ·(rintro w ⟨s0, s1, s2, s3, s4, s5, s6, s7⟩; go_simp; try with_reducible rfl)
      try simp only [Act.put, zA, zB, zC, zD, zE, zF]
      refine zT (i := 11) (v := ?_) rfl ?_ (fun _ _ _ h => h) ?_
      rotate_left
      ·(rintro w ⟨s0, s1, s2, s3, s4, s5, s6, s7⟩; go_simp; try with_reducible rfl)
      try simp only [Act.put, zA, zB, zC, zD, zE, zF]
      refine zY (i := 12) rfl fun K hK => ?_
      go_simp
      go_at_call 71
      refine (HMB.out _).mono ?_
      rintro e y ⟨rfl, hby⟩
      have HXY : Hid (Below x.heap.size x y) := zaa (by first | exact hby | exact zae Br.drew Lr hby | exact zae (zab Br _) Lr hby)
      obtain ⟨y0, y1, y2, y3, y4, y5, y6, y7⟩ := HFY.out y HXY.out
      clear hby
      rw [hmb]
      dsimp only
      refine hK.out _ _ ⟨y0, y1, y2, y3, y4, y5, y6, y7⟩ (fun hHeld => ?_)
      clear hK K
      try simp only [Act.put, zA, zB, zC, zD, zE, zF]
      refine zT (i := 13) (v := ?_) rfl ?_ (fun _ _ _ h => h) ?_
      rotate_left
      ·(rintro w ⟨s0, s1, s2, s3, s4, s5, s6, s7⟩; go_simp; try with_reducible rfl)
      try simp only [Act.put, zA, zB, zC, zD, zE, zF]
      refine zT (i := 14) (v := ?_) rfl ?_ (fun _ _ _ h => h) ?_
      rotate_left
      ·(rintro w ⟨s0, s1, s2, s3, s4, s5, s6, s7⟩; go_simp; try with_reducible rfl)
      try simp only [Act.put, zA, zB, zC, zD, zE, zF]
      refine zT (i := 15) (v := ?_) rfl ?_ (fun _ _ _ h => h) ?_
      rotate_left
      ·(rintro w ⟨s0, s1, s2, s3, s4, s5, s6, s7⟩; go_simp; try with_reducible rfl)
      try simp only [Act.put, zA, zB, zC, zD, zE, zF]
      refine zU (i := 16) rfl (fun _ _ _ h => h) ?_
      try simp only [Act.put, zA, zB, zC, zD, zE, zF]
      refine zU (i := 17) rfl (fun _ _ _ h => h) ?_
      try simp only [Act.put, zA, zB, zC, zD, zE, zF]
      refine zU (i := 18) rfl (fun _ _ _ h => h) ?_
      try simp only [Act.put, zA, zB, zC, zD, zE, zF]
      refine zU (i := 19) rfl (fun _ _ _ h => h) ?_
      try simp only [Act.put, zA, zB, zC, zD, zE, zF]
      refine zU (i := 20) rfl (fun _ _ _ h => h) ?_
      try simp only [Act.put, zA, zB, zC, zD, zE, zF]
      refine zU (i := 21) rfl (fun _ _ _ h => h) ?_
      try simp only [Act.put, zA, zB, zC, zD, zE, zF]
      refine zU (i := 22) rfl (fun _ _ _ h => h) ?_
      try simp only [Act.put, zA, zB, zC, zD, zE, zF]
      refine zU (i := 23) rfl (fun _ _ _ h => h) ?_
      try simp only [Act.put, zA, zB, zC, zD, zE, zF]
      refine zU (i := 24) rfl (fun _ _ _ h => h) ?_
      try simp only [Act.put, zA, zB, zC, zD, zE, zF]
      refine zT (i := 25) (v := ?_) rfl ?_ (fun _ _ _ h => h) ?_
      rotate_left
      ·(rintro w ⟨s0, s1, s2, s3, s4, s5, s6, s7⟩; go_simp; try with_reducible rfl)
      try simp only [Act.put, zA, zB, zC, zD, zE, zF]
      refine wpAnyH_done (by kernel_rfl) ?_ _
      try go_wp2_with fail
      go_meet
      exact ⟨true, rfl, zaa (by simp at hmb; simp [hmb]), HXY⟩
     | true =>
      have hmt : mayN k n kn kd vn pg ct := by simpa using hmb
      by_cases hj0 : j = 0
      ·subst hj0
       have hcs : cs = [] := List.eq_nil_of_length_eq_zero HPW.out.len
       have HCS := zaa hcs
       clear hcs
       go_wp2_with fail
       refine wp_region_held_drew (S := (fun u => u.cell? ⟨rr, 2, none⟩ = some (.bool false) ∧ u.cell? ⟨a, 0, none⟩ = some (.int .i64 k) ∧ u.cell? ⟨a, 1, none⟩ = some (.int .i64 (n : Int)) ∧ u.cell? ⟨g8, 0, none⟩ = some (.slice ko kn kc) ∧ u.cell? ⟨g8, 1, none⟩ = some (.int .i64 kd) ∧ u.cell? ⟨g8, 2, none⟩ = some (.slice vo vn vc) ∧ u.cell? ⟨g8, 3, none⟩ = some (.int .i64 pg) ∧ u.cell? ⟨g8, 4, none⟩ = some (.int .i64 ct))) (by kernel_rfl) (HFY.out _ Br.drew) (fun hHeld => ?_)
       refine zT (i := 0) (v := ?_) rfl ?_ (fun _ _ _ h => h) ?_
       rotate_left
       ·(rintro w ⟨s0, s1, s2, s3, s4, s5, s6, s7⟩; go_simp; try with_reducible rfl)
       try simp only [Act.put, zA, zC, zD, zE, zF]
       refine zT (i := 1) (v := ?_) rfl ?_ (fun _ _ _ h => h) ?_
       rotate_left
       ·(rintro w ⟨s0, s1, s2, s3, s4, s5, s6, s7⟩; go_simp; try with_reducible rfl)
       try simp only [Act.put, zA, zB, zC, zD, zE, zF]
       refine zT (i := 2) (v := ?_) rfl ?_ (fun _ _ _ h => h) ?_
       rotate_left
       ·(rintro w ⟨s0, s1, s2, s3, s4, s5, s6, s7⟩; go_simp; try with_reducible rfl)
       try simp only [Act.put, zA, zB, zC, zD, zE, zF]
       refine zT (i := 3) (v := ?_) rfl ?_ (fun _ _ _ h => h) ?_
       rotate_left
       ·(rintro w ⟨s0, s1, s2, s3, s4, s5, s6, s7⟩; go_simp; try with_reducible rfl)
       try simp only [Act.put, zA, zB, zC, zD, zE, zF]
       refine zT (i := 4) (v := ?_) rfl ?_ (fun _ _ _ h => h) ?_
       rotate_left
       ·(rintro w ⟨s0, s1, s2, s3, s4, s5, s6, s7⟩; go_simp; try with_reducible rfl)
       try simp only [Act.put, zA, zB, zC, zD, zE, zF]
       refine zT (i := 5) (v := ?_) rfl ?_ (fun _ _ _ h => h) ?_
       rotate_left
       ·(rintro w ⟨s0, s1, s2, s3, s4, s5, s6, s7⟩; go_simp; try with_reducible rfl)
       try simp only [Act.put, zA, zB, zC, zD, zE, zF]
       refine zT (i := 6) (v := ?_) rfl ?_ (fun _ _ _ h => h) ?_
       rotate_left
       ·(rintro w ⟨s0, s1, s2, s3, s4, s5, s6, s7⟩; go_simp; try with_reducible rfl)
       try simp only [Act.put, zA, zB, zC, zD, zE, zF]
       refine zT (i := 7) (v := ?_) rfl ?_ (fun _ _ _ h => h) ?_
       rotate_left
       ·(rintro w ⟨s0, s1, s2, s3, s4, s5, s6, s7⟩; go_simp; try with_reducible rfl)
       try simp only [Act.put, zA, zB, zC, zD, zE, zF]
       refine zT (i := 8) (v := ?_) rfl ?_ (fun _ _ _ h => h) ?_
       rotate_left
       ·(rintro w ⟨s0, s1, s2, s3, s4, s5, s6, s7⟩; go_simp; try with_reducible rfl)
       try simp only [Act.put, zA, zB, zC, zD, zE, zF]
       refine zT (i := 9) (v := ?_) rfl ?_ (fun _ _ _ h => h) ?_
       rotate_left
       ·(rintro w ⟨s0, s1, s2, s3, s4, s5, s6, s7⟩; go_simp; try with_reducible rfl)
       try simp only [Act.put, zA, zB, zC, zD, zE, zF]
       refine zT (i := 10) (v := ?_) rfl ?_ (fun _ _ _ h => h) ?_
       rotate_left
       ·(rintro w ⟨s0, s1, s2, s3, s4, s5, s6, s7⟩; go_simp; try with_reducible rfl)
       try simp only [Act.put, zA, zB, zC, zD, zE, zF]
       refine zT (i := 11) (v := ?_) rfl ?_ (fun _ _ _ h => h) ?_
       rotate_left
       ·(rintro w ⟨s0, s1, s2, s3, s4, s5, s6, s7⟩; go_simp; try with_reducible rfl)
       try simp only [Act.put, zA, zB, zC, zD, zE, zF]
       refine zY (i := 12) rfl fun K hK => ?_
       go_simp
       go_at_call 71
       refine (HMB.out _).mono ?_
       rintro e y ⟨rfl, hby⟩
       have HXY : Hid (Below x.heap.size x y) := zaa (by first | exact hby | exact zae Br.drew Lr hby | exact zae (zab Br _) Lr hby)
       obtain ⟨y0, y1, y2, y3, y4, y5, y6, y7⟩ := HFY.out y HXY.out
       clear hby
       rw [hmb]
       dsimp only
       refine hK.out _ _ ⟨y0, y1, y2, y3, y4, y5, y6, y7⟩ (fun hHeld => ?_)
       clear hK K
       try simp only [Act.put, zA, zB, zC, zD, zE, zF]
       refine zT (i := 13) (v := ?_) rfl ?_ (fun _ _ _ h => h) ?_
       rotate_left
       ·(rintro w ⟨s0, s1, s2, s3, s4, s5, s6, s7⟩; go_simp; try with_reducible rfl)
       try simp only [Act.put, zA, zB, zC, zD, zE, zF]
       refine zT (i := 14) (v := ?_) rfl ?_ (fun _ _ _ h => h) ?_
       rotate_left
       ·(rintro w ⟨s0, s1, s2, s3, s4, s5, s6, s7⟩; go_simp; try with_reducible rfl)
       try simp only [Act.put, zA, zB, zC, zD, zE, zF]
       refine zT (i := 15) (v := ?_) rfl ?_ (fun _ _ _ h => h) ?_
       rotate_left
       ·(rintro w ⟨s0, s1, s2, s3, s4, s5, s6, s7⟩; go_simp; try with_reducible rfl)
       try simp only [Act.put, zA, zB, zC, zD, zE, zF]
       refine zT (i := 16) (v := ?_) rfl ?_ (fun _ _ _ h => h) ?_
       rotate_left
       ·(rintro w ⟨s0, s1, s2, s3, s4, s5, s6, s7⟩; go_simp; try with_reducible rfl)
       try simp only [Act.put, zA, zB, zC, zD, zE, zF]
       refine zT (i := 17) (v := ?_) rfl ?_ (fun _ _ _ h => h) ?_
       rotate_left
       ·(rintro w ⟨s0, s1, s2, s3, s4, s5, s6, s7⟩; go_simp; try with_reducible rfl)
       try simp only [Act.put, zA, zB, zC, zD, zE, zF]
       refine zT (i := 18) (v := ?_) rfl ?_ (fun _ _ _ h => h) ?_
       rotate_left
       ·(rintro w ⟨s0, s1, s2, s3, s4, s5, s6, s7⟩; go_simp; try with_reducible rfl)
       try simp only [Act.put, zA, zB, zC, zD, zE, zF]
       refine zU (i := 19) rfl (fun _ _ _ h => h) ?_
       try simp only [Act.put, zA, zB, zC, zD, zE, zF]
       refine zU (i := 20) rfl (fun _ _ _ h => h) ?_
       try simp only [Act.put, zA, zB, zC, zD, zE, zF]
       refine zU (i := 21) rfl (fun _ _ _ h => h) ?_
       try simp only [Act.put, zA, zB, zC, zD, zE, zF]
       refine zU (i := 22) rfl (fun _ _ _ h => h) ?_
       try simp only [Act.put, zA, zB, zC, zD, zE, zF]
       refine zU (i := 23) rfl (fun _ _ _ h => h) ?_
       try simp only [Act.put, zA, zB, zC, zD, zE, zF]
       refine zT (i := 24) (v := ?_) rfl ?_ (fun _ _ _ h => h) ?_
       rotate_left
       ·(rintro w ⟨s0, s1, s2, s3, s4, s5, s6, s7⟩; go_simp; try with_reducible rfl)
       try simp only [Act.put, zA, zB, zC, zD, zE, zF]
       refine zT (i := 25) (v := ?_) rfl ?_ (fun _ _ _ h => h) ?_
       rotate_left
       ·(rintro w ⟨s0, s1, s2, s3, s4, s5, s6, s7⟩; go_simp; try with_reducible rfl)
       try simp only [Act.put, zA, zB, zC, zD, zE, zF]
       refine wpAnyH_done (by kernel_rfl) ?_ _
       try go_wp2_with fail
       go_meet
       exact ⟨false, rfl, zaa (by simp [HCS.out, prv, zar, hmt]), HXY⟩
      ·have hj1 : 0 < (j : Int) := by omega
       have hj2 : 0 < j := by omega
       have dj1 : decide (0 < (j : Int)) = true := decide_eq_true hj1
       have dj2 : decide (0 < j) = true := decide_eq_true hj2
       have HLQ : Hid (∃ ql, prv cs = some ql ∧ ∀ y, Below x.heap.size x y → Sl y lo ln lc ql ∧ Sl y ko kn kc key) := by
        rcases HLKX.out with h | ⟨ql, e, hs, _⟩
        ·exact absurd HPW.out.len (by rw [h]; simp; omega)
        ·exact zaa ⟨ql, e, fun y hy => ⟨hs.on Lr hy, HKX.out.on Lr hy⟩⟩
       obtain ⟨ql, hql, hsl⟩ := HLQ.out
       have HQL := zaa hql
       have HSLY := zaa hsl
       clear hql hsl HLQ
       cases hkb : decide (kl ql key) with
       | true =>
        go_wp2_with fail
        refine wp_region_held_drew (S := (fun u => u.cell? ⟨rr, 2, none⟩ = some (.bool false) ∧ u.cell? ⟨a, 0, none⟩ = some (.int .i64 k) ∧ u.cell? ⟨a, 1, none⟩ = some (.int .i64 (n : Int)) ∧ u.cell? ⟨g8, 0, none⟩ = some (.slice ko kn kc) ∧ u.cell? ⟨g8, 1, none⟩ = some (.int .i64 kd) ∧ u.cell? ⟨g8, 2, none⟩ = some (.slice vo vn vc) ∧ u.cell? ⟨g8, 3, none⟩ = some (.int .i64 pg) ∧ u.cell? ⟨g8, 4, none⟩ = some (.int .i64 ct))) (by kernel_rfl) (HFY.out _ Br.drew) (fun hHeld => ?_)
        refine zT (i := 0) (v := ?_) rfl ?_ (fun _ _ _ h => h) ?_
        rotate_left
        ·(rintro w ⟨s0, s1, s2, s3, s4, s5, s6, s7⟩; go_simp; try with_reducible rfl)
        try simp only [Act.put, zA, zC, zD, zE, zF]
        refine zT (i := 1) (v := ?_) rfl ?_ (fun _ _ _ h => h) ?_
        rotate_left
        ·(rintro w ⟨s0, s1, s2, s3, s4, s5, s6, s7⟩; go_simp; try with_reducible rfl)
        try simp only [Act.put, zA, zB, zC, zD, zE, zF]
        refine zT (i := 2) (v := ?_) rfl ?_ (fun _ _ _ h => h) ?_
        rotate_left
        ·(rintro w ⟨s0, s1, s2, s3, s4, s5, s6, s7⟩; go_simp; try with_reducible rfl)
        try simp only [Act.put, zA, zB, zC, zD, zE, zF]
        refine zT (i := 3) (v := ?_) rfl ?_ (fun _ _ _ h => h) ?_
        rotate_left
        ·(rintro w ⟨s0, s1, s2, s3, s4, s5, s6, s7⟩; go_simp; try with_reducible rfl)
        try simp only [Act.put, zA, zB, zC, zD, zE, zF]
        refine zT (i := 4) (v := ?_) rfl ?_ (fun _ _ _ h => h) ?_
        rotate_left
        ·(rintro w ⟨s0, s1, s2, s3, s4, s5, s6, s7⟩; go_simp; try with_reducible rfl)
        try simp only [Act.put, zA, zB, zC, zD, zE, zF]
        refine zT (i := 5) (v := ?_) rfl ?_ (fun _ _ _ h => h) ?_
        rotate_left
        ·(rintro w ⟨s0, s1, s2, s3, s4, s5, s6, s7⟩; go_simp; try with_reducible rfl)
        try simp only [Act.put, zA, zB, zC, zD, zE, zF]
        refine zT (i := 6) (v := ?_) rfl ?_ (fun _ _ _ h => h) ?_
        rotate_left
        ·(rintro w ⟨s0, s1, s2, s3, s4, s5, s6, s7⟩; go_simp; try with_reducible rfl)
        try simp only [Act.put, zA, zB, zC, zD, zE, zF]
        refine zT (i := 7) (v := ?_) rfl ?_ (fun _ _ _ h => h) ?_
        rotate_left
        ·(rintro w ⟨s0, s1, s2, s3, s4, s5, s6, s7⟩; go_simp; try with_reducible rfl)
        try simp only [Act.put, zA, zB, zC, zD, zE, zF]
        refine zT (i := 8) (v := ?_) rfl ?_ (fun _ _ _ h => h) ?_
        rotate_left
        ·(rintro w ⟨s0, s1, s2, s3, s4, s5, s6, s7⟩; go_simp; try with_reducible rfl)
        try simp only [Act.put, zA, zB, zC, zD, zE, zF]
        refine zT (i := 9) (v := ?_) rfl ?_ (fun _ _ _ h => h) ?_
        rotate_left
        ·(rintro w ⟨s0, s1, s2, s3, s4, s5, s6, s7⟩; go_simp; try with_reducible rfl)
        try simp only [Act.put, zA, zB, zC, zD, zE, zF]
        refine zT (i := 10) (v := ?_) rfl ?_ (fun _ _ _ h => h) ?_
        rotate_left
        ·(rintro w ⟨s0, s1, s2, s3, s4, s5, s6, s7⟩; go_simp; try with_reducible rfl)
        try simp only [Act.put, zA, zB, zC, zD, zE, zF]
        refine zT (i := 11) (v := ?_) rfl ?_ (fun _ _ _ h => h) ?_
        rotate_left
        ·(rintro w ⟨s0, s1, s2, s3, s4, s5, s6, s7⟩; go_simp; try with_reducible rfl)
        try simp only [Act.put, zA, zB, zC, zD, zE, zF]
        refine zY (i := 12) rfl fun K hK => ?_
        go_simp
        go_at_call 71
        refine (HMB.out _).mono ?_
        rintro e y ⟨rfl, hby⟩
        have HXY : Hid (Below x.heap.size x y) := zaa (by first | exact hby | exact zae Br.drew Lr hby | exact zae (zab Br _) Lr hby)
        obtain ⟨y0, y1, y2, y3, y4, y5, y6, y7⟩ := HFY.out y HXY.out
        clear hby
        rw [hmb]
        dsimp only
        refine hK.out _ _ ⟨y0, y1, y2, y3, y4, y5, y6, y7⟩ (fun hHeld => ?_)
        clear hK K
        try simp only [Act.put, zA, zB, zC, zD, zE, zF]
        refine zT (i := 13) (v := ?_) rfl ?_ (fun _ _ _ h => h) ?_
        rotate_left
        ·(rintro w ⟨s0, s1, s2, s3, s4, s5, s6, s7⟩; go_simp; try with_reducible rfl)
        try simp only [Act.put, zA, zB, zC, zD, zE, zF]
        refine zT (i := 14) (v := ?_) rfl ?_ (fun _ _ _ h => h) ?_
        rotate_left
        ·(rintro w ⟨s0, s1, s2, s3, s4, s5, s6, s7⟩; go_simp; try with_reducible rfl)
        try simp only [Act.put, zA, zB, zC, zD, zE, zF]
        refine zT (i := 15) (v := ?_) rfl ?_ (fun _ _ _ h => h) ?_
        rotate_left
        ·(rintro w ⟨s0, s1, s2, s3, s4, s5, s6, s7⟩; go_simp; try with_reducible rfl)
        try simp only [Act.put, zA, zB, zC, zD, zE, zF]
        refine zT (i := 16) (v := ?_) rfl ?_ (fun _ _ _ h => h) ?_
        rotate_left
        ·(rintro w ⟨s0, s1, s2, s3, s4, s5, s6, s7⟩; go_simp; try with_reducible rfl)
        try simp only [Act.put, zA, zB, zC, zD, zE, zF]
        refine zT (i := 17) (v := ?_) rfl ?_ (fun _ _ _ h => h) ?_
        rotate_left
        ·(rintro w ⟨s0, s1, s2, s3, s4, s5, s6, s7⟩; go_simp; try with_reducible rfl)
        try simp only [Act.put, zA, zB, zC, zD, zE, zF]
        refine zT (i := 18) (v := ?_) rfl ?_ (fun _ _ _ h => h) ?_
        rotate_left
        ·(rintro w ⟨s0, s1, s2, s3, s4, s5, s6, s7⟩; go_simp; try with_reducible rfl)
        try simp only [Act.put, zA, zB, zC, zD, zE, zF]
        refine zT (i := 19) (v := ?_) rfl ?_ (fun _ _ _ h => h) ?_
        rotate_left
        ·(rintro w ⟨s0, s1, s2, s3, s4, s5, s6, s7⟩; go_simp; try with_reducible rfl)
        try simp only [Act.put, zA, zB, zC, zD, zE, zF]
        refine zT (i := 20) (v := ?_) rfl ?_ (fun _ _ _ h => h) ?_
        rotate_left
        ·(rintro w ⟨s0, s1, s2, s3, s4, s5, s6, s7⟩; go_simp; try with_reducible rfl)
        try simp only [Act.put, zA, zB, zC, zD, zE, zF]
        refine zT (i := 21) (v := ?_) rfl ?_ (fun _ _ _ h => h) ?_
        rotate_left
        ·(rintro w ⟨s0, s1, s2, s3, s4, s5, s6, s7⟩; go_simp; try with_reducible rfl)
        try simp only [Act.put, zA, zB, zC, zD, zE, zF]
        refine zY (i := 22) rfl fun K hK => ?_
        go_simp
        go_at_call 72
        refine zac (zdh _ _ _ _ _ _ _ _ _ (HSLY.out _ HXY.out).1 (HSLY.out _ HXY.out).2) ?_
        rw [hkb]
        dsimp only
        refine hK.out _ _ ⟨y0, y1, y2, y3, y4, y5, y6, y7⟩ (fun hHeld => ?_)
        clear hK K
        try simp only [Act.put, zA, zB, zC, zD, zE, zF]
        refine zT (i := 23) (v := ?_) rfl ?_ (fun _ _ _ h => h) ?_
        rotate_left
        ·(rintro w ⟨s0, s1, s2, s3, s4, s5, s6, s7⟩; go_simp; try with_reducible rfl)
        try simp only [Act.put, zA, zB, zC, zD, zE, zF]
        refine zT (i := 24) (v := ?_) rfl ?_ (fun _ _ _ h => h) ?_
        rotate_left
        ·(rintro w ⟨s0, s1, s2, s3, s4, s5, s6, s7⟩; go_simp; try with_reducible rfl)
        try simp only [Act.put, zA, zB, zC, zD, zE, zF]
        refine zT (i := 25) (v := ?_) rfl ?_ (fun _ _ _ h => h) ?_
        rotate_left
        ·(rintro w ⟨s0, s1, s2, s3, s4, s5, s6, s7⟩; go_simp; try with_reducible rfl)
        try simp only [Act.put, zA, zB, zC, zD, zE, zF]
        refine wpAnyH_done (by kernel_rfl) ?_ _
        try go_wp2_with fail
        go_meet
        exact ⟨false, rfl, zaa (by simp at hkb; simp [HQL.out, zar, hmt, hkb]), HXY⟩
       | false =>
        go_wp2_with fail
        refine wp_region_held_drew (S := (fun u => u.cell? ⟨rr, 2, none⟩ = some (.bool false) ∧ u.cell? ⟨a, 0, none⟩ = some (.int .i64 k) ∧ u.cell? ⟨a, 1, none⟩ = some (.int .i64 (n : Int)) ∧ u.cell? ⟨g8, 0, none⟩ = some (.slice ko kn kc) ∧ u.cell? ⟨g8, 1, none⟩ = some (.int .i64 kd) ∧ u.cell? ⟨g8, 2, none⟩ = some (.slice vo vn vc) ∧ u.cell? ⟨g8, 3, none⟩ = some (.int .i64 pg) ∧ u.cell? ⟨g8, 4, none⟩ = some (.int .i64 ct))) (by kernel_rfl) (HFY.out _ Br.drew) (fun hHeld => ?_)
        refine zT (i := 0) (v := ?_) rfl ?_ (fun _ _ _ h => h) ?_
        rotate_left
        ·(rintro w ⟨s0, s1, s2, s3, s4, s5, s6, s7⟩; go_simp; try with_reducible rfl)
        try simp only [Act.put, zA, zC, zD, zE, zF]
        refine zT (i := 1) (v := ?_) rfl ?_ (fun _ _ _ h => h) ?_
        rotate_left
        ·(rintro w ⟨s0, s1, s2, s3, s4, s5, s6, s7⟩; go_simp; try with_reducible rfl)
        try simp only [Act.put, zA, zB, zC, zD, zE, zF]
        refine zT (i := 2) (v := ?_) rfl ?_ (fun _ _ _ h => h) ?_
        rotate_left
        ·(rintro w ⟨s0, s1, s2, s3, s4, s5, s6, s7⟩; go_simp; try with_reducible rfl)
        try simp only [Act.put, zA, zB, zC, zD, zE, zF]
        refine zT (i := 3) (v := ?_) rfl ?_ (fun _ _ _ h => h) ?_
        rotate_left
        ·(rintro w ⟨s0, s1, s2, s3, s4, s5, s6, s7⟩; go_simp; try with_reducible rfl)
        try simp only [Act.put, zA, zB, zC, zD, zE, zF]
        refine zT (i := 4) (v := ?_) rfl ?_ (fun _ _ _ h => h) ?_
        rotate_left
        ·(rintro w ⟨s0, s1, s2, s3, s4, s5, s6, s7⟩; go_simp; try with_reducible rfl)
        try simp only [Act.put, zA, zB, zC, zD, zE, zF]
        refine zT (i := 5) (v := ?_) rfl ?_ (fun _ _ _ h => h) ?_
        rotate_left
        ·(rintro w ⟨s0, s1, s2, s3, s4, s5, s6, s7⟩; go_simp; try with_reducible rfl)
        try simp only [Act.put, zA, zB, zC, zD, zE, zF]
        refine zT (i := 6) (v := ?_) rfl ?_ (fun _ _ _ h => h) ?_
        rotate_left
        ·(rintro w ⟨s0, s1, s2, s3, s4, s5, s6, s7⟩; go_simp; try with_reducible rfl)
        try simp only [Act.put, zA, zB, zC, zD, zE, zF]
        refine zT (i := 7) (v := ?_) rfl ?_ (fun _ _ _ h => h) ?_
        rotate_left
        ·(rintro w ⟨s0, s1, s2, s3, s4, s5, s6, s7⟩; go_simp; try with_reducible rfl)
        try simp only [Act.put, zA, zB, zC, zD, zE, zF]
        refine zT (i := 8) (v := ?_) rfl ?_ (fun _ _ _ h => h) ?_
        rotate_left
        ·(rintro w ⟨s0, s1, s2, s3, s4, s5, s6, s7⟩; go_simp; try with_reducible rfl)
        try simp only [Act.put, zA, zB, zC, zD, zE, zF]
        refine zT (i := 9) (v := ?_) rfl ?_ (fun _ _ _ h => h) ?_
        rotate_left
        ·(rintro w ⟨s0, s1, s2, s3, s4, s5, s6, s7⟩; go_simp; try with_reducible rfl)
        try simp only [Act.put, zA, zB, zC, zD, zE, zF]
        refine zT (i := 10) (v := ?_) rfl ?_ (fun _ _ _ h => h) ?_
        rotate_left
        ·(rintro w ⟨s0, s1, s2, s3, s4, s5, s6, s7⟩; go_simp; try with_reducible rfl)
        try simp only [Act.put, zA, zB, zC, zD, zE, zF]
        refine zT (i := 11) (v := ?_) rfl ?_ (fun _ _ _ h => h) ?_
        rotate_left
        ·(rintro w ⟨s0, s1, s2, s3, s4, s5, s6, s7⟩; go_simp; try with_reducible rfl)
        try simp only [Act.put, zA, zB, zC, zD, zE, zF]
        refine zY (i := 12) rfl fun K hK => ?_
        go_simp
        go_at_call 71
        refine (HMB.out _).mono ?_
        rintro e y ⟨rfl, hby⟩
        have HXY : Hid (Below x.heap.size x y) := zaa (by first | exact hby | exact zae Br.drew Lr hby | exact zae (zab Br _) Lr hby)
        obtain ⟨y0, y1, y2, y3, y4, y5, y6, y7⟩ := HFY.out y HXY.out
        clear hby
        rw [hmb]
        dsimp only
        refine hK.out _ _ ⟨y0, y1, y2, y3, y4, y5, y6, y7⟩ (fun hHeld => ?_)
        clear hK K
        try simp only [Act.put, zA, zB, zC, zD, zE, zF]
        refine zT (i := 13) (v := ?_) rfl ?_ (fun _ _ _ h => h) ?_
        rotate_left
        ·(rintro w ⟨s0, s1, s2, s3, s4, s5, s6, s7⟩; go_simp; try with_reducible rfl)
        try simp only [Act.put, zA, zB, zC, zD, zE, zF]
        refine zT (i := 14) (v := ?_) rfl ?_ (fun _ _ _ h => h) ?_
        rotate_left
        ·(rintro w ⟨s0, s1, s2, s3, s4, s5, s6, s7⟩; go_simp; try with_reducible rfl)
        try simp only [Act.put, zA, zB, zC, zD, zE, zF]
        refine zT (i := 15) (v := ?_) rfl ?_ (fun _ _ _ h => h) ?_
        rotate_left
        ·(rintro w ⟨s0, s1, s2, s3, s4, s5, s6, s7⟩; go_simp; try with_reducible rfl)
        try simp only [Act.put, zA, zB, zC, zD, zE, zF]
        refine zT (i := 16) (v := ?_) rfl ?_ (fun _ _ _ h => h) ?_
        rotate_left
        ·(rintro w ⟨s0, s1, s2, s3, s4, s5, s6, s7⟩; go_simp; try with_reducible rfl)
        try simp only [Act.put, zA, zB, zC, zD, zE, zF]
        refine zT (i := 17) (v := ?_) rfl ?_ (fun _ _ _ h => h) ?_
        rotate_left
        ·(rintro w ⟨s0, s1, s2, s3, s4, s5, s6, s7⟩; go_simp; try with_reducible rfl)
        try simp only [Act.put, zA, zB, zC, zD, zE, zF]
        refine zT (i := 18) (v := ?_) rfl ?_ (fun _ _ _ h => h) ?_
        rotate_left
        ·(rintro w ⟨s0, s1, s2, s3, s4, s5, s6, s7⟩; go_simp; try with_reducible rfl)
        try simp only [Act.put, zA, zB, zC, zD, zE, zF]
        refine zT (i := 19) (v := ?_) rfl ?_ (fun _ _ _ h => h) ?_
        rotate_left
        ·(rintro w ⟨s0, s1, s2, s3, s4, s5, s6, s7⟩; go_simp; try with_reducible rfl)
        try simp only [Act.put, zA, zB, zC, zD, zE, zF]
        refine zT (i := 20) (v := ?_) rfl ?_ (fun _ _ _ h => h) ?_
        rotate_left
        ·(rintro w ⟨s0, s1, s2, s3, s4, s5, s6, s7⟩; go_simp; try with_reducible rfl)
        try simp only [Act.put, zA, zB, zC, zD, zE, zF]
        refine zT (i := 21) (v := ?_) rfl ?_ (fun _ _ _ h => h) ?_
        rotate_left
        ·(rintro w ⟨s0, s1, s2, s3, s4, s5, s6, s7⟩; go_simp; try with_reducible rfl)
        try simp only [Act.put, zA, zB, zC, zD, zE, zF]
        refine zY (i := 22) rfl fun K hK => ?_
        go_simp
        go_at_call 72
        refine zac (zdh _ _ _ _ _ _ _ _ _ (HSLY.out _ HXY.out).1 (HSLY.out _ HXY.out).2) ?_
        rw [hkb]
        dsimp only
        refine hK.out _ _ ⟨y0, y1, y2, y3, y4, y5, y6, y7⟩ (fun hHeld => ?_)
        clear hK K
        try simp only [Act.put, zA, zB, zC, zD, zE, zF]
        refine zT (i := 23) (v := ?_) rfl ?_ (fun _ _ _ h => h) ?_
        rotate_left
        ·(rintro w ⟨s0, s1, s2, s3, s4, s5, s6, s7⟩; go_simp; try with_reducible rfl)
        try simp only [Act.put, zA, zB, zC, zD, zE, zF]
        refine zT (i := 24) (v := ?_) rfl ?_ (fun _ _ _ h => h) ?_
        rotate_left
        ·(rintro w ⟨s0, s1, s2, s3, s4, s5, s6, s7⟩; go_simp; try with_reducible rfl)
        try simp only [Act.put, zA, zB, zC, zD, zE, zF]
        refine zT (i := 25) (v := ?_) rfl ?_ (fun _ _ _ h => h) ?_
        rotate_left
        ·(rintro w ⟨s0, s1, s2, s3, s4, s5, s6, s7⟩; go_simp; try with_reducible rfl)
        try simp only [Act.put, zA, zB, zC, zD, zE, zF]
        refine wpAnyH_done (by kernel_rfl) ?_ _
        try go_wp2_with fail
        go_meet
        exact ⟨true, rfl, zaa (by simp at hkb; simp [HQL.out, zar, hkb]), HXY⟩
   obtain ⟨bb, rfl, HBB, HB2⟩ := hcut
   clear c0 c1 c2 c3 z0 z1 z2 z3 z4 r2
   have HCFW : Hid (Cf (· = a) w wc) := by
    refine zaa (((HP1.out.cf.trans HCF.out ?_).go (Cf.of_below HBX.out)).go (Cf.of_below HB2.out))
    intro i hi e
    have := HP1.out.hr
    omega
   cases bb with
   | true =>
    have HNO : Hid (part k n m none body = none) := by
     refine zaa ?_
     rcases HCASE.out with ⟨h1, h2⟩ | ⟨h1, h2⟩
     ·rcases HBB.out.1 rfl with h3 | h3
      ·rw [h2] at h3; cases h3
      ·refine HPW.out.bad hlt h1 ?_
       rw [← mayP_iff]
       simpa only [HKL.out, HVL.out] using h3
     ·exact HPW.out.fail hlt h1
    go_wp2
    go_ret
    exact ⟨false, rfl, HCFW, zaa (.inr ⟨rfl, HNO.out⟩)⟩
   | false =>
    have hnb : ¬ (en = true ∨ ¬ (mayN k n kn kd vn pg ct ∧ zar (prv cs) key)) := fun h => by
     have := HBB.out.2 h
     cases this
    have hen : en = false := by
     cases en with
     | true => exact absurd (.inl rfl) hnb
     | false => rfl
    subst hen
    have hgood : mayN k n kn kd vn pg ct ∧ zar (prv cs) key := Classical.byContradiction fun h => hnb (.inr h)
    have HNX : Hid (Pw k n m body (cs ++ [⟨key, kd, val, pg, ct⟩]) (j + 1) q ∧ sts 0 (cs ++ [⟨key, kd, val, pg, ct⟩]) = sts 0 cs ++ [p]) := by
     rcases HCASE.out with ⟨h1, h2⟩ | ⟨h1, h2⟩
     ·refine zaa (HPW.out.next HWF.out hlt (by rw [HBL.out]; exact hq) (by rw [HBL.out]; exact HP1.out.hp) h1 ?_)
      rw [← mayP_iff]
      simpa only [HKL.out, HVL.out] using hgood
     ·cases h2
    have HPN : Hid (Pt w wc a rr k n gb bn body (.slice so1 sn1 sc1) (sts 0 (cs ++ [⟨key, kd, val, pg, ct⟩])) q) := by
     rw [HNX.out.2]
     exact zaa (((HP1.out.cell HCF.out HRD.out hq).on HBX.out).on HB2.out)
    have HLN : Hid (LK wc ko kn kc gb (cs ++ [⟨key, kd, val, pg, ct⟩])) := zaa (.inr ⟨key, by simp [prv], HKX.out.on Lr HB2.out, HLOC.out⟩)
    have z0 := (show C5 wc g8 (.slice ko kn kc) (.int .i64 kd) (.slice vo vn vc) (.int .i64 pg) (.int .i64 ct) from zag HC5.out HB2.out).cells.1
    clear hnb hgood HBB HCASE HKS HVS HKX HLKX HLK2 HROW2 HBK2 HRD HCF HP1
    go_wp2
    go_roundw
    case rel => exact ⟨j + 1, ko, kn, kc, so1, sn1, sc1, _, q, by omega, by go_num, rfl, HPN, zaa HNX.out.1, HLN⟩
    case measure => simp [intOf]; omega
  ·obtain rfl : j = m := by omega
   have hlI : ¬ (j : Int) < (j : Int) := by omega
   obtain ⟨c0, c1, c2, c3⟩ := HPT.out.row.cells
   have r1 := HPT.out.rd.c1
   have hpl : p ≤ body.length := by rw [HBL.out]; exact HPT.out.hp
   have hdn := HPW.out.done hpl
   have HDN := zaa hdn
   have HCFD : ∀ q : Nat, Hid (Cf (· = a) w (wr.drewN q)) := fun q => zaa (HPT.out.cf.go (Cf.drew _ _ _))
   have hpb := HPT.out.hp
   clear hdn
   by_cases he : p = bn
   ·subst he
    go_wp2_with fail
    go_quiet (fail)
    go_wp2
    go_ret
    exact ⟨true, rfl, HCFD _, zaa (.inl ⟨rfl, cs, .slice so sn sc, HDN.out.1 HBL.out.symm, (HPT.out.on (zab Br _)).row, (HPT.out.on (zab Br _)).own, (HPT.out.on (zab Br _)).bk⟩)⟩
   ·have d1 : ((p : Int) == (bn : Int)) = false := by rw [beq_eq_false_iff_ne]; omega
    have d2 : ¬ (p : Int) = (bn : Int) := by omega
    go_wp2_with fail
    go_quiet (fail)
    go_wp2
    go_ret
    exact ⟨false, rfl, HCFD _, zaa (.inr ⟨rfl, HDN.out.2 (by rw [HBL.out]; exact he)⟩)⟩
end Go.Proofs.YtbkhjeacmmbabaaGreatDoor
