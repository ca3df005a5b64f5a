import Derived.Test.YtbkhjeacmmbabaaGreatDoorJ29
namespace Go.Proofs.YtbkhjeacmmbabaaGreatDoor
set_option maxRecDepth 100000
open Go.RowKit
structure Pq (w u : World) (a rr : Nat) (k : Int) (n : Nat) (po : Option Addr) (pn pc gb bn bc : Nat) (vs lv kv : Value) (st : List Nat) (L1 L2 : List Int) (p : Nat) (en : Bool) : Prop where
 row : QR u a k n (.slice po pn pc) (.slice (some ⟨gb, 0, none⟩) bn bc) vs 0
 rd : Rdq u rr (some ⟨gb, 0, none⟩) bn bc p en
 on : OwnN u w.heap.size vs st
 l : OwnB u w.heap.size lv L1
 y : OwnB u w.heap.size kv L2
 ap : lv.ownBlock = none ∨ lv.ownBlock ≠ kv.ownBlock
 cf : Cf (· = a) w u
 hp : p ≤ bn
 hr : rr = w.heap.size
 ha : a < w.heap.size
theorem Pq.go {w u : World} {a rr : Nat} {k : Int} {n : Nat} {po : Option Addr} {pn pc gb bn bc : Nat} {vs lv kv : Value} {st : List Nat} {L1 L2 : List Int} {p : Nat} {en : Bool} {v : World} (h : Pq w u a rr k n po pn pc gb bn bc vs lv kv st L1 L2 p en) (hb : Below u.heap.size u v) : Pq w v a rr k n po pn pc gb bn bc vs lv kv st L1 L2 p en :=
 ⟨zag h.row hb, zag h.rd hb, h.on.below hb, h.l.on Lr hb, h.y.on Lr hb, h.ap, h.cf.go (Cf.of_below hb), h.hp, h.hr, h.ha⟩
theorem Pq.le {w u : World} {a rr : Nat} {k : Int} {n : Nat} {po : Option Addr} {pn pc gb bn bc : Nat} {vs lv kv : Value} {st : List Nat} {L1 L2 : List Int} {p : Nat} {en : Bool} (h : Pq w u a rr k n po pn pc gb bn bc vs lv kv st L1 L2 p en) : w.heap.size ≤ u.heap.size := h.cf.size
theorem Pq.types {w u : World} {a rr : Nat} {k : Int} {n : Nat} {po : Option Addr} {pn pc gb bn bc : Nat} {vs lv kv : Value} {st : List Nat} {L1 L2 : List Int} {p : Nat} {en : Bool} (h : Pq w u a rr k n po pn pc gb bn bc vs lv kv st L1 L2 p en) : vs.ownBlock ≠ some a ∧ vs.ownBlock ≠ some rr ∧ lv.ownBlock ≠ some a ∧ lv.ownBlock ≠ some rr ∧ kv.ownBlock ≠ some a ∧ kv.ownBlock ≠ some rr := by
 have h1 := h.row
 have h2 := h.rd
 unfold QR at h1
 unfold Rdq at h2
 exact ⟨h.on.apart h1 (by decide), h.on.apart h2 (by decide), h.l.apart h1 (by decide), h.l.apart h2 (by decide), h.y.apart h1 (by decide), h.y.apart h2 (by decide)⟩
theorem Pq.read {w u : World} {a rr : Nat} {k : Int} {n : Nat} {po : Option Addr} {pn pc gb bn bc : Nat} {vs lv kv : Value} {st : List Nat} {L1 L2 : List Int} {p : Nat} {en : Bool} {v : World} (h : Pq w u a rr k n po pn pc gb bn bc vs lv kv st L1 L2 p en) (hc : Cf (· = rr) u v) {q : Nat} {en' : Bool} (hr : Rdq v rr (some ⟨gb, 0, none⟩) bn bc q en') (hq : q ≤ bn) : Pq w v a rr k n po pn pc gb bn bc vs lv kv st L1 L2 q en' := by
 obtain ⟨t1, t2, t3, t4, t5, t6⟩ := h.types
 have h1 := h.hr
 have h2 := h.ha
 refine ⟨h.row.cf hc (by omega), hr, h.on.cf hc t2, h.l.cf hc t4, h.y.cf hc t6, h.ap, h.cf.trans hc ?_, hq, h.hr, h.ha⟩
 intro i hi e
 omega
theorem Pq.row_st {w u : World} {a rr : Nat} {k : Int} {n : Nat} {po : Option Addr} {pn pc gb bn bc : Nat} {vs lv kv : Value} {st : List Nat} {L1 L2 : List Int} {p : Nat} {en : Bool} {v : World} (h : Pq w u a rr k n po pn pc gb bn bc vs lv kv st L1 L2 p en) {x : World} {vs' : Value} (hx : Below u.heap.size u x) (hg : Gr x vs v vs') : QR v a k n (.slice po pn pc) (.slice (some ⟨gb, 0, none⟩) bn bc) vs 0 := (h.go hx).row.gr hg h.types.1
theorem Pq.put_st {w u : World} {a rr : Nat} {k : Int} {n : Nat} {po : Option Addr} {pn pc gb bn bc : Nat} {vs lv kv : Value} {st : List Nat} {L1 L2 : List Int} {p : Nat} {en : Bool} {v : World} (h : Pq w u a rr k n po pn pc gb bn bc vs lv kv st L1 L2 p en) {x : World} {vs' : Value} {st' : List Nat} (hx : Below u.heap.size u x) (ho : OwnN v w.heap.size vs' st') (hg : Gr x vs v vs') :
  Pq w (v.setCell ⟨a, 4, none⟩ vs') a rr k n po pn pc gb bn bc vs' lv kv st' L1 L2 p en := by
 have h1 := h.go hx
 obtain ⟨t1, t2, t3, t4, t5, t6⟩ := h1.types
 have hr := h.row_st hx hg
 have hrd : Rdq v rr (some ⟨gb, 0, none⟩) bn bc p en := (hg.grow.block rr (zaf h1.rd) (fun e => t2 e.symm)).trans h1.rd
 have hl : OwnB v w.heap.size lv L1 := h1.l.gr hg (h1.l.apartN h1.on)
 have hy : OwnB v w.heap.size kv L2 := h1.y.gr hg (h1.y.apartN h1.on)
 have hc := Cf.set v a 4 vs'
 have hr2 := hr
 unfold QR at hr2
 have e1 := h.hr
 have e2 := h.ha
 refine ⟨hr.set4 vs', hrd.cf hc (by omega), ho.cf hc (ho.apart hr2 (by decide)), hl.cf hc (hl.apart hr2 (by decide)), hy.cf hc (hy.apart hr2 (by decide)), h.ap, ?_, h.hp, h.hr, h.ha⟩
 have g2 : Cf (fun i => w.heap.size ≤ i) x v := Cf.ofGr hg fun g e => by
  have := h1.on
  unfold OwnN at this
  exact (this.lt g e).1
 refine (h1.cf.trans g2 ?_).go hc
 intro i hi e
 omega
theorem Pq.room {w u : World} {a rr : Nat} {k : Int} {n : Nat} {po : Option Addr} {pn pc gb bn bc : Nat} {vs lv kv : Value} {st : List Nat} {L1 L2 : List Int} {p : Nat} {en : Bool} {v : World} (h : Pq w u a rr k n po pn pc gb bn bc vs lv kv st L1 L2 p en) {v0 kv' : Value} {L : List Int} (h0 : v0.ownBlock = kv.ownBlock) (ho : OwnB v w.heap.size kv' L) (hg : Gr u v0 v kv') : Pq w v a rr k n po pn pc gb bn bc vs lv kv' st L1 L p en := by
 obtain ⟨t1, t2, t3, t4, t5, t6⟩ := h.types
 have hrd : Rdq v rr (some ⟨gb, 0, none⟩) bn bc p en := (hg.grow.block rr (zaf h.rd) (fun e => t6 (by rw [← h0]; exact e.symm))).trans h.rd
 refine ⟨h.row.gr hg (by rw [h0]; exact t5), hrd, h.on.gr hg (by rw [h0]; exact h.on.apartB h.y), h.l.gr hg (by rw [h0]; exact h.ap), ho, ?_, ?_, h.hp, h.hr, h.ha⟩
 ·rcases h.ap with e | e
  ·exact .inl e
  ·rcases hg.own with e2 | ⟨i, e2, hi⟩
   ·exact .inr (by rw [e2, h0]; exact e)
   ·cases hl : lv.ownBlock with
    | none => exact .inl rfl
    | some j =>
     refine .inr fun e3 => ?_
     rw [e2] at e3
     injection e3 with e3
     have := h.l
     unfold OwnB at this
     have := (this.lt j hl).2
     omega
 ·refine h.cf.trans (Cf.ofGr (F := fun i => w.heap.size ≤ i) hg fun g e => ?_) ?_
  ·have := h.y
   unfold OwnB at this
   exact (this.lt g (by rw [← h0]; exact e)).1
  ·intro i hi e
   omega
theorem Pq.setE {w u : World} {a rr : Nat} {k : Int} {n : Nat} {po : Option Addr} {pn pc gb bn bc : Nat} {vs lv kv : Value} {st : List Nat} {L1 L2 : List Int} {p : Nat} {en : Bool} (h : Pq w u a rr k n po pn pc gb bn bc vs lv kv st L1 L2 p en) {g9 : Nat} {x0 x1 x2 x3 x4 x5 : Value} (he : E6 u g9 x0 x1 x2 x3 x4 x5) (hg : w.heap.size ≤ g9) (i : Nat) (x : Value) : Pq w (u.setCell ⟨g9, i, none⟩ x) a rr k n po pn pc gb bn bc vs lv kv st L1 L2 p en := by
 have hc := Cf.set u g9 i x
 have he2 := he
 unfold E6 at he2
 have e2 := h.ha
 have e3 : ¬ rr = g9 := by
  rintro rfl
  have := h.rd
  unfold Rdq at this
  rw [this] at he2
  simp at he2
 refine ⟨h.row.cf hc (by omega), h.rd.cf hc e3, h.on.cf hc (h.on.apart he2 (by decide)), h.l.cf hc (h.l.apart he2 (by decide)), h.y.cf hc (h.y.apart he2 (by decide)), h.ap, h.cf.trans hc ?_, h.hp, h.hr, h.ha⟩
 intro i hi e
 omega
theorem Pq.swap {w u : World} {a rr : Nat} {k : Int} {n : Nat} {po : Option Addr} {pn pc gb bn bc : Nat} {vs lv kv : Value} {st : List Nat} {L1 L2 : List Int} {p : Nat} {en : Bool} (h : Pq w u a rr k n po pn pc gb bn bc vs lv kv st L1 L2 p en) : Pq w u a rr k n po pn pc gb bn bc vs kv lv st L2 L1 p en := by
 refine ⟨h.row, h.rd, h.on, h.y, h.l, ?_, h.cf, h.hp, h.hr, h.ha⟩
 rcases h.ap with e | e
 ·cases hk : kv.ownBlock with
  | none => exact .inl rfl
  | some i => exact .inr (by rw [e]; simp)
 ·exact .inr fun e2 => e e2.symm
theorem Sl.cfa {w u : World} {ao : Option Addr} {n cap a : Nat} {l : List Int} (h : Sl w ao n cap l) (hc : Cf (· = a) w u) (hlo : Lo a ao n) : Sl u ao n cap l := by
 refine h.cf hc ?_
 rcases hlo with h0 | h1
 ·exact .inl h0
 ·exact .inr fun p hp e => by have := h1 p hp; omega
def PartQ (m : Nat) (w : World) (a : Nat) (k : Int) (n : Nat) (po : Option Addr) (pn pc gb bc : Nat) (P body : List Int) (e : Ending) (w' : World) : Prop :=
 ∃ b, e = .returned (.bool b) ∧ Hid (Cf (· = a) w w') ∧ Hid ((b = true ∧ ∃ cs vs, zba k n P m (whl k) none body = some (cs, body.drop (qbd P.length (whl k) cs).length) ∧ (qbd P.length (whl k) cs).length ≤ body.length ∧ QR w' a k n (.slice po pn pc) (.slice (some ⟨gb, 0, none⟩) (qbd P.length (whl k) cs).length bc) vs 0 ∧ OwnN w' w.heap.size vs (qst P.length (whl k) 0 cs)) ∨ (b = false ∧ zba k n P m (whl k) none body = none))
set_option maxHeartbeats 8000000 in
theorem partedQ_any (m : Nat) (w : World) (a : Nat) (k : Int) (n : Nat) (po : Option Addr) (pn pc gb bn bc : Nat) (P body : List Int) (v0 : Value) (hrow : QR w a k n (.slice po pn pc) (.slice (some ⟨gb, 0, none⟩) bn bc) v0 0) (hP : Sl w po pn pc P) (hB : Sl w (some ⟨gb, 0, none⟩) bn bc body) (hlo : Lo a po pn) (hgb : gb < a) (hn : pw n) (hbn : bn ≤ 65536) (hpn : pn ≤ 65536) (hm : m ≤ 65536) :
  Calls Tryz.prog 133 #[.pointer (some ⟨a, 0, none⟩), .int .i64 (m : Int)] w fun e w' => PartQ m w a k n po pn pc gb bc P body e w' := by
 obtain ⟨i0, hi, hz0, hz1, hz2⟩ := info_parts infoI
 have hn2 := zao hn
 have HROW0 := zaa hrow
 have HP := zaa hP
 have HB := zaa hB
 have HLO := zaa hlo
 have HBL := zaa hB.hlen
 have HPL := zaa hP.hlen
 have HWF := zaa hB.wf
 have HAW : Hid (a < w.heap.size) := zaa (zaf hrow)
 obtain ⟨c0, c1, c2, c3, c4, c5⟩ := hrow.cells
 clear hrow hP hB hlo hn
 go_enter Tryz.func133, Tryz.ntmps133
 go_wp2_with (at_make; refine wpList_make_own _ rfl _ _ 116 rfl w.heap.size 3 i0 (.int .i64 0) 1 Tryz.underlying116 hi hz0 hz1 .i64 .i64 _ m rfl rfl rfl (by rw [hz2]; omega) (by unfold maxLen; omega) (by simp) ?_; refine Hid.out ?_)
 apply zaa
 obtain ⟨rr, hrr⟩ : ∃ rr, w.heap.size = rr := ⟨_, rfl⟩
 have HRR := zaa hrr
 obtain ⟨u, hu⟩ : ∃ u, w.alloc (.cells #[.slice (some ⟨gb, 0, none⟩) bn bc, .int .i64 0, .bool false] 159) = u := ⟨_, rfl⟩
 have hus : u.heap.size = rr + 1 := by rw [← hu, ← hrr]; simp
 have hbu : Below w.heap.size w u := by rw [← hu]; exact zad Br Lr _
 have HRD : Hid (Rdq u rr (some ⟨gb, 0, none⟩) bn bc 0 false) := by rw [← hu, ← hrr]; exact zaa (heap_alloc_last w _)
 have HROW : Hid (QR u a k n (.slice po pn pc) (.slice (some ⟨gb, 0, none⟩) bn bc) v0 0) := zaa (zag HROW0.out hbu)
 have HBU := zaa hbu
 rw [hu, hrr]
 intro w1 ho1 hg1
 have hb1 : Below u.heap.size u w1 := Br.grown hg1 Lr (fun k hk => by cases hk)
 have HRW1 : Hid (QR w1 a k n (.slice po pn pc) (.slice (some ⟨gb, 0, none⟩) bn bc) v0 0) := zaa (zag HROW.out hb1)
 obtain ⟨f0, f1, f2, f3, f4, f5⟩ := HRW1.out.cells
 have e4 := HRW1.out.free 4
 have HPQ : Hid (Pq w (w1.setCell ⟨a, 4, none⟩ (.slice (some ⟨rr + 1, 0, none⟩) 0 m)) a rr k n po pn pc gb bn bc (.slice (some ⟨rr + 1, 0, none⟩) 0 m) (.slice none 0 0) (.slice none 0 0) [] [] [] 0 false) := by
  have hc := Cf.set w1 a 4 (.slice (some ⟨rr + 1, 0, none⟩) 0 m)
  have hr' : Rdq w1 rr (some ⟨gb, 0, none⟩) bn bc 0 false := zag HRD.out hb1
  have hrow := HRW1.out
  have o1 : OwnN w1 w.heap.size (.slice (some ⟨rr + 1, 0, none⟩) 0 m) [] := by rw [hrr]; first | exact ho1 | (rw [hus] at ho1; exact ho1)
  unfold QR at hrow
  have n2 : ¬ rr = a := by have := HAW.out; omega
  exact zaa ⟨HRW1.out.set4 _, hr'.cf hc n2, o1.cf hc (o1.apart hrow (by decide)), OwnB.nil _ _, OwnB.nil _ _, .inl rfl, ((Cf.of_below HBU.out).go (Cf.of_below hb1)).go hc, Nat.zero_le _, hrr.symm, HAW.out⟩
 have HPW := zaa (PwQ.start k n m P body)
 clear ho1 hg1 hb1 HROW HRD HRW1 c0 c1 c2 c3 c4 c5 hu hus hbu HROW0
 go_wp2_with fail
 clear f0 f1 f2 f3 f4 f5 e4
 go_loopw [21, 6, 7] (fun i lst ky wr => ∃ (j : Nat) (lo : Option Addr) (ln lc : Nat) (yo : Option Addr) (yn yc : Nat) (so : Option Addr) (sn sc : Nat) (cs : List Cl) (L1 L2 : List Int) (p : Nat), j ≤ m ∧ i = .int .i64 j ∧ lst = .slice lo ln lc ∧ ky = .slice yo yn yc ∧ Hid (Pq w wr a rr k n po pn pc gb bn bc (.slice so sn sc) (.slice lo ln lc) (.slice yo yn yc) (qst P.length (whl k) 0 cs) L1 L2 p false) ∧ Hid (PwQ k n m P body cs j p) ∧ Hid (Wf L1 ∧ L1.length ≤ 140737488355328 ∧ (cs = [] ∨ prv cs = some L1))) (fun i _ _ _ => m - (intOf i).toNat)
 case atStart => exact ⟨0, none, 0, 0, none, 0, 0, some ⟨rr + 1, 0, none⟩, 0, m, [], [], [], 0, by omega, rfl, rfl, rfl, HPQ, HPW, zaa ⟨Wf.nil, by simp, .inl rfl⟩⟩
 case round =>
  clear HPQ HPW
  obtain ⟨j, lo, ln, lc, yo, yn, yc, so, sn, sc, cs, L1, L2, p, hj, rfl, rfl, rfl, HPQ, HPW, HLK⟩ := hrel
  have bj : (j : Int) ≤ 65536 := by omega
  have bm : (m : Int) ≤ 65536 := by omega
  by_cases hlt : j < m
  ·have hltI : (j : Int) < (m : Int) := by omega
   obtain ⟨c0, c1, c2, c3, c4, c5⟩ := HPQ.out.row.cells
   have r0 := HPQ.out.rd.c0
   have r1 := HPQ.out.rd.c1
   have r2 := HPQ.out.rd.c2
   have HL : Hid ((qst P.length (whl k) 0 cs).length + 1 ≤ 1000000) := zaa (by rw [zbm, HPW.out.len]; omega)
   have hws : w.heap.size ≤ wr.heap.size := HPQ.out.le
   have c4a := fun o => (HPQ.out.go (zad (Below.refl _ wr) Lr o)).row.cells.2.2.2.2.1
   go_upto_region 7 with fail
   go_cut [] from 24 to 34 (fun u1 => ∃ so1 sn1 sc1, Hid (Pq w u1 a rr k n po pn pc gb bn bc (.slice so1 sn1 sc1) (.slice lo ln lc) (.slice yo yn yc) (qst P.length (whl k) 0 cs ++ [p]) L1 L2 p false))
   case first =>
    go_wp2_with fail
    go_region_law (first | (refine step_appN rfl (.tmp 28) (.tmp 31) rfl w.heap.size (qst P.length (whl k) 0 cs) p (.slice so sn sc) wr.heap.size rfl rfl (HPQ.out.on.below (by first | exact zad Br Lr _ | exact (zad Br Lr _).drew | exact zab (zad Br Lr _) _)) (by simp) HL.out (by simp; omega) ?_; intro v1 w1 ho1 hg1; obtain ⟨so1, sc1, rfl⟩ := ho1.shape; have HP1 := zaa (HPQ.out.put_st (by first | exact zad Br Lr _ | exact (zad Br Lr _).drew | exact zab (zad Br Lr _) _) ho1 hg1); have hr1 := HPQ.out.row_st (by first | exact zad Br Lr _ | exact (zad Br Lr _).drew | exact zab (zad Br Lr _) _) hg1; obtain ⟨x0, x1, x2, x3, x4, x5⟩ := hr1.cells; have x6 := hr1.free 4; clear ho1 hg1 hr1))
    all_goals (try go_wp2_with fail)
    all_goals go_meet
    all_goals exact ⟨so1, _, sc1, by simpa using HP1⟩
   obtain ⟨so1, sn1, sc1, HP1⟩ := hcut
   clear c0 c1 c2 c3 c4 c5 r0 r1 r2 HL hws c4a HPQ
   obtain ⟨u1, hu1⟩ : ∃ u1, u1 = wc := ⟨_, rfl⟩
   subst hu1
   obtain ⟨qo, qn, qc, hqc, hhd⟩ := head_row k j po pn pc
   have HHD : Hid (∀ u, u = u1 → Calls Tryz.prog 127 #[.pointer (some ⟨a, 0, none⟩), .int .i64 (j : Int)] u fun e w' => e = .returned (.slice qo qn qc) ∧ w' = u) := zaa fun u hu => by subst hu; exact hhd _ a n _ _ 0 HP1.out.row
   have HHS : Hid (∀ u, Cf (· = a) w u → Sl u qo qn qc (hdP k P j) ∧ Lo a qo qn ∧ qn ≤ pn) := zaa fun u hu => by
    unfold hdP
    rcases hqc with ⟨rfl, rfl, rfl, h4⟩ | ⟨rfl, rfl, rfl, h4⟩
    ·rw [if_pos h4]
     exact ⟨Sl.nil_any _ _ _ (fun _ => rfl), .inl rfl, Nat.zero_le _⟩
    ·rw [if_neg h4]
     exact ⟨HP.out.cfa hu HLO.out, HLO.out, Lr⟩
   clear hhd hqc
   have hslB : Sl u1 (some ⟨gb, 0, none⟩) bn bc body := HB.out.cfa HP1.out.cf (.inr fun q hq => by injection hq with hq; subst hq; exact hgb)
   have HCL := zaa (ucell_any body u1 rr gb 0 bn bc p false HP1.out.rd hslB HP1.out.hp)
   clear hslB
   go_wp2_with (first | (go_at_call 127; refine zac (HHD.out _ rfl) ?_) | (go_at_call 129; refine HCL.out.mono ?_; rintro e w2 ⟨ko, kn, kc, kd, vo, vn, vc, pg, ct, q, en, key, val, rfl, HRD, HCF, HQ⟩; refine Hid.out ?_))
   apply zaa
   clear HCL HHD
   go_upto_region 9 with fail
   obtain ⟨hkS, hvS, hlock, hlocv, ⟨hq, hkn⟩, hcase⟩ := HQ.out
   have HKS := zaa hkS
   have hknr := hkS.hroom
   have hvnr := hvS.hroom
   have HKL := zaa hkS.hlen
   have HVL := zaa hvS.hlen
   have HKW := zaa hkS.wf
   have HLOC := zaa hlock
   have HCASE := zaa hcase
   have HQB := zaa hq
   have HP2 := zaa (HP1.out.read HCF.out HRD.out hq)
   have HPLE := zaa HP1.out.hp
   have HKN := zaa hkn
   clear HQ hkS hvS hlock hlocv hcase hq hkn HP1 HRD HCF
   obtain ⟨x0, hx0⟩ : ∃ x0, w2.alloc (.cells #[.slice qo qn qc, .slice ko kn kc, .int .i64 kd, .slice vo vn vc, .int .i64 pg, .int .i64 ct] 123) = x0 := ⟨_, rfl⟩
   have hbx0 : Below w2.heap.size w2 x0 := by rw [← hx0]; exact zad Br Lr _
   obtain ⟨g9, hg9⟩ : ∃ g9, w2.heap.size = g9 := ⟨_, rfl⟩
   have HE0 : Hid (E6 x0 g9 (.slice qo qn qc) (.slice ko kn kc) (.int .i64 kd) (.slice vo vn vc) (.int .i64 pg) (.int .i64 ct)) := zaa (by rw [← hx0, ← hg9]; exact E6.box _ _ _ _ _ _ _)
   have HP3 := zaa (HP2.out.go hbx0)
   have HG9 : Hid (w.heap.size ≤ g9) := zaa (by have := HP2.out.le; omega)
   have HKX := zaa (HKS.out.on Lr hbx0)
   rw [hx0, hg9]
   clear hx0 hg9 hbx0 HP2 HKS
   have HPWF := zaa (HPW.out)
   obtain ⟨K, hK⟩ : ∃ K, (hdP k P j ++ key).length = K := ⟨_, rfl⟩
   have HKE := zaa hK
   have HKB : Hid (K ≤ 131072) := zaa (by
    rw [← hK, zG, HKL.out]
    have := hdP_le k P j
    have := HPL.out
    have := HKN.out
    omega)
   have HKR : Hid (K ≤ 140737488355328) := zaa (by have := HKB.out; omega)
   have HWK : Hid (∀ u, Below x0.heap.size x0 u → Calls Tryz.prog 167 #[.agg #[.slice qo qn qc, .slice ko kn kc, .int .i64 kd, .slice vo vn vc, .int .i64 pg, .int .i64 ct], .slice yo 0 yc] u fun e w' => ∃ yo1 yc1, e = .returned (.slice yo1 K yc1) ∧ Hid (Pq w w' a rr k n po pn pc gb bn bc (.slice so1 sn1 sc1) (.slice lo ln lc) (.slice yo1 K yc1) (qst P.length (whl k) 0 cs ++ [p]) L1 (hdP k P j ++ key) q en) ∧ Hid (E6 w' g9 (.slice qo qn qc) (.slice ko kn kc) (.int .i64 kd) (.slice vo vn vc) (.int .i64 pg) (.int .i64 ct))) := by
    refine zaa fun u hu => ?_
    have hp := HP3.out.go hu
    have he : E6 u g9 (.slice qo qn qc) (.slice ko kn kc) (.int .i64 kd) (.slice vo vn vc) (.int .i64 pg) (.int .i64 ct) := zag HE0.out hu
    obtain ⟨hs1, hl1, hl2⟩ := HHS.out u hp.cf
    have hs2 := HKX.out.on Lr hu
    have ho := hp.y.take 0 (Nat.zero_le _)
    rw [List.take_zero] at ho
    have haw := HAW.out
    have hlk : Lo w.heap.size ko kn := .inr fun q hq => by have := HLOC.out q hq; omega
    refine (withKey_any (.slice yo 0 yc) w.heap.size [] qo qn qc ko kn kc kd vo vn vc pg ct (hdP k P j) key u ho hp.le hs1 hs2 (hl1.far ho (by omega)) (hlk.far ho Lr) (by have := HKN.out; simp; omega)).mono ?_
    rintro e w' ⟨v', rfl, HO, HG⟩
    have ho2 := HO.out
    rw [List.nil_append] at ho2
    obtain ⟨yo1, yc1, rfl⟩ := ho2.shape
    rw [hK] at ho2 ⊢
    have hy := he
    unfold E6 at hy
    refine ⟨yo1, yc1, rfl, zaa (hp.room (v0 := .slice yo 0 yc) (by cases yo <;> rfl) ho2 (by have := HG.out; rwa [hK] at this)), zaa (he.gr HG.out (ho.apart hy (by decide)))⟩
   obtain ⟨b0, b1, b2, b3, b4, b5⟩ := HE0.out.cells
   clear hK
   go_cut [7] from 40 to 43 (fun v u3 => ∃ yo1 yc1, v = .slice yo1 K yc1 ∧ Hid (Pq w u3 a rr k n po pn pc gb bn bc (.slice so1 sn1 sc1) (.slice lo ln lc) (.slice yo1 K yc1) (qst P.length (whl k) 0 cs ++ [p]) L1 (hdP k P j ++ key) q en) ∧ Hid (E6 u3 g9 (.slice qo qn qc) (.slice ko kn kc) (.int .i64 kd) (.slice vo vn vc) (.int .i64 pg) (.int .i64 ct)))
   case first =>
    go_wp2_with fail
    go_region_with (first | (go_at_call 167; refine (HWK.out _ (by first | exact Br | exact Br.drew | exact zab Br _)).mono ?_; rintro e w3 ⟨yo1, yc1, rfl, HP4, HE4⟩))
    all_goals (try go_wp2_with fail)
    all_goals go_meet
    all_goals exact ⟨yo1, yc1, rfl, HP4, HE4⟩
   obtain ⟨yo1, yc1, rfl, HP4, HE4⟩ := hcut
   obtain ⟨u3, hu3⟩ : ∃ u3, u3 = wc := ⟨_, rfl⟩
   subst hu3
   clear b0 b1 b2 b3 b4 b5 HWK HP3 HE0 HKX HHS
   obtain ⟨b0, b1, b2, b3, b4, b5⟩ := HE4.out.cells
   have b6 := HE4.out.free 1
   go_upto_region 11 with fail
   obtain ⟨x, hx⟩ : ∃ x, u3.setCell ⟨g9, 1, none⟩ (.slice yo1 K yc1) = x := ⟨_, rfl⟩
   have HP5 : Hid (Pq w x a rr k n po pn pc gb bn bc (.slice so1 sn1 sc1) (.slice lo ln lc) (.slice yo1 K yc1) (qst P.length (whl k) 0 cs ++ [p]) L1 (hdP k P j ++ key) q en) := zaa (by rw [← hx]; exact HP4.out.setE HE4.out HG9.out 1 _)
   have HE5 : Hid (E6 x g9 (.slice qo qn qc) (.slice yo1 K yc1) (.int .i64 kd) (.slice vo vn vc) (.int .i64 pg) (.int .i64 ct)) := zaa (by rw [← hx]; exact (HE4.out.set _).2.1)
   rw [hx]
   clear hx b0 b1 b2 b3 b4 b5 b6 HP4 HE4
   have hKb := HKB.out
   obtain ⟨c0, c1, c2, c3, c4, c5⟩ := HP5.out.row.cells
   have r2 := HP5.out.rd.c2
   go_cut [72] from 47 to 72 (fun v u2 => ∃ bb : Bool, v = .bool bb ∧ Hid (bb = true ↔ (en = true ∨ ¬ (mayN k n K kd vn pg ct ∧ zar (prv cs) (hdP k P j ++ key)))) ∧ Hid (Below x.heap.size x u2))
   case first =>
    cases en with
    | true =>
     go_wp2_with fail
     go_quiet (fail)
     go_wp2_with fail
     go_meet
     exact ⟨true, rfl, zaa (by simp), zaa (zab Br _)⟩
    | false =>
     have HMB := zaa (fun u => mayBe_any k (n : Int) yo1 K yc1 kd vo vn vc pg ct u (by omega) (by omega) HKR.out hvnr)
     have HFY : Hid (∀ y, Below x.heap.size x y → y.cell? ⟨rr, 2, none⟩ = some (.bool false) ∧ y.cell? ⟨a, 0, none⟩ = some (.int .i64 k) ∧ y.cell? ⟨a, 1, none⟩ = some (.int .i64 (n : Int)) ∧ y.cell? ⟨g9, 1, none⟩ = some (.slice yo1 K yc1) ∧ y.cell? ⟨g9, 1 + 1, none⟩ = some (.int .i64 kd) ∧ y.cell? ⟨g9, 1 + 2, none⟩ = some (.slice vo vn vc) ∧ y.cell? ⟨g9, 1 + 3, none⟩ = some (.int .i64 pg) ∧ y.cell? ⟨g9, 1 + 4, none⟩ = some (.int .i64 ct)) := by
      refine zaa fun y hy => ?_
      have h5 : E6 y g9 (.slice qo qn qc) (.slice yo1 K yc1) (.int .i64 kd) (.slice vo vn vc) (.int .i64 pg) (.int .i64 ct) := zag HE5.out hy
      obtain ⟨_, e1, e2, e3, e4, e5⟩ := h5.cells
      have hp := HP5.out.go hy
      obtain ⟨d0, d1, _⟩ := hp.row.cells
      exact ⟨hp.rd.c2, d0, d1, e1, e2, e3, e4, e5⟩
     cases hmb : decide (mayN k n K kd vn pg ct) with
     | false =>
      go_wp2_with fail
      refine wp_region_held_drew (S := (fun u => u.cell? ⟨rr, 2, none⟩ = some (.bool false) ∧ u.cell? ⟨a, 0, none⟩ = some (.int .i64 k) ∧ u.cell? ⟨a, 1, none⟩ = some (.int .i64 (n : Int)) ∧ u.cell? ⟨g9, 1, none⟩ = some (.slice yo1 K yc1) ∧ u.cell? ⟨g9, 1 + 1, none⟩ = some (.int .i64 kd) ∧ u.cell? ⟨g9, 1 + 2, none⟩ = some (.slice vo vn vc) ∧ u.cell? ⟨g9, 1 + 3, none⟩ = some (.int .i64 pg) ∧ u.cell? ⟨g9, 1 + 4, none⟩ = some (.int .i64 ct))) (by kernel_rfl) (HFY.out _ Br.drew) (fun hHeld => ?_)
      refine zT (i := 0) (v := ?_) rfl ?_ (fun _ _ _ h => h) ?_
      rotate_left
      ·(rintro w ⟨s0, s1, s2, s3, s4, s5, s6, s7⟩; go_simp; try with_reducible rfl)
      try simp only [Act.put, zA, zC, zD, zE, zF]
      refine zT (i := 1) (v := ?_) rfl ?_ (fun _ _ _ h => h) ?_
      rotate_left
      ·(rintro w ⟨s0, s1, s2, s3, s4, s5, s6, s7⟩; go_simp; try with_reducible rfl)
      try simp only [Act.put, zA, zB, zC, zD, zE, zF]
      refine zT (i := 2) (v := ?_) rfl ?_ (fun _ _ _ h => h) ?_
      rotate_left
      ·(rintro w ⟨s0, s1, s2, s3, s4, s5, s6, s7⟩; go_simp; try with_reducible rfl)
      try simp only [Act.put, zA, zB, zC, zD, zE, zF]
      refine zT (i := 3) (v := ?_) rfl ?_ (fun _ _ _ h => h) ?_
      rotate_left
      ·(rintro w ⟨s0, s1, s2, s3, s4, s5, s6, s7⟩; go_simp; try with_reducible rfl)
      try simp only [Act.put, zA, zB, zC, zD, zE, zF]
      refine zT (i := 4) (v := ?_) rfl ?_ (fun _ _ _ h => h) ?_
      rotate_left
      ·(rintro w ⟨s0, s1, s2, s3, s4, s5, s6, s7⟩; go_simp; try with_reducible rfl)
      try simp only [Act.put, zA, zB, zC, zD, zE, zF]
      refine zT (i := 5) (v := ?_) rfl ?_ (fun _ _ _ h => h) ?_
      rotate_left
      ·(rintro w ⟨s0, s1, s2, s3, s4, s5, s6, s7⟩; go_simp; try with_reducible rfl)
      try simp only [Act.put, zA, zB, zC, zD, zE, zF]
      refine zT (i := 6) (v := ?_) rfl ?_ (fun _ _ _ h => h) ?_
      rotate_left
      ·(rintro w ⟨s0, s1, s2, s3, s4, s5, s6, s7⟩; go_simp; try with_reducible rfl)
      try simp only [Act.put, zA, zB, zC, zD, zE, zF]
      refine zT (i := 7) (v := ?_) rfl ?_ (fun _ _ _ h => h) ?_
      rotate_left
      ·(rintro w ⟨s0, s1, s2, s3, s4, s5, s6, s7⟩; go_simp; try with_reducible rfl)
      try simp only [Act.put, zA, zB, zC, zD, zE, zF]
      refine zT (i := 8) (v := ?_) rfl ?_ (fun _ _ _ h => h) ?_
      rotate_left
      ·(rintro w ⟨s0, s1, s2, s3, s4, s5, s6, s7⟩; go_simp; try with_reducible rfl)
      try simp only [Act.put, zA, zB, zC, zD, zE, zF]
      refine zT (i := 9) (v := ?_) rfl ?_ (fun _ _ _ h => h) ?_
      rotate_left
      ·(rintro w ⟨s0, s1, s2, s3, s4, s5, s6, s7⟩; go_simp; try with_reducible rfl)
      try simp only [Act.put, zA, zB, zC, zD, zE, zF]
      refine zT (i := 10) (v := ?_) rfl ?_ (fun _ _ _ h => h) ?_
      rotate_left
      ·(rintro w ⟨s0, s1, s2, s3, s4, s5, s6, s7⟩; go_simp; try with_reducible rfl)
      try simp only [Act.put, zA, zB, zC, zD, zE, zF]
      refine zT (i := 11) (v := ?_) rfl ?_ (fun _ _ _ h => h) ?_
      rotate_left
      ·(rintro w ⟨s0, s1, s2, s3, s4, s5, s6, s7⟩; go_simp; try with_reducible rfl)
      try simp only [Act.put, zA, zB, zC, zD, zE, zF]
      refine zT (i := 12) (v := ?_) rfl ?_ (fun _ _ _ h => h) ?_
      rotate_left
      ·(rintro w ⟨s0, s1, s2, s3, s4, s5, s6, s7⟩; go_simp; try with_reducible rfl)
      try simp only [Act.put, zA, zB, zC, zD, zE, zF]
      refine zY (i := 13) rfl fun K hK => ?_
      go_simp
      go_at_call 71
      refine (HMB.out _).mono ?_
      rintro e y ⟨rfl, hby⟩
      have HXY : Hid (Below x.heap.size x y) := zaa (by first | exact hby | exact zae Br.drew Lr hby | exact zae (zab Br _) Lr hby)
      obtain ⟨y0, y1, y2, y3, y4, y5, y6, y7⟩ := HFY.out y HXY.out
      clear hby
      rw [hmb]
      dsimp only
      refine hK.out _ _ ⟨y0, y1, y2, y3, y4, y5, y6, y7⟩ (fun hHeld => ?_)
      clear hK K
      try simp only [Act.put, zA, zB, zC, zD, zE, zF]
      refine zT (i := 14) (v := ?_) rfl ?_ (fun _ _ _ h => h) ?_
      rotate_left
      ·(rintro w ⟨s0, s1, s2, s3, s4, s5, s6, s7⟩; go_simp; try with_reducible rfl)
      try simp only [Act.put, zA, zB, zC, zD, zE, zF]
      refine zT (i := 15) (v := ?_) rfl ?_ (fun _ _ _ h => h) ?_
      rotate_left
      ·(rintro w ⟨s0, s1, s2, s3, s4, s5, s6, s7⟩; go_simp; try with_reducible rfl)
      try simp only [Act.put, zA, zB, zC, zD, zE, zF]
      refine zT (i := 16) (v := ?_) rfl ?_ (fun _ _ _ h => h) ?_
      rotate_left
      ·(rintro w ⟨s0, s1, s2, s3, s4, s5, s6, s7⟩; go_simp; try with_reducible rfl)
      try simp only [Act.put, zA, zB, zC, zD, zE, zF]
      refine zU (i := 17) rfl (fun _ _ _ h => h) ?_
      try simp only [Act.put, zA, zB, zC, zD, zE, zF]
      refine zU (i := 18) rfl (fun _ _ _ h => h) ?_
      try simp only [Act.put, zA, zB, zC, zD, zE, zF]
      refine zU (i := 19) rfl (fun _ _ _ h => h) ?_
      try simp only [Act.put, zA, zB, zC, zD, zE, zF]
      refine zU (i := 20) rfl (fun _ _ _ h => h) ?_
      try simp only [Act.put, zA, zB, zC, zD, zE, zF]
      refine zU (i := 21) rfl (fun _ _ _ h => h) ?_
      try simp only [Act.put, zA, zB, zC, zD, zE, zF]
      refine zU (i := 22) rfl (fun _ _ _ h => h) ?_
      try simp only [Act.put, zA, zB, zC, zD, zE, zF]
      refine zU (i := 23) rfl (fun _ _ _ h => h) ?_
      try simp only [Act.put, zA, zB, zC, zD, zE, zF]
      refine zU (i := 24) rfl (fun _ _ _ h => h) ?_
      try simp only [Act.put, zA, zB, zC, zD, zE, zF]
      refine zT (i := 25) (v := ?_) rfl ?_ (fun _ _ _ h => h) ?_
      rotate_left
      ·(rintro w ⟨s0, s1, s2, s3, s4, s5, s6, s7⟩; go_simp; try with_reducible rfl)
      try simp only [Act.put, zA, zB, zC, zD, zE, zF]
      refine wpAnyH_done (by kernel_rfl) ?_ _
      try go_wp2_with fail
      go_meet
      exact ⟨true, rfl, zaa (by simp at hmb; simp [hmb]), HXY⟩
     | true =>
      have hmt : mayN k n K kd vn pg ct := by simpa using hmb
      by_cases hj0 : j = 0
      ·subst hj0
       have hcs : cs = [] := List.eq_nil_of_length_eq_zero HPW.out.len
       have HCS := zaa hcs
       clear hcs
       go_wp2_with fail
       refine wp_region_held_drew (S := (fun u => u.cell? ⟨rr, 2, none⟩ = some (.bool false) ∧ u.cell? ⟨a, 0, none⟩ = some (.int .i64 k) ∧ u.cell? ⟨a, 1, none⟩ = some (.int .i64 (n : Int)) ∧ u.cell? ⟨g9, 1, none⟩ = some (.slice yo1 K yc1) ∧ u.cell? ⟨g9, 1 + 1, none⟩ = some (.int .i64 kd) ∧ u.cell? ⟨g9, 1 + 2, none⟩ = some (.slice vo vn vc) ∧ u.cell? ⟨g9, 1 + 3, none⟩ = some (.int .i64 pg) ∧ u.cell? ⟨g9, 1 + 4, none⟩ = some (.int .i64 ct))) (by kernel_rfl) (HFY.out _ Br.drew) (fun hHeld => ?_)
       refine zT (i := 0) (v := ?_) rfl ?_ (fun _ _ _ h => h) ?_
       rotate_left
       ·(rintro w ⟨s0, s1, s2, s3, s4, s5, s6, s7⟩; go_simp; try with_reducible rfl)
       try simp only [Act.put, zA, zC, zD, zE, zF]
       refine zT (i := 1) (v := ?_) rfl ?_ (fun _ _ _ h => h) ?_
       rotate_left
       ·(rintro w ⟨s0, s1, s2, s3, s4, s5, s6, s7⟩; go_simp; try with_reducible rfl)
       try simp only [Act.put, zA, zB, zC, zD, zE, zF]
       refine zT (i := 2) (v := ?_) rfl ?_ (fun _ _ _ h => h) ?_
       rotate_left
       ·(rintro w ⟨s0, s1, s2, s3, s4, s5, s6, s7⟩; go_simp; try with_reducible rfl)
       try simp only [Act.put, zA, zB, zC, zD, zE, zF]
       refine zT (i := 3) (v := ?_) rfl ?_ (fun _ _ _ h => h) ?_
       rotate_left
       ·(rintro w ⟨s0, s1, s2, s3, s4, s5, s6, s7⟩; go_simp; try with_reducible rfl)
       try simp only [Act.put, zA, zB, zC, zD, zE, zF]
       refine zT (i := 4) (v := ?_) rfl ?_ (fun _ _ _ h => h) ?_
       rotate_left
       ·(rintro w ⟨s0, s1, s2, s3, s4, s5, s6, s7⟩; go_simp; try with_reducible rfl)
       try simp only [Act.put, zA, zB, zC, zD, zE, zF]
       refine zT (i := 5) (v := ?_) rfl ?_ (fun _ _ _ h => h) ?_
       rotate_left
       ·(rintro w ⟨s0, s1, s2, s3, s4, s5, s6, s7⟩; go_simp; try with_reducible rfl)
       try simp only [Act.put, zA, zB, zC, zD, zE, zF]
       refine zT (i := 6) (v := ?_) rfl ?_ (fun _ _ _ h => h) ?_
       rotate_left
       ·(rintro w ⟨s0, s1, s2, s3, s4, s5, s6, s7⟩; go_simp; try with_reducible rfl)
       try simp only [Act.put, zA, zB, zC, zD, zE, zF]
       refine zT (i := 7) (v := ?_) rfl ?_ (fun _ _ _ h => h) ?_
       rotate_left
       ·(rintro w ⟨s0, s1, s2, s3, s4, s5, s6, s7⟩; go_simp; try with_reducible rfl)
       try simp only [Act.put, zA, zB, zC, zD, zE, zF]
       refine zT (i := 8) (v := ?_) rfl ?_ (fun _ _ _ h => h) ?_
       rotate_left
       ·(rintro w ⟨s0, s1, s2, s3, s4, s5, s6, s7⟩; go_simp; try with_reducible rfl)
       try simp only [Act.put, zA, zB, zC, zD, zE, zF]
       refine zT (i := 9) (v := ?_) rfl ?_ (fun _ _ _ h => h) ?_
       rotate_left
       ·(rintro w ⟨s0, s1, s2, s3, s4, s5, s6, s7⟩; go_simp; try with_reducible rfl)
       try simp only [Act.put, zA, zB, zC, zD, zE, zF]
       refine zT (i := 10) (v := ?_) rfl ?_ (fun _ _ _ h => h) ?_
       rotate_left
       ·(rintro w ⟨s0, s1, s2, s3, s4, s5, s6, s7⟩; go_simp; try with_reducible rfl)
       try simp only [Act.put, zA, zB, zC, zD, zE, zF]
       refine zT (i := 11) (v := ?_) rfl ?_ (fun _ _ _ h => h) ?_
       rotate_left
       ·(rintro w ⟨s0, s1, s2, s3, s4, s5, s6, s7⟩; go_simp; try with_reducible rfl)
       try simp only [Act.put, zA, zB, zC, zD, zE, zF]
       refine zT (i := 12) (v := ?_) rfl ?_ (fun _ _ _ h => h) ?_
       rotate_left
       ·(rintro w ⟨s0, s1, s2, s3, s4, s5, s6, s7⟩; go_simp; try with_reducible rfl)
       try simp only [Act.put, zA, zB, zC, zD, zE, zF]
       refine zY (i := 13) rfl fun K hK => ?_
       go_simp
       go_at_call 71
       refine (HMB.out _).mono ?_
       rintro e y ⟨rfl, hby⟩
       have HXY : Hid (Below x.heap.size x y) := zaa (by first | exact hby | exact zae Br.drew Lr hby | exact zae (zab Br _) Lr hby)
       obtain ⟨y0, y1, y2, y3, y4, y5, y6, y7⟩ := HFY.out y HXY.out
       clear hby
       rw [hmb]
       dsimp only
       refine hK.out _ _ ⟨y0, y1, y2, y3, y4, y5, y6, y7⟩ (fun hHeld => ?_)
       clear hK K
       try simp only [Act.put, zA, zB, zC, zD, zE, zF]
       refine zT (i := 14) (v := ?_) rfl ?_ (fun _ _ _ h => h) ?_
       rotate_left
       ·(rintro w ⟨s0, s1, s2, s3, s4, s5, s6, s7⟩; go_simp; try with_reducible rfl)
       try simp only [Act.put, zA, zB, zC, zD, zE, zF]
       refine zT (i := 15) (v := ?_) rfl ?_ (fun _ _ _ h => h) ?_
       rotate_left
       ·(rintro w ⟨s0, s1, s2, s3, s4, s5, s6, s7⟩; go_simp; try with_reducible rfl)
       try simp only [Act.put, zA, zB, zC, zD, zE, zF]
       refine zT (i := 16) (v := ?_) rfl ?_ (fun _ _ _ h => h) ?_
       rotate_left
       ·(rintro w ⟨s0, s1, s2, s3, s4, s5, s6, s7⟩; go_simp; try with_reducible rfl)
       try simp only [Act.put, zA, zB, zC, zD, zE, zF]
       refine zT (i := 17) (v := ?_) rfl ?_ (fun _ _ _ h => h) ?_
       rotate_left
       ·(rintro w ⟨s0, s1, s2, s3, s4, s5, s6, s7⟩; go_simp; try with_reducible rfl)
       try simp only [Act.put, zA, zB, zC, zD, zE, zF]
       refine zT (i := 18) (v := ?_) rfl ?_ (fun _ _ _ h => h) ?_
       rotate_left
       ·(rintro w ⟨s0, s1, s2, s3, s4, s5, s6, s7⟩; go_simp; try with_reducible rfl)
       try simp only [Act.put, zA, zB, zC, zD, zE, zF]
       refine zT (i := 19) (v := ?_) rfl ?_ (fun _ _ _ h => h) ?_
       rotate_left
       ·(rintro w ⟨s0, s1, s2, s3, s4, s5, s6, s7⟩; go_simp; try with_reducible rfl)
       try simp only [Act.put, zA, zB, zC, zD, zE, zF]
       refine zU (i := 20) rfl (fun _ _ _ h => h) ?_
       try simp only [Act.put, zA, zB, zC, zD, zE, zF]
       refine zU (i := 21) rfl (fun _ _ _ h => h) ?_
       try simp only [Act.put, zA, zB, zC, zD, zE, zF]
       refine zU (i := 22) rfl (fun _ _ _ h => h) ?_
       try simp only [Act.put, zA, zB, zC, zD, zE, zF]
       refine zU (i := 23) rfl (fun _ _ _ h => h) ?_
       try simp only [Act.put, zA, zB, zC, zD, zE, zF]
       refine zT (i := 24) (v := ?_) rfl ?_ (fun _ _ _ h => h) ?_
       rotate_left
       ·(rintro w ⟨s0, s1, s2, s3, s4, s5, s6, s7⟩; go_simp; try with_reducible rfl)
       try simp only [Act.put, zA, zB, zC, zD, zE, zF]
       refine zT (i := 25) (v := ?_) rfl ?_ (fun _ _ _ h => h) ?_
       rotate_left
       ·(rintro w ⟨s0, s1, s2, s3, s4, s5, s6, s7⟩; go_simp; try with_reducible rfl)
       try simp only [Act.put, zA, zB, zC, zD, zE, zF]
       refine wpAnyH_done (by kernel_rfl) ?_ _
       try go_wp2_with fail
       go_meet
       exact ⟨false, rfl, zaa (by simp [HCS.out, prv, zar, hmt]), HXY⟩
      ·have hj1 : 0 < (j : Int) := by omega
       have hj2 : 0 < j := by omega
       have dj1 : decide (0 < (j : Int)) = true := decide_eq_true hj1
       have dj2 : decide (0 < j) = true := decide_eq_true hj2
       have HQL : Hid (prv cs = some L1) := zaa (by
        rcases HLK.out.2.2 with h | h
        ·exact absurd HPW.out.len (by rw [h]; simp; omega)
        ·exact h)
       have HSLY : Hid (∀ y, Below x.heap.size x y → Sl y lo ln lc L1 ∧ Sl y yo1 K yc1 (hdP k P j ++ key)) := zaa fun y hy => by
        have hp := HP5.out.go hy
        obtain ⟨a1, e1, h1, h2, _⟩ := hp.l.sl HLK.out.1 HLK.out.2.1
        obtain ⟨a2, e2, h3, h4, _⟩ := hp.y.sl ((hdP_wf HP.out.wf j).append HKW.out) (by rw [HKE.out]; exact HKR.out)
        injection h1 with i1 i2 i3
        injection h3 with i4 i5 i6
        subst i1 i3 i4 i6
        rw [← i2] at h2
        rw [← i5] at h4
        exact ⟨h2, h4⟩
       cases hkb : decide (kl L1 (hdP k P j ++ key)) with
       | true =>
        go_wp2_with fail
        refine wp_region_held_drew (S := (fun u => u.cell? ⟨rr, 2, none⟩ = some (.bool false) ∧ u.cell? ⟨a, 0, none⟩ = some (.int .i64 k) ∧ u.cell? ⟨a, 1, none⟩ = some (.int .i64 (n : Int)) ∧ u.cell? ⟨g9, 1, none⟩ = some (.slice yo1 K yc1) ∧ u.cell? ⟨g9, 1 + 1, none⟩ = some (.int .i64 kd) ∧ u.cell? ⟨g9, 1 + 2, none⟩ = some (.slice vo vn vc) ∧ u.cell? ⟨g9, 1 + 3, none⟩ = some (.int .i64 pg) ∧ u.cell? ⟨g9, 1 + 4, none⟩ = some (.int .i64 ct))) (by kernel_rfl) (HFY.out _ Br.drew) (fun hHeld => ?_)
        refine zT (i := 0) (v := ?_) rfl ?_ (fun _ _ _ h => h) ?_
        rotate_left
        ·(rintro w ⟨s0, s1, s2, s3, s4, s5, s6, s7⟩; go_simp; try with_reducible rfl)
        try simp only [Act.put, zA, zC, zD, zE, zF]
        refine zT (i := 1) (v := ?_) rfl ?_ (fun _ _ _ h => h) ?_
        rotate_left
        ·(rintro w ⟨s0, s1, s2, s3, s4, s5, s6, s7⟩; go_simp; try with_reducible rfl)
        try simp only [Act.put, zA, zB, zC, zD, zE, zF]
        refine zT (i := 2) (v := ?_) rfl ?_ (fun _ _ _ h => h) ?_
        rotate_left
        ·(rintro w ⟨s0, s1, s2, s3, s4, s5, s6, s7⟩; go_simp; try with_reducible rfl)
        try simp only [Act.put, zA, zB, zC, zD, zE, zF]
        refine zT (i := 3) (v := ?_) rfl ?_ (fun _ _ _ h => h) ?_
        rotate_left
        ·(rintro w ⟨s0, s1, s2, s3, s4, s5, s6, s7⟩; go_simp; try with_reducible rfl)
        try simp only [Act.put, zA, zB, zC, zD, zE, zF]
        refine zT (i := 4) (v := ?_) rfl ?_ (fun _ _ _ h => h) ?_
        rotate_left
        ·(rintro w ⟨s0, s1, s2, s3, s4, s5, s6, s7⟩; go_simp; try with_reducible rfl)
        try simp only [Act.put, zA, zB, zC, zD, zE, zF]
        refine zT (i := 5) (v := ?_) rfl ?_ (fun _ _ _ h => h) ?_
        rotate_left
        ·(rintro w ⟨s0, s1, s2, s3, s4, s5, s6, s7⟩; go_simp; try with_reducible rfl)
        try simp only [Act.put, zA, zB, zC, zD, zE, zF]
        refine zT (i := 6) (v := ?_) rfl ?_ (fun _ _ _ h => h) ?_
        rotate_left
        ·(rintro w ⟨s0, s1, s2, s3, s4, s5, s6, s7⟩; go_simp; try with_reducible rfl)
        try simp only [Act.put, zA, zB, zC, zD, zE, zF]
        refine zT (i := 7) (v := ?_) rfl ?_ (fun _ _ _ h => h) ?_
        rotate_left
        ·(rintro w ⟨s0, s1, s2, s3, s4, s5, s6, s7⟩; go_simp; try with_reducible rfl)
        try simp only [Act.put, zA, zB, zC, zD, zE, zF]
        refine zT (i := 8) (v := ?_) rfl ?_ (fun _ _ _ h => h) ?_
        rotate_left
        ·(rintro w ⟨s0, s1, s2, s3, s4, s5, s6, s7⟩; go_simp; try with_reducible rfl)
        try simp only [Act.put, zA, zB, zC, zD, zE, zF]
        refine zT (i := 9) (v := ?_) rfl ?_ (fun _ _ _ h => h) ?_
        rotate_left
        ·(rintro w ⟨s0, s1, s2, s3, s4, s5, s6, s7⟩; go_simp; try with_reducible rfl)
        try simp only [Act.put, zA, zB, zC, zD, zE, zF]
        refine zT (i := 10) (v := ?_) rfl ?_ (fun _ _ _ h => h) ?_
        rotate_left
        ·(rintro w ⟨s0, s1, s2, s3, s4, s5, s6, s7⟩; go_simp; try with_reducible rfl)
        try simp only [Act.put, zA, zB, zC, zD, zE, zF]
        refine zT (i := 11) (v := ?_) rfl ?_ (fun _ _ _ h => h) ?_
        rotate_left
        ·(rintro w ⟨s0, s1, s2, s3, s4, s5, s6, s7⟩; go_simp; try with_reducible rfl)
        try simp only [Act.put, zA, zB, zC, zD, zE, zF]
        refine zT (i := 12) (v := ?_) rfl ?_ (fun _ _ _ h => h) ?_
        rotate_left
        ·(rintro w ⟨s0, s1, s2, s3, s4, s5, s6, s7⟩; go_simp; try with_reducible rfl)
        try simp only [Act.put, zA, zB, zC, zD, zE, zF]
        refine zY (i := 13) rfl fun K hK => ?_
        go_simp
        go_at_call 71
        refine (HMB.out _).mono ?_
        rintro e y ⟨rfl, hby⟩
        have HXY : Hid (Below x.heap.size x y) := zaa (by first | exact hby | exact zae Br.drew Lr hby | exact zae (zab Br _) Lr hby)
        obtain ⟨y0, y1, y2, y3, y4, y5, y6, y7⟩ := HFY.out y HXY.out
        clear hby
        rw [hmb]
        dsimp only
        refine hK.out _ _ ⟨y0, y1, y2, y3, y4, y5, y6, y7⟩ (fun hHeld => ?_)
        clear hK K
        try simp only [Act.put, zA, zB, zC, zD, zE, zF]
        refine zT (i := 14) (v := ?_) rfl ?_ (fun _ _ _ h => h) ?_
        rotate_left
        ·(rintro w ⟨s0, s1, s2, s3, s4, s5, s6, s7⟩; go_simp; try with_reducible rfl)
        try simp only [Act.put, zA, zB, zC, zD, zE, zF]
        refine zT (i := 15) (v := ?_) rfl ?_ (fun _ _ _ h => h) ?_
        rotate_left
        ·(rintro w ⟨s0, s1, s2, s3, s4, s5, s6, s7⟩; go_simp; try with_reducible rfl)
        try simp only [Act.put, zA, zB, zC, zD, zE, zF]
        refine zT (i := 16) (v := ?_) rfl ?_ (fun _ _ _ h => h) ?_
        rotate_left
        ·(rintro w ⟨s0, s1, s2, s3, s4, s5, s6, s7⟩; go_simp; try with_reducible rfl)
        try simp only [Act.put, zA, zB, zC, zD, zE, zF]
        refine zT (i := 17) (v := ?_) rfl ?_ (fun _ _ _ h => h) ?_
        rotate_left
        ·(rintro w ⟨s0, s1, s2, s3, s4, s5, s6, s7⟩; go_simp; try with_reducible rfl)
        try simp only [Act.put, zA, zB, zC, zD, zE, zF]
        refine zT (i := 18) (v := ?_) rfl ?_ (fun _ _ _ h => h) ?_
        rotate_left
        ·(rintro w ⟨s0, s1, s2, s3, s4, s5, s6, s7⟩; go_simp; try with_reducible rfl)
        try simp only [Act.put, zA, zB, zC, zD, zE, zF]
        refine zT (i := 19) (v := ?_) rfl ?_ (fun _ _ _ h => h) ?_
        rotate_left
        ·(rintro w ⟨s0, s1, s2, s3, s4, s5, s6, s7⟩; go_simp; try with_reducible rfl)
        try simp only [Act.put, zA, zB, zC, zD, zE, zF]
        refine zT (i := 20) (v := ?_) rfl ?_ (fun _ _ _ h => h) ?_
        rotate_left
        ·(rintro w ⟨s0, s1, s2, s3, s4, s5, s6, s7⟩; go_simp; try with_reducible rfl)
        try simp only [Act.put, zA, zB, zC, zD, zE, zF]
        refine zT (i := 21) (v := ?_) rfl ?_ (fun _ _ _ h => h) ?_
        rotate_left
        ·(rintro w ⟨s0, s1, s2, s3, s4, s5, s6, s7⟩; go_simp; try with_reducible rfl)
        try simp only [Act.put, zA, zB, zC, zD, zE, zF]
        refine zY (i := 22) rfl fun K hK => ?_
        go_simp
        go_at_call 85
        refine zac (riseQ_any _ _ _ _ _ _ _ _ _ (HSLY.out _ HXY.out).1 (HSLY.out _ HXY.out).2) ?_
        rw [hkb]
        dsimp only
        refine hK.out _ _ ⟨y0, y1, y2, y3, y4, y5, y6, y7⟩ (fun hHeld => ?_)
        clear hK K
        try simp only [Act.put, zA, zB, zC, zD, zE, zF]
        refine zT (i := 23) (v := ?_) rfl ?_ (fun _ _ _ h => h) ?_
        rotate_left
        ·(rintro w ⟨s0, s1, s2, s3, s4, s5, s6, s7⟩; go_simp; try with_reducible rfl)
        try simp only [Act.put, zA, zB, zC, zD, zE, zF]
        refine zT (i := 24) (v := ?_) rfl ?_ (fun _ _ _ h => h) ?_
        rotate_left
        ·(rintro w ⟨s0, s1, s2, s3, s4, s5, s6, s7⟩; go_simp; try with_reducible rfl)
        try simp only [Act.put, zA, zB, zC, zD, zE, zF]
        refine zT (i := 25) (v := ?_) rfl ?_ (fun _ _ _ h => h) ?_
        rotate_left
        ·(rintro w ⟨s0, s1, s2, s3, s4, s5, s6, s7⟩; go_simp; try with_reducible rfl)
        try simp only [Act.put, zA, zB, zC, zD, zE, zF]
        refine wpAnyH_done (by kernel_rfl) ?_ _
        try go_wp2_with fail
        go_meet
        exact ⟨false, rfl, zaa (by simp at hkb; simp [HQL.out, zar, hmt, hkb]), HXY⟩
       | false =>
        go_wp2_with fail
        refine wp_region_held_drew (S := (fun u => u.cell? ⟨rr, 2, none⟩ = some (.bool false) ∧ u.cell? ⟨a, 0, none⟩ = some (.int .i64 k) ∧ u.cell? ⟨a, 1, none⟩ = some (.int .i64 (n : Int)) ∧ u.cell? ⟨g9, 1, none⟩ = some (.slice yo1 K yc1) ∧ u.cell? ⟨g9, 1 + 1, none⟩ = some (.int .i64 kd) ∧ u.cell? ⟨g9, 1 + 2, none⟩ = some (.slice vo vn vc) ∧ u.cell? ⟨g9, 1 + 3, none⟩ = some (.int .i64 pg) ∧ u.cell? ⟨g9, 1 + 4, none⟩ = some (.int .i64 ct))) (by kernel_rfl) (HFY.out _ Br.drew) (fun hHeld => ?_)
        refine zT (i := 0) (v := ?_) rfl ?_ (fun _ _ _ h => h) ?_
        rotate_left
        ·(rintro w ⟨s0, s1, s2, s3, s4, s5, s6, s7⟩; go_simp; try with_reducible rfl)
        try simp only [Act.put, zA, zC, zD, zE, zF]
        refine zT (i := 1) (v := ?_) rfl ?_ (fun _ _ _ h => h) ?_
        rotate_left
        ·(rintro w ⟨s0, s1, s2, s3, s4, s5, s6, s7⟩; go_simp; try with_reducible rfl)
        try simp only [Act.put, zA, zB, zC, zD, zE, zF]
        refine zT (i := 2) (v := ?_) rfl ?_ (fun _ _ _ h => h) ?_
        rotate_left
        ·(rintro w ⟨s0, s1, s2, s3, s4, s5, s6, s7⟩; go_simp; try with_reducible rfl)
        try simp only [Act.put, zA, zB, zC, zD, zE, zF]
        refine zT (i := 3) (v := ?_) rfl ?_ (fun _ _ _ h => h) ?_
        rotate_left
        ·(rintro w ⟨s0, s1, s2, s3, s4, s5, s6, s7⟩; go_simp; try with_reducible rfl)
        try simp only [Act.put, zA, zB, zC, zD, zE, zF]
        refine zT (i := 4) (v := ?_) rfl ?_ (fun _ _ _ h => h) ?_
        rotate_left
        ·(rintro w ⟨s0, s1, s2, s3, s4, s5, s6, s7⟩; go_simp; try with_reducible rfl)
        try simp only [Act.put, zA, zB, zC, zD, zE, zF]
        refine zT (i := 5) (v := ?_) rfl ?_ (fun _ _ _ h => h) ?_
        rotate_left
        ·(rintro w ⟨s0, s1, s2, s3, s4, s5, s6, s7⟩; go_simp; try with_reducible rfl)
        try simp only [Act.put, zA, zB, zC, zD, zE, zF]
        refine zT (i := 6) (v := ?_) rfl ?_ (fun _ _ _ h => h) ?_
        rotate_left
        ·(rintro w ⟨s0, s1, s2, s3, s4, s5, s6, s7⟩; go_simp; try with_reducible rfl)
        try simp only [Act.put, zA, zB, zC, zD, zE, zF]
        refine zT (i := 7) (v := ?_) rfl ?_ (fun _ _ _ h => h) ?_
        rotate_left
        ·(rintro w ⟨s0, s1, s2, s3, s4, s5, s6, s7⟩; go_simp; try with_reducible rfl)
        try simp only [Act.put, zA, zB, zC, zD, zE, zF]
        refine zT (i := 8) (v := ?_) rfl ?_ (fun _ _ _ h => h) ?_
        rotate_left
        ·(rintro w ⟨s0, s1, s2, s3, s4, s5, s6, s7⟩; go_simp; try with_reducible rfl)
        try simp only [Act.put, zA, zB, zC, zD, zE, zF]
        refine zT (i := 9) (v := ?_) rfl ?_ (fun _ _ _ h => h) ?_
        rotate_left
        ·(rintro w ⟨s0, s1, s2, s3, s4, s5, s6, s7⟩; go_simp; try with_reducible rfl)
        try simp only [Act.put, zA, zB, zC, zD, zE, zF]
        refine zT (i := 10) (v := ?_) rfl ?_ (fun _ _ _ h => h) ?_
        rotate_left
        ·(rintro w ⟨s0, s1, s2, s3, s4, s5, s6, s7⟩; go_simp; try with_reducible rfl)
        try simp only [Act.put, zA, zB, zC, zD, zE, zF]
        refine zT (i := 11) (v := ?_) rfl ?_ (fun _ _ _ h => h) ?_
        rotate_left
        ·(rintro w ⟨s0, s1, s2, s3, s4, s5, s6, s7⟩; go_simp; try with_reducible rfl)
        try simp only [Act.put, zA, zB, zC, zD, zE, zF]
        refine zT (i := 12) (v := ?_) rfl ?_ (fun _ _ _ h => h) ?_
        rotate_left
        ·(rintro w ⟨s0, s1, s2, s3, s4, s5, s6, s7⟩; go_simp; try with_reducible rfl)
        try simp only [Act.put, zA, zB, zC, zD, zE, zF]
        refine zY (i := 13) rfl fun K hK => ?_
        go_simp
        go_at_call 71
        refine (HMB.out _).mono ?_
        rintro e y ⟨rfl, hby⟩
        have HXY : Hid (Below x.heap.size x y) := zaa (by first | exact hby | exact zae Br.drew Lr hby | exact zae (zab Br _) Lr hby)
        obtain ⟨y0, y1, y2, y3, y4, y5, y6, y7⟩ := HFY.out y HXY.out
        clear hby
        rw [hmb]
        dsimp only
        refine hK.out _ _ ⟨y0, y1, y2, y3, y4, y5, y6, y7⟩ (fun hHeld => ?_)
        clear hK K
        try simp only [Act.put, zA, zB, zC, zD, zE, zF]
        refine zT (i := 14) (v := ?_) rfl ?_ (fun _ _ _ h => h) ?_
        rotate_left
        ·(rintro w ⟨s0, s1, s2, s3, s4, s5, s6, s7⟩; go_simp; try with_reducible rfl)
        try simp only [Act.put, zA, zB, zC, zD, zE, zF]
        refine zT (i := 15) (v := ?_) rfl ?_ (fun _ _ _ h => h) ?_
        rotate_left
        ·(rintro w ⟨s0, s1, s2, s3, s4, s5, s6, s7⟩; go_simp; try with_reducible rfl)
        try simp only [Act.put, zA, zB, zC, zD, zE, zF]
        refine zT (i := 16) (v := ?_) rfl ?_ (fun _ _ _ h => h) ?_
        rotate_left
        ·(rintro w ⟨s0, s1, s2, s3, s4, s5, s6, s7⟩; go_simp; try with_reducible rfl)
        try simp only [Act.put, zA, zB, zC, zD, zE, zF]
        refine zT (i := 17) (v := ?_) rfl ?_ (fun _ _ _ h => h) ?_
        rotate_left
        ·(rintro w ⟨s0, s1, s2, s3, s4, s5, s6, s7⟩; go_simp; try with_reducible rfl)
        try simp only [Act.put, zA, zB, zC, zD, zE, zF]
        refine zT (i := 18) (v := ?_) rfl ?_ (fun _ _ _ h => h) ?_
        rotate_left
        ·(rintro w ⟨s0, s1, s2, s3, s4, s5, s6, s7⟩; go_simp; try with_reducible rfl)
        try simp only [Act.put, zA, zB, zC, zD, zE, zF]
        refine zT (i := 19) (v := ?_) rfl ?_ (fun _ _ _ h => h) ?_
        rotate_left
        ·(rintro w ⟨s0, s1, s2, s3, s4, s5, s6, s7⟩; go_simp; try with_reducible rfl)
        try simp only [Act.put, zA, zB, zC, zD, zE, zF]
        refine zT (i := 20) (v := ?_) rfl ?_ (fun _ _ _ h => h) ?_
        rotate_left
        ·(rintro w ⟨s0, s1, s2, s3, s4, s5, s6, s7⟩; go_simp; try with_reducible rfl)
        try simp only [Act.put, zA, zB, zC, zD, zE, zF]
        refine zT (i := 21) (v := ?_) rfl ?_ (fun _ _ _ h => h) ?_
        rotate_left
        ·(rintro w ⟨s0, s1, s2, s3, s4, s5, s6, s7⟩; go_simp; try with_reducible rfl)
        try simp only [Act.put, zA, zB, zC, zD, zE, zF]
        refine zY (i := 22) rfl fun K hK => ?_
        go_simp
        go_at_call 85
        refine zac (riseQ_any _ _ _ _ _ _ _ _ _ (HSLY.out _ HXY.out).1 (HSLY.out _ HXY.out).2) ?_
        rw [hkb]
        dsimp only
        refine hK.out _ _ ⟨y0, y1, y2, y3, y4, y5, y6, y7⟩ (fun hHeld => ?_)
        clear hK K
        try simp only [Act.put, zA, zB, zC, zD, zE, zF]
        refine zT (i := 23) (v := ?_) rfl ?_ (fun _ _ _ h => h) ?_
        rotate_left
        ·(rintro w ⟨s0, s1, s2, s3, s4, s5, s6, s7⟩; go_simp; try with_reducible rfl)
        try simp only [Act.put, zA, zB, zC, zD, zE, zF]
        refine zT (i := 24) (v := ?_) rfl ?_ (fun _ _ _ h => h) ?_
        rotate_left
        ·(rintro w ⟨s0, s1, s2, s3, s4, s5, s6, s7⟩; go_simp; try with_reducible rfl)
        try simp only [Act.put, zA, zB, zC, zD, zE, zF]
        refine zT (i := 25) (v := ?_) rfl ?_ (fun _ _ _ h => h) ?_
        rotate_left
        ·(rintro w ⟨s0, s1, s2, s3, s4, s5, s6, s7⟩; go_simp; try with_reducible rfl)
        try simp only [Act.put, zA, zB, zC, zD, zE, zF]
        refine wpAnyH_done (by kernel_rfl) ?_ _
        try go_wp2_with fail
        go_meet
        exact ⟨true, rfl, zaa (by simp at hkb; simp [HQL.out, zar, hkb]), HXY⟩
   obtain ⟨bb, rfl, HBB, HB2⟩ := hcut
   clear c0 c1 c2 c3 c4 c5 r2
   have HP6 := zaa (HP5.out.go HB2.out)
   have HE6 : Hid (E6 wc g9 (.slice qo qn qc) (.slice yo1 K yc1) (.int .i64 kd) (.slice vo vn vc) (.int .i64 pg) (.int .i64 ct)) := zaa (zag HE5.out HB2.out)
   have HMI : Hid (mayN k n K kd vn pg ct ↔ mayP k n ((⟨key, kd, val, pg, ct⟩ : Cl).pre (hdP k P j))) := zaa (by
    rw [← mayP_iff]
    simp only [Cl.pre]
    rw [HKE.out, HVL.out])
   cases bb with
   | true =>
    have HNO : Hid (zba k n P m (whl k) none body = none) := by
     refine zaa ?_
     rcases HCASE.out with ⟨h1, h2⟩ | ⟨h1, h2⟩
     ·rcases HBB.out.1 rfl with h3 | h3
      ·rw [h2] at h3; cases h3
      ·refine HPW.out.bad hlt h1 ?_
       rw [← HMI.out]
       exact h3
     ·exact HPW.out.fail hlt h1
    have HCFW := zaa HP6.out.cf
    go_wp2
    go_ret
    exact ⟨false, rfl, HCFW, zaa (.inr ⟨rfl, HNO.out⟩)⟩
   | false =>
    have hnb : ¬ (en = true ∨ ¬ (mayN k n K kd vn pg ct ∧ zar (prv cs) (hdP k P j ++ key))) := fun h => by
     have := HBB.out.2 h
     cases this
    have hen : en = false := by
     cases en with
     | true => exact absurd (.inl rfl) hnb
     | false => rfl
    subst hen
    have hgood : mayN k n K kd vn pg ct ∧ zar (prv cs) (hdP k P j ++ key) := Classical.byContradiction fun h => hnb (.inr h)
    have HNX : Hid (PwQ k n m P body (cs ++ [(⟨key, kd, val, pg, ct⟩ : Cl).pre (hdP k P j)]) (j + 1) q ∧ qst P.length (whl k) 0 (cs ++ [(⟨key, kd, val, pg, ct⟩ : Cl).pre (hdP k P j)]) = qst P.length (whl k) 0 cs ++ [p]) := by
     rcases HCASE.out with ⟨h1, h2⟩ | ⟨h1, h2⟩
     ·exact zaa (HPW.out.next HWF.out hlt (by rw [HBL.out]; exact HQB.out) (by rw [HBL.out]; exact HPLE.out) h1 (by rw [← HMI.out]; exact hgood))
     ·cases h2
    have HPN : Hid (Pq w wc a rr k n po pn pc gb bn bc (.slice so1 sn1 sc1) (.slice yo1 K yc1) (.slice lo ln lc) (qst P.length (whl k) 0 (cs ++ [(⟨key, kd, val, pg, ct⟩ : Cl).pre (hdP k P j)])) (hdP k P j ++ key) L1 q false) := by
     have h := HP6.out.swap
     rw [← HNX.out.2] at h
     exact zaa h
    have HLN : Hid (Wf (hdP k P j ++ key) ∧ (hdP k P j ++ key).length ≤ 140737488355328 ∧ (cs ++ [(⟨key, kd, val, pg, ct⟩ : Cl).pre (hdP k P j)] = [] ∨ prv (cs ++ [(⟨key, kd, val, pg, ct⟩ : Cl).pre (hdP k P j)]) = some (hdP k P j ++ key))) := zaa ⟨(hdP_wf HP.out.wf j).append HKW.out, by rw [HKE.out]; exact HKR.out, .inr (by simp [prv, Cl.pre])⟩
    clear hnb hgood HBB HCASE HP5 HE5 HP6
    go_wp2
    go_roundw
    case rel => exact ⟨j + 1, yo1, K, yc1, lo, ln, lc, so1, sn1, sc1, _, _, L1, q, by omega, by go_num, rfl, rfl, HPN, zaa HNX.out.1, HLN⟩
    case measure => simp [intOf]; omega
  ·obtain rfl : j = m := by omega
   have hlI : ¬ (j : Int) < (j : Int) := by omega
   obtain ⟨c0, c1, c2, c3, c4, c5⟩ := HPQ.out.row.cells
   have c6 := HPQ.out.row.free 3
   have r1 := HPQ.out.rd.c1
   have hpb := HPQ.out.hp
   have HDN := zaa HPW.out.done
   have HAT := zaa HPW.out.at_
   have p1 : p ≤ bc := zN hpb HB.out.hcap
   have p2 : (p : Int) ≤ (bc : Int) := by omega
   have HPB := zaa hpb
   clear hpb
   go_wp2_with fail
   go_region
   all_goals
    go_wp2
    go_ret
    refine ⟨true, rfl, zaa ((HPQ.out.go Br.drew).cf.go (Cf.set _ _ _ _)), zaa (.inl ⟨rfl, cs, .slice so sn sc, by rw [← HAT.out]; exact HDN.out, by rw [← HAT.out, HBL.out]; exact HPB.out, by rw [← HAT.out]; exact (HPQ.out.go Br.drew).row.set3 _, ?_⟩)⟩
    have hq := HPQ.out.go Br.drew
    have hr := hq.row
    unfold QR at hr
    exact hq.on.cf (Cf.set _ _ _ _) (hq.on.apart hr (by decide))
end Go.Proofs.YtbkhjeacmmbabaaGreatDoor
