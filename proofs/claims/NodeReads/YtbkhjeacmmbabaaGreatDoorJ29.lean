import Derived.Test.YtbkhjeacmmbabaaGreatDoorJ28
namespace Go.Proofs.YtbkhjeacmmbabaaGreatDoor
set_option maxRecDepth 100000
open Go.RowKit
structure Pq (w u : World) (a rr : Nat) (k : Int) (n : Nat) (po : Option Addr) (pn pc gb bn bc : Nat) (vs lv kv : Value) (st : List Nat) (L1 L2 : List Int) (p : Nat) (en : Bool) : Prop where
 row : QR u a k n (.slice po pn pc) (.slice (some ⟨gb, 0, none⟩) bn bc) vs 0
 rd : Rdq u rr (some ⟨gb, 0, none⟩) bn bc p en
 on : OwnN u w.heap.size vs st
 l : OwnB u w.heap.size lv L1
 y : OwnB u w.heap.size kv L2
 ap : lv.ownBlock = none ∨ lv.ownBlock ≠ kv.ownBlock
 cf : Cf (· = a) w u
 hp : p ≤ bn
 hr : rr = w.heap.size
 ha : a < w.heap.size
theorem Pq.go {w u : World} {a rr : Nat} {k : Int} {n : Nat} {po : Option Addr} {pn pc gb bn bc : Nat} {vs lv kv : Value} {st : List Nat} {L1 L2 : List Int} {p : Nat} {en : Bool} {v : World} (h : Pq w u a rr k n po pn pc gb bn bc vs lv kv st L1 L2 p en) (hb : Below u.heap.size u v) : Pq w v a rr k n po pn pc gb bn bc vs lv kv st L1 L2 p en :=
 ⟨zag h.row hb, zag h.rd hb, h.on.below hb, h.l.on Lr hb, h.y.on Lr hb, h.ap, h.cf.go (Cf.of_below hb), h.hp, h.hr, h.ha⟩
theorem Pq.le {w u : World} {a rr : Nat} {k : Int} {n : Nat} {po : Option Addr} {pn pc gb bn bc : Nat} {vs lv kv : Value} {st : List Nat} {L1 L2 : List Int} {p : Nat} {en : Bool} (h : Pq w u a rr k n po pn pc gb bn bc vs lv kv st L1 L2 p en) : w.heap.size ≤ u.heap.size := h.cf.size
theorem Pq.types {w u : World} {a rr : Nat} {k : Int} {n : Nat} {po : Option Addr} {pn pc gb bn bc : Nat} {vs lv kv : Value} {st : List Nat} {L1 L2 : List Int} {p : Nat} {en : Bool} (h : Pq w u a rr k n po pn pc gb bn bc vs lv kv st L1 L2 p en) : vs.ownBlock ≠ some a ∧ vs.ownBlock ≠ some rr ∧ lv.ownBlock ≠ some a ∧ lv.ownBlock ≠ some rr ∧ kv.ownBlock ≠ some a ∧ kv.ownBlock ≠ some rr := by
 have h1 := h.row
 have h2 := h.rd
 unfold QR at h1
 unfold Rdq at h2
 exact ⟨h.on.apart h1 zd, h.on.apart h2 zd, h.l.apart h1 zd, h.l.apart h2 zd, h.y.apart h1 zd, h.y.apart h2 zd⟩
theorem Pq.read {w u : World} {a rr : Nat} {k : Int} {n : Nat} {po : Option Addr} {pn pc gb bn bc : Nat} {vs lv kv : Value} {st : List Nat} {L1 L2 : List Int} {p : Nat} {en : Bool} {v : World} (h : Pq w u a rr k n po pn pc gb bn bc vs lv kv st L1 L2 p en) (hc : Cf (· = rr) u v) {q : Nat} {en' : Bool} (hr : Rdq v rr (some ⟨gb, 0, none⟩) bn bc q en') (hq : q ≤ bn) : Pq w v a rr k n po pn pc gb bn bc vs lv kv st L1 L2 q en' := by
 obtain ⟨t1, t2, t3, t4, t5, t6⟩ := h.types
 have h1 := h.hr
 have h2 := h.ha
 refine ⟨h.row.cf hc zq, hr, h.on.cf hc t2, h.l.cf hc t4, h.y.cf hc t6, h.ap, h.cf.trans hc ?_, hq, h.hr, h.ha⟩
 intro i hi e
 omega
theorem Pq.row_st {w u : World} {a rr : Nat} {k : Int} {n : Nat} {po : Option Addr} {pn pc gb bn bc : Nat} {vs lv kv : Value} {st : List Nat} {L1 L2 : List Int} {p : Nat} {en : Bool} {v : World} (h : Pq w u a rr k n po pn pc gb bn bc vs lv kv st L1 L2 p en) {x : World} {vs' : Value} (hx : Below u.heap.size u x) (hg : Gr x vs v vs') : QR v a k n (.slice po pn pc) (.slice (some ⟨gb, 0, none⟩) bn bc) vs 0 := (h.go hx).row.gr hg h.types.1
theorem Pq.put_st {w u : World} {a rr : Nat} {k : Int} {n : Nat} {po : Option Addr} {pn pc gb bn bc : Nat} {vs lv kv : Value} {st : List Nat} {L1 L2 : List Int} {p : Nat} {en : Bool} {v : World} (h : Pq w u a rr k n po pn pc gb bn bc vs lv kv st L1 L2 p en) {x : World} {vs' : Value} {st' : List Nat} (hx : Below u.heap.size u x) (ho : OwnN v w.heap.size vs' st') (hg : Gr x vs v vs') :
  Pq w (v.setCell ⟨a, 4, none⟩ vs') a rr k n po pn pc gb bn bc vs' lv kv st' L1 L2 p en := by
 have h1 := h.go hx
 obtain ⟨t1, t2, t3, t4, t5, t6⟩ := h1.types
 have hr := h.row_st hx hg
 have B : Rdq v rr (some ⟨gb, 0, none⟩) bn bc p en := (hg.grow.block rr (zaf h1.rd) (fun e => t2 e.symm)).trans h1.rd
 have hl : OwnB v w.heap.size lv L1 := h1.l.gr hg (h1.l.apartN h1.on)
 have hy : OwnB v w.heap.size kv L2 := h1.y.gr hg (h1.y.apartN h1.on)
 have hc := Cf.set v a 4 vs'
 have A := hr
 unfold QR at A
 have e1 := h.hr
 have e2 := h.ha
 refine ⟨hr.set4 vs', B.cf hc zq, ho.cf hc (ho.apart A zd), hl.cf hc (hl.apart A zd), hy.cf hc (hy.apart A zd), h.ap, ?_, h.hp, h.hr, h.ha⟩
 have g2 : Cf (fun i => w.heap.size ≤ i) x v := Cf.ofGr hg fun g e => by
  have := h1.on
  unfold OwnN at this
  exact (this.lt g e).1
 refine (h1.cf.trans g2 ?_).go hc
 intro i hi e
 omega
theorem Pq.room {w u : World} {a rr : Nat} {k : Int} {n : Nat} {po : Option Addr} {pn pc gb bn bc : Nat} {vs lv kv : Value} {st : List Nat} {L1 L2 : List Int} {p : Nat} {en : Bool} {v : World} (h : Pq w u a rr k n po pn pc gb bn bc vs lv kv st L1 L2 p en) {v0 kv' : Value} {L : List Int} (h0 : v0.ownBlock = kv.ownBlock) (ho : OwnB v w.heap.size kv' L) (hg : Gr u v0 v kv') : Pq w v a rr k n po pn pc gb bn bc vs lv kv' st L1 L p en := by
 obtain ⟨t1, t2, t3, t4, t5, t6⟩ := h.types
 have A : Rdq v rr (some ⟨gb, 0, none⟩) bn bc p en := (hg.grow.block rr (zaf h.rd) (fun e => t6 (by rw [← h0]; exact e.symm))).trans h.rd
 refine ⟨h.row.gr hg (by rw [h0]; exact t5), A, h.on.gr hg (by rw [h0]; exact h.on.apartB h.y), h.l.gr hg (by rw [h0]; exact h.ap), ho, ?_, ?_, h.hp, h.hr, h.ha⟩
 ·rcases h.ap with e | e
  ·exact .inl e
  ·rcases hg.own with e2 | ⟨i, e2, hi⟩
   ·exact .inr (by rw [e2, h0]; exact e)
   ·cases hl : lv.ownBlock with
    | none => exact .inl rfl
    | some j =>
     refine .inr fun e3 => ?_
     rw [e2] at e3
     injection e3 with e3
     have := h.l
     unfold OwnB at this
     have := (this.lt j hl).2
     omega
 ·refine h.cf.trans (Cf.ofGr (F := fun i => w.heap.size ≤ i) hg fun g e => ?_) ?_
  ·have := h.y
   unfold OwnB at this
   exact (this.lt g (by rw [← h0]; exact e)).1
  ·intro i hi e
   omega
theorem Pq.setE {w u : World} {a rr : Nat} {k : Int} {n : Nat} {po : Option Addr} {pn pc gb bn bc : Nat} {vs lv kv : Value} {st : List Nat} {L1 L2 : List Int} {p : Nat} {en : Bool} (h : Pq w u a rr k n po pn pc gb bn bc vs lv kv st L1 L2 p en) {g9 : Nat} {x0 x1 x2 x3 x4 x5 : Value} (he : E6 u g9 x0 x1 x2 x3 x4 x5) (hg : w.heap.size ≤ g9) (i : Nat) (x : Value) : Pq w (u.setCell ⟨g9, i, none⟩ x) a rr k n po pn pc gb bn bc vs lv kv st L1 L2 p en := by
 have hc := Cf.set u g9 i x
 have A := he
 unfold E6 at A
 have e2 := h.ha
 have e3 : ¬ rr = g9 := by
  rintro rfl
  have := h.rd
  unfold Rdq at this
  rw [this] at A
  simp at A
 refine ⟨h.row.cf hc zq, h.rd.cf hc e3, h.on.cf hc (h.on.apart A zd), h.l.cf hc (h.l.apart A zd), h.y.cf hc (h.y.apart A zd), h.ap, h.cf.trans hc ?_, h.hp, h.hr, h.ha⟩
 intro i hi e
 omega
theorem Pq.swap {w u : World} {a rr : Nat} {k : Int} {n : Nat} {po : Option Addr} {pn pc gb bn bc : Nat} {vs lv kv : Value} {st : List Nat} {L1 L2 : List Int} {p : Nat} {en : Bool} (h : Pq w u a rr k n po pn pc gb bn bc vs lv kv st L1 L2 p en) : Pq w u a rr k n po pn pc gb bn bc vs kv lv st L2 L1 p en := by
 refine ⟨h.row, h.rd, h.on, h.y, h.l, ?_, h.cf, h.hp, h.hr, h.ha⟩
 rcases h.ap with e | e
 ·cases hk : kv.ownBlock with
  | none => exact .inl rfl
  | some i => exact .inr (by rw [e]; simp)
 ·exact .inr fun e2 => e e2.symm
theorem Sl.cfa {w u : World} {ao : Option Addr} {n cap a : Nat} {l : List Int} (h : Sl w ao n cap l) (hc : Cf (· = a) w u) (A : Lo a ao n) : Sl u ao n cap l := by
 refine h.cf hc ?_
 rcases A with h0 | h1
 ·exact .inl h0
 ·exact .inr fun p hp e => by have := h1 p hp; omega
def PartQ (m : Nat) (w : World) (a : Nat) (k : Int) (n : Nat) (po : Option Addr) (pn pc gb bc : Nat) (P body : List Int) (e : Ending) (w' : World) : Prop :=
 ∃ b, e = .returned (.bool b) ∧ Hid (Cf (· = a) w w') ∧ Hid ((b = true ∧ ∃ cs vs, zay k n P m (whl k) none body = some (cs, body.drop (qbd P.length (whl k) cs).length) ∧ (qbd P.length (whl k) cs).length ≤ body.length ∧ QR w' a k n (.slice po pn pc) (.slice (some ⟨gb, 0, none⟩) (qbd P.length (whl k) cs).length bc) vs 0 ∧ OwnN w' w.heap.size vs (qst P.length (whl k) 0 cs)) ∨ (b = false ∧ zay k n P m (whl k) none body = none))
set_option maxHeartbeats 8000000 in
theorem partedQ_any (m : Nat) (w : World) (a : Nat) (k : Int) (n : Nat) (po : Option Addr) (pn pc gb bn bc : Nat) (P body : List Int) (v0 : Value) (F : QR w a k n (.slice po pn pc) (.slice (some ⟨gb, 0, none⟩) bn bc) v0 0) (hP : Sl w po pn pc P) (hB : Sl w (some ⟨gb, 0, none⟩) bn bc body) (C9 : Lo a po pn) (G0 : gb < a) (hn : pw n) (J1 : bn ≤ 65536) (J2 : pn ≤ 65536) (hm : m ≤ 65536) :
  Calls Tryz.prog 133 #[.pointer (some ⟨a, 0, none⟩), .int .i64 (m : Int)] w fun e w' => PartQ m w a k n po pn pc gb bc P body e w' := by
 obtain ⟨i0, hi, G1, G2, G3⟩ := info_parts infoI
 have J3 := zas hn
 have A3 := zaa F
 have HP := zaa hP
 have HB := zaa hB
 have D0 := zaa C9
 have A7 := zaa hB.hlen
 have G4 := zaa hP.hlen
 have G5 := zaa hB.wf
 have A8 : Hid (a < w.heap.size) := zaa (zaf F)
 obtain ⟨c0, c1, c2, c3, c4, c5⟩ := F.cells
 clear F hP hB C9 hn
 go_enter Tryz.func133, Tryz.ntmps133
 go_wp2_with (at_make; refine wpList_make_own _ rfl _ _ 116 rfl w.heap.size 3 i0 (.int .i64 0) 1 Tryz.underlying116 hi G1 G2 .i64 .i64 _ m rfl rfl rfl (by rw [G3]; omega) zml zv ?_; refine Hid.out ?_)
 apply zaa
 obtain ⟨rr, N⟩ : ∃ rr, w.heap.size = rr := ⟨_, rfl⟩
 have J4 := zaa N
 obtain ⟨u, hu⟩ : ∃ u, w.alloc (.cells #[.slice (some ⟨gb, 0, none⟩) bn bc, .int .i64 0, .bool false] 159) = u := ⟨_, rfl⟩
 have D3 : u.heap.size = rr + 1 := by rw [← hu, ← N]; simp
 have A9 : Below w.heap.size w u := by rw [← hu]; exact zab Br Lr _
 have V : Hid (Rdq u rr (some ⟨gb, 0, none⟩) bn bc 0 false) := by rw [← hu, ← N]; exact zaa (heap_alloc_last w _)
 have C6 : Hid (QR u a k n (.slice po pn pc) (.slice (some ⟨gb, 0, none⟩) bn bc) v0 0) := zaa (zag A3.out A9)
 have G6 := zaa A9
 rw [hu, N]
 intro w1 H O
 have Y : Below u.heap.size u w1 := Br.grown O Lr (fun k hk => by cases hk)
 have M : Hid (QR w1 a k n (.slice po pn pc) (.slice (some ⟨gb, 0, none⟩) bn bc) v0 0) := zaa (zag C6.out Y)
 obtain ⟨f0, f1, f2, f3, f4, f5⟩ := M.out.cells
 have e4 := M.out.free 4
 have A : Hid (Pq w (w1.setCell ⟨a, 4, none⟩ (.slice (some ⟨rr + 1, 0, none⟩) 0 m)) a rr k n po pn pc gb bn bc (.slice (some ⟨rr + 1, 0, none⟩) 0 m) (.slice none 0 0) (.slice none 0 0) [] [] [] 0 false) := by
  have hc := Cf.set w1 a 4 (.slice (some ⟨rr + 1, 0, none⟩) 0 m)
  have hr' : Rdq w1 rr (some ⟨gb, 0, none⟩) bn bc 0 false := zag V.out Y
  have F := M.out
  have o1 : OwnN w1 w.heap.size (.slice (some ⟨rr + 1, 0, none⟩) 0 m) [] := by rw [N]; first | exact H | (rw [D3] at H; exact H)
  unfold QR at F
  have n2 : ¬ rr = a := by have := A8.out; omega
  exact zaa ⟨M.out.set4 _, hr'.cf hc n2, o1.cf hc (o1.apart F zd), OwnB.nil _ _, OwnB.nil _ _, .inl rfl, ((Cf.of_below G6.out).go (Cf.of_below Y)).go hc, Nat.zero_le _, N.symm, A8.out⟩
 have E := zaa (PwQ.start k n m P body)
 clear H O Y C6 V M c0 c1 c2 c3 c4 c5 hu D3 A9 A3
 go_wp2_with fail
 clear f0 f1 f2 f3 f4 f5 e4
 go_loopw [21, 6, 7] (fun i lst ky wr => ∃ (j : Nat) (lo : Option Addr) (ln lc : Nat) (yo : Option Addr) (yn yc : Nat) (so : Option Addr) (sn sc : Nat) (cs : List Cl) (L1 L2 : List Int) (p : Nat), j ≤ m ∧ i = .int .i64 j ∧ lst = .slice lo ln lc ∧ ky = .slice yo yn yc ∧ Hid (Pq w wr a rr k n po pn pc gb bn bc (.slice so sn sc) (.slice lo ln lc) (.slice yo yn yc) (qst P.length (whl k) 0 cs) L1 L2 p false) ∧ Hid (PwQ k n m P body cs j p) ∧ Hid (Wf L1 ∧ L1.length ≤ 140737488355328 ∧ (cs = [] ∨ prv cs = some L1))) (fun i _ _ _ => m - (intOf i).toNat)
 case atStart => exact ⟨0, none, 0, 0, none, 0, 0, some ⟨rr + 1, 0, none⟩, 0, m, [], [], [], 0, zq, rfl, rfl, rfl, A, E, zaa ⟨Wf.nil, zv, .inl rfl⟩⟩
 case round =>
  clear A E
  obtain ⟨j, lo, ln, lc, yo, yn, yc, so, sn, sc, cs, L1, L2, p, hj, rfl, rfl, rfl, A, E, B0⟩ := hrel
  have bj : (j : Int) ≤ 65536 := zq
  have bm : (m : Int) ≤ 65536 := zq
  by_cases B1 : j < m
  ·have I8 : (j : Int) < (m : Int) := zq
   obtain ⟨c0, c1, c2, c3, c4, c5⟩ := A.out.row.cells
   have r0 := A.out.rd.c0
   have r1 := A.out.rd.c1
   have r2 := A.out.rd.c2
   have HL : Hid ((qst P.length (whl k) 0 cs).length + 1 ≤ 1000000) := zaa (by rw [zbi, E.out.len]; omega)
   have G7 : w.heap.size ≤ wr.heap.size := A.out.le
   have c4a := fun o => (A.out.go (zab (Below.refl _ wr) Lr o)).row.cells.2.2.2.2.1
   go_upto_region 7 with fail
   go_cut [] from 24 to 34 (fun u1 => ∃ so1 sn1 sc1, Hid (Pq w u1 a rr k n po pn pc gb bn bc (.slice so1 sn1 sc1) (.slice lo ln lc) (.slice yo yn yc) (qst P.length (whl k) 0 cs ++ [p]) L1 L2 p false))
   case first =>
    go_wp2_with fail
    go_region_law (first | (refine step_appN rfl (.tmp 28) (.tmp 31) rfl w.heap.size (qst P.length (whl k) 0 cs) p (.slice so sn sc) wr.heap.size rfl rfl (A.out.on.below zW2) zv HL.out zso ?_; intro v1 w1 H O; obtain ⟨so1, sc1, rfl⟩ := H.shape; have G := zaa (A.out.put_st zW2 H O); have B2 := A.out.row_st zW2 O; obtain ⟨x0, x1, x2, x3, x4, x5⟩ := B2.cells; have x6 := B2.free 4; clear H O B2))
    all_goals (try go_wp2_with fail)
    all_goals go_meet
    all_goals exact ⟨so1, _, sc1, by simpa using G⟩
   obtain ⟨so1, sn1, sc1, G⟩ := hcut
   clear c0 c1 c2 c3 c4 c5 r0 r1 r2 HL G7 c4a A
   obtain ⟨u1, G8⟩ : ∃ u1, u1 = wc := ⟨_, rfl⟩
   subst G8
   obtain ⟨qo, qn, qc, D4, D5⟩ := head_row k j po pn pc
   have D7 : Hid (∀ u, u = u1 → Calls Tryz.prog 127 #[.pointer (some ⟨a, 0, none⟩), .int .i64 (j : Int)] u fun e w' => e = .returned (.slice qo qn qc) ∧ w' = u) := zaa fun u hu => by subst hu; exact D5 _ a n _ _ 0 G.out.row
   have D8 : Hid (∀ u, Cf (· = a) w u → Sl u qo qn qc (hdP k P j) ∧ Lo a qo qn ∧ qn ≤ pn) := zaa fun u hu => by
    unfold hdP
    rcases D4 with ⟨rfl, rfl, rfl, h4⟩ | ⟨rfl, rfl, rfl, h4⟩
    ·rw [if_pos h4]
     exact ⟨Sl.nil_any _ _ _ (fun _ => rfl), .inl rfl, Nat.zero_le _⟩
    ·rw [if_neg h4]
     exact ⟨HP.out.cfa hu D0.out, D0.out, Lr⟩
   clear D5 D4
   have C7 : Sl u1 (some ⟨gb, 0, none⟩) bn bc body := HB.out.cfa G.out.cf (.inr fun q hq => by injection hq with hq; subst hq; exact G0)
   have D9 := zaa (ucell_any body u1 rr gb 0 bn bc p false G.out.rd C7 G.out.hp)
   clear C7
   go_wp2_with (first | (go_at_call 127; refine zad (D7.out _ rfl) ?_) | (go_at_call 129; refine D9.out.mono ?_; rintro e w2 ⟨ko, kn, kc, kd, vo, vn, vc, pg, ct, q, en, key, val, rfl, V, E0, HQ⟩; refine Hid.out ?_))
   apply zaa
   clear D9 D7
   go_upto_region 9 with fail
   obtain ⟨W, B3, A4, C8, ⟨hq, E1⟩, A5⟩ := HQ.out
   have E2 := zaa W
   have I9 := W.hroom
   have F6 := B3.hroom
   have G9 := zaa W.hlen
   have H0 := zaa B3.hlen
   have E3 := zaa W.wf
   have F7 := zaa A4
   have U := zaa A5
   have H1 := zaa hq
   have B4 := zaa (G.out.read E0.out V.out hq)
   have F8 := zaa G.out.hp
   have E4 := zaa E1
   clear HQ W B3 A4 C8 A5 hq E1 G V E0
   obtain ⟨x0, Z⟩ : ∃ x0, w2.alloc (.cells #[.slice qo qn qc, .slice ko kn kc, .int .i64 kd, .slice vo vn vc, .int .i64 pg, .int .i64 ct] 123) = x0 := ⟨_, rfl⟩
   have X : Below w2.heap.size w2 x0 := by rw [← Z]; exact zab Br Lr _
   obtain ⟨g9, B5⟩ : ∃ g9, w2.heap.size = g9 := ⟨_, rfl⟩
   have B6 : Hid (E6 x0 g9 (.slice qo qn qc) (.slice ko kn kc) (.int .i64 kd) (.slice vo vn vc) (.int .i64 pg) (.int .i64 ct)) := zaa (by rw [← Z, ← B5]; exact E6.box _ _ _ _ _ _ _)
   have E5 := zaa (B4.out.go X)
   have H2 : Hid (w.heap.size ≤ g9) := zaa (by have := B4.out.le; omega)
   have E7 := zaa (E2.out.on Lr X)
   rw [Z, B5]
   clear Z B5 X B4 E2
   have J0 := zaa (E.out)
   obtain ⟨K, hK⟩ : ∃ K, (hdP k P j ++ key).length = K := ⟨_, rfl⟩
   have B7 := zaa hK
   have E8 : Hid (K ≤ 131072) := zaa (by
    rw [← hK, zG, G9.out]
    have := hdP_le k P j
    have := G4.out
    have := E4.out
    omega)
   have B8 : Hid (K ≤ 140737488355328) := zaa (by have := E8.out; omega)
   have E9 : Hid (∀ u, Below x0.heap.size x0 u → Calls Tryz.prog 167 #[.agg #[.slice qo qn qc, .slice ko kn kc, .int .i64 kd, .slice vo vn vc, .int .i64 pg, .int .i64 ct], .slice yo 0 yc] u fun e w' => ∃ yo1 yc1, e = .returned (.slice yo1 K yc1) ∧ Hid (Pq w w' a rr k n po pn pc gb bn bc (.slice so1 sn1 sc1) (.slice lo ln lc) (.slice yo1 K yc1) (qst P.length (whl k) 0 cs ++ [p]) L1 (hdP k P j ++ key) q en) ∧ Hid (E6 w' g9 (.slice qo qn qc) (.slice ko kn kc) (.int .i64 kd) (.slice vo vn vc) (.int .i64 pg) (.int .i64 ct))) := by
    refine zaa fun u hu => ?_
    have hp := E5.out.go hu
    have he : E6 u g9 (.slice qo qn qc) (.slice ko kn kc) (.int .i64 kd) (.slice vo vn vc) (.int .i64 pg) (.int .i64 ct) := zag B6.out hu
    obtain ⟨H3, H4, J5⟩ := D8.out u hp.cf
    have H5 := E7.out.on Lr hu
    have ho := hp.y.take 0 (Nat.zero_le _)
    rw [List.take_zero] at ho
    have J6 := A8.out
    have H6 : Lo w.heap.size ko kn := .inr fun q hq => by have := F7.out q hq; omega
    refine (withKey_any (.slice yo 0 yc) w.heap.size [] qo qn qc ko kn kc kd vo vn vc pg ct (hdP k P j) key u ho hp.le H3 H5 (H4.far ho zq) (H6.far ho Lr) (by have := E4.out; simp; omega)).mono ?_
    rintro e w' ⟨v', rfl, HO, HG⟩
    have A0 := HO.out
    rw [List.nil_append] at A0
    obtain ⟨yo1, yc1, rfl⟩ := A0.shape
    rw [hK] at A0 ⊢
    have hy := he
    unfold E6 at hy
    refine ⟨yo1, yc1, rfl, zaa (hp.room (v0 := .slice yo 0 yc) (by cases yo <;> rfl) A0 (by have := HG.out; rwa [hK] at this)), zaa (he.gr HG.out (ho.apart hy zd))⟩
   obtain ⟨b0, b1, b2, b3, b4, b5⟩ := B6.out.cells
   clear hK
   go_cut [7] from 40 to 43 (fun v u3 => ∃ yo1 yc1, v = .slice yo1 K yc1 ∧ Hid (Pq w u3 a rr k n po pn pc gb bn bc (.slice so1 sn1 sc1) (.slice lo ln lc) (.slice yo1 K yc1) (qst P.length (whl k) 0 cs ++ [p]) L1 (hdP k P j ++ key) q en) ∧ Hid (E6 u3 g9 (.slice qo qn qc) (.slice ko kn kc) (.int .i64 kd) (.slice vo vn vc) (.int .i64 pg) (.int .i64 ct)))
   case first =>
    go_wp2_with fail
    go_region_with (first | (go_at_call 167; refine (E9.out _ zW1).mono ?_; rintro e w3 ⟨yo1, yc1, rfl, A1, J⟩))
    all_goals (try go_wp2_with fail)
    all_goals go_meet
    all_goals exact ⟨yo1, yc1, rfl, A1, J⟩
   obtain ⟨yo1, yc1, rfl, A1, J⟩ := hcut
   obtain ⟨u3, H7⟩ : ∃ u3, u3 = wc := ⟨_, rfl⟩
   subst H7
   clear b0 b1 b2 b3 b4 b5 E9 E5 B6 E7 D8
   obtain ⟨b0, b1, b2, b3, b4, b5⟩ := J.out.cells
   have b6 := J.out.free 1
   go_upto_region 11 with fail
   obtain ⟨x, hx⟩ : ∃ x, u3.setCell ⟨g9, 1, none⟩ (.slice yo1 K yc1) = x := ⟨_, rfl⟩
   have Q : Hid (Pq w x a rr k n po pn pc gb bn bc (.slice so1 sn1 sc1) (.slice lo ln lc) (.slice yo1 K yc1) (qst P.length (whl k) 0 cs ++ [p]) L1 (hdP k P j ++ key) q en) := zaa (by rw [← hx]; exact A1.out.setE J.out H2.out 1 _)
   have B9 : Hid (E6 x g9 (.slice qo qn qc) (.slice yo1 K yc1) (.int .i64 kd) (.slice vo vn vc) (.int .i64 pg) (.int .i64 ct)) := zaa (by rw [← hx]; exact (J.out.set _).2.1)
   rw [hx]
   clear hx b0 b1 b2 b3 b4 b5 b6 A1 J
   have J7 := E8.out
   obtain ⟨c0, c1, c2, c3, c4, c5⟩ := Q.out.row.cells
   have r2 := Q.out.rd.c2
   go_cut [72] from 47 to 72 (fun v u2 => ∃ bb : Bool, v = .bool bb ∧ Hid (bb = true ↔ (en = true ∨ ¬ (mayN k n K kd vn pg ct ∧ zap (prv cs) (hdP k P j ++ key)))) ∧ Hid (Below x.heap.size x u2))
   case first =>
    cases en with
    | true =>
     go_wp2_with fail
     go_quiet (fail)
     go_wp2_with fail
     go_meet
     exact ⟨true, rfl, zaa zv, zaa (zac Br _)⟩
    | false =>
     have A2 := zaa (fun u => mayBe_any k (n : Int) yo1 K yc1 kd vo vn vc pg ct u zq zq B8.out F6)
     have I : Hid (∀ y, Below x.heap.size x y → y.cell? ⟨rr, 2, none⟩ = some (.bool false) ∧ y.cell? ⟨a, 0, none⟩ = some (.int .i64 k) ∧ y.cell? ⟨a, 1, none⟩ = some (.int .i64 (n : Int)) ∧ y.cell? ⟨g9, 1, none⟩ = some (.slice yo1 K yc1) ∧ y.cell? ⟨g9, 1 + 1, none⟩ = some (.int .i64 kd) ∧ y.cell? ⟨g9, 1 + 2, none⟩ = some (.slice vo vn vc) ∧ y.cell? ⟨g9, 1 + 3, none⟩ = some (.int .i64 pg) ∧ y.cell? ⟨g9, 1 + 4, none⟩ = some (.int .i64 ct)) := by
      refine zaa fun y hy => ?_
      have h5 : E6 y g9 (.slice qo qn qc) (.slice yo1 K yc1) (.int .i64 kd) (.slice vo vn vc) (.int .i64 pg) (.int .i64 ct) := zag B9.out hy
      obtain ⟨_, e1, e2, e3, e4, e5⟩ := h5.cells
      have hp := Q.out.go hy
      obtain ⟨d0, d1, _⟩ := hp.row.cells
      exact ⟨hp.rd.c2, d0, d1, e1, e2, e3, e4, e5⟩
     cases L : decide (mayN k n K kd vn pg ct) with
     | false =>
      go_wp2_with fail
      refine wp_region_held_drew (S := (fun u => u.cell? ⟨rr, 2, none⟩ = some (.bool false) ∧ u.cell? ⟨a, 0, none⟩ = some (.int .i64 k) ∧ u.cell? ⟨a, 1, none⟩ = some (.int .i64 (n : Int)) ∧ u.cell? ⟨g9, 1, none⟩ = some (.slice yo1 K yc1) ∧ u.cell? ⟨g9, 1 + 1, none⟩ = some (.int .i64 kd) ∧ u.cell? ⟨g9, 1 + 2, none⟩ = some (.slice vo vn vc) ∧ u.cell? ⟨g9, 1 + 3, none⟩ = some (.int .i64 pg) ∧ u.cell? ⟨g9, 1 + 4, none⟩ = some (.int .i64 ct))) (by kernel_rfl) (I.out _ Br.drew) (fun C => ?_)
      refine zCi 0 ?_
      iterate 13 (refine zTc ?_ rfl ?_ ?_; rotate_left; (· (rintro w ⟨s0, s1, s2, s3, s4, s5, s6, s7⟩; go_simp; try with_reducible rfl)); try simp only [Act.put, zA, zB, zC, zD, zE, zF])
      refine zCo ?_
      refine zY (i := 13) rfl fun K hK => ?_
      go_simp
      go_at_call 71
      refine (A2.out _).mono ?_
      rintro e y ⟨rfl, B⟩
      have D : Hid (Below x.heap.size x y) := zaa (by first | exact B | exact zae Br.drew Lr B | exact zae (zac Br _) Lr B)
      obtain ⟨y0, y1, y2, y3, y4, y5, y6, y7⟩ := I.out y D.out
      clear B
      rw [L]
      dsimp only
      refine hK.out _ _ ⟨y0, y1, y2, y3, y4, y5, y6, y7⟩ (fun C => ?_)
      clear hK K
      try simp only [Act.put, zA, zB, zC, zD, zE, zF]
      refine zCi 14 ?_
      iterate 3 (refine zTc ?_ rfl ?_ ?_; rotate_left; (· (rintro w ⟨s0, s1, s2, s3, s4, s5, s6, s7⟩; go_simp; try with_reducible rfl)); try simp only [Act.put, zA, zB, zC, zD, zE, zF])
      refine zCo ?_
      refine zCi 17 ?_
      iterate 8 (refine zUc rfl ?_; try simp only [Act.put, zA, zB, zC, zD, zE, zF])
      refine zCo ?_
      refine zT 25 ?_ rfl ?_ ?_
      rotate_left
      ·(rintro w ⟨s0, s1, s2, s3, s4, s5, s6, s7⟩; go_simp; try with_reducible rfl)
      try simp only [Act.put, zA, zB, zC, zD, zE, zF]
      refine wpAnyH_done (by kernel_rfl) ?_ _
      try go_wp2_with fail
      go_meet
      exact ⟨true, rfl, zaa (by simp at L; simp [L]), D⟩
     | true =>
      have F0 : mayN k n K kd vn pg ct := by simpa using L
      by_cases H8 : j = 0
      ·subst H8
       have F1 : cs = [] := List.eq_nil_of_length_eq_zero E.out.len
       have H9 := zaa F1
       clear F1
       go_wp2_with fail
       refine wp_region_held_drew (S := (fun u => u.cell? ⟨rr, 2, none⟩ = some (.bool false) ∧ u.cell? ⟨a, 0, none⟩ = some (.int .i64 k) ∧ u.cell? ⟨a, 1, none⟩ = some (.int .i64 (n : Int)) ∧ u.cell? ⟨g9, 1, none⟩ = some (.slice yo1 K yc1) ∧ u.cell? ⟨g9, 1 + 1, none⟩ = some (.int .i64 kd) ∧ u.cell? ⟨g9, 1 + 2, none⟩ = some (.slice vo vn vc) ∧ u.cell? ⟨g9, 1 + 3, none⟩ = some (.int .i64 pg) ∧ u.cell? ⟨g9, 1 + 4, none⟩ = some (.int .i64 ct))) (by kernel_rfl) (I.out _ Br.drew) (fun C => ?_)
       refine zCi 0 ?_
       iterate 13 (refine zTc ?_ rfl ?_ ?_; rotate_left; (· (rintro w ⟨s0, s1, s2, s3, s4, s5, s6, s7⟩; go_simp; try with_reducible rfl)); try simp only [Act.put, zA, zB, zC, zD, zE, zF])
       refine zCo ?_
       refine zY (i := 13) rfl fun K hK => ?_
       go_simp
       go_at_call 71
       refine (A2.out _).mono ?_
       rintro e y ⟨rfl, B⟩
       have D : Hid (Below x.heap.size x y) := zaa (by first | exact B | exact zae Br.drew Lr B | exact zae (zac Br _) Lr B)
       obtain ⟨y0, y1, y2, y3, y4, y5, y6, y7⟩ := I.out y D.out
       clear B
       rw [L]
       dsimp only
       refine hK.out _ _ ⟨y0, y1, y2, y3, y4, y5, y6, y7⟩ (fun C => ?_)
       clear hK K
       try simp only [Act.put, zA, zB, zC, zD, zE, zF]
       refine zCi 14 ?_
       iterate 6 (refine zTc ?_ rfl ?_ ?_; rotate_left; (· (rintro w ⟨s0, s1, s2, s3, s4, s5, s6, s7⟩; go_simp; try with_reducible rfl)); try simp only [Act.put, zA, zB, zC, zD, zE, zF])
       refine zCo ?_
       refine zCi 20 ?_
       iterate 4 (refine zUc rfl ?_; try simp only [Act.put, zA, zB, zC, zD, zE, zF])
       refine zCo ?_
       refine zCi 24 ?_
       iterate 2 (refine zTc ?_ rfl ?_ ?_; rotate_left; (· (rintro w ⟨s0, s1, s2, s3, s4, s5, s6, s7⟩; go_simp; try with_reducible rfl)); try simp only [Act.put, zA, zB, zC, zD, zE, zF])
       refine zCo ?_
       refine wpAnyH_done (by kernel_rfl) ?_ _
       try go_wp2_with fail
       go_meet
       exact ⟨false, rfl, zaa (by simp [H9.out, prv, zap, F0]), D⟩
      ·have I0 : 0 < (j : Int) := zq
       have I1 : 0 < j := zq
       have dj1 : decide (0 < (j : Int)) = true := decide_eq_true I0
       have dj2 : decide (0 < j) = true := decide_eq_true I1
       have F2 : Hid (prv cs = some L1) := zaa (by
        rcases B0.out.2.2 with h | h
        ·exact absurd E.out.len (by rw [h]; simp; omega)
        ·exact h)
       have T : Hid (∀ y, Below x.heap.size x y → Sl y lo ln lc L1 ∧ Sl y yo1 K yc1 (hdP k P j ++ key)) := zaa fun y hy => by
        have hp := Q.out.go hy
        obtain ⟨a1, e1, h1, h2, _⟩ := hp.l.sl B0.out.1 B0.out.2.1
        obtain ⟨a2, e2, h3, h4, _⟩ := hp.y.sl ((hdP_wf HP.out.wf j).append E3.out) (by rw [B7.out]; exact B8.out)
        injection h1 with i1 i2 i3
        injection h3 with i4 i5 i6
        subst i1 i3 i4 i6
        rw [← i2] at h2
        rw [← i5] at h4
        exact ⟨h2, h4⟩
       cases R : decide (kl L1 (hdP k P j ++ key)) with
       | true =>
        go_wp2_with fail
        refine wp_region_held_drew (S := (fun u => u.cell? ⟨rr, 2, none⟩ = some (.bool false) ∧ u.cell? ⟨a, 0, none⟩ = some (.int .i64 k) ∧ u.cell? ⟨a, 1, none⟩ = some (.int .i64 (n : Int)) ∧ u.cell? ⟨g9, 1, none⟩ = some (.slice yo1 K yc1) ∧ u.cell? ⟨g9, 1 + 1, none⟩ = some (.int .i64 kd) ∧ u.cell? ⟨g9, 1 + 2, none⟩ = some (.slice vo vn vc) ∧ u.cell? ⟨g9, 1 + 3, none⟩ = some (.int .i64 pg) ∧ u.cell? ⟨g9, 1 + 4, none⟩ = some (.int .i64 ct))) (by kernel_rfl) (I.out _ Br.drew) (fun C => ?_)
        refine zCi 0 ?_
        iterate 13 (refine zTc ?_ rfl ?_ ?_; rotate_left; (· (rintro w ⟨s0, s1, s2, s3, s4, s5, s6, s7⟩; go_simp; try with_reducible rfl)); try simp only [Act.put, zA, zB, zC, zD, zE, zF])
        refine zCo ?_
        refine zY (i := 13) rfl fun K hK => ?_
        go_simp
        go_at_call 71
        refine (A2.out _).mono ?_
        rintro e y ⟨rfl, B⟩
        have D : Hid (Below x.heap.size x y) := zaa (by first | exact B | exact zae Br.drew Lr B | exact zae (zac Br _) Lr B)
        obtain ⟨y0, y1, y2, y3, y4, y5, y6, y7⟩ := I.out y D.out
        clear B
        rw [L]
        dsimp only
        refine hK.out _ _ ⟨y0, y1, y2, y3, y4, y5, y6, y7⟩ (fun C => ?_)
        clear hK K
        try simp only [Act.put, zA, zB, zC, zD, zE, zF]
        refine zCi 14 ?_
        iterate 8 (refine zTc ?_ rfl ?_ ?_; rotate_left; (· (rintro w ⟨s0, s1, s2, s3, s4, s5, s6, s7⟩; go_simp; try with_reducible rfl)); try simp only [Act.put, zA, zB, zC, zD, zE, zF])
        refine zCo ?_
        refine zY (i := 22) rfl fun K hK => ?_
        go_simp
        go_at_call 85
        refine zad (riseQ_any _ _ _ _ _ _ _ _ _ (T.out _ D.out).1 (T.out _ D.out).2) ?_
        rw [R]
        dsimp only
        refine hK.out _ _ ⟨y0, y1, y2, y3, y4, y5, y6, y7⟩ (fun C => ?_)
        clear hK K
        try simp only [Act.put, zA, zB, zC, zD, zE, zF]
        refine zCi 23 ?_
        iterate 3 (refine zTc ?_ rfl ?_ ?_; rotate_left; (· (rintro w ⟨s0, s1, s2, s3, s4, s5, s6, s7⟩; go_simp; try with_reducible rfl)); try simp only [Act.put, zA, zB, zC, zD, zE, zF])
        refine zCo ?_
        refine wpAnyH_done (by kernel_rfl) ?_ _
        try go_wp2_with fail
        go_meet
        exact ⟨false, rfl, zaa (by simp at R; simp [F2.out, zap, F0, R]), D⟩
       | false =>
        go_wp2_with fail
        refine wp_region_held_drew (S := (fun u => u.cell? ⟨rr, 2, none⟩ = some (.bool false) ∧ u.cell? ⟨a, 0, none⟩ = some (.int .i64 k) ∧ u.cell? ⟨a, 1, none⟩ = some (.int .i64 (n : Int)) ∧ u.cell? ⟨g9, 1, none⟩ = some (.slice yo1 K yc1) ∧ u.cell? ⟨g9, 1 + 1, none⟩ = some (.int .i64 kd) ∧ u.cell? ⟨g9, 1 + 2, none⟩ = some (.slice vo vn vc) ∧ u.cell? ⟨g9, 1 + 3, none⟩ = some (.int .i64 pg) ∧ u.cell? ⟨g9, 1 + 4, none⟩ = some (.int .i64 ct))) (by kernel_rfl) (I.out _ Br.drew) (fun C => ?_)
        refine zCi 0 ?_
        iterate 13 (refine zTc ?_ rfl ?_ ?_; rotate_left; (· (rintro w ⟨s0, s1, s2, s3, s4, s5, s6, s7⟩; go_simp; try with_reducible rfl)); try simp only [Act.put, zA, zB, zC, zD, zE, zF])
        refine zCo ?_
        refine zY (i := 13) rfl fun K hK => ?_
        go_simp
        go_at_call 71
        refine (A2.out _).mono ?_
        rintro e y ⟨rfl, B⟩
        have D : Hid (Below x.heap.size x y) := zaa (by first | exact B | exact zae Br.drew Lr B | exact zae (zac Br _) Lr B)
        obtain ⟨y0, y1, y2, y3, y4, y5, y6, y7⟩ := I.out y D.out
        clear B
        rw [L]
        dsimp only
        refine hK.out _ _ ⟨y0, y1, y2, y3, y4, y5, y6, y7⟩ (fun C => ?_)
        clear hK K
        try simp only [Act.put, zA, zB, zC, zD, zE, zF]
        refine zCi 14 ?_
        iterate 8 (refine zTc ?_ rfl ?_ ?_; rotate_left; (· (rintro w ⟨s0, s1, s2, s3, s4, s5, s6, s7⟩; go_simp; try with_reducible rfl)); try simp only [Act.put, zA, zB, zC, zD, zE, zF])
        refine zCo ?_
        refine zY (i := 22) rfl fun K hK => ?_
        go_simp
        go_at_call 85
        refine zad (riseQ_any _ _ _ _ _ _ _ _ _ (T.out _ D.out).1 (T.out _ D.out).2) ?_
        rw [R]
        dsimp only
        refine hK.out _ _ ⟨y0, y1, y2, y3, y4, y5, y6, y7⟩ (fun C => ?_)
        clear hK K
        try simp only [Act.put, zA, zB, zC, zD, zE, zF]
        refine zCi 23 ?_
        iterate 3 (refine zTc ?_ rfl ?_ ?_; rotate_left; (· (rintro w ⟨s0, s1, s2, s3, s4, s5, s6, s7⟩; go_simp; try with_reducible rfl)); try simp only [Act.put, zA, zB, zC, zD, zE, zF])
        refine zCo ?_
        refine wpAnyH_done (by kernel_rfl) ?_ _
        try go_wp2_with fail
        go_meet
        exact ⟨true, rfl, zaa (by simp at R; simp [F2.out, zap, R]), D⟩
   obtain ⟨bb, rfl, C0, F3⟩ := hcut
   clear c0 c1 c2 c3 c4 c5 r2
   have C1 := zaa (Q.out.go F3.out)
   have J8 : Hid (E6 wc g9 (.slice qo qn qc) (.slice yo1 K yc1) (.int .i64 kd) (.slice vo vn vc) (.int .i64 pg) (.int .i64 ct)) := zaa (zag B9.out F3.out)
   have F4 : Hid (mayN k n K kd vn pg ct ↔ mayP k n ((⟨key, kd, val, pg, ct⟩ : Cl).pre (hdP k P j))) := zaa (by
    rw [← mayP_iff]
    simp only [Cl.pre]
    rw [B7.out, H0.out])
   cases bb with
   | true =>
    have I2 : Hid (zay k n P m (whl k) none body = none) := by
     refine zaa ?_
     rcases U.out with ⟨h1, h2⟩ | ⟨h1, h2⟩
     ·rcases C0.out.1 rfl with h3 | h3
      ·rw [h2] at h3; cases h3
      ·refine E.out.bad B1 h1 ?_
       rw [← F4.out]
       exact h3
     ·exact E.out.fail B1 h1
    have F9 := zaa C1.out.cf
    go_wp2
    go_ret
    exact ⟨false, rfl, F9, zaa (.inr ⟨rfl, I2.out⟩)⟩
   | false =>
    have C2 : ¬ (en = true ∨ ¬ (mayN k n K kd vn pg ct ∧ zap (prv cs) (hdP k P j ++ key))) := fun h => by
     have := C0.out.2 h
     cases this
    have I3 : en = false := by
     cases en with
     | true => exact absurd (.inl rfl) C2
     | false => rfl
    subst I3
    have A6 : mayN k n K kd vn pg ct ∧ zap (prv cs) (hdP k P j ++ key) := Classical.byContradiction fun h => C2 (.inr h)
    have F5 : Hid (PwQ k n m P body (cs ++ [(⟨key, kd, val, pg, ct⟩ : Cl).pre (hdP k P j)]) (j + 1) q ∧ qst P.length (whl k) 0 (cs ++ [(⟨key, kd, val, pg, ct⟩ : Cl).pre (hdP k P j)]) = qst P.length (whl k) 0 cs ++ [p]) := by
     rcases U.out with ⟨h1, h2⟩ | ⟨h1, h2⟩
     ·exact zaa (E.out.next G5.out B1 (by rw [A7.out]; exact H1.out) (by rw [A7.out]; exact F8.out) h1 (by rw [← F4.out]; exact A6))
     ·cases h2
    have I4 : Hid (Pq w wc a rr k n po pn pc gb bn bc (.slice so1 sn1 sc1) (.slice yo1 K yc1) (.slice lo ln lc) (qst P.length (whl k) 0 (cs ++ [(⟨key, kd, val, pg, ct⟩ : Cl).pre (hdP k P j)])) (hdP k P j ++ key) L1 q false) := by
     have h := C1.out.swap
     rw [← F5.out.2] at h
     exact zaa h
    have I5 : Hid (Wf (hdP k P j ++ key) ∧ (hdP k P j ++ key).length ≤ 140737488355328 ∧ (cs ++ [(⟨key, kd, val, pg, ct⟩ : Cl).pre (hdP k P j)] = [] ∨ prv (cs ++ [(⟨key, kd, val, pg, ct⟩ : Cl).pre (hdP k P j)]) = some (hdP k P j ++ key))) := zaa ⟨(hdP_wf HP.out.wf j).append E3.out, by rw [B7.out]; exact B8.out, .inr (by simp [prv, Cl.pre])⟩
    clear C2 A6 C0 U Q B9 C1
    go_wp2
    go_roundw
    case rel => exact ⟨j + 1, yo1, K, yc1, lo, ln, lc, so1, sn1, sc1, _, _, L1, q, zq, by go_num, rfl, rfl, I4, zaa F5.out.1, I5⟩
    case measure => simp [intOf]; omega
  ·obtain rfl : j = m := zq
   have J9 : ¬ (j : Int) < (j : Int) := zq
   obtain ⟨c0, c1, c2, c3, c4, c5⟩ := A.out.row.cells
   have c6 := A.out.row.free 3
   have r1 := A.out.rd.c1
   have C3 := A.out.hp
   have I6 := zaa E.out.done
   have C4 := zaa E.out.at_
   have p1 : p ≤ bc := zN C3 HB.out.hcap
   have p2 : (p : Int) ≤ (bc : Int) := zq
   have I7 := zaa C3
   clear C3
   go_wp2_with fail
   go_region
   all_goals
    go_wp2
    go_ret
    refine ⟨true, rfl, zaa ((A.out.go Br.drew).cf.go (Cf.set _ _ _ _)), zaa (.inl ⟨rfl, cs, .slice so sn sc, by rw [← C4.out]; exact I6.out, by rw [← C4.out, A7.out]; exact I7.out, by rw [← C4.out]; exact (A.out.go Br.drew).row.set3 _, ?_⟩)⟩
    have hq := A.out.go Br.drew
    have hr := hq.row
    unfold QR at hr
    exact hq.on.cf (Cf.set _ _ _ _) (hq.on.apart hr zd)
end Go.Proofs.YtbkhjeacmmbabaaGreatDoor
