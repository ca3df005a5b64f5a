/- Two lists, and what was kept, each in blocks of its own: the zones. -/
import Derived.Test.YtedgpcckbdnijaaDoorJi
import Derived.Test.YtedgpcckbdnijaaDoorJk
namespace Go.Proofs.YtedgpcckbdnijaaDoor
open Go.RowKit Go.Maps

/-- What Take answers, of both. -/
def tkR (K : Int → Option Int) : Int × Bool := match lsP K with | some p => ((p : Int), true) | none => (0, false)
set_option maxRecDepth 100000 in
theorem take_act {w : World} {b m : Nat} {mv : Value} {last : Int} {K : Int → Option Int} {M : List Mq} (h : Fl w b m mv last K M) (hT : Tz w) :
    Calls Tryd.prog 16 #[pB b] w fun e u => e = .returned (.tuple #[.int .i64 (tkR K).1, .bool (tkR K).2]) ∧ Hid (AcTo w b m mv last K M 1 0 0 u) := by
  refine (take_any h hT).mono ?_
  rintro e u ⟨p, ok, rfl, HU⟩
  unfold tkR AcTo actK actM
  rw [if_pos rfl, if_pos rfl]
  rcases HU.out with ⟨rfl, h1, h2, h3⟩ | ⟨rfl, rfl, h2, rfl⟩
  · have hp := h.fs.kept.2 _ _ h1.1
    rw [lsP_some h1 (by omega)]
    exact ⟨rfl, hidden ⟨h2, h3⟩⟩
  · rw [lsP_none h2]
    exact ⟨rfl, hidden ⟨h, Cf.refl _ _⟩⟩
/-- What a call leaves of the document's list. -/
def DcTo (w : World) (b : Nat) (v mk : Value) (la : Int) (D : List Dq) (K' : Int → Option Int) (u : World) : Prop := ∃ v' es', Rm u b v' mk la es' D ∧ Ent K' es' ∧ Cf (· = b) w u ∧ ∀ k, v'.ownBlock = some k → v.ownBlock = some k ∨ w.heap.size ≤ k
set_option maxRecDepth 100000 in
theorem rtake_act {w : World} {b : Nat} {v mk : Value} {la : Int} {es : List (Int × Int)} {D : List Dq} {K : Int → Option Int} (h : Rm w b v mk la es D) (hE : Ent K es) (hP : Pgs K) :
    Calls Tryd.prog 29 #[pB b] w fun e u => e = .returned (.tuple #[.int .i64 (tkR K).1, .bool (tkR K).2]) ∧ Hid (DcTo w b v mk la D (actK K 1 0 0) u) := by
  refine (rtake_any w 0 b v mk la es h.rl (Nat.zero_le _)).mono ?_
  rintro e u ⟨p, ok, rfl, HU, HC⟩
  unfold tkR actK
  rw [if_pos rfl]
  rcases HU.out with ⟨rfl, i, v', h1, h2, h3, h4⟩ | ⟨rfl, rfl, h2, rfl⟩
  · obtain ⟨pn, a1, a2, _⟩ := hE.free hP h1
    rw [a2]
    have e1 : p = (pn : Int) := by
      rw [List.getD, a1] at h2
      exact h2.symm
    subst e1
    exact ⟨rfl, hidden ⟨v', _, h.keep h3 HC.out, hE.rem a1, HC.out, fun k hk => .inr (h4 k hk)⟩⟩
  · rw [hE.nofree h2]
    exact ⟨rfl, hidden ⟨v, es, h, hE, HC.out, fun k hk => .inl hk⟩⟩
set_option maxRecDepth 100000 in
theorem give_act {w : World} {b m : Nat} {mv : Value} {last : Int} {K : Int → Option Int} {M : List Mq} (h : Fl w b m mv last K M) (A B : Int) :
    Calls Tryd.prog 17 #[pB b, .int .i64 A, .int .i64 B] w fun e u => e = .returned (.int .i64 (giveE K A B)) ∧ Hid (AcTo w b m mv last K M 2 A B u) := by
  refine (give_any h A B).mono ?_
  rintro e u ⟨rfl, HU⟩
  unfold AcTo
  rw [(act2 K M A B).2.1, (act2 K M A B).2.2]
  rcases HU.out with ⟨h1, h2, h3⟩ | ⟨h1, rfl⟩
  · rw [if_pos h1, if_pos h1]
    exact ⟨rfl, hidden ⟨h2, h3⟩⟩
  · rw [if_neg h1, if_neg h1]
    exact ⟨rfl, hidden ⟨h, Cf.refl _ _⟩⟩
set_option maxRecDepth 100000 in
theorem giveE_zero {K : Int → Option Int} {A B : Int} (h : giveE K A B = 0) : K A = none ∧ B ≠ -1 := by
  unfold giveE at h
  split at h
  · split at h
    · split at h
      · cases h
      · rename_i h1 h2 h3
        refine ⟨?_, by omega⟩
        cases hK : K A with
        | none => rfl
        | some f => rw [hK] at h3; exact absurd rfl h3
    · cases h
  · cases h
set_option maxRecDepth 100000 in
theorem rgive_act {w : World} {b : Nat} {v mk : Value} {la : Int} {es : List (Int × Int)} {D : List Dq} {K : Int → Option Int} (h : Rm w b v mk la es D) (hE : Ent K es) (hP : Pgs K) (A B : Int) :
    Calls Tryd.prog 30 #[pB b, .int .i64 A, .int .i64 B] w fun e u => e = .returned (.int .i64 (giveE K A B)) ∧ Hid (DcTo w b v mk la D (actK K 2 A B) u) := by
  refine (rgive_any w 0 b v mk la es K A B h.rl hE hP (Nat.zero_le _)).mono ?_
  rintro e u ⟨rfl, HU, HC⟩
  rw [(act2 K [] A B).2.1]
  rcases HU.out with ⟨h1, v', h2, h3⟩ | ⟨h1, rfl⟩
  · rw [if_pos h1]
    obtain ⟨a1, a2⟩ := giveE_zero h1
    exact ⟨rfl, hidden ⟨v', _, h.keep h2 HC.out, hE.ins a1 a2, HC.out, fun k hk => .inr (h3 k hk)⟩⟩
  · rw [if_neg h1]
    exact ⟨rfl, hidden ⟨v, es, h, hE, HC.out, fun k hk => .inl hk⟩⟩
set_option maxRecDepth 100000 in
theorem rel_act {w : World} {b m : Nat} {mv : Value} {last : Int} {K : Int → Option Int} {M : List Mq} (h : Fl w b m mv last K M) (A B : Int) :
    Calls Tryd.prog 18 #[pB b, .int .i64 A] w fun e u => e = .returned (.int .i64 ((kL K (dueF A)).length : Int)) ∧ Hid (AcTo w b m mv last K M 3 A B u) := by
  refine (release_any h A).mono ?_
  rintro e u ⟨rfl, HU⟩
  unfold AcTo
  rw [(act3 K M A B).2.1, (act3 K M A B).2.2]
  exact ⟨rfl, HU⟩
set_option maxRecDepth 100000 in
theorem rrel_act {w : World} {b : Nat} {v mk : Value} {la : Int} {es : List (Int × Int)} {D : List Dq} {K : Int → Option Int} (h : Rm w b v mk la es D) (hE : Ent K es) (hP : Pgs K) (A B : Int) :
    Calls Tryd.prog 31 #[pB b, .int .i64 A] w fun e u => e = .returned (.int .i64 ((kL K (dueF A)).length : Int)) ∧ Hid (DcTo w b v mk la D (actK K 3 A B) u) := by
  refine (rrel_any w 0 b v mk la es A h.rl (Nat.zero_le _)).mono ?_
  rintro e u ⟨rfl, HU⟩
  rw [(act3 K [] A B).2.1, hE.cnt hP]
  obtain ⟨v', h1, h2, h3⟩ := HU.out
  exact ⟨rfl, hidden ⟨v', _, h.keep h1 h3, hE.rel A, h3, fun k hk => .inr (h2 k hk)⟩⟩
/-- z' is z on what is there. -/
def Zx (u : World) (z z' : Nat → Nat) : Prop := ∀ k, k < u.heap.size → z' k = z k
def zN (u : World) (z : Nat → Nat) (j : Nat) : Nat → Nat := fun k => if k < u.heap.size then z k else j
set_option maxRecDepth 100000 in
theorem zx_N (u : World) (z : Nat → Nat) (j : Nat) : Zx u z (zN u z j) := fun _ hk => if_pos hk
set_option maxRecDepth 100000 in
theorem zN_new {u : World} {z : Nat → Nat} {j k : Nat} (h : u.heap.size ≤ k) : zN u z j k = j := if_neg (by omega)
set_option maxRecDepth 100000 in
theorem Zx.trans {u u' : World} {z z' z'' : Nat → Nat} (h : Zx u z z') (h' : Zx u' z' z'') (hs : u.heap.size ≤ u'.heap.size) : Zx u z z'' := fun k hk => (h' k (by omega)).trans (h k hk)
/-- A pair: our list in blocks of the zone a, the document's in those of c, its entries in those of 6. -/
structure Zq (u : World) (z : Nat → Nat) (a c bl ml b cnt : Nat) (mv : Value) (last : Int) (K : Int → Option Int) (M : List Mq) (v mk : Value) (es : List (Int × Int)) (D : List Dq) : Prop where
  fl : Fl u bl ml mv last K M
  rm : Rm u b v mk last es D
  pq : Pq last K M es D
  zl : ∀ k, Fb bl ml mv M k → z k = a
  zb : z b = c
  zm : ∀ k, mk.ownBlock = some k → z k = c
  zv : ∀ k, v.ownBlock = some k → z k = 6
  ze : ∀ d ∈ D, ∀ k, d.v.ownBlock = some k → z k = 6
  cD : D.length ≤ cnt
  cl : last ≤ cnt
def Zp (u : World) (z : Nat → Nat) (a c bl ml b cnt : Nat) : Prop := ∃ mv last K M v mk es D, Zq u z a c bl ml b cnt mv last K M v mk es D
section
variable {u u' : World} {z z' : Nat → Nat} {a c bl ml b cnt : Nat} {mv : Value} {last : Int} {K : Int → Option Int} {M : List Mq} {v mk : Value} {es : List (Int × Int)} {D : List Dq}
set_option maxRecDepth 100000 in
theorem Zq.turn {F : Nat → Prop} (h : Zq u z a c bl ml b cnt mv last K M v mk es D) (hc : Cf F u u') (hx : Zx u z z') (hF : ∀ k, F k → z k ≠ a ∧ z k ≠ c ∧ z k ≠ 6) : Zq u' z' a c bl ml b cnt mv last K M v mk es D :=
  ⟨h.fl.cf hc (fun k hk e => (hF k e).1 (h.zl k hk)), h.rm.cf hc (fun e => (hF b e).2.1 h.zb) (fun k hk e => (hF k e).2.1 (h.zm k hk)) (fun k hk e => (hF k e).2.2 (h.zv k hk)) (fun d hd k hk e => (hF k e).2.2 (h.ze d hd k hk)), h.pq,
    fun k hk => (hx k (h.fl.lts hk)).trans (h.zl k hk), (hx b (lt_some h.rm.rl.box)).trans h.zb, fun k hk => (hx k (h.rm.row.lt hk)).trans (h.zm k hk), fun k hk => (hx k (h.rm.rl.own.lt hk).2).trans (h.zv k hk), fun d hd k hk => (hx k ((h.rm.ents d hd).1.lt hk).2).trans (h.ze d hd k hk), h.cD, h.cl⟩
set_option maxRecDepth 100000 in
theorem Zq.on (h : Zq u z a c bl ml b cnt mv last K M v mk es D) (hb : Below u.heap.size u u') (hx : Zx u z z') : Zq u' z' a c bl ml b cnt mv last K M v mk es D := h.turn (F := fun _ => False) (Cf.of_below hb) hx (fun _ h => h.elim)
set_option maxRecDepth 100000 in
theorem Zq.more (h : Zq u z a c bl ml b cnt mv last K M v mk es D) : Zq u z a c bl ml b (cnt + 1) mv last K M v mk es D := ⟨h.fl, h.rm, h.pq, h.zl, h.zb, h.zm, h.zv, h.ze, Nat.le_succ_of_le h.cD, by have := h.cl; omega⟩
end
/-- What was kept. -/
structure Zo (u : World) (z : Nat → Nat) (V W : List Value) (L : Nat → List Int) : Prop where
  own : ∀ (t : Nat) (x : Value), V[t]? = some x → OwnJ u 0 x (L t) ∧ (L t).length ≤ 65536 ∧ ∀ k, x.ownBlock = some k → z k = 7
  ne : ∀ (t t' : Nat) (x x' : Value), V[t]? = some x → V[t']? = some x' → t ≠ t' → x.ownBlock = none ∨ x.ownBlock ≠ x'.ownBlock
  wer : ∀ (t : Nat) (x : Value), W[t]? = some x → ∃ ao c, x = .slice ao (L t).length c ∧ SlZ u ao (L t).length c (L t) ∧ ∀ p, ao = some p → z p.block = 7 ∧ p.block < u.heap.size
structure Zk (u : World) (z : Nat → Nat) (bk cnt : Nat) (full : Prop) (kn : Int) (v vw : Value) (V W : List Value) (L : Nat → List Int) : Prop where
  kp : Kp u 0 bk kn v vw V W
  zb : z bk = 5
  zv : ∀ k, v.ownBlock = some k → z k = 5
  zw : ∀ k, vw.ownBlock = some k → z k = 5
  len : V.length = W.length
  lk : 2 * (V.length : Int) ≤ kn
  kc : 0 ≤ kn ∧ kn ≤ cnt
  ko : full → Zo u z V W L
def Zj (u : World) (z : Nat → Nat) (bk cnt : Nat) (full : Prop) : Prop := ∃ kn v vw V W L, Zk u z bk cnt full kn v vw V W L
set_option maxRecDepth 100000 in
theorem OwnJ.cfX {w w' : World} {B : Nat} {v : Value} {l : List Int} {F : Nat → Prop} (h : OwnJ w B v l) (hc : Cf F w w') (hf : ∀ k, v.ownBlock = some k → ¬ F k) : OwnJ w' B v l := by
  unfold OwnJ at *
  rcases h.2 with h2 | ⟨g, cap, cur, e, hg, hh, rest⟩
  · exact ⟨h.1, .inl h2⟩
  · refine ⟨h.1, .inr ⟨g, cap, cur, e, hg, ?_, rest⟩⟩
    rw [hc.block g (lt_some hh) (hf g (by rw [e]; rfl))]
    exact hh
set_option maxRecDepth 100000 in
theorem OwnJ.ltX {w : World} {B : Nat} {v : Value} {l : List Int} (h : OwnJ w B v l) {k : Nat} (hk : v.ownBlock = some k) : B ≤ k ∧ k < w.heap.size := by
  unfold OwnJ at h
  exact World.ownsRow.lt h k hk
section
variable {u u' : World} {z z' : Nat → Nat} {bk cnt : Nat} {full : Prop} {kn : Int} {v vw : Value} {V W : List Value} {L : Nat → List Int}
set_option maxRecDepth 100000 in
theorem Zo.turn {F : Nat → Prop} (h : Zo u z V W L) (hc : Cf F u u') (hx : Zx u z z') (hF : ∀ k, F k → z k ≠ 7) : Zo u' z' V W L := by
  refine ⟨fun t x hx2 => ?_, h.ne, fun t x hx2 => ?_⟩
  · obtain ⟨h1, h2, h3⟩ := h.own t x hx2
    exact ⟨h1.cfX hc (fun k hk e => hF k e (h3 k hk)), h2, fun k hk => (hx k (h1.ltX hk).2).trans (h3 k hk)⟩
  · obtain ⟨ao, c, rfl, h1, h2⟩ := h.wer t x hx2
    exact ⟨ao, c, rfl, h1.cf hc (.inr fun p hp e => hF _ e (h2 p hp).1), fun p hp => ⟨(hx _ (h2 p hp).2).trans (h2 p hp).1, Nat.lt_of_lt_of_le (h2 p hp).2 hc.size⟩⟩
set_option maxRecDepth 100000 in
theorem Zk.turn {F : Nat → Prop} (h : Zk u z bk cnt full kn v vw V W L) (hc : Cf F u u') (hx : Zx u z z') (hF : ∀ k, F k → z k ≠ 5 ∧ z k ≠ 7) : Zk u' z' bk cnt full kn v vw V W L :=
  ⟨⟨(hc.block bk (lt_some h.kp.box) (fun e => (hF bk e).1 h.zb)).trans h.kp.box, h.kp.row.cf hc (fun k hk e => (hF k e).1 (h.zv k hk)), h.kp.wrow.cf hc (fun k hk e => (hF k e).1 (h.zw k hk)), h.kp.ne⟩,
    (hx bk (lt_some h.kp.box)).trans h.zb, fun k hk => (hx k (h.kp.row.lt hk).2).trans (h.zv k hk), fun k hk => (hx k (h.kp.wrow.lt hk).2).trans (h.zw k hk), h.len, h.lk, h.kc, fun hf => (h.ko hf).turn hc hx (fun k e => (hF k e).2)⟩
set_option maxRecDepth 100000 in
theorem Zj.turn {F : Nat → Prop} (h : Zj u z bk cnt full) (hc : Cf F u u') (hx : Zx u z z') (hF : ∀ k, F k → z k ≠ 5 ∧ z k ≠ 7) : Zj u' z' bk cnt full := by
  obtain ⟨kn, v, vw, V, W, L, h1⟩ := h
  exact ⟨kn, v, vw, V, W, L, h1.turn hc hx hF⟩
set_option maxRecDepth 100000 in
theorem Zj.on (h : Zj u z bk cnt full) (hb : Below u.heap.size u u') (hx : Zx u z z') : Zj u' z' bk cnt full := h.turn (F := fun _ => False) (Cf.of_below hb) hx (fun _ h => h.elim)
set_option maxRecDepth 100000 in
theorem Zj.more (h : Zj u z bk cnt full) : Zj u z bk (cnt + 1) full := by
  obtain ⟨kn, v, vw, V, W, L, h1⟩ := h
  exact ⟨kn, v, vw, V, W, L, ⟨h1.kp, h1.zb, h1.zv, h1.zw, h1.len, h1.lk, by have := h1.kc; omega, h1.ko⟩⟩
end
/-- What a step leaves. -/
def StTo (u : World) (z : Nat → Nat) (a c bl ml b bk cnt : Nat) (full : Prop) (u' : World) : Prop := ∃ z', Zx u z z' ∧ Zp u' z' a c bl ml b (cnt + 1) ∧ Zj u' z' bk (cnt + 1) full ∧ Cf (fun k => z k = a ∨ z k = c ∨ z k = 5) u u'
end Go.Proofs.YtedgpcckbdnijaaDoor

/- What a call at both lists leaves of the pair. -/

namespace Go.Proofs.YtedgpcckbdnijaaDoor
open Go.RowKit Go.Maps

/-- The zones of a pair. -/
structure Zz (a c : Nat) : Prop where
  ac : a ≠ c
  a5 : a ≠ 5 ∧ a ≠ 6 ∧ a ≠ 7
  c5 : c ≠ 5 ∧ c ≠ 6 ∧ c ≠ 7
section
variable {x u1 u2 : World} {z : Nat → Nat} {a c bl ml b cnt : Nat} {mv : Value} {last : Int} {K : Int → Option Int} {M : List Mq} {v mk : Value} {es : List (Int × Int)} {D : List Dq}
set_option maxRecDepth 100000 in
theorem Zq.rm1 (h : Zq x z a c bl ml b cnt mv last K M v mk es D) (hz : Zz a c) (hc : Cf (Fb bl ml mv M) x u1) : Rm u1 b v mk last es D :=
  h.rm.cf hc (fun e => hz.ac ((h.zl b e).symm.trans h.zb)) (fun k hk e => hz.ac ((h.zl k e).symm.trans (h.zm k hk))) (fun k hk e => hz.a5.2.1 ((h.zl k e).symm.trans (h.zv k hk))) (fun d hd k hk e => hz.a5.2.1 ((h.zl k e).symm.trans (h.ze d hd k hk)))
set_option maxRecDepth 100000 in
theorem Zq.act (h : Zq x z a c bl ml b cnt mv last K M v mk es D) (hz : Zz a c) {kd A B : Int} (h1 : AcTo x bl ml mv last K M kd A B u1) (h2 : DcTo u1 b v mk last D (actK K kd A B) u2) : ∃ z', Zx x z z' ∧ Zp u2 z' a c bl ml b cnt ∧ Cf (fun k => z k = a ∨ z k = c) x u2 := by
  obtain ⟨f1, g1⟩ := h1
  obtain ⟨v', es', r2, e2, g2, n2⟩ := h2
  have hs1 := g1.size
  have hs2 := g2.size
  have hx1 := zx_N x z a
  have hx2 : Zx x z (zN u1 (zN x z a) 6) := hx1.trans (zx_N u1 _ 6) hs1
  have hFb : ∀ k, Fb bl ml mv (actM K M kd A B) k → Fb bl ml mv M k := fun k hk => Fb_map (nb_b (actM_nb K M kd A B)) hk
  refine ⟨zN u1 (zN x z a) 6, hx2, ⟨mv, last, _, _, v', mk, es', D, ⟨f1.cf g2 (fun k hk e => ?_), r2, h.pq.act h.fl.fs.vals h.fl.fs.kept.2 kd A B e2, fun k hk => ?_, ?_, fun k hk => ?_, fun k hk => ?_, fun d hd k hk => ?_, h.cD, h.cl⟩⟩, ?_⟩
  · exact hz.ac ((h.zl k (hFb k hk)).symm.trans (by rw [e]; exact h.zb))
  · exact (hx2 k (h.fl.lts (hFb k hk))).trans (h.zl k (hFb k hk))
  · exact (hx2 b (lt_some h.rm.rl.box)).trans h.zb
  · exact (hx2 k (h.rm.row.lt hk)).trans (h.zm k hk)
  · rcases n2 k hk with e | e
    · exact (hx2 k (h.rm.rl.own.lt e).2).trans (h.zv k e)
    · exact zN_new e
  · exact (hx2 k ((h.rm.ents d hd).1.lt hk).2).trans (h.ze d hd k hk)
  · exact (g1.wd fun k hk => .inl (h.zl k hk)).go (g2.wd fun k hk => .inr (by rw [hk]; exact h.zb))
set_option maxRecDepth 100000 in
theorem Zq.mark (h : Zq x z a c bl ml b cnt mv last K M v mk es D) (hz : Zz a c) (h1 : MkTo x bl ml mv last K M (rOld last M) u1) (h2 : RkIs u1 b v mk last es D u2) : ∃ z', Zx x z z' ∧ Zp u2 z' a c bl ml b (cnt + 1) ∧ Cf (fun k => z k = a ∨ z k = c) x u2 := by
  obtain ⟨mv', bq, f1, g1, n1, o1⟩ := h1
  obtain ⟨mk', r2, g2, n2⟩ := h2
  have hs1 := g1.size
  have hx1 := zx_N x z a
  have hx2 : Zx x z (zN u1 (zN x z a) c) := hx1.trans (zx_N u1 _ c) hs1
  have hFb : ∀ k, Fb bl ml mv' (M.drop (rOld last M) ++ [⟨last + 1, bq, fun _ => none⟩]) k → k < u1.heap.size ∧ (zN x z a) k = a := fun k hk => by
    refine ⟨f1.lts hk, ?_⟩
    rcases hk with e | e | e | ⟨q, hq, e⟩
    · exact (hx1 k (h.fl.lts (.inl e))).trans (h.zl k (.inl e))
    · exact (hx1 k (h.fl.lts (.inr (.inl e)))).trans (h.zl k (.inr (.inl e)))
    · rcases o1 k e with e | e
      · exact (hx1 k (h.fl.lts (.inr (.inr (.inl e))))).trans (h.zl k (.inr (.inr (.inl e))))
      · exact zN_new e
    · rcases List.mem_append.1 hq with hq | hq
      · have e' : Fb bl ml mv M k := .inr (.inr (.inr ⟨q, List.mem_of_mem_drop hq, e⟩))
        exact (hx1 k (h.fl.lts e')).trans (h.zl k e')
      · simp only [List.mem_singleton] at hq
        subst hq
        simp only at e
        rw [e]
        exact zN_new n1
  refine ⟨zN u1 (zN x z a) c, hx2, ⟨mv', last + 1, K, _, v, mk', es, _, ⟨f1.cf g2 (fun k hk e => ?_), r2, h.pq.mark bq v, fun k hk => ?_, ?_, fun k hk => ?_, fun k hk => ?_, fun d hd k hk => ?_, ?_, ?_⟩⟩, ?_⟩
  · have h5 := (hFb k hk).2
    rcases e with e | e
    · rw [e, hx1 b (lt_some h.rm.rl.box)] at h5
      exact hz.ac (h5.symm.trans h.zb)
    · rw [hx1 k (h.rm.row.lt e)] at h5
      exact hz.ac (h5.symm.trans (h.zm k e))
  · exact (zx_N u1 _ c k (hFb k hk).1).trans (hFb k hk).2
  · exact (hx2 b (lt_some h.rm.rl.box)).trans h.zb
  · rcases n2 k hk with e | e
    · exact (hx2 k (h.rm.row.lt e)).trans (h.zm k e)
    · exact zN_new e
  · exact (hx2 k (h.rm.rl.own.lt hk).2).trans (h.zv k hk)
  · rcases List.mem_append.1 hd with hd | hd
    · exact (hx2 k ((h.rm.ents d hd).1.lt hk).2).trans (h.ze d hd k hk)
    · simp only [List.mem_singleton] at hd
      subst hd
      exact (hx2 k (h.rm.rl.own.lt hk).2).trans (h.zv k hk)
  · rw [List.length_append]
    have := h.cD
    simp only [List.length_singleton]
    omega
  · have := h.cl
    omega
  · exact (g1.wd fun k hk => .inl (h.zl k hk)).go (g2.wd fun k hk => by
      rcases hk with e | e
      · exact .inr (by rw [e]; exact h.zb)
      · exact .inr (h.zm k e))
set_option maxRecDepth 100000 in
/-- A Back that finds its mark. -/
theorem Zq.back (h : Zq x z a c bl ml b cnt mv last K M v mk es D) (hz : Zz a c) {i : Nat} {q : Mq} (hq : M[i]? = some q) {mv' : Value} (hmv : mv'.ownBlock = mv.ownBlock) (f1 : Fl u1 bl ml mv' last (undo (M.drop i) K) (M.take i ++ [clr q])) (g1 : Cf (Fb bl ml mv M) x u1)
    {j : Nat} {d : Dq} (hj : D[j]? = some d) (hp : Pq last (undo (M.drop i) K) (M.take i ++ [clr q]) d.es (D.take (j + 1))) {mk' : Value} (hmk : mk'.ownBlock = mk.ownBlock) (r2 : Rm u2 b d.v mk' last d.es (D.take (j + 1))) (g2 : Cf (· = b) u1 u2) : ∃ z', Zx x z z' ∧ Zp u2 z' a c bl ml b cnt ∧ Cf (fun k => z k = a ∨ z k = c) x u2 := by
  have hs1 := g1.size
  have hx1 := zx_N x z a
  have hFb : ∀ k, Fb bl ml mv' (M.take i ++ [clr q]) k → Fb bl ml mv M k := fun k hk => by
    rcases hk with e | e | e | ⟨p, hp, e⟩
    · exact .inl e
    · exact .inr (.inl e)
    · exact .inr (.inr (.inl (by rw [← hmv]; exact e)))
    · rcases List.mem_append.1 hp with hp | hp
      · exact .inr (.inr (.inr ⟨p, List.mem_of_mem_take hp, e⟩))
      · simp only [List.mem_singleton] at hp
        subst hp
        exact .inr (.inr (.inr ⟨q, List.mem_of_getElem? hq, e⟩))
  have hdm := List.mem_of_getElem? hj
  refine ⟨zN x z a, hx1, ⟨mv', last, _, _, d.v, mk', d.es, _, ⟨f1.cf g2 (fun k hk e => ?_), r2, hp, fun k hk => ?_, ?_, fun k hk => ?_, fun k hk => ?_, fun d' hd' k hk => ?_, ?_, h.cl⟩⟩, ?_⟩
  · exact hz.ac ((h.zl k (hFb k hk)).symm.trans (by rw [e]; exact h.zb))
  · exact (hx1 k (h.fl.lts (hFb k hk))).trans (h.zl k (hFb k hk))
  · exact (hx1 b (lt_some h.rm.rl.box)).trans h.zb
  · rw [hmk] at hk
    exact (hx1 k (h.rm.row.lt hk)).trans (h.zm k hk)
  · exact (hx1 k ((h.rm.ents d hdm).1.lt hk).2).trans (h.ze d hdm k hk)
  · have hd2 := List.mem_of_mem_take hd'
    exact (hx1 k ((h.rm.ents d' hd2).1.lt hk).2).trans (h.ze d' hd2 k hk)
  · exact Nat.le_trans (by rw [List.length_take]; exact Nat.min_le_right _ _) h.cD
  · exact (g1.wd fun k hk => .inl (h.zl k hk)).go (g2.wd fun k hk => .inr (by rw [hk]; exact h.zb))
end
set_option maxRecDepth 100000 in
theorem get_snoc {α : Type} {V : List α} {y x : α} {t : Nat} (h : (V ++ [y])[t]? = some x) : (t < V.length ∧ V[t]? = some x) ∨ (t = V.length ∧ x = y) := by
  by_cases ht : t < V.length
  · rw [List.getElem?_append_left ht] at h
    exact .inl ⟨ht, h⟩
  · rw [List.getElem?_append_right (by omega)] at h
    have hl := (List.getElem?_eq_some_iff.1 h).1
    simp at hl
    have e : t = V.length := by omega
    subst e
    simp at h
    exact .inr ⟨rfl, h.symm⟩
set_option maxRecDepth 100000 in
theorem OwnJ.low {w : World} {B C : Nat} {v : Value} {l : List Int} (h : OwnJ w C v l) (hB : B ≤ C) : OwnJ w B v l := by
  unfold OwnJ at *
  exact ⟨h.1, h.2.imp id (fun ⟨g, cap, cur, e, hg, r⟩ => ⟨g, cap, cur, e, Nat.le_trans hB hg, r⟩)⟩
set_option maxRecDepth 100000 in
/-- kept.take of two lists that have just come out. -/
theorem keep_any {x u : World} {z : Nat → Nat} {bk cnt : Nat} {full : Prop} (h : Zj x z bk cnt full) (hb : Below x.heap.size x u) (hcnt : cnt ≤ 1000000) {lv wv : Value} {T : List Int} (hl : OwnJ u x.heap.size lv T) (hw : OwnJ u x.heap.size wv T) (hT : T.length ≤ 65536) (hTb : ∀ y ∈ T, -9223372036854775808 ≤ y ∧ y ≤ 9223372036854775807) :
    Calls Tryd.prog 33 #[pB bk, lv, wv] u fun e u' => e = .returned (.tuple #[]) ∧ Hid (∃ z', Zx x z z' ∧ Zj u' z' bk (cnt + 1) full ∧ Cf (fun k => z k = 5) x u') := by
  obtain ⟨kn, v, vw, V, W, L, hk⟩ := h
  have hx1 := zx_N x z 7
  have hku := hk.turn (F := fun _ => False) (Cf.of_below hb) hx1 (fun _ h => h.elim)
  have hkc := hk.kc
  have hlk := hk.lk
  have hlen := hk.len
  have hbs := hb.size
  have hx2 : ∀ u' : World, u.heap.size ≤ u'.heap.size → Zx x z (zN u (zN x z 7) 5) := fun u' _ => hx1.trans (zx_N u _ 5) hbs
  have hvl : ∀ k, v.ownBlock = some k → k < x.heap.size := fun k hk2 => (hk.kp.row.lt hk2).2
  have hwl : ∀ k, vw.ownBlock = some k → k < x.heap.size := fun k hk2 => (hk.kp.wrow.lt hk2).2
  have hbl : bk < x.heap.size := lt_some hk.kp.box
  have hpar : Int.tmod (kn + 1) 2 = 1 ∨ Int.tmod (kn + 1) 2 = 0 := by
    have h1 := Int.tmod_eq_emod_of_nonneg (a := kn + 1) (b := 2) (by omega)
    omega
  rcases hpar with hm | hm
  · refine (take_odd u bk kn v vw V W lv wv T hku.kp (by omega) hm (hl.low (Nat.zero_le _)) hT (fun k hk2 => ?_)).mono ?_
    · have h1 := (hl.ltX hk2).1
      exact ⟨fun e => by have := hvl k e; omega, fun e => by have := hwl k e; omega⟩
    · rintro e u' ⟨rfl, HK, HC⟩
      have hc := HC.out
      have hzx := hx2 u' hc.size
      have hcx : Cf (fun k => z k = 5) x u' := (Cf.of_below hb).trans hc (fun k hk2 e => by
        rcases e with e | e
        · rw [e]; exact hk.zb
        · have := (hl.ltX e).1
          omega)
      refine ⟨rfl, hidden ⟨_, hzx, ⟨kn + 1, v, vw, V, W, L, ⟨HK.out, (hzx bk hbl).trans hk.zb, fun k hk2 => (hzx k (hvl k hk2)).trans (hk.zv k hk2), fun k hk2 => (hzx k (hwl k hk2)).trans (hk.zw k hk2), hlen, by omega, by omega, fun hf => ?_⟩⟩, hcx⟩⟩
      exact (hk.ko hf).turn hcx hzx (fun k e => by omega)
  · obtain ⟨lo, lc, rfl, _⟩ := own_shapeJ hl
    obtain ⟨wo, wc, rfl, hwsl⟩ := hw.slz hT hTb
    refine (take_even2 u 0 bk kn v vw V W lo wo T.length lc T.length wc hku.kp (by omega) hm (by omega) (by omega) (Nat.zero_le _)).mono ?_
    rintro e u' ⟨rfl, v', vw', HK, HC, HN⟩
    have hc := HC.out
    obtain ⟨n1, n2⟩ := HN.out
    have hzx := hx2 u' hc.size
    have hcx : Cf (fun k => z k = 5) x u' := (Cf.of_below hb).trans hc (fun k hk2 e => by
      rcases e with e | e | e
      · rw [e]; exact hk.zb
      · exact hk.zv k e
      · exact hk.zw k e)
    have hz7 : ∀ k, x.heap.size ≤ k → k < u.heap.size → zN u (zN x z 7) 5 k = 7 := fun k h1 h2 => by
      rw [zx_N u _ 5 k h2]
      exact zN_new h1
    have hnb : ∀ k, x.heap.size ≤ k → ¬ (k = bk ∨ v.ownBlock = some k ∨ vw.ownBlock = some k) := fun k h1 e => by
      rcases e with e | e | e
      · omega
      · have := hvl k e; omega
      · have := hwl k e; omega
    refine ⟨rfl, hidden ⟨_, hzx, ⟨kn + 1, v', vw', _, _, fun t => if t < V.length then L t else T, ⟨HK.out, (hzx bk hbl).trans hk.zb, fun k hk2 => ?_, fun k hk2 => ?_, by rw [List.length_append, List.length_append, hlen]; rfl, ?_, by omega, fun hf => ?_⟩⟩, hcx⟩⟩
    · rcases n1 k hk2 with e | e
      · exact (hzx k (hvl k e)).trans (hk.zv k e)
      · exact zN_new e
    · rcases n2 k hk2 with e | e
      · exact (hzx k (hwl k e)).trans (hk.zw k e)
      · exact zN_new e
    · rw [List.length_append]
      simp only [List.length_singleton]
      have h1 := Int.tmod_eq_emod_of_nonneg (a := kn + 1) (b := 2) (by omega)
      omega
    · have ho := (hk.ko hf).turn hcx hzx (fun k e => by omega)
      have hox := hk.ko hf
      have hlu : OwnJ u' 0 (.slice lo T.length lc) T := (hl.cfX hc (fun k hk2 => hnb k (hl.ltX hk2).1)).low (Nat.zero_le _)
      refine ⟨fun t y hy => ?_, fun t t' y y' hy hy' hne => ?_, fun t y hy => ?_⟩
      · rcases get_snoc hy with ⟨ht, hy⟩ | ⟨ht, rfl⟩
        · simp only [if_pos ht]
          exact ho.own t y hy
        · simp only [ht, Nat.lt_irrefl, if_false]
          exact ⟨hlu, hT, fun k hk2 => hz7 k (hl.ltX hk2).1 (hl.ltX hk2).2⟩
      · rcases get_snoc hy with ⟨ht, hy⟩ | ⟨ht, rfl⟩
        · rcases get_snoc hy' with ⟨ht', hy'⟩ | ⟨ht', rfl⟩
          · exact ho.ne t t' y y' hy hy' hne
          · cases hk3 : y.ownBlock with
            | none => exact .inl rfl
            | some k =>
              right
              intro e
              have h1 := ((hox.own t y hy).1.ltX hk3).2
              have h2 := (hl.ltX e.symm).1
              omega
        · rcases get_snoc hy' with ⟨ht', hy'⟩ | ⟨ht', rfl⟩
          · cases hk3 : (Value.slice lo T.length lc).ownBlock with
            | none => exact .inl rfl
            | some k =>
              right
              intro e
              have h1 := ((hox.own t' y' hy').1.ltX e.symm).2
              have h2 := (hl.ltX hk3).1
              omega
          · exact absurd (ht.trans ht'.symm) hne
      · rcases get_snoc hy with ⟨ht, hy⟩ | ⟨ht, rfl⟩
        · have ht2 : t < V.length := by omega
          simp only [if_pos ht2]
          exact ho.wer t y hy
        · have ht2 : ¬ t < V.length := by omega
          simp only [if_neg ht2]
          refine ⟨wo, wc, rfl, hwsl.cf hc (.inr fun p hp => hnb p.block (hw.ltX (by rw [hp]; rfl)).1), fun p hp => ⟨hz7 _ (hw.ltX (by rw [hp]; rfl)).1 (hw.ltX (by rw [hp]; rfl)).2, Nat.lt_of_lt_of_le (hw.ltX (by rw [hp]; rfl)).2 hc.size⟩⟩
end Go.Proofs.YtedgpcckbdnijaaDoor
