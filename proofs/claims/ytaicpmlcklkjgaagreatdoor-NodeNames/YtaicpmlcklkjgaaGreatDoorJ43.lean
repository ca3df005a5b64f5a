/- packed.Page.parted. -/
import Derived.Test.YtaicpmlcklkjgaaGreatDoorJ15
import Derived.Test.YtaicpmlcklkjgaaGreatDoorJ42
import Derived.Lib.LazyBuf
import Derived.Test.YtaicpmlcklkjgaaGreatDoorJ20
namespace Go.Proofs.YtaicpmlcklkjgaaGreatDoor
open Go.RowKit

/-- parted, under way. -/
structure Pq (w u : World) (a rr : Nat) (k : Int) (n : Nat) (po : Option Addr) (pn pc gb bn bc : Nat) (vs lv kv : Value) (st : List Nat) (L1 L2 : List Int) (p : Nat) (en : Bool) : Prop where
  row : QR u a k n (.slice po pn pc) (.slice (some ⟨gb, 0, none⟩) bn bc) vs 0
  rd : Rdq u rr (some ⟨gb, 0, none⟩) bn bc p en
  on : OwnN u w.heap.size vs st
  l : OwnB u w.heap.size lv L1
  y : OwnB u w.heap.size kv L2
  ap : lv.ownBlock = none ∨ lv.ownBlock ≠ kv.ownBlock
  cf : Cf (· = a) w u
  hp : p ≤ bn
  hr : rr = w.heap.size
  ha : a < w.heap.size
set_option maxRecDepth 100000 in
theorem Pq.go {w u : World} {a rr : Nat} {k : Int} {n : Nat} {po : Option Addr} {pn pc gb bn bc : Nat} {vs lv kv : Value} {st : List Nat} {L1 L2 : List Int} {p : Nat} {en : Bool} {v : World} (h : Pq w u a rr k n po pn pc gb bn bc vs lv kv st L1 L2 p en) (hb : Below u.heap.size u v) : Pq w v a rr k n po pn pc gb bn bc vs lv kv st L1 L2 p en :=
  ⟨box_on h.row hb, box_on h.rd hb, h.on.below hb, h.l.on (Nat.le_refl _) hb, h.y.on (Nat.le_refl _) hb, h.ap, h.cf.go (Cf.of_below hb), h.hp, h.hr, h.ha⟩
set_option maxRecDepth 100000 in
theorem Pq.le {w u : World} {a rr : Nat} {k : Int} {n : Nat} {po : Option Addr} {pn pc gb bn bc : Nat} {vs lv kv : Value} {st : List Nat} {L1 L2 : List Int} {p : Nat} {en : Bool} (h : Pq w u a rr k n po pn pc gb bn bc vs lv kv st L1 L2 p en) : w.heap.size ≤ u.heap.size := h.cf.size
set_option maxRecDepth 100000 in
theorem Pq.types {w u : World} {a rr : Nat} {k : Int} {n : Nat} {po : Option Addr} {pn pc gb bn bc : Nat} {vs lv kv : Value} {st : List Nat} {L1 L2 : List Int} {p : Nat} {en : Bool} (h : Pq w u a rr k n po pn pc gb bn bc vs lv kv st L1 L2 p en) : vs.ownBlock ≠ some a ∧ vs.ownBlock ≠ some rr ∧ lv.ownBlock ≠ some a ∧ lv.ownBlock ≠ some rr ∧ kv.ownBlock ≠ some a ∧ kv.ownBlock ≠ some rr := by
  have h1 := h.row
  have h2 := h.rd
  unfold QR at h1
  unfold Rdq at h2
  exact ⟨h.on.apart h1 (by decide), h.on.apart h2 (by decide), h.l.apart h1 (by decide), h.l.apart h2 (by decide), h.y.apart h1 (by decide), h.y.apart h2 (by decide)⟩
set_option maxRecDepth 100000 in
/-- The reader has gone on. -/
theorem Pq.read {w u : World} {a rr : Nat} {k : Int} {n : Nat} {po : Option Addr} {pn pc gb bn bc : Nat} {vs lv kv : Value} {st : List Nat} {L1 L2 : List Int} {p : Nat} {en : Bool} {v : World} (h : Pq w u a rr k n po pn pc gb bn bc vs lv kv st L1 L2 p en) (hc : Cf (· = rr) u v) {q : Nat} {en' : Bool} (hr : Rdq v rr (some ⟨gb, 0, none⟩) bn bc q en') (hq : q ≤ bn) : Pq w v a rr k n po pn pc gb bn bc vs lv kv st L1 L2 q en' := by
  obtain ⟨t1, t2, t3, t4, t5, t6⟩ := h.types
  have h1 := h.hr
  have h2 := h.ha
  refine ⟨h.row.cf hc (by omega), hr, h.on.cf hc t2, h.l.cf hc t4, h.y.cf hc t6, h.ap, h.cf.trans hc ?_, hq, h.hr, h.ha⟩
  intro i hi e
  omega
set_option maxRecDepth 100000 in
/-- The room of the keys is written anew. -/
theorem Pq.room {w u : World} {a rr : Nat} {k : Int} {n : Nat} {po : Option Addr} {pn pc gb bn bc : Nat} {vs lv kv : Value} {st : List Nat} {L1 L2 : List Int} {p : Nat} {en : Bool} {v : World} (h : Pq w u a rr k n po pn pc gb bn bc vs lv kv st L1 L2 p en) {v0 kv' : Value} {L : List Int} (h0 : v0.ownBlock = kv.ownBlock) (ho : OwnB v w.heap.size kv' L) (hg : Gr u v0 v kv') : Pq w v a rr k n po pn pc gb bn bc vs lv kv' st L1 L p en := by
  obtain ⟨t1, t2, t3, t4, t5, t6⟩ := h.types
  have hrd : Rdq v rr (some ⟨gb, 0, none⟩) bn bc p en := (hg.grow.block rr (lt_some h.rd) (fun e => t6 (by rw [← h0]; exact e.symm))).trans h.rd
  refine ⟨h.row.gr hg (by rw [h0]; exact t5), hrd, h.on.gr hg (by rw [h0]; exact h.on.apartB h.y), h.l.gr hg (by rw [h0]; exact h.ap), ho, ?_, ?_, h.hp, h.hr, h.ha⟩
  · rcases h.ap with e | e
    · exact .inl e
    · rcases hg.own with e2 | ⟨i, e2, hi⟩
      · exact .inr (by rw [e2, h0]; exact e)
      · cases hl : lv.ownBlock with
        | none => exact .inl rfl
        | some j =>
          refine .inr fun e3 => ?_
          rw [e2] at e3
          injection e3 with e3
          have := h.l
          unfold OwnB at this
          have := (this.lt j hl).2
          omega
  · refine h.cf.trans (Cf.ofGr (F := fun i => w.heap.size ≤ i) hg fun g e => ?_) ?_
    · have := h.y
      unfold OwnB at this
      exact (this.lt g (by rw [← h0]; exact e)).1
    · intro i hi e
      omega
end Go.Proofs.YtaicpmlcklkjgaaGreatDoor

/- packed.Page.Bytes. -/

namespace Go.Proofs.YtaicpmlcklkjgaaGreatDoor
open Go.RowKit

set_option maxRecDepth 100000 in
theorem SlE.wf {w : World} {G : Nat} {ao : Option Addr} {n cap : Nat} {cs : List Cl} (h : SlE w G ao n cap cs) : ∀ c ∈ cs, c.Wf := by
  intro c hc
  obtain ⟨i, hi, e⟩ := List.getElem_of_mem hc
  rcases h.hat with h0 | ⟨b, off, _, _, hcs⟩
  · have := h.hlen; omega
  · obtain ⟨_, _, _, _, _, _, _, _, _, h1, key, _, _, _, _, _, _, s1, s2, s3, e2, _⟩ := hcs i c (by rw [List.getElem?_eq_getElem hi, e])
    exact ⟨by rw [← e2]; exact s1.wf.append s2.wf, s3.wf⟩
end Go.Proofs.YtaicpmlcklkjgaaGreatDoor

/- packed.read. -/

namespace Go.Proofs.YtaicpmlcklkjgaaGreatDoor
open Go.RowKit

/-- A page that owns its body and its starts. -/
structure PO (w : World) (B a : Nat) (k : Int) (n : Nat) (po : Option Addr) (pn pc : Nat) (vb vs : Value) (ws : Int) (P body : List Int) (st : List Nat) : Prop where
  row : QR w a k n (.slice po pn pc) vb vs ws
  pre : Sl w po pn pc P
  ob : OwnB w B vb body
  on : OwnN w B vs st
  far : Far po pn vb
  ha : B ≤ a
set_option maxRecDepth 100000 in
theorem PO.go {w v : World} {B a : Nat} {k : Int} {n : Nat} {po : Option Addr} {pn pc : Nat} {vb vs : Value} {ws : Int} {P body : List Int} {st : List Nat} (h : PO w B a k n po pn pc vb vs ws P body st) (hb : Below w.heap.size w v) : PO v B a k n po pn pc vb vs ws P body st :=
  ⟨box_on h.row hb, h.pre.on (Nat.le_refl _) hb, h.ob.on (Nat.le_refl _) hb, h.on.below hb, h.far, h.ha⟩
set_option maxRecDepth 100000 in
theorem PO.pg {w : World} {B a : Nat} {k : Int} {n : Nat} {po : Option Addr} {pn pc : Nat} {vb vs : Value} {ws : Int} {P body : List Int} {st : List Nat} (h : PO w B a k n po pn pc vb vs ws P body st) (hw : Wf body) (hb : body.length ≤ 140737488355328) (hs : st.length ≤ 140737488355328) :
    ∃ bo bc so sc, vb = .slice bo body.length bc ∧ vs = .slice so st.length sc ∧ PgQ w a k n po pn pc bo body.length bc so st.length sc ws P body st := by
  obtain ⟨bo, bc, rfl, hbs, _⟩ := h.ob.sl hw hb
  obtain ⟨so, sc, rfl, hss⟩ := h.on.sln hs
  exact ⟨bo, bc, so, sc, rfl, rfl, ⟨h.row, h.pre, hbs, hss⟩⟩
/-- What read comes to. -/
def ReadQ (l : List Int) (w : World) (e : Ending) (w' : World) : Prop :=
  ∃ po, e = .returned (.pointer po) ∧ Hid (Below w.heap.size w w') ∧ Hid ((po = none ∧ readQ l = none) ∨ ∃ a qo qn qc vb vs P cs, po = some ⟨a, 0, none⟩ ∧ readQ l = some (P, cs) ∧ PO w' w.heap.size a (l.getD 0 0) l.length qo qn qc vb vs 0 P (qbd P.length (whl (l.getD 0 0)) cs) (qst P.length (whl (l.getD 0 0)) 0 cs))
set_option maxRecDepth 100000 in
theorem ReadQ.no {l : List Int} {w w' : World} (hb : Below w.heap.size w w') (h : readQ l = none) : ReadQ l w (.returned (.pointer none)) w' := ⟨none, rfl, hidden hb, hidden (.inl ⟨rfl, h⟩)⟩
/-- read, behind the two copies. -/
def Rz (w u : World) (a : Nat) (k0 : Int) (n gp pn pc gb bn bc : Nat) (P BD : List Int) : Prop :=
  QR u a k0 n (.slice (some ⟨gp, 0, none⟩) pn pc) (.slice (some ⟨gb, 0, none⟩) bn bc) (.slice none 0 0) 0 ∧ OwnB u w.heap.size (.slice (some ⟨gp, 0, none⟩) pn pc) P ∧ OwnB u w.heap.size (.slice (some ⟨gb, 0, none⟩) bn bc) BD ∧ gp < a ∧ gb < a ∧ gp ≠ gb ∧ w.heap.size ≤ a ∧ Below w.heap.size w u
/-- What a copy comes to. -/
def Cl1 (w u u' : World) (X : List Int) (g m c : Nat) : Prop := OwnB u' w.heap.size (.slice (some ⟨g, 0, none⟩) m c) X ∧ u.heap.size ≤ g ∧ g < u'.heap.size ∧ Below u.heap.size u u'
set_option maxRecDepth 100000 in
theorem Rz.of {w u0 u1 u2 u3 u4 : World} {k0 : Int} {n gp pn pc gb bn bc : Nat} {P BD : List Int} (h0 : Below w.heap.size w u0) (h1 : Cl1 w u0 u1 P gp pn pc) (h12 : Below u1.heap.size u1 u2) (h2 : Cl1 w u2 u3 BD gb bn bc) (h34 : Below u3.heap.size u3 u4) :
    Rz w (u4.alloc (.cells #[.int .i64 k0, .int .i64 (n : Int), .slice (some ⟨gp, 0, none⟩) pn pc, .slice (some ⟨gb, 0, none⟩) bn bc, .slice none 0 0, .int .i64 0] 164)) u4.heap.size k0 n gp pn pc gb bn bc P BD := by
  obtain ⟨a1, a2, a3, a4⟩ := h1
  obtain ⟨b1, b2, b3, b4⟩ := h2
  have e1 := h12.size
  have e2 := b4.size
  have e3 := h34.size
  have e4 := h0.size
  have hb := bl_al (Below.refl _ u4) (Nat.le_refl _) (.cells #[.int .i64 k0, .int .i64 (n : Int), .slice (some ⟨gp, 0, none⟩) pn pc, .slice (some ⟨gb, 0, none⟩) bn bc, .slice none 0 0, .int .i64 0] 164)
  refine ⟨heap_alloc_last u4 _, ((((a1.on (Nat.le_refl _) h12).on (Nat.le_refl _) b4).on (Nat.le_refl _) h34).on (Nat.le_refl _) hb), (b1.on (Nat.le_refl _) h34).on (Nat.le_refl _) hb, by omega, by omega, by omega, by have := a4.size; omega, ?_⟩
  exact bl_go (bl_go (bl_go (bl_go (bl_go h0 (Nat.le_refl _) a4) (Nat.le_refl _) h12) (Nat.le_refl _) b4) (Nat.le_refl _) h34) (Nat.le_refl _) hb
end Go.Proofs.YtaicpmlcklkjgaaGreatDoor

/- packed.Open, packed.New. -/

namespace Go.Proofs.YtaicpmlcklkjgaaGreatDoor
open Go.RowKit

set_option maxRecDepth 100000 in
theorem equal7 (ao bo : Option Addr) (n m c d : Nat) (la lb : List Int) (w : World) (ha : Sl w ao n c la) (hb : Sl w bo m d lb) :
    Calls Tryz.prog 152 #[.slice ao n c, .slice bo m d] w fun e w' => e = .returned (.bool (decide (la = lb))) ∧ w' = w := by
  have h1 := conv_sl ha
  have h2 := conv_sl hb
  have h3 := str_beq ha.wf hb.wf
  clear ha hb
  go_enter Tryz.func152, Tryz.ntmps152
  go_wp2
  go_ret
  exact ⟨rfl, rfl⟩
end Go.Proofs.YtaicpmlcklkjgaaGreatDoor

/- packed: entries and one more; lay. -/

namespace Go.Proofs.YtaicpmlcklkjgaaGreatDoor
open Go.RowKit

/-- Values that are entries; what they hold lies below G. -/
def Row6 (w : World) (G : Nat) : List Value → List Cl → Prop
  | vs, [] => vs = []
  | vs, c :: r => ∃ ho hn hc ko kn kc vo vn vc h key t, vs = .slice ho hn hc :: .slice ko kn kc :: .int .i64 c.kd :: .slice vo vn vc :: .int .i64 c.pg :: .int .i64 c.ct :: t ∧ (Sl w ho hn hc h ∧ Sl w ko kn kc key ∧ Sl w vo vn vc c.val ∧ h ++ key = c.key ∧ Lo G ho hn ∧ Lo G ko kn ∧ Lo G vo vn) ∧ Row6 w G t r
set_option maxRecDepth 100000 in
theorem Row6.append {w : World} {G : Nat} {us : List Value} {ds : List Cl} (g : Row6 w G us ds) : ∀ {vs : List Value} {cs : List Cl}, Row6 w G vs cs → Row6 w G (vs ++ us) (cs ++ ds)
  | vs, [], h => by
    unfold Row6 at h
    subst h
    exact g
  | vs, c :: r, h => by
    obtain ⟨ho, hn, hc, ko, kn, kc, vo, vn, vc, h', key, t, rfl, h1, h2⟩ := h
    exact ⟨ho, hn, hc, ko, kn, kc, vo, vn, vc, h', key, t ++ us, rfl, h1, Row6.append g h2⟩
set_option maxRecDepth 100000 in
theorem Row6.len {w : World} {G : Nat} : ∀ {vs : List Value} {cs : List Cl}, Row6 w G vs cs → vs.length = cs.length * 6
  | vs, [], h => by
    unfold Row6 at h
    subst h
    rfl
  | vs, c :: r, h => by
    obtain ⟨ho, hn, hc, ko, kn, kc, vo, vn, vc, h', key, t, rfl, h1, h2⟩ := h
    have := h2.len
    simp only [List.length_cons]
    omega
set_option maxRecDepth 100000 in
theorem Row6.one {w : World} {G : Nat} : ∀ {vs : List Value} {cs : List Cl}, Row6 w G vs cs → ∀ u ∈ vs, u.oneCell' = true
  | vs, [], h, u, hu => by
    unfold Row6 at h
    subst h
    cases hu
  | vs, c :: r, h, u, hu => by
    obtain ⟨ho, hn, hc, ko, kn, kc, vo, vn, vc, h', key, t, rfl, h1, h2⟩ := h
    simp only [List.mem_cons] at hu
    rcases hu with rfl | rfl | rfl | rfl | rfl | rfl | hu
    · rfl
    · rfl
    · rfl
    · rfl
    · rfl
    · rfl
    · exact h2.one u hu
set_option maxRecDepth 100000 in
/-- A row of entries is one's own. -/
theorem RowEq.owns {w : World} {g N : Nat} {vs : List Value} (h : RowEq w g N) (hl : vs.length = N * 6) (hc : ∀ j u, vs[j]? = some u → w.cell? ⟨g, 0 + j, none⟩ = some u) (hN : N ≤ 65536) : w.ownsRow g 159 6 (.slice (some ⟨g, 0, none⟩) N N) N vs := by
  obtain ⟨cur, h1, h2⟩ := h
  refine ⟨hl, .inr ⟨g, N, cur, rfl, Nat.le_refl _, h1, Nat.le_refl _, by unfold maxLen; omega, by omega, ?_⟩⟩
  refine List.ext_getElem? fun j => ?_
  rcases Nat.lt_or_ge j (N * 6) with hj | hj
  · have hv : vs[j]? = some (vs[j]'(by omega)) := List.getElem?_eq_getElem (by omega)
    have := hc j _ hv
    rw [Nat.zero_add, cell_of_row _ _ _ _ _ _ h1] at this
    rw [List.getElem?_take_of_lt hj, hv, ← this]
    simp
  · rw [List.getElem?_eq_none (by rw [List.length_take]; omega), List.getElem?_eq_none (by omega)]
set_option maxRecDepth 100000 in
theorem filled_any (w : World) (a : Nat) (k n : Int) (po : Option Addr) (pn pc : Nat) (bo : Option Addr) (bn bc : Nat) (so : Option Addr) (sn sc : Nat) (ws : Int) (h : QR w a k n (.slice po pn pc) (.slice bo bn bc) (.slice so sn sc) ws) (h1 : pn ≤ 1099511627776) (h2 : bn ≤ 1099511627776) (h3 : sn ≤ 1099511627776) :
    Calls Tryz.prog 287 #[.pointer (some ⟨a, 0, none⟩)] w fun e w' => e = .returned (.int .i64 ((10 + pn + 2 * sn + bn : Nat) : Int)) ∧ ∃ q, w' = w.drewN q := by
  obtain ⟨c0, c1, c2, c3, c4, c5⟩ := h.cells
  have b1 : (pn : Int) ≤ 1099511627776 := by omega
  have b2 : (bn : Int) ≤ 1099511627776 := by omega
  have b3 : (sn : Int) ≤ 1099511627776 := by omega
  clear h
  go_enter Tryz.func287, Tryz.ntmps287
  go_wp2_with fail
  go_quiet (fail)
  go_wp2
  go_ret
  refine ⟨ret_int ?_, _, rfl⟩
  omega
end Go.Proofs.YtaicpmlcklkjgaaGreatDoor
