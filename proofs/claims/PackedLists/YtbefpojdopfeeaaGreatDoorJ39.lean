/- packed: a page in memory, whole; lay once more (made by mklay2.py of Is's lay_fit). -/
import Derived.Test.YtbefpojdopfeeaaGreatDoorJ38
namespace Go.Proofs.YtbefpojdopfeeaaGreatDoor
open Go.RowKit

/-- Blocks, and what is new. -/
def Zk (K : Nat → Prop) (w w' : World) : Nat → Prop := fun b => K b ∨ (w.heap.size ≤ b ∧ b < w'.heap.size)
/-- It lies outside of these blocks, or is empty. -/
def OutK (K : Nat → Prop) (ao : Option Addr) (n : Nat) : Prop := n = 0 ∨ ∀ p, ao = some p → ¬ K p.block
/-- A PAGE IN MEMORY, its rows in blocks of K. -/
structure PkA (w : World) (K : Nat → Prop) (a : Nat) (k : Int) (n : Nat) (s : Qs) (po : Option Addr) (pn pc : Nat) (bo : Option Addr) (bn bc : Nat) (so : Option Addr) (sn sc : Nat) (body : List Int) (st : List Nat) : Prop where
  pg : PO w 0 a k n po pn pc (.slice bo bn bc) (.slice so sn sc) (s.ws : Int) s.P body st
  lay : LayQ k s.P s.cs body st
  wf : Wf body
  far : Far po pn (.slice so sn sc)
  ok : Qok k n s
  sum : bn = s.ws + lvQ k s.P s.cs
  ka : K a
  kb : ∀ g, (Value.slice bo bn bc).ownBlock = some g → K g
  ks : ∀ g, (Value.slice so sn sc).ownBlock = some g → K g
  kl : ∀ b, K b → b < w.heap.size
/-- The same, of whatever values. -/
def Pk (w : World) (K : Nat → Prop) (a : Nat) (k : Int) (n : Nat) (s : Qs) : Prop := ∃ po pn pc bo bn bc so sn sc body st, PkA w K a k n s po pn pc bo bn bc so sn sc body st
section
variable {w w' : World} {K : Nat → Prop} {a : Nat} {k : Int} {n : Nat} {s : Qs} {po : Option Addr} {pn pc : Nat} {bo : Option Addr} {bn bc : Nat} {so : Option Addr} {sn sc : Nat} {body : List Int} {st : List Nat}
set_option maxRecDepth 100000 in
theorem PkA.go (h : PkA w K a k n s po pn pc bo bn bc so sn sc body st) (hb : Below w.heap.size w w') : PkA w' K a k n s po pn pc bo bn bc so sn sc body st :=
  ⟨h.pg.go hb, h.lay, h.wf, h.far, h.ok, h.sum, h.ka, h.kb, h.ks, fun b e => Nat.lt_of_lt_of_le (h.kl b e) hb.size⟩
set_option maxRecDepth 100000 in
theorem PkA.wide {G : Nat → Prop} (h : PkA w K a k n s po pn pc bo bn bc so sn sc body st) (hg : ∀ b, K b → G b) (hl : ∀ b, G b → b < w.heap.size) : PkA w G a k n s po pn pc bo bn bc so sn sc body st :=
  ⟨h.pg, h.lay, h.wf, h.far, h.ok, h.sum, hg _ h.ka, fun g e => hg g (h.kb g e), fun g e => hg g (h.ks g e), hl⟩
set_option maxRecDepth 100000 in
theorem PkA.lens (h : PkA w K a k n s po pn pc bo bn bc so sn sc body st) : s.P.length = pn ∧ body.length = bn ∧ st.length = sn ∧ s.cs.length = sn ∧ filQ k s = 10 + pn + 2 * sn + bn := by
  have h1 := h.pg.pre.hlen
  have h2 := h.pg.ob.len
  have h3 := h.pg.on.len
  have h4 := h.lay.len
  have h5 := h.sum
  unfold filQ
  omega
set_option maxRecDepth 100000 in
theorem PkA.pgq (h : PkA w K a k n s po pn pc bo bn bc so sn sc body st) (hn : n ≤ 65536) : PgQ w a k n po pn pc bo bn bc so sn sc (s.ws : Int) s.P body st := by
  have h1 := h.lens
  have h2 := h.ok.fit
  exact h.pg.pgq h.wf (by omega) (by omega)
set_option maxRecDepth 100000 in
theorem PkA.cfq (h : PkA w K a k n s po pn pc bo bn bc so sn sc body st) (hc : Cf (QZ a (.slice bo bn bc) (.slice so sn sc)) w w') : Cf K w w' := hc.wideQ (fun b e => by
  rcases e with rfl | e | e
  · exact h.ka
  · exact h.kb b e
  · exact h.ks b e)
set_option maxRecDepth 100000 in
theorem PkA.cfa (h : PkA w K a k n s po pn pc bo bn bc so sn sc body st) (hc : Cf (· = a) w w') : Cf K w w' := hc.wideQ (fun _ e => by rw [e]; exact h.ka)
set_option maxRecDepth 100000 in
theorem PkA.cfb (h : PkA w K a k n s po pn pc bo bn bc so sn sc body st) (hc : Cf (fun b => (Value.slice bo bn bc).ownBlock = some b) w w') : Cf K w w' := hc.wideQ (fun b e => h.kb b e)
set_option maxRecDepth 100000 in
theorem PkA.out (h : PkA w K a k n s po pn pc bo bn bc so sn sc body st) {ao : Option Addr} {m : Nat} (ho : OutK K ao m) : Far ao m (.slice bo bn bc) := by
  rcases ho with h0 | h0
  · exact .inl h0
  · exact .inr fun p hp e => h0 p hp (h.kb _ e)
set_option maxRecDepth 100000 in
theorem Pk.go (h : Pk w K a k n s) (hb : Below w.heap.size w w') : Pk w' K a k n s := by
  obtain ⟨po, pn, pc, bo, bn, bc, so, sn, sc, body, st, h⟩ := h
  exact ⟨po, pn, pc, bo, bn, bc, so, sn, sc, body, st, h.go hb⟩
set_option maxRecDepth 100000 in
theorem Pk.wide {G : Nat → Prop} (h : Pk w K a k n s) (hg : ∀ b, K b → G b) (hl : ∀ b, G b → b < w.heap.size) : Pk w G a k n s := by
  obtain ⟨po, pn, pc, bo, bn, bc, so, sn, sc, body, st, h⟩ := h
  exact ⟨po, pn, pc, bo, bn, bc, so, sn, sc, body, st, h.wide hg hl⟩
set_option maxRecDepth 100000 in
theorem Pk.kl (h : Pk w K a k n s) : ∀ b, K b → b < w.heap.size := by
  obtain ⟨po, pn, pc, bo, bn, bc, so, sn, sc, body, st, h⟩ := h
  exact h.kl
set_option maxRecDepth 100000 in
theorem Zk.lt {w0 : World} (h : ∀ b, K b → b < w0.heap.size) (hs : w0.heap.size ≤ w'.heap.size) : ∀ b, Zk K w w' b → b < w'.heap.size := by
  rintro b (e | e)
  · exact Nat.lt_of_lt_of_le (h b e) hs
  · exact e.2
set_option maxRecDepth 100000 in
theorem Pk.zk {w0 : World} (h : Pk w K a k n s) : Pk w (Zk K w0 w) a k n s := h.wide (fun _ e => .inl e) (Zk.lt h.kl (Nat.le_refl _))
set_option maxRecDepth 100000 in
theorem Pk.ok (h : Pk w K a k n s) : Qok k n s := by
  obtain ⟨po, pn, pc, bo, bn, bc, so, sn, sc, body, st, h⟩ := h
  exact h.ok
end
set_option maxRecDepth 100000 in
theorem Lo.farN {w : World} {B G : Nat} {v : Value} {l : List Nat} {ao : Option Addr} {n : Nat} (h : Lo G ao n) (ho : OwnN w B v l) (hG : G ≤ B) : Far ao n v := by
  rcases h with h0 | h
  · exact .inl h0
  · right
    intro p hp e
    have h1 := h p hp
    unfold OwnN at ho
    have h2 := (ho.lt _ e).1
    omega
set_option maxRecDepth 100000 in
theorem LaidTo.po2 {k : Int} {n : Nat} {cs : List Cl} {w w' : World} {e : Ending} (h : LaidTo k n cs w e w') :
    ∃ b po pn pc bo bn bc so sn sc, e = .returned (.pointer (some ⟨b, 0, none⟩)) ∧ Hid (PO w' w.heap.size b k n po pn pc (.slice bo bn bc) (.slice so sn sc) 0 (shP k cs) (qbd (shP k cs).length (whl k) cs) (qst (shP k cs).length (whl k) 0 cs) ∧ Far po pn (.slice so sn sc)) ∧ Hid (Below w.heap.size w w') ∧ Hid (pn = (shP k cs).length ∧ bn = (qbd (shP k cs).length (whl k) cs).length ∧ sn = cs.length) := by
  obtain ⟨w1, a, po, pn, pc, vb, vs, rfl, HL, HP, HB⟩ := h
  have hb := HL.out.be
  obtain ⟨bo, bc, rfl⟩ := HL.out.ob.shape
  obtain ⟨so, sc, rfl⟩ := HL.out.on.shape
  have hz := HB.out.size
  refine ⟨a, po, pn, pc, bo, _, bc, so, _, sc, rfl, hidden ⟨⟨HL.out.row, HP.out.on (Nat.le_refl _) hb, HL.out.ob.low hz, ?_, HP.out.lo.far HL.out.ob (Nat.le_refl _), Nat.le_trans hz HL.out.ha⟩, HP.out.lo.farN HL.out.on (Nat.le_refl _)⟩, hidden (bl_go HB.out (Nat.le_refl _) hb), hidden ⟨HP.out.hlen.symm, rfl, qst_length _ _ _ _⟩⟩
  have h6 := HL.out.on
  unfold OwnN at h6 ⊢
  rcases h6.2 with h8 | ⟨g, c, cur, e, hg, r⟩
  · exact ⟨h6.1, .inl h8⟩
  · exact ⟨h6.1, .inr ⟨g, c, cur, e, Nat.le_trans hz hg, r⟩⟩
/-- What a page is, that was just laid in the place of another. -/
def LayTo2 (a : Nat) (k : Int) (n : Nat) (cs : List Cl) (w : World) (e : Ending) (w' : World) : Prop :=
  e = .returned (.int .i64 0) ∧ Hid (Cf (· = a) w w') ∧ Hid (∃ po pn pc bo bn bc so sn sc, PO w' 0 a k n po pn pc (.slice bo bn bc) (.slice so sn sc) 0 (shP k cs) (qbd (shP k cs).length (whl k) cs) (qst (shP k cs).length (whl k) 0 cs) ∧ Far po pn (.slice so sn sc) ∧ (∀ g, (Value.slice bo bn bc).ownBlock = some g → w.heap.size ≤ g) ∧ (∀ g, (Value.slice so sn sc).ownBlock = some g → w.heap.size ≤ g))
set_option maxRecDepth 100000 in
set_option maxHeartbeats 2000000 in
theorem lay_fit2 (w : World) (a : Nat) (k : Int) (n : Nat) (po : Option Addr) (pn pc : Nat) (bo : Option Addr) (bn bc : Nat) (so : Option Addr) (sn sc : Nat) (ws : Int) (h : QR w a k n (.slice po pn pc) (.slice bo bn bc) (.slice so sn sc) ws) (G : Nat) (ao : Option Addr) (m cap : Nat) (cs : List Cl) (hs : SlE w G ao m cap cs) (hG : G ≤ w.heap.size) (hr : Rs cs) (hf : ∀ c ∈ cs, c.fit) (hn : n ≤ 65536) (hfit : szQ k (shP k cs).length cs ≤ n) :
    Calls Tryz.prog 45 #[.pointer (some ⟨a, 0, none⟩), .slice ao m cap] w fun e w' => LayTo2 a k n cs w e w' := by
  have hz := szQ_eq k (shP k cs).length cs
  have hm : m ≤ 65536 := by have := hs.hlen; omega
  obtain ⟨Z, hZ⟩ : ∃ Z, szQ k (shP k cs).length cs = Z := ⟨_, rfl⟩
  rw [hZ] at hz hfit
  have haw := lt_some h
  have E1 : Hid (∀ u, Below w.heap.size w u → Calls Tryz.prog 54 #[.int .i64 k, .int .i64 (n : Int), .slice ao m cap] u fun e w' => ∃ b qo qn qc co cn cc to_ tn tc, e = .returned (.pointer (some ⟨b, 0, none⟩)) ∧ w'.cell? ⟨a, 1, none⟩ = some (.int .i64 (n : Int)) ∧ Hid (PO w' w.heap.size b k n qo qn qc (.slice co cn cc) (.slice to_ tn tc) 0 (shP k cs) (qbd (shP k cs).length (whl k) cs) (qst (shP k cs).length (whl k) 0 cs) ∧ Far qo qn (.slice to_ tn tc)) ∧ Hid (Below w.heap.size w w') ∧ Hid (10 + qn + 2 * tn + cn = Z)) := by
    refine hidden fun u hu => (laid_any k n G ao m cap cs u (hs.on hu) (Nat.le_trans hG hu.size) hr hf hm (by omega)).mono ?_
    intro e w' hq
    obtain ⟨b, qo, qn, qc, co, cn, cc, to_, tn, tc, rfl, HPO, HB, HN⟩ := hq.po2
    have hb := bl_go hu (Nat.le_refl _) HB.out
    obtain ⟨hpo, hfr⟩ := HPO.out
    obtain ⟨n1, n2, n3⟩ := HN.out
    refine ⟨b, qo, qn, qc, co, cn, cc, to_, tn, tc, rfl, (show QR w' a k n (.slice po pn pc) (.slice bo bn bc) (.slice so sn sc) ws from box_on h hb).cells.2.1, hidden ⟨⟨hpo.row, hpo.pre, hpo.ob.low hu.size, ?_, hpo.far, Nat.le_trans hu.size hpo.ha⟩, hfr⟩, hidden hb, hidden (by omega)⟩
    have h6 := hpo.on
    unfold OwnN at h6 ⊢
    rcases h6.2 with h8 | ⟨g, c, cur, e, hg, r⟩
    · exact ⟨h6.1, .inl h8⟩
    · exact ⟨h6.1, .inr ⟨g, c, cur, e, Nat.le_trans hu.size hg, r⟩⟩
  have HRA : Hid (∀ u, Below w.heap.size w u → QR u a k n (.slice po pn pc) (.slice bo bn bc) (.slice so sn sc) ws) := hidden fun u hu => box_on h hu
  obtain ⟨c0, c1, c2, c3, c4, c5⟩ := h.cells
  have hfI : (Z : Int) ≤ (n : Int) := by omega
  have hnI : (n : Int) ≤ 65536 := by omega
  clear h hs hr hf hz hZ
  go_enter Tryz.func45, Tryz.ntmps45
  go_upto_region 1 with fail
  go_cut [5] from 6 to 15 (fun v u => ∃ b qo qn qc co cn cc to_ tn tc, v = .pointer (some ⟨b, 0, none⟩) ∧ Hid (PO u w.heap.size b k n qo qn qc (.slice co cn cc) (.slice to_ tn tc) 0 (shP k cs) (qbd (shP k cs).length (whl k) cs) (qst (shP k cs).length (whl k) 0 cs) ∧ Far qo qn (.slice to_ tn tc)) ∧ Hid (Below w.heap.size w u) ∧ Hid (10 + qn + 2 * tn + cn = Z))
  case first =>
    go_wp2_with fail
    go_region_with (first | (go_at_call 54; refine (E1.out _ (by first | exact Below.refl _ _ | exact (Below.refl _ _).drew | exact bl_dr (Below.refl _ _) _)).mono ?_; rintro e w1 ⟨b, qo, qn, qc, co, cn, cc, to_, tn, tc, rfl, y1, HPO, HB1, HZ1⟩))
    all_goals (try go_wp2_with fail)
    all_goals go_meet
    all_goals exact ⟨b, qo, qn, qc, co, cn, cc, to_, tn, tc, rfl, by first | exact HPO | exact hidden ⟨HPO.out.1.go (Below.refl _ _).drew, HPO.out.2⟩ | exact hidden ⟨HPO.out.1.go (bl_dr (Below.refl _ _) _), HPO.out.2⟩, by first | exact HB1 | exact hidden HB1.out.drew | exact hidden (bl_dr HB1.out _), HZ1⟩
  obtain ⟨b, qo, qn, qc, co, cn, cc, to_, tn, tc, rfl, HPO, HB1, HZ1⟩ := hcut
  obtain ⟨w1, hw1⟩ : ∃ w1, w1 = wc := ⟨_, rfl⟩
  subst hw1
  clear c0 c1 c2 c3 c4 c5 E1
  have hz1 := HZ1.out
  have HUS : Hid (∀ u, Below w1.heap.size w1 u → Calls Tryz.prog 17 #[.pointer (some ⟨b, 0, none⟩)] u fun e w' => e = .returned (.int .i64 (Z : Int)) ∧ w'.cell? ⟨a, 1, none⟩ = some (.int .i64 (n : Int)) ∧ Hid (Below w1.heap.size w1 w')) := by
    refine hidden fun u hu => (usedQ_any u b k n qo qn qc co cn cc to_ tn tc (box_on HPO.out.1.row hu) (by omega) (by omega) (by omega) Z hz1).mono ?_
    rintro e w' ⟨rfl, HB⟩
    have hb := bl_go hu (Nat.le_refl _) HB.out
    exact ⟨rfl, (HRA.out w' (bl_go HB1.out (Nat.le_refl _) hb)).cells.2.1, hidden hb⟩
  have c1 := (HRA.out w1 HB1.out).cells.2.1
  clear hz1
  go_upto_region 2 with fail
  go_cut [22] from 16 to 22 (fun v u => v = .bool false ∧ Hid (Below w1.heap.size w1 u))
  case first =>
    go_wp2_with fail
    go_region_with (first | (go_at_call 17; refine (HUS.out _ (by first | exact Below.refl _ _ | exact (Below.refl _ _).drew | exact bl_dr (Below.refl _ _) _)).mono ?_; rintro e w2 ⟨rfl, y1, HB2⟩))
    all_goals (try go_wp2_with fail)
    all_goals go_meet
    all_goals exact ⟨by simp; omega, by first | exact HB2 | exact hidden HB2.out.drew | exact hidden (bl_dr HB2.out _)⟩
  obtain ⟨rfl, HB2⟩ := hcut
  obtain ⟨w2, hw2⟩ : ∃ w2, w2 = wc := ⟨_, rfl⟩
  subst hw2
  clear c1 HUS
  have HPO2 := hidden (HPO.out.1.go HB2.out)
  have HFR := hidden HPO.out.2
  have HBW : Hid (Below w.heap.size w w2) := hidden (bl_go HB1.out (Nat.le_refl _) HB2.out)
  have HR2 := hidden (HRA.out w2 HBW.out)
  obtain ⟨c0, c1, c2, c3, c4, c5⟩ := HR2.out.cells
  obtain ⟨d0, d1, d2, d3, d4, d5⟩ := HPO2.out.row.cells
  have f0 := HR2.out.free 0
  have f1 := HR2.out.free 1
  have f2 := HR2.out.free 2
  have f3 := HR2.out.free 3
  have f4 := HR2.out.free 4
  have f5 := HR2.out.free 5
  have HAW := hidden haw
  clear haw
  go_wp2
  go_ret
  have hcf := put6_cf w2 a (.int .i64 k) (.int .i64 (n : Int)) (.slice qo qn qc) (.slice co cn cc) (.slice to_ tn tc) (.int .i64 0)
  have hr2 := HR2.out
  have hpo := HPO2.out
  have hbw := HBW.out
  have hkb : ∀ g, (Value.slice co cn cc).ownBlock = some g → w.heap.size ≤ g := fun g e => (hpo.ob.ltk7 e).1
  have hks : ∀ g, (Value.slice to_ tn tc).ownBlock = some g → w.heap.size ≤ g := fun g e => by
    have h6 := hpo.on
    unfold OwnN at h6
    exact (h6.lt g e).1
  refine ⟨rfl, hidden ((Cf.of_below hbw).go hcf), hidden ⟨qo, qn, qc, co, cn, cc, to_, tn, tc, ⟨?_, hpo.pre.cf hcf (hpo.pre.apartQ hr2), ?_, ?_, hpo.far, Nat.zero_le _⟩, HFR.out, hkb, hks⟩⟩
  · exact QV.put (show QV w2 a _ _ _ _ _ _ from hr2) _ _ _ _ _ _
  · unfold QR at hr2
    exact (hpo.ob.low (Nat.zero_le _)).cf hcf (hpo.ob.apart hr2 (by decide))
  · unfold QR at hr2
    have h6 := hpo.on.cf hcf (hpo.on.apart hr2 (by decide))
    unfold OwnN at h6 ⊢
    rcases h6.2 with h8 | ⟨g, c, cur, e, hg, r⟩
    · exact ⟨h6.1, .inl h8⟩
    · exact ⟨h6.1, .inr ⟨g, c, cur, e, Nat.zero_le _, r⟩⟩
set_option maxRecDepth 100000 in
theorem qbd_wf2 {k : Int} {n : Nat} {cs : List Cl} (hn : n ≤ 65536) (hw : ∀ c ∈ cs, c.Wf) (hm : ∀ c ∈ cs, mayP k n c) (m : Nat) (f : Bool) : Wf (qbd m f cs) := qbd_wf m f cs fun c hc => ⟨hw c hc, (hm c hc).fit (by omega)⟩
set_option maxRecDepth 100000 in
theorem qbd_big (m : Nat) : ∀ (f : Bool) (cs : List Cl), (∀ c ∈ cs, c.fit) → (qbd m f cs).length ≤ 131103 * cs.length
  | _, [], _ => by simp [qbd]
  | f, c :: r, h => by
    have ih := qbd_big m false r fun d hd => h d (by simp [hd])
    have h1 := qB_most (if f then 0 else m) c
    have h2 := (h c (by simp)).key
    have h3 := (h c (by simp)).val
    simp only [qbd, List.length_append, List.length_cons]
    omega
set_option maxRecDepth 100000 in
theorem szQ_big (k : Int) (cs : List Cl) (hf : ∀ c ∈ cs, c.fit) (hl : cs.length ≤ 65536) : szQ k (shP k cs).length cs ≤ 1099511627776 := by
  have h1 := szQ_eq k (shP k cs).length cs
  have h2 := qbd_big (shP k cs).length (whl k) cs hf
  have h3 : (shP k cs).length ≤ 65536 := by
    cases hk : ktl k cs with
    | nil => rw [shP_nil hk]; simp
    | cons c r =>
      have hm : c ∈ ktl k cs := by rw [hk]; simp
      have h4 := beg_len (shP_beg k cs c hm)
      obtain ⟨j, hj, _⟩ := ktl_get hm
      have h5 := (hf c (List.mem_of_getElem? hj)).key
      omega
  omega
set_option maxRecDepth 100000 in
/-- lay, whatever it comes to. -/
theorem lay_any (w : World) (K : Nat → Prop) (a : Nat) (k : Int) (n : Nat) (s : Qs) (h : Pk w K a k n s) (G : Nat) (ao : Option Addr) (m cap : Nat) (cs : List Cl) (hs : SlE w G ao m cap cs) (hG : G ≤ w.heap.size) (hr : Rs cs) (hm : ∀ c ∈ cs, mayP k n c) (hw : ∀ c ∈ cs, c.Wf) (hn : n ≤ 65536) (hmm : m ≤ 65536) :
    Calls Tryz.prog 45 #[.pointer (some ⟨a, 0, none⟩), .slice ao m cap] w fun e w' => ∃ code t, e = .returned (.int .i64 code) ∧ Hid (LayR k n s cs code t) ∧ Hid (Pk w' (Zk K w w') a k n t) ∧ Hid (Cf K w w') := by
  obtain ⟨po, pn, pc, bo, bn, bc, so, sn, sc, body, st, h⟩ := h
  have hf : ∀ c ∈ cs, c.fit := fun c hc => (hm c hc).fit (by omega)
  by_cases hfit : szQ k (shP k cs).length cs ≤ n
  · refine (lay_fit2 w a k n po pn pc bo bn bc so sn sc _ h.pg.row G ao m cap cs hs hG hr hf hn hfit).mono ?_
    rintro e w' ⟨rfl, HC, HP⟩
    obtain ⟨po', pn', pc', bo', bn', bc', so', sn', sc', hpo, hfr, hkb, hks⟩ := HP.out
    refine ⟨0, _, rfl, hidden (.inl ⟨hfit, rfl, rfl⟩), hidden ⟨po', pn', pc', bo', bn', bc', so', sn', sc', _, _, ⟨hpo, layQ_of (shP_beg k cs) hf, qbd_wf2 hn hw hm _ _, hfr, ⟨shP_beg k cs, hr, hm, hw, ?_⟩, ?_, .inl h.ka, fun g e => .inr ⟨hkb g e, (hpo.ob.ltk7 e).2⟩, fun g e => .inr ⟨hks g e, ?_⟩, Zk.lt h.kl HC.out.size⟩⟩, hidden (h.cfa HC.out)⟩
    · rw [filQ_eq]
      exact hfit
    · have := hpo.ob.len
      unfold lvQ
      simp only
      omega
    · have h6 := hpo.on
      unfold OwnN at h6
      exact (h6.lt g e).2
  · refine (lay_no w a k n po pn pc bo bn bc so sn sc _ h.pg.row G ao m cap cs hs hG hr hf hn (by omega) (szQ_big k cs hf (by have := hs.hlen; omega)) hmm).mono ?_
    rintro e w' ⟨rfl, HB⟩
    exact ⟨61, s, rfl, hidden (.inr ⟨hfit, rfl, rfl⟩), hidden (Pk.zk ⟨_, _, _, _, _, _, _, _, _, _, _, h.go HB.out⟩), hidden (Cf.of_below HB.out)⟩
end Go.Proofs.YtbefpojdopfeeaaGreatDoor
