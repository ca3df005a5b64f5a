/- Layer 8: node.Open of a plain page. -/
import Derived.Test.YtfcbfombobelmaaGreatDoorJ27
import Derived.Test.YtfcbfombobelmaaGreatDoorJ28
import Derived.Test.YtfcbfombobelmaaGreatDoorJ29
import Derived.Deep.QuietTactic
import Derived.BigQuiet
namespace Go.Proofs.YtfcbfombobelmaaGreatDoor
open Go.RowKit

set_option maxRecDepth 100000 in
theorem Po.low {w : World} {B C a : Nat} {k : Int} {n : Nat} {vb vs : Value} {cs : List Cl} (h : Po w C a k n vb vs cs) (hB : B ≤ C) : Po w B a k n vb vs cs := ⟨h.row, h.body.low hB, h.starts.lowN hB⟩
/-- What Open comes to, of a plain page. -/
def NOpenP (l : List Int) (w : World) (e : Ending) (w' : World) : Prop :=
  ∃ v c, e = .returned (.tuple #[v, .int .i64 c]) ∧ Hid (Below w.heap.size w w') ∧ Hid ((v = .nilIface ∧ c = 60 ∧ ¬ ∃ cs, Is (l.getD 0 0) l.length cs l) ∨ ∃ a bo bn bc so sn sc cs, v = iP a ∧ c = 0 ∧ w.heap.size ≤ a ∧ Is (l.getD 0 0) l.length cs l ∧ (∀ c ∈ cs, c.Wf) ∧ Po w' w.heap.size a (l.getD 0 0) l.length (.slice bo bn bc) (.slice so sn sc) cs)
set_option maxRecDepth 100000 in
theorem NOpenP.from {l : List Int} {w u w' : World} {e : Ending} (h : NOpenP l u e w') (hb : Below w.heap.size w u) : NOpenP l w e w' := by
  obtain ⟨v, c, rfl, HB, HQ⟩ := h
  refine ⟨v, c, rfl, hidden (bl_go hb (Nat.le_refl _) HB.out), hidden ?_⟩
  rcases HQ.out with h | ⟨a, bo, bn, bc, so, sn, sc, cs, h1, h2, h3, h4, h5, h6⟩
  · exact .inl h
  · exact .inr ⟨a, bo, bn, bc, so, sn, sc, cs, h1, h2, Nat.le_trans hb.size h3, h4, h5, h6.low hb.size⟩
set_option maxRecDepth 100000 in
theorem openP_any (ao : Option Addr) (n cap : Nat) (l : List Int) (w : World) (hs : Sl w ao n cap l) (ht : Tab w) (h0 : 1 < w.heap.size) : Calls Tryz.prog 81 #[.slice ao n cap] w (NOpenP l w) := by
  have HN := hidden (open_po ao n cap l w hs ht h0)
  clear hs ht h0
  go_enter Tryz.func81, Tryz.ntmps81
  go_wp2_with (first | (go_at_call 82; refine HN.out.mono ?_; rintro e w1 ⟨po, c, rfl, HB, HQ⟩; refine Hid.out ?_))
  apply hidden
  clear HN
  rcases HQ.out with ⟨rfl, rfl, hn⟩ | ⟨a, bo, bn, bc, so, sn, sc, cs, rfl, rfl, h1, h2, h3, h4, h5⟩
  · have H1 := hidden hn
    clear HQ hn
    go_wp2_with (first | (go_at_call 79; refine same_call (asP_no _ _ (by decide) _) ?_))
    go_ret2
    exact ⟨_, _, rfl, HB, hidden (.inl ⟨rfl, rfl, H1.out⟩)⟩
  · have H1 := hidden (And.intro h1 (And.intro h2 (And.intro h3 h5.2)))
    clear HQ h1 h2 h3 h4 h5
    go_wp2_with (first | (go_at_call 79; refine same_call (asP_yes _ _) ?_))
    go_ret2
    obtain ⟨h1, h2, h3, h4⟩ := H1.out
    exact ⟨_, _, rfl, HB, hidden (.inr ⟨a, bo, bn, bc, so, sn, sc, cs, rfl, rfl, h1, h2, h3, h4⟩)⟩
set_option maxRecDepth 100000 in
theorem nopen_1 (ao : Option Addr) (n cap : Nat) (l : List Int) (w : World) (hs : Sl w ao n cap l) (ht : Tab w) (h0 : 1 < w.heap.size) (he : egO l = 1) : Calls Tryz.prog 53 #[.slice ao n cap] w (NOpenP l w) := by
  have HE := hidden (engineOf_any ao n cap l w hs)
  rw [he] at HE
  have HL := hidden (layout_1 w)
  have HM : Hid (∀ u, Below w.heap.size w u → Calls Tryz.prog 81 #[.slice ao n cap] u (NOpenP l u)) := hidden fun u hu => openP_any ao n cap l u (hs.on (Nat.le_refl _) hu) (ht.on hu h0) (Nat.lt_of_lt_of_le h0 hu.size)
  clear hs ht h0 he
  go_enter Tryz.func53, Tryz.ntmps53
  go_wp2_with (first | (go_at_call 68; refine same_call HE.out ?_) | (go_at_call 67; refine HL.out.mono ?_; rintro e w1 ⟨rfl, HB1⟩) | (go_at_call 81; refine (HM.out _ (bl_al HB1.out (Nat.le_refl _) _)).mono ?_; rintro e w2 ⟨v, c, rfl, HB2, HQ2⟩; refine Hid.out ?_))
  apply hidden
  go_wp2
  go_ret2
  exact NOpenP.from ⟨v, c, rfl, HB2, HQ2⟩ (bl_al HB1.out (Nat.le_refl _) _)
end Go.Proofs.YtfcbfombobelmaaGreatDoor

/- Layer 12: walk.Read and tree.read of a leaf on a bench. -/

namespace Go.Proofs.YtfcbfombobelmaaGreatDoor
open Go.RowKit

/-- The table stands whatever becomes of the bench. -/
def TB (w : World) (b m : Nat) : Prop := ∀ u, Cf (Bo b m) w u → Tab u ∧ 1 < u.heap.size
set_option maxRecDepth 100000 in
theorem TB.go {w u : World} {b m : Nat} (h : TB w b m) (hc : Cf (Bo b m) w u) : TB u b m := fun v hv => h v (hc.go hv)
/-- A bench of plain pages of 512 bytes, 40 of them. -/
abbrev Bq (w : World) (b m : Nat) (rd : Int) (M : Int → Option Pf) (ct : Nat) : Prop := Bn w b m 1 512 40 rd M ct
set_option maxRecDepth 100000 in
theorem meth_size (b : Nat) (w : World) : (method 348 25 (pB b) "Size").run Tryz.prog w = .ok (211, pB b) w := by kernel_rfl
set_option maxRecDepth 100000 in
theorem meth_engine (b : Nat) (w : World) : (method 348 25 (pB b) "Engine").run Tryz.prog w = .ok (207, pB b) w := by kernel_rfl
set_option maxRecDepth 100000 in
theorem meth_kind (a : Nat) (w : World) : (method 348 133 (.pointer (some ⟨a, 0, none⟩)) "Kind").run Tryz.prog w = .ok (217, .pointer (some ⟨a, 0, none⟩)) w := by kernel_rfl
set_option maxRecDepth 100000 in
set_option maxHeartbeats 2000000 in
theorem wread_leaf (w : World) (b m : Nat) (rd root : Int) (M : Int → Option Pf) (ct : Nat) (f : Pf) (cs : List Cl) (h : Bq w b m rd M ct) (hr : (Lit.int .i64 root).wf = true) (hM : M root = some f) (hl : f.l = pgB 2 512 cs) (g : Gd1 cs) (hrd : rd < 4611686018427387904) (hr0 : 0 ≤ rd) (ht : TB w b m) :
    Calls Tryz.prog 40 #[iB b, .int .i64 root] w fun e w' => ∃ a, e = .returned (.tuple #[iP a, .int .i64 0]) ∧ Hid (Cf (Bo b m) w w' ∧ Bq w' b m (rd + 1) M ct ∧ w.heap.size ≤ a ∧ ∃ vb vs, Po w' w.heap.size a 2 512 vb vs cs) := by
  have HRD : Hid (Calls Tryz.prog 210 #[pB b, .int .i64 root] w fun e u => ∃ gp cp, e = .returned (.tuple #[.slice (some ⟨gp, 0, none⟩) 512 cp, .int .i64 0]) ∧ Hid (Sl u (some ⟨gp, 0, none⟩) 512 cp (pgB 2 512 cs) ∧ Bq u b m (rd + 1) M ct ∧ Cf (Bo b m) w u)) := hidden (by
    refine (bread_any h root hr hrd hr0).mono ?_
    rintro e u ⟨ao, sn, c, k, rfl, HQ⟩
    rcases HQ.out with ⟨h1, _⟩ | ⟨f', h1, rfl, rfl, h4, h5, h6⟩
    · rw [hM] at h1
      cases h1
    · rw [hM] at h1
      injection h1 with h1
      subst h1
      rw [hl] at h4 ⊢
      obtain ⟨ao', c', e1, hsl, _⟩ := h4.sl g.pwf (by rw [g.len]; omega)
      injection e1 with e2 e3 e4
      subst e2 e4
      rw [g.len] at hsl ⊢
      obtain ⟨gp, rfl⟩ : ∃ gp, ao = some ⟨gp, 0, none⟩ := by
        unfold OwnB at h4
        rcases h4.2 with ⟨e, _⟩ | ⟨q, cc, cur, e, _⟩
        · injection e with e1 e2
          rw [g.len] at e2
          cases e2
        · injection e with e1
          exact ⟨q, e1⟩
      exact ⟨gp, c, rfl, hidden ⟨hsl, h5, h6.wideB (fun x e => .inl e)⟩⟩)
  have HTB := hidden ht
  have HG := hidden g
  clear h hM hl g ht
  go_enter Tryz.func40, Tryz.ntmps40
  go_wp2_with (first | (go_at_call 210; refine HRD.out.mono ?_; rintro e w1 ⟨gp, cp, rfl, HQ1⟩; refine Hid.out ?_))
  apply hidden
  clear HRD
  have HOP : Hid (Calls Tryz.prog 53 #[.slice (some ⟨gp, 0, none⟩) 512 cp] w1 fun e w' => ∃ a, e = .returned (.tuple #[iP a, .int .i64 0]) ∧ Hid (Below w1.heap.size w1 w' ∧ w1.heap.size ≤ a ∧ ∃ vb vs, Po w' w1.heap.size a 2 512 vb vs cs)) := hidden (by
    obtain ⟨q1, q2, q3⟩ := HQ1.out
    obtain ⟨t1, t2⟩ := HTB.out w1 q3
    refine (nopen_1 (some ⟨gp, 0, none⟩) 512 cp (pgB 2 512 cs) w1 q1 t1 t2 HG.out.eg).mono ?_
    rintro e w' ⟨v, c, rfl, HB, HQ⟩
    rcases HQ.out with ⟨_, _, h⟩ | ⟨o, bo, bn, bc, so, sn, sc, ds, rfl, rfl, h3, h4, _, h6⟩
    · exact absurd ⟨cs, by rw [HG.out.kd, HG.out.len]; exact HG.out.is⟩ h
    · have := HG.out.one h4
      subst this
      rw [HG.out.kd, HG.out.len] at h6
      exact ⟨o, rfl, hidden ⟨HB.out, h3, _, _, h6⟩⟩)
  go_wp2_with (first | (go_at_call 53; refine HOP.out.mono ?_; rintro e w2 ⟨a, rfl, HQ2⟩; refine Hid.out ?_))
  apply hidden
  clear HOP
  obtain ⟨q1, q2, q3⟩ := HQ1.out
  obtain ⟨p1, p2, vb, vs, p3⟩ := HQ2.out
  have HBN := hidden (q2.on p1)
  have hsl2 := q1.on (Nat.le_refl _) p1
  have hcl : ∀ z, (w2.drewN z).cell? ⟨gp, 1, none⟩ = some (.int .u8 1) := fun z => by
    rcases (hsl2.drewN z).hat with h0 | ⟨g', off, e, _, hc⟩
    · omega
    · injection e with e
      injection e with e1 e2
      subst e1 e2
      have := hc 1 (by omega)
      rw [HG.out.eg1] at this
      simpa using this
  have hcl0 := hcl 0
  have HSZ := hidden (fun z => bsize_any (q2.on (bl_dr p1 z)))
  have HEN := hidden (fun z => bengine_any (q2.on (bl_dr p1 z)))
  have HKD := hidden (fun z => kindP_any (w2.drewN z) a 2 512 vb vs (box_on p3.row (bl_dr (Below.refl _ _) z)))
  have HFIN : Hid (∀ z, Cf (Bo b m) w (w2.drewN z) ∧ Bq (w2.drewN z) b m (rd + 1) M ct ∧ w.heap.size ≤ a ∧ ∃ vb vs, Po (w2.drewN z) w.heap.size a 2 512 vb vs cs) := hidden fun z => ⟨q3.go (Cf.of_below (bl_dr p1 z)), q2.on (bl_dr p1 z), Nat.le_trans q3.size p2, vb, vs, (p3.on (bl_dr (Below.refl _ _) z)).low q3.size⟩
  clear q1 q2 q3 p1 p2 p3 hsl2 HQ1 HQ2 HTB HG HBN
  have m1 := fun u => meth_size b u
  have m2 := fun u => meth_engine b u
  have m3 := fun u => meth_kind a u
  go_wp2_with fail
  go_quiet (first | (go_at_call 211; exact Calls.quiet_of_same (HSZ.out _)) | (go_at_call 207; exact Calls.quiet_of_same (HEN.out _)) | (go_at_call 217; exact Calls.quiet_of_same (HKD.out _)))
  go_wp2
  go_ret2
  exact ⟨a, rfl, hidden (HFIN.out _)⟩
end Go.Proofs.YtfcbfombobelmaaGreatDoor

/- Three cells that may be fit; cells appended to cells. -/

namespace Go.Proofs.YtfcbfombobelmaaGreatDoor
open Go.RowKit

/-- Values that are cells. -/
def Row5 (w : World) : List Value → List Cl → Prop
  | vs, [] => vs = []
  | vs, c :: r => ∃ ka kc va vc t, vs = .slice ka c.key.length kc :: .int .i64 c.kd :: .slice va c.val.length vc :: .int .i64 c.pg :: .int .i64 c.ct :: t ∧ Sl w ka c.key.length kc c.key ∧ Sl w va c.val.length vc c.val ∧ Row5 w t r
set_option maxRecDepth 100000 in
theorem Row5.append {w : World} {us : List Value} {ds : List Cl} (g : Row5 w us ds) : ∀ {vs : List Value} {cs : List Cl}, Row5 w vs cs → Row5 w (vs ++ us) (cs ++ ds)
  | vs, [], h => by
    unfold Row5 at h
    subst h
    exact g
  | vs, c :: r, h => by
    obtain ⟨ka, kc, va, vc, t, rfl, h1, h2, h3⟩ := h
    exact ⟨ka, kc, va, vc, t ++ us, rfl, h1, h2, Row5.append g h3⟩
set_option maxRecDepth 100000 in
theorem Row5.len {w : World} : ∀ {vs : List Value} {cs : List Cl}, Row5 w vs cs → vs.length = cs.length * 5
  | vs, [], h => by
    unfold Row5 at h
    subst h
    rfl
  | vs, c :: r, h => by
    obtain ⟨ka, kc, va, vc, t, rfl, h1, h2, h3⟩ := h
    have := h3.len
    simp only [List.length_cons]
    omega
set_option maxRecDepth 100000 in
theorem Row5.one {w : World} : ∀ {vs : List Value} {cs : List Cl}, Row5 w vs cs → ∀ u ∈ vs, u.oneCell' = true
  | vs, [], h, u, hu => by
    unfold Row5 at h
    subst h
    cases hu
  | vs, c :: r, h, u, hu => by
    obtain ⟨ka, kc, va, vc, t, rfl, h1, h2, h3⟩ := h
    simp only [List.mem_cons] at hu
    rcases hu with rfl | rfl | rfl | rfl | rfl | hu
    · rfl
    · rfl
    · rfl
    · rfl
    · rfl
    · exact h3.one u hu
/-- THE SLICE VALUE v OWNS THE CELLS cs; their keys and values are w0's. -/
def OwnK (w0 w : World) (v : Value) (cs : List Cl) : Prop := ∃ vs, w.ownsRow w0.heap.size 29 5 v cs.length vs ∧ Row5 w0 vs cs
set_option maxRecDepth 100000 in
theorem OwnK.nil (w0 w : World) : OwnK w0 w (.slice none 0 0) [] := ⟨[], World.ownsRow_nil _ _ _ _, rfl⟩
set_option maxRecDepth 100000 in
theorem OwnK.go {w0 w w' : World} {v : Value} {cs : List Cl} (h : OwnK w0 w v cs) (hb : Below w.heap.size w w') : OwnK w0 w' v cs := by
  obtain ⟨vs, h1, h2⟩ := h
  refine ⟨vs, World.ownsRow.kept (row := none) h1 ⟨hb.os, hb.tape, hb.output, hb.size, fun k hk _ => hb.block k hk⟩ ?_, h2⟩
  cases hv : v.ownBlock with
  | none => exact .inl rfl
  | some k => exact .inr (by simp)
end Go.Proofs.YtfcbfombobelmaaGreatDoor
