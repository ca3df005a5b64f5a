/- Layer 7: what the walk of PackedDecodes holds. -/
import Derived.Test.YtobfkcepjnjfpaaGreatDoorJ41
import Derived.Test.YtobfkcepjnjfpaaGreatDoorJ42
import Derived.Test.YtobfkcepjnjfpaaGreatDoorJ43
import Derived.Test.YtobfkcepjnjfpaaGreatDoorJ23
namespace Go.Proofs.YtobfkcepjnjfpaaGreatDoor
open Go.RowKit

set_option maxRecDepth 100000 in
theorem Ov7.slc {w : World} {B hi g : Nat} {cs : List Cl} {vs : List Value} (h : Ov7 w B hi g cs vs) (hw : ∀ c ∈ cs, c.Wf ∧ c.key.length ≤ 65536 ∧ c.val.length ≤ 65536) (hl : cs.length ≤ 200000) : SlC w (some ⟨g, 0, none⟩) cs.length cs.length cs := by
  obtain ⟨ao, cap, e, h2⟩ := h.own.slc (fun c hc => ⟨(hw c hc).1, by have := (hw c hc).2.1; omega, by have := (hw c hc).2.2; omega⟩) hl
  injection e with e1 e2 e3
  rw [← e1, ← e3] at h2
  exact h2
set_option maxRecDepth 100000 in
theorem PO.gr7 {w w' : World} {B a : Nat} {k : Int} {n : Nat} {gp pn pc : Nat} {vb vs : Value} {ws : Int} {P body : List Int} {st : List Nat} {g : Nat} (h : PO w B a k n (some ⟨gp, 0, none⟩) pn pc vb vs ws P body st) (hp : B ≤ gp) (hg : w.grownBy w' (some g)) (hB : g < B) : PO w' B a k n (some ⟨gp, 0, none⟩) pn pc vb vs ws P body st := by
  have ha := h.ha
  have hc : Cf (· = g) w w' := ⟨hg.os, hg.tape, hg.output, hg.size, fun i hi hf => hg.block i hi (fun e => hf (by injection e with e))⟩
  refine ⟨?_, ?_, h.ob.gr7 hg hB, ?_, h.far, h.ha⟩
  · exact (hg.block a (lt_some h.row) (fun e => by injection e with e; omega)).trans h.row
  · exact h.pre.cf hc (.inr fun p hp' => by injection hp' with e; subst e; simp only; omega)
  · have h6 := h.on
    unfold OwnN at h6 ⊢
    refine World.ownsRow.kept h6 hg ?_
    cases hv : vs.ownBlock with
    | none => exact .inl rfl
    | some z =>
      right
      intro e
      injection e with e
      have := (World.ownsRow.lt h6 z hv).1
      omega
set_option maxRecDepth 100000 in
theorem pkind_any (w : World) (a : Nat) (k : Int) (n : Nat) (po : Option Addr) (pn pc : Nat) (bo : Option Addr) (bn bc : Nat) (so : Option Addr) (sn sc : Nat) (ws : Int) (P body : List Int) (st : List Nat) (h : PgQ w a k n po pn pc bo bn bc so sn sc ws P body st) :
    Calls Tryz.prog 13 #[.pointer (some ⟨a, 0, none⟩)] w fun e w' => e = .returned (.int .i64 k) ∧ w' = w := by
  obtain ⟨c0, c1, c2, c3, c4, c5⟩ := h.cells
  clear h
  go_enter Tryz.func13, Tryz.ntmps13
  go_wp2
  go_ret
  exact ⟨rfl, rfl⟩
set_option maxRecDepth 100000 in
theorem kvs_app {w : World} {B : Nat} {us : List Value} : ∀ {vs : List Value} {cs : List Cl}, R5B w B vs cs → kvs (vs ++ us) = kvs vs ++ kvs us
  | vs, [], h => by
    unfold R5B at h
    subst h
    rfl
  | vs, c :: r, h => by
    obtain ⟨ka, kc, va, vc, t, rfl, h1, h2, h3⟩ := h
    have := kvs_app (us := us) h3
    simp only [List.cons_append, kvs, this]
set_option maxRecDepth 100000 in
theorem R5B.low {w : World} {B C : Nat} (hB : C ≤ B) : ∀ {vs : List Value} {cs : List Cl}, R5B w B vs cs → R5B w C vs cs
  | vs, [], h => h
  | vs, c :: r, h => by
    obtain ⟨ka, kc, va, vc, t, rfl, h1, h2, h3⟩ := h
    exact ⟨ka, kc, va, vc, t, rfl, h1.low hB, h2.low hB, R5B.low hB h3⟩
/-- The list of all cells while it is made. -/
structure Al7 (w : World) (C B1 h1 B2 h2 g1 g2 : Nat) (ov : Value) (m : Nat) (us : List Value) (cs : List Cl) (vs1 vs2 : List Value) : Prop where
  row : w.ownsRow C 37 5 ov m us
  n1 : ov.ownBlock ≠ some g1
  n2 : ov.ownBlock ≠ some g2
  o1 : Ov7 w B1 h1 g1 cs vs1
  o2 : Ov7 w B2 h2 g2 cs vs2
set_option maxRecDepth 100000 in
theorem Ov7.grown {w w' : World} {B hi g C m : Nat} {cs : List Cl} {vs us : List Value} {ov : Value} (h : Ov7 w B hi g cs vs) (hr : w.ownsRow C 37 5 ov m us) (hg : w.grownBy w' ov.ownBlock) (hn : ov.ownBlock ≠ some g) : Ov7 w' B hi g cs vs := by
  refine ⟨World.ownsRow.kept h.1 hg (.inr (by simp only [Value.ownBlock]; exact fun e => hn e.symm)), h.2.1.keep (fun v l ho => ?_), h.2.2⟩
  unfold OwnB at *
  refine World.ownsRow.kept ho hg ?_
  cases hv : v.ownBlock with
  | none => exact .inl rfl
  | some z =>
    right
    intro e
    obtain ⟨cur, fz, q1⟩ := row_ty7 ho hv
    obtain ⟨cur2, fz2, q2⟩ := row_ty7 hr e.symm
    exact absurd (ty_ne7 q1 q2) (by decide)
set_option maxRecDepth 100000 in
theorem Al7.step {w w' : World} {C B1 h1 B2 h2 g1 g2 m : Nat} {ov ov' : Value} {us xs : List Value} {cs : List Cl} {vs1 vs2 : List Value} (h : Al7 w C B1 h1 B2 h2 g1 g2 ov m us cs vs1 vs2) (hr : w'.ownsRow C 37 5 ov' (m + 1) (us ++ xs)) (hg : w.grownBy w' ov.ownBlock) (ho : ov'.ownBlock = ov.ownBlock ∨ ov'.ownBlock = some w.heap.size) : Al7 w' C B1 h1 B2 h2 g1 g2 ov' (m + 1) (us ++ xs) cs vs1 vs2 := by
  have l1 := (World.ownsRow.lt h.o1.1 g1 rfl).2
  have l2 := (World.ownsRow.lt h.o2.1 g2 rfl).2
  refine ⟨hr, ?_, ?_, h.o1.grown h.row hg h.n1, h.o2.grown h.row hg h.n2⟩
  · rcases ho with e | e
    · rw [e]; exact h.n1
    · rw [e]; intro q; injection q with q; omega
  · rcases ho with e | e
    · rw [e]; exact h.n2
    · rw [e]; intro q; injection q with q; omega
set_option maxRecDepth 100000 in
theorem Al7.on {w w' : World} {C B1 h1 B2 h2 g1 g2 m : Nat} {ov : Value} {us : List Value} {cs : List Cl} {vs1 vs2 : List Value} (h : Al7 w C B1 h1 B2 h2 g1 g2 ov m us cs vs1 vs2) (hb : Below w.heap.size w w') : Al7 w' C B1 h1 B2 h2 g1 g2 ov m us cs vs1 vs2 :=
  ⟨World.ownsRow.kept h.row (below_grown hb none) (by cases hv : ov.ownBlock with | none => exact .inl rfl | some z => exact .inr (by simp)), h.n1, h.n2, h.o1.on hb, h.o2.on hb⟩
set_option maxRecDepth 100000 in
/-- 'append(all, c)'. -/
theorem app_al7 {ops : Array Oper} {rest : List Oper} {o : Oper} {a : Act} {Q : Exit → Act → World → Prop} (w : World) (hgd : o.guard = none) (s y : Operand)
    (ho : o.op = .call { callee := .builtin .append, args := #[s, y], argTypes := #[25, 25] }) (C B1 h1 B2 h2 g1 g2 m : Nat) (ov : Value) (us xs : List Value) (cs : List Cl) (vs1 vs2 : List Value) (b : Nat) (hs : a.eval s = ov) (hx : a.eval y = .slice (some ⟨b, 0, none⟩) 1 1)
    (h : Al7 w C B1 h1 B2 h2 g1 g2 ov m us cs vs1 vs2) (hl : xs.length = 5) (hc : ∀ j u, xs[j]? = some u → w.cell? ⟨b, 0 + j, none⟩ = some u) (hone : ∀ u ∈ xs, u.oneCell' = true) (hn : m + 1 ≤ 400000) (hB : C ≤ w.heap.size)
    (hk : ∀ v' w', Hid (Al7 w' C B1 h1 B2 h2 g1 g2 v' (m + 1) (us ++ xs) cs vs1 vs2) → Hid (Below C w w') → wpList Tryz.prog ops Q rest (a.put o.dst v') w') : wpList Tryz.prog ops Q (o :: rest) a w := by
  obtain ⟨i0, hi, hz0, hz1, hz2⟩ := info_parts infoC
  refine wpList_append_own_at w hgd s y 25 ho C 37 i0 _ 5 72 Tryz.underlying25 hi hz0 hz1 hz2 rfl (by decide) ov m us hs h.row ⟨b, 0, none⟩ 1 1 xs hx hl
    (fun j u hu => by
      rw [Addr.add_lit]
      exact hc j u hu) hone (by unfold maxLen; omega) (by omega) hB ?_
  intro v' w' q1 q2 _ q4
  exact hk v' w' (hidden (h.step q1 q2 q4)) (hidden (own_below h.row hB q2))
set_option maxRecDepth 100000 in
/-- What mine asks, of all cells. -/
theorem Al7.mine {w : World} {C B1 h1 B2 h2 g1 g2 : Nat} {ao : Option Addr} {m cap : Nat} {cs : List Cl} {vs1 vs2 : List Value} (h : Al7 w C B1 h1 B2 h2 g1 g2 (.slice ao m cap) m (vs1 ++ vs2) cs vs1 vs2) (hm : m = cs.length + cs.length) (h12 : h1 ≤ B2) (hc1 : C ≤ B1) (hc2 : C ≤ B2) (hhi : h1 ≤ h2) (hB : B1 ≤ B2) (hw : ∀ c ∈ cs, c.Wf ∧ c.key.length ≤ 65536 ∧ c.val.length ≤ 65536) :
    ∃ g, (m = 0 ∨ ao = some ⟨g, 0, none⟩) ∧ Mr7 w C g (cs ++ cs) (kvs (vs1 ++ vs2)) := by
  have hr5 : R5B w C (vs1 ++ vs2) (cs ++ cs) := R5B.append (h.o2.2.1.low hc2) (h.o1.2.1.low hc1)
  have hds : Ds7 (kvs (vs1 ++ vs2)) B1 h2 := by
    rw [kvs_app h.o1.2.1]
    exact h.o1.2.2.append h.o2.2.2 h12 hB hhi
  have hw2 : ∀ c ∈ cs ++ cs, c.Wf ∧ c.key.length ≤ 65536 ∧ c.val.length ≤ 65536 := fun c hc => by
    rcases List.mem_append.1 hc with e | e <;> exact hw c e
  rcases h.row.2 with ⟨e, h0⟩ | ⟨g, cap', cur, e, hg, hh, _⟩
  · have hcs : cs = [] := List.eq_nil_of_length_eq_zero (by omega)
    subst hcs
    refine ⟨0, .inl h0, ⟨.inl rfl, hr5.kvs_len, fun i d hd => by simp at hd, hds.1⟩⟩
  · injection e with e1 e2 e3
    refine ⟨g, .inr e1, ⟨.inr ⟨_, _, hh⟩, hr5.kvs_len, fun i d hd => ?_, hds.1⟩⟩
    obtain ⟨ka, kc, va, vc, p0, _, p2, _, _, o1, o2, q0, q1⟩ := R5B.at i d hr5 hd
    have hx := hw2 d (List.mem_of_getElem? hd)
    have hcl := World.ownsRow.cells h.row (g := g) (by rw [e1]; rfl)
    have c0 := hcl _ _ p0
    have c2 := hcl _ _ p2
    rw [Addr.add_lit, Nat.zero_add] at c0 c2
    exact ⟨ka, kc, va, vc, c0, c2, q0, q1, o1, o2, hx.1, hx.2.1, hx.2.2⟩
set_option maxRecDepth 100000 in
theorem Ov7.fi {w w' : World} {B hi g C : Nat} {cs : List Cl} {vs : List Value} (h : Ov7 w B hi g cs vs) (hk : Kc7 w w') (hC : C ≤ B) (hn : cs.length ≤ 200000) (x : Int) : Fi7 w' C g (some ⟨g, 0, none⟩) cs.length cs.length 0 x := by
  rcases h.1.2 with ⟨e, _⟩ | ⟨g', cap', cur, e, hg, hh, _, _, hs, _⟩
  · cases e
  · injection e with e1 e2 e3
    injection e1 with e1
    injection e1 with e1
    subst e1
    refine .inr ⟨rfl, Nat.le_trans hC hg, Nat.le_refl _, by omega, ⟨cur, (hk.2 _ _ _ hh).trans hh, by rw [← e3] at hs; omega⟩, fun i hi => by omega⟩
end Go.Proofs.YtobfkcepjnjfpaaGreatDoor

/- packed: entries and one more; lay. -/

namespace Go.Proofs.YtobfkcepjnjfpaaGreatDoor
open Go.RowKit

set_option maxRecDepth 100000 in
set_option maxHeartbeats 2000000 in
theorem entriesR_any (w : World) (a : Nat) (k : Int) (n : Nat) (po : Option Addr) (pn pc : Nat) (bo : Option Addr) (bn bc : Nat) (so : Option Addr) (sn sc : Nat) (ws : Int) (P body : List Int) (st : List Nat) (cs : List Cl) (h : PgQ w a k n po pn pc bo bn bc so sn sc ws P body st) (hl : LayQ k P cs body st) (hsz : sn ≤ 65536) :
    Calls Tryz.prog 32 #[.pointer (some ⟨a, 0, none⟩)] w fun e w' => ∃ g, e = .returned (.slice (some ⟨g, 0, none⟩) sn sn) ∧ Hid (SlE w' g (some ⟨g, 0, none⟩) sn sn cs ∧ RowE w' g sn) ∧ Hid (Below w.heap.size w w' ∧ w.heap.size ≤ g ∧ g < w'.heap.size) := by
  obtain ⟨ic, hic, hz0, hz1, hz2⟩ := info_parts infoE
  have HPG := hidden h
  have HL := hidden hl
  have HSN : Hid (sn = cs.length) := hidden (by rw [← hl.len, h.starts.hlen])
  have HLN := hidden (qlen_any w a k n po pn pc bo bn bc so sn sc ws P body st h)
  clear h hl
  go_enter Tryz.func32, Tryz.ntmps32
  go_wp2_with (first
    | (go_at_call 14; refine same_call HLN.out ?_)
    | (at_make; refine wpList_make_full _ rfl _ _ 64 rfl w.heap.size 47 ic _ 6 Tryz.underlying64 hic hz0 hz1 .i64 .i64 sn sn sn rfl rfl rfl rfl (by rw [hz2]; omega) (by unfold maxLen; omega) (Nat.le_refl _) ?_; refine Hid.out ?_))
  apply hidden
  intro w2 ho2 hg2
  have hb2 : Below w.heap.size w w2 := (Below.refl _ _).grown hg2 (Nat.le_refl _) (fun k hk => by cases hk)
  obtain ⟨g, hg⟩ : ∃ g, w.heap.size = g := ⟨_, rfl⟩
  have HRW : Hid (RowE w2 g sn) := by
    rcases ho2.2 with ⟨h, _⟩ | ⟨q, c, cur, h, _, hh, _, _, hss, _⟩
    · cases h
    · cases h
      rw [← hg]
      exact hidden ⟨cur, hh, by rw [hss]; omega⟩
  have hgs : Below g w w2 := by rw [← hg]; exact hb2
  have HGS := hidden hgs
  have HGW := hidden hg
  have HLO : Hid (Lo g po pn ∧ Lo g bo bn) := hidden (by rw [← hg]; exact ⟨HPG.out.pre.lo, HPG.out.body.lo⟩)
  rw [hg]
  clear ho2 hg2 hb2 HLN hgs
  go_wp2_with fail
  go_loopw [10] (fun i wr => ∃ j : Nat, j ≤ sn ∧ i = .int .i64 j ∧ Hid (RowE wr g sn) ∧ Hid (Below g w wr) ∧ Hid (∀ i d, i < j → cs[i]? = some d → EAt wr g g (i * 6) d)) (fun i _ => sn - (intOf i).toNat)
  case atStart => exact ⟨0, by omega, rfl, HRW, HGS, hidden fun i d hi => by omega⟩
  case round =>
    obtain ⟨j, hj, rfl, HR, HG, HD⟩ := hrel
    have HBE : Hid (Below w.heap.size w wr) := hidden (by rw [HGW.out]; exact HG.out)
    have HPR := hidden (HPG.out.on HBE.out)
    have bj : (j : Int) ≤ 65536 := by omega
    clear HRW HGS
    by_cases hlt : j < sn
    · have hltI : (j : Int) < (sn : Int) := by omega
      obtain ⟨d, hd⟩ : ∃ d, cs[j]? = some d := ⟨_, List.getElem?_eq_getElem (by rw [← HSN.out]; exact hlt)⟩
      have HDJ := hidden hd
      have HV := hidden (pentry_any wr a k n po pn pc bo bn bc so sn sc ws P body st cs HPR.out HL.out j d hd g HLO.out.1 HLO.out.2)
      clear hd
      go_wp2_with (first | (go_at_call 21; refine HV.out.mono ?_; rintro e u1 ⟨ho, hn, hc, ko, kn, kc, vo, vn, vc, h, key, rfl, HQ, HB3⟩; refine Hid.out ?_))
      apply hidden
      have HR2 : Hid (RowE u1 g sn) := hidden (HR.out.on HB3.out)
      have HG2 : Hid (Below g w u1) := hidden (HG.out.trans (HB3.out.mono (Nat.le_of_lt HR.out.lt)))
      clear HV
      go_wp2_with (refine put_entry (by rfl) _ _ (by rfl) g (j * 6) sn ho ko vo hn hc kn kc vn vc d.kd d.pg d.ct HR2.out (by rfl) (by rfl) (by omega) ?_; intro u3 HU3; refine Hid.out ?_)
      apply hidden
      have HR3 : Hid (RowE u3 g sn) := hidden (by rw [HU3.out]; exact RowE.sets _ _ _ HR2.out)
      have HG3 : Hid (Below g w u3) := hidden (by
        rw [HU3.out]
        simp only [World.setCells]
        refine (((((HG2.out.setCell ?_ _).setCell ?_ _).setCell ?_ _).setCell ?_ _).setCell ?_ _).setCell ?_ _ <;> simp)
      have HD3 : Hid (∀ i d, i < j + 1 → cs[i]? = some d → EAt u3 g g (i * 6) d) := by
        refine hidden fun i d' hi hd' => ?_
        rw [HU3.out]
        by_cases e : i = j
        · subst e
          rw [HDJ.out] at hd'
          injection hd' with hd'
          subst hd'
          obtain ⟨q1, q2, q3, q4, q5, q6, q7⟩ := HQ.out
          exact EAt.new HR2.out (by omega) (Nat.le_refl _) q1 q2 q3 q4 q5 q6 q7
        · exact ((HD.out i d' (by omega) hd').on HR.out.lt HB3.out).put (Nat.le_refl _) (by omega)
      clear HU3 HR2 HG2 HR HG HD HQ HB3 HPR
      go_wp2
      go_roundw
      case rel => exact ⟨j + 1, by omega, by go_num, HR3, HG3, HD3⟩
      case measure => simp [intOf]; omega
    · obtain rfl : j = sn := by omega
      have hlI : ¬ (j : Int) < (j : Int) := by omega
      go_wp2
      go_ret
      refine ⟨g, rfl, hidden ⟨⟨HSN.out.symm, Nat.le_refl _, by omega, (by intro h; cases h), .inr ⟨g, 0, rfl, HR.out.lt, fun i d hd => ?_⟩⟩, HR.out⟩, hidden ⟨by first | exact HBE.out | exact HG.out, by first | exact Nat.le_refl _ | (rw [HGW.out]; exact Nat.le_refl _), HR.out.lt⟩⟩
      rw [Nat.zero_add]
      have := (List.getElem?_eq_some_iff.1 hd).1
      exact HD.out i d (by rw [HSN.out]; exact this) hd
/-- Values that are entries; what they hold lies below G. -/
def Row6 (w : World) (G : Nat) : List Value → List Cl → Prop
  | vs, [] => vs = []
  | vs, c :: r => ∃ ho hn hc ko kn kc vo vn vc h key t, vs = .slice ho hn hc :: .slice ko kn kc :: .int .i64 c.kd :: .slice vo vn vc :: .int .i64 c.pg :: .int .i64 c.ct :: t ∧ (Sl w ho hn hc h ∧ Sl w ko kn kc key ∧ Sl w vo vn vc c.val ∧ h ++ key = c.key ∧ Lo G ho hn ∧ Lo G ko kn ∧ Lo G vo vn) ∧ Row6 w G t r
set_option maxRecDepth 100000 in
theorem Row6.append {w : World} {G : Nat} {us : List Value} {ds : List Cl} (g : Row6 w G us ds) : ∀ {vs : List Value} {cs : List Cl}, Row6 w G vs cs → Row6 w G (vs ++ us) (cs ++ ds)
  | vs, [], h => by
    unfold Row6 at h
    subst h
    exact g
  | vs, c :: r, h => by
    obtain ⟨ho, hn, hc, ko, kn, kc, vo, vn, vc, h', key, t, rfl, h1, h2⟩ := h
    exact ⟨ho, hn, hc, ko, kn, kc, vo, vn, vc, h', key, t ++ us, rfl, h1, Row6.append g h2⟩
set_option maxRecDepth 100000 in
theorem Row6.len {w : World} {G : Nat} : ∀ {vs : List Value} {cs : List Cl}, Row6 w G vs cs → vs.length = cs.length * 6
  | vs, [], h => by
    unfold Row6 at h
    subst h
    rfl
  | vs, c :: r, h => by
    obtain ⟨ho, hn, hc, ko, kn, kc, vo, vn, vc, h', key, t, rfl, h1, h2⟩ := h
    have := h2.len
    simp only [List.length_cons]
    omega
set_option maxRecDepth 100000 in
theorem Row6.one {w : World} {G : Nat} : ∀ {vs : List Value} {cs : List Cl}, Row6 w G vs cs → ∀ u ∈ vs, u.oneCell' = true
  | vs, [], h, u, hu => by
    unfold Row6 at h
    subst h
    cases hu
  | vs, c :: r, h, u, hu => by
    obtain ⟨ho, hn, hc, ko, kn, kc, vo, vn, vc, h', key, t, rfl, h1, h2⟩ := h
    simp only [List.mem_cons] at hu
    rcases hu with rfl | rfl | rfl | rfl | rfl | rfl | hu
    · rfl
    · rfl
    · rfl
    · rfl
    · rfl
    · rfl
    · exact h2.one u hu
set_option maxRecDepth 100000 in
theorem row6_of {w : World} {G b : Nat} : ∀ (cs : List Cl) (off : Nat), (∀ i c, cs[i]? = some c → EAt w G b (off + i * 6) c) → ∃ vs, Row6 w G vs cs ∧ ∀ j u, vs[j]? = some u → w.cell? ⟨b, off + j, none⟩ = some u
  | [], off, _ => ⟨[], rfl, fun j u hu => by simp at hu⟩
  | c :: r, off, h => by
    obtain ⟨t, h1, h2⟩ := row6_of r (off + 6) fun i d hd => by
      have := h (i + 1) d (by simpa using hd)
      rwa [show off + (i + 1) * 6 = off + 6 + i * 6 by omega] at this
    obtain ⟨ho, hn, hc, ko, kn, kc, vo, vn, vc, h', key, c0, c1, c2, c3, c4, c5, hs⟩ := h 0 c rfl
    refine ⟨_, ⟨ho, hn, hc, ko, kn, kc, vo, vn, vc, h', key, t, rfl, hs, h1⟩, fun j u hu => ?_⟩
    match j, hu with
    | 0, hu => simp at hu; subst hu; simpa using c0
    | 1, hu => simp at hu; subst hu; simpa using c1
    | 2, hu => simp at hu; subst hu; simpa using c2
    | 3, hu => simp at hu; subst hu; simpa using c3
    | 4, hu => simp at hu; subst hu; simpa using c4
    | 5, hu => simp at hu; subst hu; simpa using c5
    | j + 6, hu =>
      have := h2 j u (by simpa using hu)
      rwa [show off + 6 + j = off + (j + 6) by omega] at this
set_option maxRecDepth 100000 in
theorem Sl.lo_on {w w' : World} {ao : Option Addr} {n cap G : Nat} {l : List Int} (h : Sl w ao n cap l) (hl : Lo G ao n) (hb : Below G w w') : Sl w' ao n cap l := by
  refine ⟨h.hlen, h.hcap, h.hroom, h.wf, h.hnil, ?_⟩
  rcases h.hat with h0 | ⟨b, off, e, hlt, hc⟩
  · exact .inl h0
  · rcases hl with h0 | hl
    · exact .inl h0
    · have hq := hl _ e
      simp only at hq
      exact .inr ⟨b, off, e, Nat.lt_of_lt_of_le hlt hb.size, fun i hi => (hb.cell (p := ⟨b, off + i, none⟩) hq).trans (hc i hi)⟩
set_option maxRecDepth 100000 in
theorem Row6.eat {w w' : World} {G b : Nat} (hB : Below G w w') : ∀ {vs : List Value} {cs : List Cl} (off : Nat), Row6 w G vs cs → (∀ j u, vs[j]? = some u → w'.cell? ⟨b, off + j, none⟩ = some u) → ∀ i c, cs[i]? = some c → EAt w' G b (off + i * 6) c
  | vs, [], off, h, hc, i, c, hi => by simp at hi
  | vs, d :: r, off, h, hc, 0, c, hi => by
    obtain ⟨ho, hn, hc', ko, kn, kc, vo, vn, vc, h', key, t, rfl, ⟨s1, s2, s3, s4, l1, l2, l3⟩, h2⟩ := h
    simp at hi
    subst hi
    exact ⟨ho, hn, hc', ko, kn, kc, vo, vn, vc, h', key, hc 0 _ rfl, hc 1 _ rfl, hc 2 _ rfl, hc 3 _ rfl, hc 4 _ rfl, hc 5 _ rfl, s1.lo_on l1 hB, s2.lo_on l2 hB, s3.lo_on l3 hB, s4, l1, l2, l3⟩
  | vs, d :: r, off, h, hc, i + 1, c, hi => by
    obtain ⟨ho, hn, hc', ko, kn, kc, vo, vn, vc, h', key, t, rfl, h1, h2⟩ := h
    have := Row6.eat hB (off + 6) h2 (fun j u hu => by
      have := hc (j + 6) u (by simpa using hu)
      rwa [show off + (j + 6) = off + 6 + j by omega] at this) i c (by simpa using hi)
    rwa [show off + 6 + i * 6 = off + (i + 1) * 6 by omega] at this
set_option maxRecDepth 100000 in
/-- A row of entries is one's own. -/
theorem RowE.owns {w : World} {g N : Nat} {vs : List Value} (h : RowE w g N) (hl : vs.length = N * 6) (hc : ∀ j u, vs[j]? = some u → w.cell? ⟨g, 0 + j, none⟩ = some u) (hN : N ≤ 65536) : w.ownsRow g 47 6 (.slice (some ⟨g, 0, none⟩) N N) N vs := by
  obtain ⟨cur, h1, h2⟩ := h
  refine ⟨hl, .inr ⟨g, N, cur, rfl, Nat.le_refl _, h1, Nat.le_refl _, by unfold maxLen; omega, by omega, ?_⟩⟩
  refine List.ext_getElem? fun j => ?_
  rcases Nat.lt_or_ge j (N * 6) with hj | hj
  · have hv : vs[j]? = some (vs[j]'(by omega)) := List.getElem?_eq_getElem (by omega)
    have := hc j _ hv
    rw [Nat.zero_add, cell_of_row _ _ _ _ _ _ h1] at this
    rw [List.getElem?_take_of_lt hj, hv, ← this]
    simp
  · rw [List.getElem?_eq_none (by rw [List.length_take]; omega), List.getElem?_eq_none (by omega)]
set_option maxRecDepth 100000 in
set_option maxHeartbeats 1000000 in
/-- slices.Insert, of one entry behind all. -/
theorem insE_any (u : World) (g sn : Nat) (cs : List Cl) (c : Cl) (hE : SlE u g (some ⟨g, 0, none⟩) sn sn cs) (hR : RowE u g sn) (hsn : sn ≤ 65535) (b : Nat) (ka va : Option Addr) (kc vc : Nat) (hb : E6 u b (.slice none 0 0) (.slice ka c.key.length kc) (.int .i64 c.kd) (.slice va c.val.length vc) (.int .i64 c.pg) (.int .i64 c.ct)) (hk : Sl u ka c.key.length kc c.key) (hv : Sl u va c.val.length vc c.val) (lk : Lo g ka c.key.length) (lv : Lo g va c.val.length) :
    Calls Tryz.prog 108 #[.slice (some ⟨g, 0, none⟩) sn sn, .int .i64 (sn : Int), .slice (some ⟨b, 0, none⟩) 1 1] u fun e w' => ∃ ao c', e = .returned (.slice ao (sn + 1) c') ∧ Hid (SlE w' g ao (sn + 1) c' (cs ++ [c])) ∧ Hid (Below g u w') := by
  obtain ⟨ic, hic, hz0, hz1, hz2⟩ := info_parts infoE
  have hlen := hE.hlen
  obtain ⟨vs, hvs, hcv⟩ := row6_of (w := u) (G := g) (b := g) cs 0 (by
    intro i d hd
    rcases hE.hat with h0 | ⟨b', off', e, _, hc⟩
    · have := (List.getElem?_eq_some_iff.1 hd).1
      omega
    · injection e with e
      injection e with e1 e2
      subst e1 e2
      exact hc i d hd)
  have hown := hR.owns (vs := vs) (by rw [hvs.len, hlen]) hcv (by omega)
  obtain ⟨us, hus, hcu⟩ : ∃ us, Row6 u g us [c] ∧ ∀ j x, us[j]? = some x → u.cell? ⟨b, 0 + j, none⟩ = some x := row6_of [c] 0 (by
    intro i d hd
    have hi : i = 0 := by have := (List.getElem?_eq_some_iff.1 hd).1; simpa using this
    subst hi
    simp at hd
    subst hd
    obtain ⟨e0, e1, e2, e3, e4, e5⟩ := hb.cells
    exact ⟨none, 0, 0, ka, c.key.length, kc, va, c.val.length, vc, [], c.key, e0, e1, e2, e3, e4, e5, Sl.nil_any _ _ _ (fun _ => rfl), hk, hv, rfl, .inl rfl, lk, lv⟩)
  have HOWN := hidden hown
  have HUS := hidden hus
  have HVS := hidden hvs
  have HCU := hidden hcu
  have HLEN := hidden hlen
  have hgs := hR.lt
  have bs : (sn : Int) ≤ 65535 := by omega
  clear hE hR hb hk hv lk lv hvs hcv hown hus hcu hlen
  go_enter Tryz.func108, Tryz.ntmps108
  go_wp2_with (at_builtin; refine wpList_append_own_at u rfl _ _ 64 rfl g 47 ic _ 6 96 Tryz.underlying64 hic hz0 hz1 hz2 rfl (by decide) _ sn vs rfl HOWN.out ⟨b, 0, none⟩ 1 1 us rfl (by rw [HUS.out.len]; rfl) (fun j x hx => by rw [Addr.add_lit]; exact HCU.out j x hx) HUS.out.one (by unfold maxLen; omega) (by omega) (Nat.le_of_lt hgs) ?_; refine Hid.out ?_)
  apply hidden
  intro v' w' g1 g2 _ _
  have hbe : Below g u w' := own_below HOWN.out (Nat.le_of_lt hgs) g2
  have hrow := HUS.out.append HVS.out
  obtain ⟨ao, c', rfl, hsl⟩ : ∃ ao c', v' = .slice ao (sn + 1) c' ∧ SlE w' g ao (sn + 1) c' (cs ++ [c]) := by
    rcases g1.2 with ⟨_, h0⟩ | ⟨q, c', cur, rfl, hq, hh, hn, _⟩
    · omega
    · refine ⟨_, c', rfl, ⟨by rw [List.length_append, HLEN.out]; rfl, hn, by omega, (by intro h; cases h), .inr ⟨q, 0, rfl, lt_some hh, ?_⟩⟩⟩
      refine Row6.eat hbe 0 hrow fun j x hx => ?_
      have hj := (List.getElem?_eq_some_iff.1 hx).1
      have := g1.cellAt j (by rw [hrow.len] at hj; rw [List.length_append, HLEN.out] at hj; simpa using hj)
      rw [Nat.zero_add, this, hx]
  have HSL := hidden hsl
  have HBE := hidden hbe
  clear g1 g2 hbe hrow hsl
  go_wp2
  go_ret
  exact ⟨ao, c', rfl, HSL, HBE⟩
set_option maxRecDepth 100000 in
theorem repE_any (u : World) (g sn : Nat) (cs : List Cl) (c : Cl) (hE : SlE u g (some ⟨g, 0, none⟩) sn sn cs) (hR : RowE u g sn) (hsn : sn ≤ 65535) (b : Nat) (ka va : Option Addr) (kc vc : Nat) (hb : E6 u b (.slice none 0 0) (.slice ka c.key.length kc) (.int .i64 c.kd) (.slice va c.val.length vc) (.int .i64 c.pg) (.int .i64 c.ct)) (hk : Sl u ka c.key.length kc c.key) (hv : Sl u va c.val.length vc c.val) (lk : Lo g ka c.key.length) (lv : Lo g va c.val.length) :
    Calls Tryz.prog 78 #[.slice (some ⟨g, 0, none⟩) sn sn, .int .i64 (sn : Int), .int .i64 (sn : Int), .slice (some ⟨b, 0, none⟩) 1 1] u fun e w' => ∃ ao c', e = .returned (.slice ao (sn + 1) c') ∧ Hid (SlE w' g ao (sn + 1) c' (cs ++ [c])) ∧ Hid (Below g u w') := by
  have HI := hidden (insE_any u g sn cs c hE hR hsn b ka va kc vc hb hk hv lk lv)
  clear hE hR hb hk hv lk lv
  go_enter Tryz.func78, Tryz.ntmps78
  go_wp2_with (first | (go_at_call 108; refine HI.out.mono ?_; rintro e w1 ⟨ao, c', rfl, HS, HB⟩))
  go_ret
  exact ⟨ao, c', rfl, HS, HB⟩
set_option maxRecDepth 100000 in
theorem filled_any (w : World) (a : Nat) (k n : Int) (po : Option Addr) (pn pc : Nat) (bo : Option Addr) (bn bc : Nat) (so : Option Addr) (sn sc : Nat) (ws : Int) (h : QR w a k n (.slice po pn pc) (.slice bo bn bc) (.slice so sn sc) ws) (h1 : pn ≤ 1099511627776) (h2 : bn ≤ 1099511627776) (h3 : sn ≤ 1099511627776) :
    Calls Tryz.prog 104 #[.pointer (some ⟨a, 0, none⟩)] w fun e w' => e = .returned (.int .i64 ((10 + pn + 2 * sn + bn : Nat) : Int)) ∧ ∃ q, w' = w.drewN q := by
  obtain ⟨c0, c1, c2, c3, c4, c5⟩ := h.cells
  have b1 : (pn : Int) ≤ 1099511627776 := by omega
  have b2 : (bn : Int) ≤ 1099511627776 := by omega
  have b3 : (sn : Int) ≤ 1099511627776 := by omega
  clear h
  go_enter Tryz.func104, Tryz.ntmps104
  go_wp2_with fail
  go_quiet (fail)
  go_wp2
  go_ret
  refine ⟨ret_int ?_, _, rfl⟩
  omega
set_option maxRecDepth 100000 in
theorem usedQ_any (w : World) (a : Nat) (k n : Int) (po : Option Addr) (pn pc : Nat) (bo : Option Addr) (bn bc : Nat) (so : Option Addr) (sn sc : Nat) (h : QR w a k n (.slice po pn pc) (.slice bo bn bc) (.slice so sn sc) 0) (h1 : pn ≤ 1099511627776) (h2 : bn ≤ 1099511627776) (h3 : sn ≤ 1099511627776) (Z : Nat) (hZ : 10 + pn + 2 * sn + bn = Z) :
    Calls Tryz.prog 107 #[.pointer (some ⟨a, 0, none⟩)] w fun e w' => e = .returned (.int .i64 (Z : Int)) ∧ Hid (Below w.heap.size w w') := by
  obtain ⟨c0, c1, c2, c3, c4, c5⟩ := h.cells
  have HF : Hid (∀ u, Below w.heap.size w u → Calls Tryz.prog 104 #[.pointer (some ⟨a, 0, none⟩)] u fun e w' => e = .returned (.int .i64 (Z : Int)) ∧ w'.cell? ⟨a, 5, none⟩ = some (.int .i64 0) ∧ Hid (Below w.heap.size w w')) := by
    refine hidden fun u hu => (filled_any u a k n po pn pc bo bn bc so sn sc 0 (box_on h hu) h1 h2 h3).mono ?_
    rintro e w' ⟨rfl, q, rfl⟩
    have hb := bl_dr hu q
    exact ⟨by rw [hZ], (show QR _ a k n (.slice po pn pc) (.slice bo bn bc) (.slice so sn sc) 0 from box_on h hb).cells.2.2.2.2.2, hidden hb⟩
  have bZ : (Z : Int) ≤ 8796093022208 := by omega
  have hwZ : IntKind.i64.wrap (Z : Int) = (Z : Int) := by rw [IntKind.wrap_i64]; omega
  have hwZ0 : IntKind.i64.wrap ((Z : Int) - 0) = (Z : Int) := by rw [IntKind.wrap_i64]; omega
  clear h hZ
  go_enter Tryz.func107, Tryz.ntmps107
  go_wp2_with fail
  go_region_with (first | (go_at_call 104; refine (HF.out _ (by first | exact Below.refl _ _ | exact (Below.refl _ _).drew | exact bl_dr (Below.refl _ _) _)).mono ?_; rintro e w1 ⟨rfl, x5, HB1⟩))
  all_goals
    go_wp2
    go_ret
    exact ⟨rfl, hidden (by first | exact HB1.out | exact HB1.out.drew | exact bl_dr HB1.out _)⟩
end Go.Proofs.YtobfkcepjnjfpaaGreatDoor
