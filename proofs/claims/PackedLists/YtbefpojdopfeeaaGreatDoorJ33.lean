/- packed: putInPlace that lays a new cell behind the other cells' bytes. -/
import Derived.Test.YtbefpojdopfeeaaGreatDoorJ32
import Derived.Test.YtbefpojdopfeeaaGreatDoorJ19
import Derived.Handy
namespace Go.Proofs.YtbefpojdopfeeaaGreatDoor
open Go.RowKit

/-- The blocks of a packed page. -/
def QZ (a : Nat) (vb vs : Value) (b : Nat) : Prop := b = a ∨ vb.ownBlock = some b ∨ vs.ownBlock = some b
set_option maxRecDepth 100000 in
/-- A row of one number, just made. -/
theorem own_oneN {w : World} {g : Nat} {x : Nat} {fr : Nat × Nat} (h : w.heap[g]? = some (.cells #[.int .i64 (x : Int)] 3 fr)) (hf : fr = (0, 0)) : w.ownsRow g 3 1 (.slice (some ⟨g, 0, none⟩) 1 1) 1 (NI [x]) := by
  subst hf
  refine ⟨by simp [NI], .inr ⟨g, 1, _, rfl, Nat.le_refl _, h, Nat.le_refl _, by unfold maxLen; omega, by simp, ?_⟩⟩
  simp [NI]
set_option maxRecDepth 100000 in
theorem NIq (a b c : List Nat) : NI (a ++ b ++ c) = NI a ++ NI b ++ NI c := by simp [NI]
set_option maxRecDepth 100000 in
theorem NIq_take (l : List Nat) (n : Nat) : (NI l).take n = NI (l.take n) := by simp [NI, List.map_take]
set_option maxRecDepth 100000 in
theorem NIq_drop (l : List Nat) (n : Nat) : (NI l).drop n = NI (l.drop n) := by simp [NI, List.map_drop]
/-- How a packed page stands behind a call that changed it. -/
def QuTo (w : World) (B a : Nat) (k : Int) (n : Nat) (po : Option Addr) (pn pc : Nat) (vb vs : Value) (ws : Int) (P body : List Int) (st : List Nat) (r : Value) (e : Ending) (w' : World) : Prop :=
  e = .returned r ∧ Hid (∃ vb' vs', PO w' B a k n po pn pc vb' vs' ws P body st ∧ Far po pn vs' ∧ (vb'.ownBlock = vb.ownBlock ∨ ∃ g, vb'.ownBlock = some g ∧ w.heap.size ≤ g) ∧ (vs'.ownBlock = vs.ownBlock ∨ ∃ g, vs'.ownBlock = some g ∧ w.heap.size ≤ g)) ∧ Hid (Cf (QZ a vb vs) w w')
set_option maxRecDepth 100000 in
theorem Cf.wideQ {F G : Nat → Prop} {w w' : World} (h : Cf F w w') (hf : ∀ b, F b → G b) : Cf G w w' := ⟨h.os, h.tape, h.output, h.size, fun k hk hg => h.block k hk (fun e => hg (hf k e))⟩
set_option maxRecDepth 100000 in
set_option maxHeartbeats 4000000 in
theorem inPlace_ins (w : World) (B a : Nat) (k : Int) (n : Nat) (po : Option Addr) (pn pc : Nat) (bo : Option Addr) (bn bc : Nat) (so : Option Addr) (sn sc : Nat) (ws : Int) (P body : List Int) (st : List Nat)
    (hPO : PO w B a k n po pn pc (.slice bo bn bc) (.slice so sn sc) ws P body st) (hbb : bn ≤ 65536) (hss : sn ≤ 65536) (hB : B ≤ w.heap.size) (i : Nat) (hi : ¬ (k = 3 ∧ i = 0)) (his : i ≤ sn) (hn : n ≤ 65536)
    (c : Cl) (ka va : Option Addr) (kc vc : Nat) (hk : Sl w ka c.key.length kc c.key) (hv : Sl w va c.val.length vc c.val) (fk : Far ka c.key.length (.slice bo bn bc)) (fv : Far va c.val.length (.slice bo bn bc)) (hkl : c.key.length ≤ 65536) (hvl : c.val.length ≤ 65536)
    (hbeg : c.key.take P.length = P) (hfs : Far po pn (.slice so sn sc)) (hfit : 10 + pn + 2 * sn + bn + (qB P.length c).length + 2 ≤ n) :
    Calls Tryz.prog 88 #[.pointer (some ⟨a, 0, none⟩), .int .i64 (i : Int), .int .i64 (i : Int), .agg #[.slice ka c.key.length kc, .int .i64 c.kd, .slice va c.val.length vc, .int .i64 c.pg, .int .i64 c.ct]] w
      (QuTo w B a k n po pn pc (.slice bo bn bc) (.slice so sn sc) ws P (body ++ qB P.length c) (st.take i ++ [bn] ++ st.drop i) (.bool true)) := by
  have hpl := hPO.pre.hlen
  have hPk : P.length ≤ c.key.length := by rw [← hbeg, List.length_take]; omega
  obtain ⟨x, hx⟩ : ∃ x, w.alloc (.cells #[.slice ka c.key.length kc, .int .i64 c.kd, .slice va c.val.length vc, .int .i64 c.pg, .int .i64 c.ct] 39) = x := ⟨_, rfl⟩
  have hbx : Below w.heap.size w x := by rw [← hx]; exact bl_al (Below.refl _ _) (Nat.le_refl _) _
  obtain ⟨s, hs⟩ : ∃ s, w.heap.size = s := ⟨_, rfl⟩
  have hc5 : C5 x s (.slice ka c.key.length kc) (.int .i64 c.kd) (.slice va c.val.length vc) (.int .i64 c.pg) (.int .i64 c.ct) := by rw [← hx, ← hs]; exact C5.box _ _ _ _ _ _
  obtain ⟨z0, z1, z2, z3, z4⟩ := hc5.cells
  have hrx : QR x a k n (.slice po pn pc) (.slice bo bn bc) (.slice so sn sc) ws := box_on hPO.row hbx
  obtain ⟨c0, c1, c2, c3, c4, c5⟩ := hrx.cells
  obtain ⟨qo, qn, qc, hqc, hhd⟩ := head_row k i po pn pc
  obtain ⟨rfl, rfl, rfl⟩ : qo = po ∧ qn = pn ∧ qc = pc := by
    rcases hqc with ⟨_, _, _, h4⟩ | ⟨h1, h2, h3, _⟩
    · exact absurd h4 hi
    · exact ⟨h1, h2, h3⟩
  have HHD := hidden (hhd x a n _ _ ws hrx)
  have HSW : Hid (Calls Tryz.prog 44 #[.int .i64 k, .int .i64 (i : Int)] x fun e w' => e = .returned (.bool false) ∧ w' = x) := hidden (by
    have := standsWhole_any k (i : Int) x
    rwa [decide_eq_false (show ¬ (k = 3 ∧ (i : Int) = 0) by omega)] at this)
  have HHP : Hid (Calls Tryz.prog 123 #[.slice ka c.key.length kc, .slice qo qn qc] x fun e w' => e = .returned (.bool true) ∧ w' = x) := hidden (by
    have := hasPrefix_any ka qo c.key.length qn kc qc c.key P x (hk.on (Nat.le_refl _) hbx) (hPO.pre.on (Nat.le_refl _) hbx)
    rwa [decide_eq_true hbeg] at this)
  obtain ⟨M, hM⟩ : ∃ M, (body ++ qB P.length c).length = M := ⟨_, rfl⟩
  have hbn : bn = body.length := hPO.ob.len
  have hMl : M = bn + (qB P.length c).length := by rw [← hM, List.length_append, hbn]
  have HAP : Hid (∀ u, Below x.heap.size x u → Calls Tryz.prog 94 #[.agg (eV none 0 0 ka c.key.length kc c.kd va c.val.length vc c.pg c.ct), .slice bo bn bc, .int .i64 (qn : Int)] u fun e w' => ∃ ao cp, e = .returned (.slice ao M cp) ∧ Hid (OwnB w' B (.slice ao M cp) (body ++ qB P.length c)) ∧ Hid (Gr x (.slice bo bn bc) w' (.slice ao M cp))) := by
    refine hidden fun u hu => ?_
    have hwu := bl_go hbx (Nat.le_refl _) hu
    have h := eappended_any (.slice bo bn bc) B body none 0 0 ka c.key.length kc c.kd va c.val.length vc c.pg c.ct [] c.key c.val P.length u (hPO.ob.on (Nat.le_refl _) hwu) (Nat.le_trans hB hwu.size) (Sl.nil_any _ _ _ fun _ => rfl) (hk.on (Nat.le_refl _) hwu) (hv.on (Nat.le_refl _) hwu) (.inl rfl) fk fv (by omega) (by omega)
    rw [hpl] at h
    refine h.mono ?_
    rintro e w' ⟨v', rfl, HO, HG⟩
    obtain ⟨ao, cp, rfl⟩ := HO.out.shape
    have e1 : (body ++ qB qn ⟨[] ++ c.key, c.kd, c.val, c.pg, c.ct⟩).length = M := by rw [← hM, hpl]; rfl
    rw [e1] at HO HG ⊢
    refine ⟨ao, cp, rfl, hidden ?_, hidden ((Gr.ofBelow _ hu).trans HG.out)⟩
    rw [hpl]
    exact HO.out
  have hapa : (Value.slice bo bn bc).ownBlock ≠ some a := by
    have := hPO.row
    unfold QR at this
    exact hPO.ob.apart this (by decide)
  have hapS : (Value.slice so sn sc).ownBlock ≠ some a := by
    have := hPO.row
    unfold QR at this
    exact hPO.on.apart this (by decide)
  have hapN := hPO.ob.apartN hPO.on
  have hapB := hPO.on.apartB hPO.ob
  have HPO := hidden hPO
  have HPX := hidden (hPO.go hbx)
  have HBX := hidden hbx
  have HAPA := hidden (And.intro hapa (And.intro hapS (And.intro hapN hapB)))
  have HPL := hidden hpl
  have HM := hidden hM
  have HBN := hidden hbn
  have HS := hidden hs
  obtain ⟨st', hst'⟩ : ∃ st', st.take i ++ [bn] ++ st.drop i = st' := ⟨_, rfl⟩
  obtain ⟨body', hbd'⟩ : ∃ body', body ++ qB P.length c = body' := ⟨_, rfl⟩
  rw [hst', hbd']
  rw [hbd'] at HAP HM
  have HST' := hidden hst'
  have HBD' := hidden hbd'
  have HBW := hidden hB
  have hbnI : (bn : Int) ≤ 65536 := by omega
  have hMI : (M : Int) ≤ 200000 := by omega
  have hiI : (i : Int) ≤ 65536 := by omega
  have hnI : (n : Int) ≤ 65536 := by omega
  have HFIT : Hid (10 + qn + 2 * sn + bn + (M - bn) + 2 ≤ n ∧ bn ≤ M) := hidden (by omega)
  have HQN : Hid (qn ≤ 65536) := hidden (by omega)
  have HFS := hidden hfs
  clear hst' hbd' hfs hPO hk hv fk fv hbx hc5 hrx hhd hqc hi hbeg hpl hPk hM hMl hbn hapa hapS hapN hapB hB hfit
  go_enter Tryz.func88, Tryz.ntmps88
  go_upto_region 7 with (first | (go_at_call 44; refine same_call HSW.out ?_) | (go_at_call 95; refine same_call HHD.out ?_) | (go_at_call 123; refine same_call HHP.out ?_))
  go_cut [11] from 37 to 45 (fun v u => ∃ ao cp, v = .slice ao M cp ∧ Hid (OwnB u B (.slice ao M cp) body') ∧ Hid (Gr x (.slice bo bn bc) u (.slice ao M cp)))
  case first =>
    go_wp2_with fail
    go_region_with (first | (go_at_call 94; refine (HAP.out _ (by first | exact Below.refl _ _ | exact (Below.refl _ _).drew | exact bl_dr (Below.refl _ _) _)).mono ?_; rintro e w1 ⟨ao, cp, rfl, HO1, HG1⟩))
    all_goals (try go_wp2_with fail)
    all_goals go_meet
    all_goals exact ⟨ao, cp, rfl, by first | exact HO1 | exact hidden (HO1.out.on (Nat.le_refl _) (Below.refl _ _).drew) | exact hidden (HO1.out.on (Nat.le_refl _) (bl_dr (Below.refl _ _) _)), by first | exact HG1 | exact hidden (HG1.out.trans (Gr.ofBelow _ (Below.refl _ _).drew)) | exact hidden (HG1.out.trans (Gr.ofBelow _ (bl_dr (Below.refl _ _) _)))⟩
  obtain ⟨ao, cp, rfl, HO1, HG1⟩ := hcut
  obtain ⟨w1, hw1⟩ : ∃ w1, w1 = wc := ⟨_, rfl⟩
  subst hw1
  clear z0 z1 z2 z3 z4 c0 c1 c2 c3 c4 c5 HSW HHD HHP HAP
  have HR1 : Hid (QR w1 a k n (.slice qo qn qc) (.slice bo bn bc) (.slice so sn sc) ws) := hidden (HPX.out.row.gr HG1.out HAPA.out.1)
  obtain ⟨Z, hZ⟩ : ∃ Z, 10 + qn + 2 * sn + bn = Z := ⟨_, rfl⟩
  have HFL : Hid (∀ u, Below w1.heap.size w1 u → Calls Tryz.prog 53 #[.pointer (some ⟨a, 0, none⟩)] u fun e w' => e = .returned (.int .i64 (Z : Int)) ∧ w'.cell? ⟨a, 1, none⟩ = some (.int .i64 (n : Int)) ∧ Hid (Below w1.heap.size w1 w')) := by
    refine hidden fun u hu => (filled_any u a k n qo qn qc bo bn bc so sn sc ws (box_on HR1.out hu) (by have := HQN.out; omega) (by omega) (by omega)).mono ?_
    rintro e w' ⟨rfl, q, rfl⟩
    rw [hZ]
    have hb := bl_dr hu q
    exact ⟨rfl, (show QR (u.drewN q) a k n (.slice qo qn qc) (.slice bo bn bc) (.slice so sn sc) ws from box_on HR1.out hb).cells.2.1, hidden hb⟩
  have c1 := HR1.out.cells.2.1
  have hbM : (bn : Int) ≤ (M : Int) := by have := HFIT.out; omega
  have hZI : (Z : Int) ≤ 65536 := by have := HFIT.out; omega
  have HZF : Hid (Z + (M - bn) + 2 ≤ n) := hidden (by have := HFIT.out; omega)
  have hZn : ¬ (n : Int) < (Z : Int) + (M : Int) - (bn : Int) + 2 := by have := HZF.out; omega
  clear hZ
  go_upto_region 8 with fail
  go_cut [63] from 46 to 63 (fun v u => v = .bool false ∧ Hid (Below w1.heap.size w1 u))
  case first =>
    go_wp2_with fail
    go_region_with (first | (go_at_call 53; refine (HFL.out _ (by first | exact Below.refl _ _ | exact (Below.refl _ _).drew | exact bl_dr (Below.refl _ _) _)).mono ?_; rintro e w2 ⟨rfl, y1, HB2⟩))
    all_goals (try go_wp2_with fail)
    all_goals go_meet
    all_goals exact ⟨by go_unwrap; simp; omega, by first | exact HB2 | exact hidden HB2.out.drew | exact hidden (bl_dr HB2.out _)⟩
  obtain ⟨rfl, HB2⟩ := hcut
  obtain ⟨w2, hw2⟩ : ∃ w2, w2 = wc := ⟨_, rfl⟩
  subst hw2
  clear c1 HFL hZn hZI HZF
  have HW2 : Hid (Below w1.heap.size w1 w2) := HB2
  have HR2 : Hid (QR w2 a k n (.slice qo qn qc) (.slice bo bn bc) (.slice so sn sc) ws) := hidden (box_on HR1.out HB2.out)
  go_wp2_with fail
  go_loopw [12] (fun j wr => j = .int .i64 (i : Int) ∧ wr = w2) (fun _ _ => 0)
  case atStart => exact ⟨rfl, by first | rfl | trivial⟩
  case round =>
    obtain ⟨rfl, rfl⟩ := hrel
    have HSN : Hid (sn = st.length) := hidden HPO.out.on.len
    have HOS2 : Hid (OwnN wr B (.slice so sn sc) st) := hidden ((HPX.out.on.gr HG1.out HAPA.out.2.2.2).below HB2.out)
    obtain ⟨c0, c1, c2, c3, c4, c5⟩ := HR2.out.cells
    have f3 := HR2.out.free 3
    have f4 := HR2.out.free 4
    obtain ⟨u3, hu3⟩ : ∃ u3, (wr.setCell ⟨a, 3, none⟩ (.slice ao M cp)).alloc (.cells #[.int .i64 (bn : Int)] 3) = u3 := ⟨_, rfl⟩
    have hs3 : (wr.setCell ⟨a, 3, none⟩ (.slice ao M cp)).heap.size = wr.heap.size := by simp
    have hb3 : Below (wr.setCell ⟨a, 3, none⟩ (.slice ao M cp)).heap.size (wr.setCell ⟨a, 3, none⟩ (.slice ao M cp)) u3 := by rw [← hu3]; exact bl_al (Below.refl _ _) (Nat.le_refl _) _
    have hcs : Cf (· = a) wr (wr.setCell ⟨a, 3, none⟩ (.slice ao M cp)) := Cf.set _ _ _ _
    have hr2 := HR2.out
    unfold QR at hr2
    have HOB2 := HO1.out.on (Nat.le_refl _) HB2.out
    have HQ3 : Hid (QR u3 a k n (.slice qo qn qc) (.slice ao M cp) (.slice so sn sc) ws ∧ OwnB u3 B (.slice ao M cp) body' ∧ OwnN u3 B (.slice so sn sc) st ∧ u3.heap.size = wr.heap.size + 1) := hidden ⟨box_on (HR2.out.set3 _) hb3, (HOB2.cf hcs (HOB2.apart hr2 (by decide))).on (Nat.le_refl _) hb3, (HOS2.out.cf hcs (HOS2.out.apart hr2 (by decide))).below hb3, by rw [← hu3]; simp⟩
    have HRP : Hid (Calls Tryz.prog 124 #[.slice so sn sc, .int .i64 (i : Int), .int .i64 (i : Int), .slice (some ⟨wr.heap.size, 0, none⟩) 1 1] u3 (RN.To u3 B (.slice so sn sc) (i + 1 + (sn - i)) ((NI st).take i ++ NI [bn] ++ (NI st).drop i))) := hidden (by
      have h1 := HQ3.out.2.2.1
      unfold OwnN at h1
      rw [← HSN.out] at h1
      have h2 : u3.ownsRow wr.heap.size 3 1 (.slice (some ⟨wr.heap.size, 0, none⟩) 1 1) 1 (NI [bn]) := own_oneN (fr := (0, 0)) (by rw [← hu3]; have := heap_alloc_last (wr.setCell ⟨a, 3, none⟩ (.slice ao M cp)) (.cells #[.int .i64 (bn : Int)] 3); rw [hs3] at this; exact this) rfl
      refine RN.rep_any u3 B wr.heap.size sn 1 i i _ _ _ _ h1 h2 (NI_one _) (NI_one _) (.inr fun e => ?_) (Nat.le_refl _) his (by omega) ?_ (.inr (by omega))
      · have h3 := HOS2.out
        unfold OwnN at h3
        have := (h3.lt wr.heap.size (by rw [← e]; rfl)).2
        omega
      · have h4 := HQ3.out.2.2.2
        have h5 := HBW.out
        have h6 := HBX.out.size
        have h7 := HG1.out.grow.size
        have h8 := HB2.out.size
        omega)
    have HCA : Hid (Cf (QZ a (.slice bo bn bc) (.slice so sn sc)) w u3) := hidden (((((Cf.of_below HBX.out).go (Cf.ofGr HG1.out (fun g e => .inr (.inl e)))).go (Cf.of_below HB2.out)).go (hcs.wideQ (fun b e => .inl e))).go (Cf.of_below hb3))
    clear hr2 HOB2 hcs hb3
    go_wp2_with (first | (go_at_call 124; refine HRP.out.mono ?_; rintro e w4 ⟨so4, sc4, rfl, HO4, HG4⟩; refine Hid.out ?_))
    apply hidden
    have HR4 : Hid (QR w4 a k n (.slice qo qn qc) (.slice ao M cp) (.slice so sn sc) ws) := hidden (HQ3.out.1.gr HG4.out HAPA.out.2.1)
    clear c0 c1 c2 c3 c4 c5 f3 f4 HRP hu3
    obtain ⟨c0, c1, c2, c3, c4, c5⟩ := HR4.out.cells
    have f4 := HR4.out.free 4
    go_wp2
    go_ret
    have hr4 := HR4.out
    unfold QR at hr4
    have hcs : Cf (· = a) w4 (w4.setCell ⟨a, 4, none⟩ (.slice so4 (i + 1 + (sn - i)) sc4)) := Cf.set _ _ _ _
    obtain ⟨_, qb, qs, _⟩ := HQ3.out
    have hob4 := qb.gr HG4.out (qb.apartN qs)
    have hon4 : OwnN w4 B (.slice so4 (i + 1 + (sn - i)) sc4) st' := by
      unfold OwnN
      rw [← HST'.out, NIq, ← NIq_take, ← NIq_drop]
      have e : (st.take i ++ [bn] ++ st.drop i).length = i + 1 + (sn - i) := by have := HSN.out; simp; omega
      rw [e]
      exact HO4.out
    have hcw : Cf (QZ a (.slice bo bn bc) (.slice so sn sc)) w (w4.setCell ⟨a, 4, none⟩ (.slice so4 (i + 1 + (sn - i)) sc4)) := (HCA.out.go (Cf.ofGr HG4.out (fun g e => .inr (.inr e)))).go (hcs.wideQ (fun b e => .inl e))
    have hpo := HPO.out
    have hfarv := hpo.far
    have hpre : Sl (w4.setCell ⟨a, 4, none⟩ (.slice so4 (i + 1 + (sn - i)) sc4)) qo qn qc P := hpo.pre.cf hcw (by
      rcases hpo.pre.apartQ hpo.row with h | h
      · exact .inl h
      · rcases hfarv with h1 | h1
        · exact .inl h1
        · rcases HFS.out with h2 | h2
          · exact .inl h2
          · right
            intro p hp
            rintro (e | e | e)
            · exact h p hp e
            · exact h1 p hp e
            · exact h2 p hp e)
    have hpre3 : Sl u3 qo qn qc P := hpo.pre.cf HCA.out (by
      rcases hpo.pre.apartQ hpo.row with h | h
      · exact .inl h
      · rcases hfarv with h1 | h1
        · exact .inl h1
        · rcases HFS.out with h2 | h2
          · exact .inl h2
          · right
            intro p hp
            rintro (e | e | e)
            · exact h p hp e
            · exact h1 p hp e
            · exact h2 p hp e)
    have hsz : w.heap.size ≤ u3.heap.size := HCA.out.size
    refine ⟨rfl, hidden ⟨_, _, ⟨HR4.out.set4 _, hpre, hob4.cf hcs (hob4.apart hr4 (by decide)), hon4.cf hcs (hon4.apart hr4 (by decide)), hfarv.gr HPX.out.pre HG1.out, hpo.ha⟩, HFS.out.gr hpre3 HG4.out, HG1.out.own.imp id (fun ⟨g, h1, h2⟩ => ⟨g, h1, Nat.le_trans HBX.out.size h2⟩), HG4.out.own.imp id (fun ⟨g, h1, h2⟩ => ⟨g, h1, Nat.le_trans hsz h2⟩)⟩, hidden hcw⟩
end Go.Proofs.YtbefpojdopfeeaaGreatDoor
