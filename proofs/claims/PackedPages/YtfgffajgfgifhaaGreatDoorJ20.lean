import Derived.Test.YtfgffajgfgifhaaGreatDoorJ19
import Derived.Handy
namespace Go.Proofs.YtfgffajgfgifhaaGreatDoor
set_option maxRecDepth 100000
set_option maxHeartbeats 4000000
open Go.RowKit
def QZ (a : Nat) (vb vs : Value) (b : Nat) : Prop := b = a ∨ vb.ownBlock = some b ∨ vs.ownBlock = some b
theorem own_oneN {w : World} {g : Nat} {x : Nat} {fr : Nat × Nat} (h : w.heap[g]? = some (.cells #[.int .i64 (x : Int)] 3 fr)) (hf : fr = (0, 0)) : w.ownsRow g 3 1 (.slice (some ⟨g, 0, none⟩) 1 1) 1 (NI [x]) := by
 subst hf
 refine ⟨by simp [NI], .inr ⟨g, 1, _, rfl, Lr, h, Lr, by unfold maxLen; omega, by simp, ?_⟩⟩
 simp [NI]
theorem NIq (a b c : List Nat) : NI (a ++ b ++ c) = NI a ++ NI b ++ NI c := by simp [NI]
theorem NIq_take (l : List Nat) (n : Nat) : (NI l).take n = NI (l.take n) := by simp [NI, List.map_take]
theorem NIq_drop (l : List Nat) (n : Nat) : (NI l).drop n = NI (l.drop n) := by simp [NI, List.map_drop]
def QuTo (w : World) (B a : Nat) (k : Int) (n : Nat) (po : Option Addr) (pn pc : Nat) (vb vs : Value) (ws : Int) (P body : List Int) (st : List Nat) (r : Value) (e : Ending) (w' : World) : Prop :=
 e = .returned r ∧ Hid (∃ vb' vs', PO w' B a k n po pn pc vb' vs' ws P body st ∧ Far po pn vs' ∧ (vb'.ownBlock = vb.ownBlock ∨ ∃ g, vb'.ownBlock = some g ∧ w.heap.size ≤ g) ∧ (vs'.ownBlock = vs.ownBlock ∨ ∃ g, vs'.ownBlock = some g ∧ w.heap.size ≤ g)) ∧ Hid (Cf (QZ a vb vs) w w')
theorem Cf.wideQ {F G : Nat → Prop} {w w' : World} (h : Cf F w w') (hf : ∀ b, F b → G b) : Cf G w w' := ⟨h.os, h.tape, h.output, h.size, fun k hk hg => h.block k hk (fun e => hg (hf k e))⟩
theorem inPlace_ins (w : World) (B a : Nat) (k : Int) (n : Nat) (po : Option Addr) (pn pc : Nat) (bo : Option Addr) (bn bc : Nat) (so : Option Addr) (sn sc : Nat) (ws : Int) (P body : List Int) (st : List Nat)
  (hPO : PO w B a k n po pn pc (.slice bo bn bc) (.slice so sn sc) ws P body st) (hbb : bn ≤ 65536) (hss : sn ≤ 65536) (hB : B ≤ w.heap.size) (i : Nat) (hi : ¬ (k = 3 ∧ i = 0)) (his : i ≤ sn) (hn : n ≤ 65536)
  (c : Cl) (ka va : Option Addr) (kc vc : Nat) (hk : Sl w ka c.key.length kc c.key) (hv : Sl w va c.val.length vc c.val) (fk : Far ka c.key.length (.slice bo bn bc)) (fv : Far va c.val.length (.slice bo bn bc)) (hkl : c.key.length ≤ 65536) (hvl : c.val.length ≤ 65536)
  (hbeg : c.key.take P.length = P) (hfs : Far po pn (.slice so sn sc)) (hfit : 10 + pn + 2 * sn + bn + (qB P.length c).length + 2 ≤ n) :
  Calls Tryz.prog 88 #[.pointer (some ⟨a, 0, none⟩), .int .i64 (i : Int), .int .i64 (i : Int), .agg #[.slice ka c.key.length kc, .int .i64 c.kd, .slice va c.val.length vc, .int .i64 c.pg, .int .i64 c.ct]] w
   (QuTo w B a k n po pn pc (.slice bo bn bc) (.slice so sn sc) ws P (body ++ qB P.length c) (st.take i ++ [bn] ++ st.drop i) (.bool true)) := by
 have hpl := hPO.pre.hlen
 have hPk : P.length ≤ c.key.length := by rw [← hbeg, zJ]; omega
 obtain ⟨x, hx⟩ : ∃ x, w.alloc (.cells #[.slice ka c.key.length kc, .int .i64 c.kd, .slice va c.val.length vc, .int .i64 c.pg, .int .i64 c.ct] 39) = x := ⟨_, rfl⟩
 have hbx : Below w.heap.size w x := by rw [← hx]; exact zac Br Lr _
 obtain ⟨s, hs⟩ : ∃ s, w.heap.size = s := ⟨_, rfl⟩
 have hc5 : C5 x s (.slice ka c.key.length kc) (.int .i64 c.kd) (.slice va c.val.length vc) (.int .i64 c.pg) (.int .i64 c.ct) := by rw [← hx, ← hs]; exact C5.box _ _ _ _ _ _
 obtain ⟨z0, z1, z2, z3, z4⟩ := hc5.cells
 have hrx : QR x a k n (.slice po pn pc) (.slice bo bn bc) (.slice so sn sc) ws := zaf hPO.row hbx
 obtain ⟨c0, c1, c2, c3, c4, c5⟩ := hrx.cells
 obtain ⟨qo, qn, qc, hqc, hhd⟩ := zch k i po pn pc
 obtain ⟨rfl, rfl, rfl⟩ : qo = po ∧ qn = pn ∧ qc = pc := by
  rcases hqc with ⟨_, _, _, h4⟩ | ⟨h1, h2, h3, _⟩
  ·exact absurd h4 hi
  ·exact ⟨h1, h2, h3⟩
 have HHD := zaa (hhd x a n _ _ ws hrx)
 have HSW : Hid (Calls Tryz.prog 44 #[.int .i64 k, .int .i64 (i : Int)] x fun e w' => e = .returned (.bool false) ∧ w' = x) := zaa (by
  have := zay k (i : Int) x
  rwa [decide_eq_false (show ¬ (k = 3 ∧ (i : Int) = 0) by omega)] at this)
 have HHP : Hid (Calls Tryz.prog 123 #[.slice ka c.key.length kc, .slice qo qn qc] x fun e w' => e = .returned (.bool true) ∧ w' = x) := zaa (by
  have := zcs ka qo c.key.length qn kc qc c.key P x (hk.on Lr hbx) (hPO.pre.on Lr hbx)
  rwa [decide_eq_true hbeg] at this)
 obtain ⟨M, hM⟩ : ∃ M, (body ++ qB P.length c).length = M := ⟨_, rfl⟩
 have hbn : bn = body.length := hPO.ob.len
 have hMl : M = bn + (qB P.length c).length := by rw [← hM, zG, hbn]
 have HAP : Hid (∀ u, Below x.heap.size x u → Calls Tryz.prog 94 #[.agg (eV none 0 0 ka c.key.length kc c.kd va c.val.length vc c.pg c.ct), .slice bo bn bc, .int .i64 (qn : Int)] u fun e w' => ∃ ao cp, e = .returned (.slice ao M cp) ∧ Hid (OwnB w' B (.slice ao M cp) (body ++ qB P.length c)) ∧ Hid (Gr x (.slice bo bn bc) w' (.slice ao M cp))) := by
  refine zaa fun u hu => ?_
  have hwu := zab hbx Lr hu
  have h := eappended_any (.slice bo bn bc) B body none 0 0 ka c.key.length kc c.kd va c.val.length vc c.pg c.ct [] c.key c.val P.length u (hPO.ob.on Lr hwu) (zN hB hwu.size) (Sl.nil_any _ _ _ fun _ => rfl) (hk.on Lr hwu) (hv.on Lr hwu) (.inl rfl) fk fv (by omega) (by omega)
  rw [hpl] at h
  refine h.mono ?_
  rintro e w' ⟨v', rfl, HO, HG⟩
  obtain ⟨ao, cp, rfl⟩ := HO.out.shape
  have e1 : (body ++ qB qn ⟨[] ++ c.key, c.kd, c.val, c.pg, c.ct⟩).length = M := by rw [← hM, hpl]; rfl
  rw [e1] at HO HG ⊢
  refine ⟨ao, cp, rfl, zaa ?_, zaa ((Gr.ofBelow _ hu).trans HG.out)⟩
  rw [hpl]
  exact HO.out
 have hapa : (Value.slice bo bn bc).ownBlock ≠ some a := by
  have := hPO.row
  unfold QR at this
  exact hPO.ob.apart this (by decide)
 have hapS : (Value.slice so sn sc).ownBlock ≠ some a := by
  have := hPO.row
  unfold QR at this
  exact hPO.on.apart this (by decide)
 have hapN := hPO.ob.apartN hPO.on
 have hapB := hPO.on.apartB hPO.ob
 have HPO := zaa hPO
 have HPX := zaa (hPO.go hbx)
 have HBX := zaa hbx
 have HAPA := zaa (And.intro hapa (And.intro hapS (And.intro hapN hapB)))
 have HPL := zaa hpl
 have HM := zaa hM
 have HBN := zaa hbn
 have HS := zaa hs
 obtain ⟨st', hst'⟩ : ∃ st', st.take i ++ [bn] ++ st.drop i = st' := ⟨_, rfl⟩
 obtain ⟨body', hbd'⟩ : ∃ body', body ++ qB P.length c = body' := ⟨_, rfl⟩
 rw [hst', hbd']
 rw [hbd'] at HAP HM
 have HST' := zaa hst'
 have HBD' := zaa hbd'
 have HBW := zaa hB
 have hbnI : (bn : Int) ≤ 65536 := by omega
 have hMI : (M : Int) ≤ 200000 := by omega
 have hiI : (i : Int) ≤ 65536 := by omega
 have hnI : (n : Int) ≤ 65536 := by omega
 have HFIT : Hid (10 + qn + 2 * sn + bn + (M - bn) + 2 ≤ n ∧ bn ≤ M) := zaa (by omega)
 have HQN : Hid (qn ≤ 65536) := zaa (by omega)
 have HFS := zaa hfs
 clear hst' hbd' hfs hPO hk hv fk fv hbx hc5 hrx hhd hqc hi hbeg hpl hPk hM hMl hbn hapa hapS hapN hapB hB hfit
 go_enter Tryz.func88, Tryz.ntmps88
 go_upto_region 7 with (first | (go_at_call 44; refine zae HSW.out ?_) | (go_at_call 95; refine zae HHD.out ?_) | (go_at_call 123; refine zae HHP.out ?_))
 go_cut [11] from 37 to 45 (fun v u => ∃ ao cp, v = .slice ao M cp ∧ Hid (OwnB u B (.slice ao M cp) body') ∧ Hid (Gr x (.slice bo bn bc) u (.slice ao M cp)))
 case first =>
  go_wp2_with fail
  go_region_with (first | (go_at_call 94; refine (HAP.out _ (by first | exact Br | exact Br.drew | exact zad Br _)).mono ?_; rintro e w1 ⟨ao, cp, rfl, HO1, HG1⟩))
  all_goals (try go_wp2_with fail)
  all_goals go_meet
  all_goals exact ⟨ao, cp, rfl, by first | exact HO1 | exact zaa (HO1.out.on Lr Br.drew) | exact zaa (HO1.out.on Lr (zad Br _)), by first | exact HG1 | exact zaa (HG1.out.trans (Gr.ofBelow _ Br.drew)) | exact zaa (HG1.out.trans (Gr.ofBelow _ (zad Br _)))⟩
 obtain ⟨ao, cp, rfl, HO1, HG1⟩ := hcut
 obtain ⟨w1, hw1⟩ : ∃ w1, w1 = wc := ⟨_, rfl⟩
 subst hw1
 clear z0 z1 z2 z3 z4 c0 c1 c2 c3 c4 c5 HSW HHD HHP HAP
 have HR1 : Hid (QR w1 a k n (.slice qo qn qc) (.slice bo bn bc) (.slice so sn sc) ws) := zaa (HPX.out.row.gr HG1.out HAPA.out.1)
 obtain ⟨Z, hZ⟩ : ∃ Z, 10 + qn + 2 * sn + bn = Z := ⟨_, rfl⟩
 have HFL : Hid (∀ u, Below w1.heap.size w1 u → Calls Tryz.prog 53 #[.pointer (some ⟨a, 0, none⟩)] u fun e w' => e = .returned (.int .i64 (Z : Int)) ∧ w'.cell? ⟨a, 1, none⟩ = some (.int .i64 (n : Int)) ∧ Hid (Below w1.heap.size w1 w')) := by
  refine zaa fun u hu => (zda u a k n qo qn qc bo bn bc so sn sc ws (zaf HR1.out hu) (by have := HQN.out; omega) (by omega) (by omega)).mono ?_
  rintro e w' ⟨rfl, q, rfl⟩
  rw [hZ]
  have hb := zad hu q
  exact ⟨rfl, (show QR (u.drewN q) a k n (.slice qo qn qc) (.slice bo bn bc) (.slice so sn sc) ws from zaf HR1.out hb).cells.2.1, zaa hb⟩
 have c1 := HR1.out.cells.2.1
 have hbM : (bn : Int) ≤ (M : Int) := by have := HFIT.out; omega
 have hZI : (Z : Int) ≤ 65536 := by have := HFIT.out; omega
 have HZF : Hid (Z + (M - bn) + 2 ≤ n) := zaa (by have := HFIT.out; omega)
 have hZn : ¬ (n : Int) < (Z : Int) + (M : Int) - (bn : Int) + 2 := by have := HZF.out; omega
 clear hZ
 go_upto_region 8 with fail
 go_cut [63] from 46 to 63 (fun v u => v = .bool false ∧ Hid (Below w1.heap.size w1 u))
 case first =>
  go_wp2_with fail
  go_region_with (first | (go_at_call 53; refine (HFL.out _ (by first | exact Br | exact Br.drew | exact zad Br _)).mono ?_; rintro e w2 ⟨rfl, y1, HB2⟩))
  all_goals (try go_wp2_with fail)
  all_goals go_meet
  all_goals exact ⟨by go_unwrap; simp; omega, by first | exact HB2 | exact zaa HB2.out.drew | exact zaa (zad HB2.out _)⟩
 obtain ⟨rfl, HB2⟩ := hcut
 obtain ⟨w2, hw2⟩ : ∃ w2, w2 = wc := ⟨_, rfl⟩
 subst hw2
 clear c1 HFL hZn hZI HZF
 have HW2 : Hid (Below w1.heap.size w1 w2) := HB2
 have HR2 : Hid (QR w2 a k n (.slice qo qn qc) (.slice bo bn bc) (.slice so sn sc) ws) := zaa (zaf HR1.out HB2.out)
 go_wp2_with fail
 go_loopw [12] (fun j wr => j = .int .i64 (i : Int) ∧ wr = w2) (fun _ _ => 0)
 case atStart => exact ⟨rfl, by first | rfl | trivial⟩
 case round =>
  obtain ⟨rfl, rfl⟩ := hrel
  have HSN : Hid (sn = st.length) := zaa HPO.out.on.len
  have HOS2 : Hid (OwnN wr B (.slice so sn sc) st) := zaa ((HPX.out.on.gr HG1.out HAPA.out.2.2.2).below HB2.out)
  obtain ⟨c0, c1, c2, c3, c4, c5⟩ := HR2.out.cells
  have f3 := HR2.out.free 3
  have f4 := HR2.out.free 4
  obtain ⟨u3, hu3⟩ : ∃ u3, (wr.setCell ⟨a, 3, none⟩ (.slice ao M cp)).alloc (.cells #[.int .i64 (bn : Int)] 3) = u3 := ⟨_, rfl⟩
  have hs3 : (wr.setCell ⟨a, 3, none⟩ (.slice ao M cp)).heap.size = wr.heap.size := by simp
  have hb3 : Below (wr.setCell ⟨a, 3, none⟩ (.slice ao M cp)).heap.size (wr.setCell ⟨a, 3, none⟩ (.slice ao M cp)) u3 := by rw [← hu3]; exact zac Br Lr _
  have hcs : Cf (· = a) wr (wr.setCell ⟨a, 3, none⟩ (.slice ao M cp)) := Cf.set _ _ _ _
  have hr2 := HR2.out
  unfold QR at hr2
  have HOB2 := HO1.out.on Lr HB2.out
  have HQ3 : Hid (QR u3 a k n (.slice qo qn qc) (.slice ao M cp) (.slice so sn sc) ws ∧ OwnB u3 B (.slice ao M cp) body' ∧ OwnN u3 B (.slice so sn sc) st ∧ u3.heap.size = wr.heap.size + 1) := zaa ⟨zaf (HR2.out.set3 _) hb3, (HOB2.cf hcs (HOB2.apart hr2 (by decide))).on Lr hb3, (HOS2.out.cf hcs (HOS2.out.apart hr2 (by decide))).below hb3, by rw [← hu3]; simp⟩
  have HRP : Hid (Calls Tryz.prog 124 #[.slice so sn sc, .int .i64 (i : Int), .int .i64 (i : Int), .slice (some ⟨wr.heap.size, 0, none⟩) 1 1] u3 (RN.To u3 B (.slice so sn sc) (i + 1 + (sn - i)) ((NI st).take i ++ NI [bn] ++ (NI st).drop i))) := zaa (by
   have h1 := HQ3.out.2.2.1
   unfold OwnN at h1
   rw [← HSN.out] at h1
   have h2 : u3.ownsRow wr.heap.size 3 1 (.slice (some ⟨wr.heap.size, 0, none⟩) 1 1) 1 (NI [bn]) := own_oneN (fr := (0, 0)) (by rw [← hu3]; have := heap_alloc_last (wr.setCell ⟨a, 3, none⟩ (.slice ao M cp)) (.cells #[.int .i64 (bn : Int)] 3); rw [hs3] at this; exact this) rfl
   refine RN.rep_any u3 B wr.heap.size sn 1 i i _ _ _ _ h1 h2 (NI_one _) (NI_one _) (.inr fun e => ?_) Lr his (by omega) ?_ (.inr (by omega))
   ·have h3 := HOS2.out
    unfold OwnN at h3
    have := (h3.lt wr.heap.size (by rw [← e]; rfl)).2
    omega
   ·have h4 := HQ3.out.2.2.2
    have h5 := HBW.out
    have h6 := HBX.out.size
    have h7 := HG1.out.grow.size
    have h8 := HB2.out.size
    omega)
  have HCA : Hid (Cf (QZ a (.slice bo bn bc) (.slice so sn sc)) w u3) := zaa (((((Cf.of_below HBX.out).go (Cf.ofGr HG1.out (fun g e => .inr (.inl e)))).go (Cf.of_below HB2.out)).go (hcs.wideQ (fun b e => .inl e))).go (Cf.of_below hb3))
  clear hr2 HOB2 hcs hb3
  go_wp2_with (go_at_call 124; refine HRP.out.mono ?_; rintro e w4 ⟨so4, sc4, rfl, HO4, HG4⟩; refine Hid.out ?_)
  apply zaa
  have HR4 : Hid (QR w4 a k n (.slice qo qn qc) (.slice ao M cp) (.slice so sn sc) ws) := zaa (HQ3.out.1.gr HG4.out HAPA.out.2.1)
  clear c0 c1 c2 c3 c4 c5 f3 f4 HRP hu3
  obtain ⟨c0, c1, c2, c3, c4, c5⟩ := HR4.out.cells
  have f4 := HR4.out.free 4
  go_wp2
  go_ret
  have hr4 := HR4.out
  unfold QR at hr4
  have hcs : Cf (· = a) w4 (w4.setCell ⟨a, 4, none⟩ (.slice so4 (i + 1 + (sn - i)) sc4)) := Cf.set _ _ _ _
  obtain ⟨_, qb, qs, _⟩ := HQ3.out
  have hob4 := qb.gr HG4.out (qb.apartN qs)
  have hon4 : OwnN w4 B (.slice so4 (i + 1 + (sn - i)) sc4) st' := by
   unfold OwnN
   rw [← HST'.out, NIq, ← NIq_take, ← NIq_drop]
   have e : (st.take i ++ [bn] ++ st.drop i).length = i + 1 + (sn - i) := by have := HSN.out; simp; omega
   rw [e]
   exact HO4.out
  have hcw : Cf (QZ a (.slice bo bn bc) (.slice so sn sc)) w (w4.setCell ⟨a, 4, none⟩ (.slice so4 (i + 1 + (sn - i)) sc4)) := (HCA.out.go (Cf.ofGr HG4.out (fun g e => .inr (.inr e)))).go (hcs.wideQ (fun b e => .inl e))
  have hpo := HPO.out
  have hfarv := hpo.far
  have hpre : Sl (w4.setCell ⟨a, 4, none⟩ (.slice so4 (i + 1 + (sn - i)) sc4)) qo qn qc P := hpo.pre.cf hcw (by
   rcases hpo.pre.apartQ hpo.row with h | h
   ·exact .inl h
   ·rcases hfarv with h1 | h1
    ·exact .inl h1
    ·rcases HFS.out with h2 | h2
     ·exact .inl h2
     ·right
      intro p hp
      rintro (e | e | e)
      ·exact h p hp e
      ·exact h1 p hp e
      ·exact h2 p hp e)
  have hpre3 : Sl u3 qo qn qc P := hpo.pre.cf HCA.out (by
   rcases hpo.pre.apartQ hpo.row with h | h
   ·exact .inl h
   ·rcases hfarv with h1 | h1
    ·exact .inl h1
    ·rcases HFS.out with h2 | h2
     ·exact .inl h2
     ·right
      intro p hp
      rintro (e | e | e)
      ·exact h p hp e
      ·exact h1 p hp e
      ·exact h2 p hp e)
  have hsz : w.heap.size ≤ u3.heap.size := HCA.out.size
  refine ⟨rfl, zaa ⟨_, _, ⟨HR4.out.set4 _, hpre, hob4.cf hcs (hob4.apart hr4 (by decide)), hon4.cf hcs (hon4.apart hr4 (by decide)), hfarv.gr HPX.out.pre HG1.out, hpo.ha⟩, HFS.out.gr hpre3 HG4.out, HG1.out.own.imp id (fun ⟨g, h1, h2⟩ => ⟨g, h1, zN HBX.out.size h2⟩), HG4.out.own.imp id (fun ⟨g, h1, h2⟩ => ⟨g, h1, zN hsz h2⟩)⟩, zaa hcw⟩
def LZ (R : Nat) (g : Nat → Nat) (n : Nat) (b : Nat) : Prop := b = R ∨ ∃ a, a < 2 * n ∧ b = g a
theorem cf_grown {w w' : World} {G : Nat} {F : Nat → Prop} (h : w.grownBy w' (some G)) (hF : F G) : Cf F w w' := ⟨h.os, h.tape, h.output, h.size, fun k hk hf => h.block k hk (fun e => hf (by injection e with e; rw [e]; exact hF))⟩
theorem asLentZ_any (R n : Nat) (ao : Option Addr) (cap : Nat) (cs : List Cl) (w : World) (g : Nat → Nat) (hLn : LnC w R cs g 0 n) (hR : RowC w R (n + 2)) (m7 : w.cell? ⟨R, n * 5 + 1, none⟩ = some (.int .i64 (-7))) (m8 : w.cell? ⟨R, (n + 1) * 5 + 1, none⟩ = some (.int .i64 (-8))) (hs : ∀ u, Cf (LZ R g n) w u → SlC u ao n cap cs) (hn : n ≤ 900000) (hkv : ∀ c ∈ cs, c.key.length + 3 ≤ 140737488355328 ∧ c.val.length + 3 ≤ 140737488355328) :
  Calls Tryz.prog 32 #[.slice (some ⟨R, 0, none⟩) n (n + 2), .slice ao n cap] w fun e w' => e = .returned (.bool true) ∧ Hid (Cf (LZ R g n) w w') := by
 have HS := zaa hs
 have HKV := zaa hkv
 have HL := zaa hLn
 have HR := zaa hR
 clear hs hkv hLn hR
 go_enter Tryz.func32, Tryz.ntmps32
 go_wp2_with fail
 clear m7 m8
 go_loopw [7, 8] (fun v i wr => ∃ j : Nat, j ≤ n ∧ v = .bool true ∧ i = .int .i64 j ∧ Hid (LnC wr R cs g j n) ∧ Hid (RowC wr R (n + 2)) ∧ Hid (Cf (LZ R g n) w wr)) (fun _ i _ => n - (intOf i).toNat)
 case atStart => exact ⟨0, by omega, rfl, rfl, HL, HR, zaa (Cf.refl _ _)⟩
 case round =>
  clear HL HR
  obtain ⟨j, hj, rfl, rfl, HL, HR, HB⟩ := hrel
  have bj : (j : Int) ≤ 900000 := by omega
  by_cases hlt : j < n
  ·have hltI : (j : Int) < (n : Int) := by omega
   have hltJ : (j : Int) < (n : Int) + 2 := by omega
   obtain ⟨b, off, c, ka, kc, va, vc, rfl, hbl, hci, c0, c1, c2, c3, c4, hk1, hv1⟩ := (HS.out wr HB.out).item j hlt
   obtain ⟨a0, a1, a2, a3, a4, a5, a6⟩ := HL.out.at_ j c Lr hlt hci
   have g1 := HL.out.gt (2 * j) (by omega)
   have g2 := HL.out.gt (2 * j + 1) (by omega)
   have g3 := HL.out.mono (2 * j) (2 * j + 1) (by omega) (by omega)
   obtain ⟨hkb, hvb⟩ := HKV.out c (List.mem_of_getElem? hci)
   have HA1 := zaa (asLent_on (g (2 * j)) R c.key.length ka kc c.key wr a5 hk1 (by omega))
   have HA6 := zaa a6
   have HCI := zaa hci
   have HAT := zaa (And.intro a1 (And.intro a2 (And.intro a3 a4)))
   have HRr := HR.out.lt
   have hsz := HB.out.size
   obtain ⟨kn, hkn⟩ : ∃ kn, c.key.length = kn := ⟨_, rfl⟩
   rw [hkn] at HA1 a0 c0 hkb
   obtain ⟨G1, hG1⟩ : ∃ G, g (2 * j) = G := ⟨_, rfl⟩
   obtain ⟨G2, hG2⟩ : ∃ G, g (2 * j + 1) = G := ⟨_, rfl⟩
   rw [hG1] at HA1 a0 g1 g3
   rw [hG2] at HA6 HAT g2 g3
   have HG := zaa (And.intro hG1 hG2)
   clear a1 a2 a3 a4 a5 a6 c1 c2 c3 c4 hk1 hv1 hci hG1 hG2 hkn
   go_wp2_with fail
   go_region_with (first | (go_at_call 73; refine (HA1.out _ ?_).mono ?_; (repeat (first | exact Br | apply Below.drew | apply below_drewN)); rintro e w2 ⟨rfl, hg2⟩))
   all_goals
    have HB2 : Hid (Cf (LZ R g n) w w2) := zaa (HB.out.go (cf_grown hg2 (.inr ⟨2 * j, by omega, HG.out.1.symm⟩)))
    obtain ⟨b', off', c', ka', kc', va', vc', hao, hbl', hci', _, _, c2, _, _, _, hv2⟩ := (HS.out w2 HB2.out).item j hlt
    rw [HCI.out] at hci'
    injection hci' with hcc
    subst hcc
    injection hao with hao
    injection hao with h1 h2
    subst h1 h2
    have hO2 : OwnB w2 R (.slice (some ⟨G2, 0, none⟩) (c.val.length + 3) (c.val.length + 3)) (c.val ++ [71, 72, 73]) := World.ownsRow.kept HA6.out hg2 (.inr (by simp [Value.ownBlock]; omega))
    have HA2 := zaa (asLent_on G2 R c.val.length va' vc' c.val w2 hO2 hv2 (by omega))
    have hR2 := grown_row HR.out hg2 (by omega)
    have hcl : ∀ i v, wr.cell? ⟨R, i, none⟩ = some v → w2.cell? ⟨R, i, none⟩ = some v := fun i v h => hg2.cell h (by simp; omega)
    have HAT2 := zaa (And.intro (hcl _ _ HAT.out.1) (And.intro (hcl _ _ HAT.out.2.1) (And.intro (hcl _ _ HAT.out.2.2.1) (hcl _ _ HAT.out.2.2.2))))
    have a2 := HAT2.out.2.1
    have HG12 : Hid (∀ a, 2 * (j + 1) ≤ a → a < 2 * n → w2.heap[g a]? = wr.heap[g a]?) := zaa fun a h1 h2 => by
     have := HL.out.mono (2 * j) a (by omega) h2
     rw [HG.out.1] at this
     exact hg2.block _ (HL.out.lt a h2) (by simp; omega)
    have hsz2 := HB2.out.size
    have hz12 := hg2.size
    obtain ⟨vn, hvn⟩ : ∃ vn, c.val.length = vn := ⟨_, rfl⟩
    rw [hvn] at HA2 a2 c2 hvb
    have HR2 := zaa hR2
    have hRr2 := hR2.lt
    have HCL := zaa hcl
    clear HA1 a0 c0 hg2 hv2 hO2 HA6 HAT hbl' hcl hR2 hvn
    go_wp2_with fail
    go_region_with (first | (go_at_call 73; refine (HA2.out _ ?_).mono ?_; (repeat (first | exact Br | apply Below.drew | apply below_drewN)); rintro e w3 ⟨rfl, hg3⟩))
    all_goals
     have HB3 : Hid (Cf (LZ R g n) w w3) := zaa (HB2.out.go (cf_grown hg3 (.inr ⟨2 * j + 1, by omega, HG.out.2.symm⟩)))
     obtain ⟨b3, off3, c3, ka3, kc3, va3, vc3, hao, hbl3, hci', _, d1, _, d3, d4, _, _⟩ := (HS.out w3 HB3.out).item j hlt
     rw [HCI.out] at hci'
     injection hci' with hcc
     subst hcc
     injection hao with hao
     injection hao with h1 h2
     subst h1 h2
     have hcl3 : ∀ i v, w2.cell? ⟨R, i, none⟩ = some v → w3.cell? ⟨R, i, none⟩ = some v := fun i v h => hg3.cell h (by simp; omega)
     have a1 := hcl3 _ _ HAT2.out.1
     have a3 := hcl3 _ _ HAT2.out.2.2.1
     have a4 := hcl3 _ _ HAT2.out.2.2.2
     have HR3 := zaa (grown_row HR2.out hg3 (by omega))
     have HL3 : Hid (LnC w3 R cs g (j + 1) n) := zaa (HL.out.keep (by omega) (by have := hg3.size; omega) (fun i hi => by
       obtain ⟨v, hv⟩ := Option.isSome_iff_exists.1 (HR.out.cell i (by omega))
       rw [hv]
       exact hcl3 _ _ (HCL.out _ _ hv)) (fun a h1 h2 => by
       have := HL.out.mono (2 * j + 1) a (by omega) h2
       rw [HG.out.2] at this
       rw [hg3.block _ (zO (HL.out.lt a h2) hz12) (by simp; omega)]
       exact HG12.out a h1 h2))
     obtain ⟨kd, hkd⟩ : ∃ kd, c.kd = kd := ⟨_, rfl⟩
     obtain ⟨pg, hpg⟩ : ∃ pg, c.pg = pg := ⟨_, rfl⟩
     obtain ⟨ct, hct⟩ : ∃ ct, c.ct = ct := ⟨_, rfl⟩
     rw [hkd] at a1 d1
     rw [hpg] at a3 d3
     rw [hct] at a4 d4
     clear HA2 a2 c2 hg3 hbl3 hcl3 HCL HG12 HL HR HR2 HB HB2 HAT2 hkd hpg hct
     go_wp2_with fail
     go_quiet (fail)
     go_wp2
     go_roundw
     case rel => exact ⟨j + 1, by omega, by simp, by go_num, zaa (by first | exact HL3.out | exact HL3.out.drew _), zaa (by exact HR3.out), zaa (by first | exact HB3.out | exact HB3.out.go (Cf.drew _ _ _))⟩
     case measure => simp [intOf]; omega
  ·clear HL
   go_wp2_with fail
   go_loopw [11] (fun i wq => ∃ t : Nat, t ≤ n + 2 ∧ i = .int .i64 t ∧ Hid (RowC wq R (n + 2)) ∧ Hid (Cf (LZ R g n) w wq)) (fun i _ => n + 2 - (intOf i).toNat)
   case atStart => exact ⟨0, by omega, rfl, HR, HB⟩
   case round =>
    clear HR HB
    obtain ⟨t, ht, rfl, HR, HB⟩ := hrel
    have bt : (t : Int) ≤ 900002 := by omega
    by_cases htl : t < n + 2
    ·have htI : (t : Int) < (n : Int) + 2 := by omega
     go_wp2_with (refine put_cell (by rfl) _ _ (by rfl) R (t * 5) (n + 2) none none 0 0 0 0 (-9) 0 0 HR.out (by rfl) (by rfl) (by omega) ?_; intro w2 HU2; refine Hid.out ?_)
     apply zaa
     have HR2 : Hid (RowC w2 R (n + 2)) := zaa (by rw [HU2.out]; exact RowC.sets _ _ _ HR.out)
     have HB2 : Hid (Cf (LZ R g n) w w2) := zaa (by rw [HU2.out]; exact HB.out.go ((Cf.sets _ _ _ _).wideQ fun _ e => .inl e))
     clear HU2 HR HB
     go_wp2
     go_roundw
     case rel => exact ⟨t + 1, by omega, by go_num, HR2, HB2⟩
     case measure => simp [intOf]; omega
    ·have htI : ¬ (t : Int) < (n : Int) + 2 := by omega
     go_wp2
     go_ret
     exact ⟨rfl, HB⟩
theorem zci (n : Int) (w : World) (h0 : 0 ≤ n) (hn : n < 18446744073709551616) :
  Calls Tryz.prog 116 #[.int .u64 n] w fun e w' => ∃ v, e = .returned v ∧ OwnB w' w.heap.size v (uB n) ∧ Below w.heap.size w w' := by
 go_enter Tryz.func116, Tryz.ntmps116
 go_wp2_with fail
 go_loopw [0, 3] (fun x v wr => ∃ (m : Int) (acc : List Int), 0 ≤ m ∧ m < 18446744073709551616 ∧ x = .int .u64 m ∧ acc ++ uB m = uB n ∧ OwnB wr w.heap.size v acc ∧ Below w.heap.size w wr) (fun x _ _ => (intOf x).toNat)
 case atStart => exact ⟨n, [], h0, hn, rfl, rfl, OwnB.nil _ _, Br⟩
 case round =>
  obtain ⟨m, acc, hm0, hm, rfl, hac, hown, hb⟩ := hrel
  have HA : Hid (acc ++ uB m = uB n) := hac
  clear hac
  have hsz := hb.size
  have hlen : acc.length + 1 ≤ 10 := by
   have h1 := congrArg List.length HA.out
   have h2 := zan m
   have h3 := zan n
   simp only [zG] at h1
   omega
  by_cases hlt : m < 128
  ·go_wp2_with (at_builtin; refine zdd _ rfl _ _ rfl w.heap.size acc _ rfl (hown.alloc _) _ 1 1 [m] rfl rfl (one_cell _ _) (by omega) (by simp; omega) ?_)
   intro v' w2 hown2 hb2
   rw [← zcb hlt, HA.out] at hown2
   have R : Below w.heap.size w w2 := (hb.alloc hsz _).trans hb2
   clear hb2
   go_wp2
   go_ret
   exact ⟨_, rfl, hown2, R⟩
  ·have hgt : 127 < m := by omega
   go_wp2_with (at_builtin; refine zdd _ rfl _ _ rfl w.heap.size acc _ rfl (hown.alloc _) _ 1 1 [128 + m % 128] rfl rfl (one_cell _ _) (by omega) (by simp; omega) ?_)
   intro v' w2 hown2 hb2
   have R : Below w.heap.size w w2 := (hb.alloc hsz _).trans hb2
   rw [Int.add_comm 128 (m % 128)] at hown2
   clear hb2
   go_wp2
   go_roundw
   case rel => exact ⟨m / 128, acc ++ [m % 128 + 128], by omega, by omega, rfl, by rw [← HA.out, uB_step (by omega) hm]; simp, hown2, R⟩
   case measure => simp [intOf]; omega
theorem refFixed_yes (n x : Int) (w : World) (h0 : 0 ≤ n) (hn : n < 18446744073709551616) (h1 : 1 ≤ x) (h2 : x ≤ 8) :
  Calls Tryz.prog 120 #[.int .u64 n, .int .i64 x] w fun e w' => ∃ v, e = .returned v ∧ OwnB w' w.heap.size v (fB x.toNat n) ∧ Below w.heap.size w w' := by
 obtain ⟨width, rfl⟩ := Int.eq_ofNat_of_zero_le (show 0 ≤ x by omega)
 rw [Int.toNat_natCast]
 go_enter Tryz.func120, Tryz.ntmps120
 go_wp2_with fail
 go_loopw [5, 6] (fun v i wr => ∃ (k : Nat) (acc : List Int), k ≤ width ∧ i = .int .i64 ((k : Int) - 1) ∧ acc ++ fB k n = fB width n ∧ OwnB wr w.heap.size v acc ∧ Below w.heap.size w wr) (fun _ i _ => (intOf i + 1).toNat)
 case atStart => exact ⟨width, [], Lr, rfl, rfl, OwnB.nil _ _, Br⟩
 case round =>
  obtain ⟨k, acc, hk, rfl, hac, hown, hb⟩ := hrel
  have HA := zaa hac
  clear hac
  have hsz := hb.size
  have hlen : acc.length ≤ 8 := by
   have h1 := congrArg List.length HA.out
   simp only [zG, zao] at h1
   omega
  by_cases hk0 : k = 0
  ·subst hk0
   have e : acc = fB width n := by have := HA.out; simpa [fB] using this
   rw [e] at hown
   clear e HA
   go_wp2
   go_ret
   exact ⟨_, rfl, hown, hb⟩
  ·obtain ⟨j, rfl⟩ : ∃ j, k = j + 1 := ⟨k - 1, by omega⟩
   go_wp2_with fail
   go_loopw [7, 8] (fun x i w' => ∃ t : Nat, t ≤ j ∧ i = .int .i64 t ∧ x = .int .u64 (n / 256 ^ t) ∧ w' = wr) (fun _ i _ => j - (intOf i).toNat)
   case atStart => exact ⟨0, by omega, rfl, by simp, rfl⟩
   case round =>
    obtain ⟨t, ht, rfl, rfl, rfl⟩ := hrel
    have hpos : 0 ≤ n / 256 ^ t := Int.ediv_nonneg h0 (Int.le_of_lt (Int.pow_pos (by omega)))
    have hle : n / 256 ^ t ≤ n := Int.ediv_le_self _ h0
    have HP := zaa (pow256 n t)
    by_cases hlt : t < j
    ·generalize n / 256 ^ t = y at *
     go_wp2
     go_roundw
     case rel => exact ⟨t + 1, by omega, by go_num, by rw [← HP.out], trivial⟩
     case measure => simp [intOf]; omega
    ·obtain rfl : t = j := by omega
     generalize hy : n / 256 ^ t = y at *
     have HY := zaa hy
     clear hy
     go_wp2_with (at_builtin; refine zdd _ rfl _ _ rfl w.heap.size acc _ rfl (hown.alloc _) _ 1 1 [y % 256] rfl rfl (one_cell _ _) (by omega) (by simp; omega) ?_)
     intro v2 w2 hown2 hb2
     have R2 : Below w.heap.size w w2 := (hb.alloc hsz _).trans hb2
     clear hb2 hown
     go_wp2
     go_roundw
     case rel => exact ⟨t, acc ++ [y % 256], by omega, by go_num, by rw [← HA.out, fB, HY.out]; simp, hown2, R2⟩
     case measure => simp [intOf]
theorem zbh {w w' : World} {B C : Nat} {v : Value} {l m : List Int} {ao : Option Addr} {n c : Nat} (h : OwnB w B v l) (k : OwnB w' C (.slice ao n c) m) (hz : w.heap.size ≤ C) : Far ao n v := by
 right
 intro p hp e
 have h1 : p.block < w.heap.size := (World.ownsRow.lt h p.block e).2
 rcases k.2 with ⟨e2, _⟩ | ⟨g, cap, cur, e2, hg, _⟩
 ·injection e2 with e3
  rw [e3] at hp
  cases hp
 ·injection e2 with e3
  rw [e3] at hp
  injection hp with hp
  subst hp
  simp only at h1
  omega
theorem sl_far {w w' : World} {B : Nat} {v : Value} {l m : List Int} {ao : Option Addr} {n c : Nat} (hs : Sl w ao n c m) (h : OwnB w' B v l) (hz : w.heap.size ≤ B) : Far ao n v := by
 rcases hs.hat with h0 | ⟨b, off, rfl, hlt, _⟩
 ·exact .inl h0
 ·exact h.far fun p hp => by injection hp with hp; subst hp; exact zO hlt hz
theorem zct (v : Value) (B : Nat) (l r : List Int) (ao : Option Addr) (n c : Nat) (w : World) (ho : OwnB w B v l) (hs : Sl w ao n c r) (hf : Far ao n v) (hl : l.length + n ≤ 140737488355328) (hB : B ≤ w.heap.size) :
  Calls Tryz.prog 117 #[v, .slice ao n c] w fun e w' => ∃ v', e = .returned v' ∧ Hid (OwnB w' B v' (l ++ r)) ∧ Hid (Gr w v w' v') := by
 have HS := zaa hs
 have HF := zaa hf
 have HO := zaa ho
 have hlen := hs.hlen
 have hn := hs.hroom
 clear hs hf ho
 go_enter Tryz.func117, Tryz.ntmps117
 go_wp2_with fail
 go_loopw [0, 5] (fun b i wr => ∃ k : Nat, k ≤ n ∧ i = .int .i64 k ∧ Hid (OwnB wr B b (l ++ r.take k)) ∧ Hid (Gr w v wr b)) (fun _ i _ => n - (intOf i).toNat)
 case atStart => exact ⟨0, by omega, rfl, by simpa using HO, zaa (Gr.refl _ _)⟩
 case round =>
  obtain ⟨k, hk, rfl, HOK, HG⟩ := hrel
  clear HO
  have hki : (k : Int) ≤ 140737488355328 := by omega
  by_cases hlt : k < n
  ·have hltI : (k : Int) < (n : Int) := by omega
   have HSK := zaa (HS.out.gr HG.out HF.out)
   have hwf := HSK.out.wf.getD k
   rcases HSK.out.hat with h | ⟨b', off', rfl, hbb', hc'⟩
   ·omega
   have hcj := hc' k hlt
   have hts := take_snoc r k (by omega)
   obtain ⟨y, hy⟩ : ∃ y, r.getD k 0 = y := ⟨_, rfl⟩
   rw [hy] at hcj hts hwf
   have HT := zaa hts
   have hBr : B ≤ wr.heap.size := zN hB HG.out.grow.size
   have hll : (l ++ r.take k).length + 1 ≤ 140737488355328 := by simp only [zG, zJ]; omega
   have HLL := zaa hll
   clear hc' hts hy hll
   go_wp2_with (at_builtin; refine zbo _ rfl _ _ rfl B (l ++ r.take k) [y] _ (some ⟨wr.heap.size, 0, none⟩) 1 1 rfl rfl (HOK.out.alloc _) (sl_one wr y hwf) HLL.out (by simp; omega) ?_; refine Hid.out ?_)
   apply zaa
   intro v2 w2 ho2 g2
   have HO2 : Hid (OwnB w2 B v2 (l ++ r.take (k + 1))) := zaa (by rw [HT.out]; simpa [zM] using ho2)
   have HG2 := zaa ((HG.out.trans (Gr.alloc _ _ _)).trans g2)
   clear ho2 g2 HOK HG hcj HSK HT HLL
   go_wp2
   go_roundw
   case rel => exact ⟨k + 1, by omega, by go_num, HO2, HG2⟩
   case measure => simp [intOf]; omega
  ·have e : r.take k = r := List.take_of_length_le (by omega)
   rw [e] at HOK
   go_wp2
   go_ret
   exact ⟨_, rfl, HOK, HG⟩
theorem zbb (v : Value) (B : Nat) (l r : List Int) (ao : Option Addr) (n c : Nat) (w : World) (ho : OwnB w B v l) (hs : Sl w ao n c r) (hf : Far ao n v) (hl : l.length + n ≤ 140737488355328) (hB : B ≤ w.heap.size) :
  Calls Tryz.prog 117 #[v, .slice ao n c] w fun e w' => ∃ v', e = .returned v' ∧ Hid (OwnB w' B v' (l ++ r)) ∧ Hid (Below B w w') :=
 (zct v B l r ao n c w ho hs hf hl hB).mono fun e w' h => by
  obtain ⟨v', h1, h2, h3⟩ := h
  exact ⟨v', h1, h2, zaa (h3.out.below ho hB)⟩
theorem rrest_whole (k i : Int) (ao : Option Addr) (n c m : Nat) (w : World) (h : k = 3 ∧ i = 0) :
  Calls Tryz.prog 115 #[.int .i64 k, .int .i64 i, .slice ao n c, .int .i64 (m : Int)] w fun e w' => e = .returned (.slice ao n c) ∧ w' = w := by
 obtain ⟨rfl, rfl⟩ := h
 go_enter Tryz.func115, Tryz.ntmps115
 go_wp2
 go_ret
 exact ⟨rfl, rfl⟩
theorem rrest_cut (k i : Int) (ao : Option Addr) (n c m : Nat) (l : List Int) (w : World) (h : ¬ (k = 3 ∧ i = 0)) (hs : Sl w ao n c l) (hm : m ≤ n) :
  Calls Tryz.prog 115 #[.int .i64 k, .int .i64 i, .slice ao n c, .int .i64 (m : Int)] w fun e w' => (∃ a' c', e = .returned (.slice a' (n - m) c') ∧ Hid (Sl w a' (n - m) c' (l.drop m))) ∧ w' = w := by
 have hf := sl_from hs m hm
 have hc := hs.hcap
 have hr := hs.hroom
 have hll := hs.hlen
 have hmI : (m : Int) ≤ (n : Int) := by omega
 have hlc : m ≤ c := by omega
 have hlcI : (m : Int) ≤ (c : Int) := by omega
 have hlt : ¬ (n : Int) < (m : Int) := by omega
 have i1 : (m : Int) ≤ 140737488355328 := by omega
 clear hs
 by_cases h3 : k = 3
 ·have hi : ¬ i = 0 := fun e => h ⟨h3, e⟩
  have hib : (i == 0) = false := by simpa using hi
  subst h3
  clear h hi
  rcases hf with ⟨rfl, rfl, rfl⟩ | ⟨a, rfl, ⟨e, hS⟩ | ⟨e, hS⟩⟩
  ·obtain rfl : m = 0 := by omega
   have HE : Hid (Sl w none 0 0 (l.drop 0)) := zaa (by rw [show l.drop 0 = [] from List.eq_nil_of_length_eq_zero (by simpa using hll)]; exact Sl.nil_any _ _ _ (fun _ => rfl))
   go_enter Tryz.func115, Tryz.ntmps115
   go_wp2
   go_ret
   exact ⟨⟨_, _, rfl, HE⟩, rfl⟩
  ·have HS := zaa hS
   subst e
   obtain rfl : n = c := by omega
   clear hS
   go_enter Tryz.func115, Tryz.ntmps115
   go_wp2
   go_ret
   exact ⟨⟨_, _, rfl, by simpa using HS⟩, rfl⟩
  ·have HS := zaa hS
   have hcn2 : c - m ≠ 0 := by omega
   have hcn3 : m < c := by omega
   have hcn4 : (m : Int) < (c : Int) := by omega
   clear hS
   go_enter Tryz.func115, Tryz.ntmps115
   go_wp2
   go_ret
   exact ⟨⟨_, _, rfl, by simpa using HS⟩, rfl⟩
 ·have hkb : (k == 3) = false := by simpa using h3
  clear h h3
  rcases hf with ⟨rfl, rfl, rfl⟩ | ⟨a, rfl, ⟨e, hS⟩ | ⟨e, hS⟩⟩
  ·obtain rfl : m = 0 := by omega
   have HE : Hid (Sl w none 0 0 (l.drop 0)) := zaa (by rw [show l.drop 0 = [] from List.eq_nil_of_length_eq_zero (by simpa using hll)]; exact Sl.nil_any _ _ _ (fun _ => rfl))
   go_enter Tryz.func115, Tryz.ntmps115
   go_wp2
   go_ret
   exact ⟨⟨_, _, rfl, HE⟩, rfl⟩
  ·have HS := zaa hS
   subst e
   obtain rfl : n = c := by omega
   clear hS
   go_enter Tryz.func115, Tryz.ntmps115
   go_wp2
   go_ret
   exact ⟨⟨_, _, rfl, by simpa using HS⟩, rfl⟩
  ·have HS := zaa hS
   have hcn2 : c - m ≠ 0 := by omega
   have hcn3 : m < c := by omega
   have hcn4 : (m : Int) < (c : Int) := by omega
   clear hS
   go_enter Tryz.func115, Tryz.ntmps115
   go_wp2
   go_ret
   exact ⟨⟨_, _, rfl, by simpa using HS⟩, rfl⟩
end Go.Proofs.YtfgffajgfgifhaaGreatDoor
