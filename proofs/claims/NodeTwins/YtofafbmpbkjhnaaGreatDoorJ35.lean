import Derived.Test.YtofafbmpbkjhnaaGreatDoorJ33
import Derived.Handy
import Derived.Test.YtofafbmpbkjhnaaGreatDoorJ34
namespace Go.Proofs.YtofafbmpbkjhnaaGreatDoor
set_option maxRecDepth 100000
set_option maxHeartbeats 4000000
open Go.RowKit
def QZ (a : Nat) (vb vs : Value) (b : Nat) : Prop := b = a ∨ vb.ownBlock = some b ∨ vs.ownBlock = some b
theorem own_oneN {w : World} {g : Nat} {x : Nat} {fr : Nat × Nat} (h : w.heap[g]? = some (.cells #[.int .i64 (x : Int)] 3 fr)) (hf : fr = (0, 0)) : w.ownsRow g 3 1 (.slice (some ⟨g, 0, none⟩) 1 1) 1 (NI [x]) := by
 subst hf
 refine ⟨by simp [NI], .inr ⟨g, 1, _, rfl, Lr, h, Lr, by unfold maxLen; omega, by simp, ?_⟩⟩
 simp [NI]
theorem NIq (a b c : List Nat) : NI (a ++ b ++ c) = NI a ++ NI b ++ NI c := by simp [NI]
theorem NIq_take (l : List Nat) (n : Nat) : (NI l).take n = NI (l.take n) := by simp [NI, List.map_take]
theorem NIq_drop (l : List Nat) (n : Nat) : (NI l).drop n = NI (l.drop n) := by simp [NI, List.map_drop]
def QuTo (w : World) (B a : Nat) (k : Int) (n : Nat) (po : Option Addr) (pn pc : Nat) (vb vs : Value) (ws : Int) (P body : List Int) (st : List Nat) (r : Value) (e : Ending) (w' : World) : Prop :=
 e = .returned r ∧ Hid (∃ vb' vs', PO w' B a k n po pn pc vb' vs' ws P body st ∧ Far po pn vs' ∧ (vb'.ownBlock = vb.ownBlock ∨ ∃ g, vb'.ownBlock = some g ∧ w.heap.size ≤ g) ∧ (vs'.ownBlock = vs.ownBlock ∨ ∃ g, vs'.ownBlock = some g ∧ w.heap.size ≤ g)) ∧ Hid (Cf (QZ a vb vs) w w')
theorem Cf.wideQ {F G : Nat → Prop} {w w' : World} (h : Cf F w w') (hf : ∀ b, F b → G b) : Cf G w w' := ⟨h.os, h.tape, h.output, h.size, fun k hk hg => h.block k hk (fun e => hg (hf k e))⟩
theorem inPlace_ins (w : World) (B a : Nat) (k : Int) (n : Nat) (po : Option Addr) (pn pc : Nat) (bo : Option Addr) (bn bc : Nat) (so : Option Addr) (sn sc : Nat) (ws : Int) (P body : List Int) (st : List Nat)
  (hPO : PO w B a k n po pn pc (.slice bo bn bc) (.slice so sn sc) ws P body st) (hbb : bn ≤ 65536) (hss : sn ≤ 65536) (hB : B ≤ w.heap.size) (i : Nat) (hi : ¬ (k = 3 ∧ i = 0)) (his : i ≤ sn) (hn : n ≤ 65536)
  (c : Cl) (ka va : Option Addr) (kc vc : Nat) (hk : Sl w ka c.key.length kc c.key) (hv : Sl w va c.val.length vc c.val) (fk : Far ka c.key.length (.slice bo bn bc)) (fv : Far va c.val.length (.slice bo bn bc)) (hkl : c.key.length ≤ 65536) (hvl : c.val.length ≤ 65536)
  (hbeg : c.key.take P.length = P) (hfs : Far po pn (.slice so sn sc)) (hfit : 10 + pn + 2 * sn + bn + (qB P.length c).length + 2 ≤ n) :
  Calls Tryz.prog 291 #[.pointer (some ⟨a, 0, none⟩), .int .i64 (i : Int), .int .i64 (i : Int), .agg #[.slice ka c.key.length kc, .int .i64 c.kd, .slice va c.val.length vc, .int .i64 c.pg, .int .i64 c.ct]] w
   (QuTo w B a k n po pn pc (.slice bo bn bc) (.slice so sn sc) ws P (body ++ qB P.length c) (st.take i ++ [bn] ++ st.drop i) (.bool true)) := by
 have hpl := hPO.pre.hlen
 have hPk : P.length ≤ c.key.length := by rw [← hbeg, zJ]; omega
 obtain ⟨x, hx⟩ : ∃ x, w.alloc (.cells #[.slice ka c.key.length kc, .int .i64 c.kd, .slice va c.val.length vc, .int .i64 c.pg, .int .i64 c.ct] 43) = x := ⟨_, rfl⟩
 have hbx : Below w.heap.size w x := by rw [← hx]; exact zac Br Lr _
 obtain ⟨s, hs⟩ : ∃ s, w.heap.size = s := ⟨_, rfl⟩
 have hc5 : C5 x s (.slice ka c.key.length kc) (.int .i64 c.kd) (.slice va c.val.length vc) (.int .i64 c.pg) (.int .i64 c.ct) := by rw [← hx, ← hs]; exact C5.box _ _ _ _ _ _
 obtain ⟨z0, z1, z2, z3, z4⟩ := hc5.cells
 have hrx : QR x a k n (.slice po pn pc) (.slice bo bn bc) (.slice so sn sc) ws := zaf hPO.row hbx
 obtain ⟨c0, c1, c2, c3, c4, c5⟩ := hrx.cells
 obtain ⟨qo, qn, qc, hqc, hhd⟩ := zcw k i po pn pc
 obtain ⟨rfl, rfl, rfl⟩ : qo = po ∧ qn = pn ∧ qc = pc := by
  rcases hqc with ⟨_, _, _, h4⟩ | ⟨h1, h2, h3, _⟩
  ·exact absurd h4 hi
  ·exact ⟨h1, h2, h3⟩
 have HHD := zaa (hhd x a n _ _ ws hrx)
 have HSW : Hid (Calls Tryz.prog 153 #[.int .i64 k, .int .i64 (i : Int)] x fun e w' => e = .returned (.bool false) ∧ w' = x) := zaa (by
  have := zba k (i : Int) x
  rwa [decide_eq_false (show ¬ (k = 3 ∧ (i : Int) = 0) by omega)] at this)
 have HHP : Hid (Calls Tryz.prog 293 #[.slice ka c.key.length kc, .slice qo qn qc] x fun e w' => e = .returned (.bool true) ∧ w' = x) := zaa (by
  have := zcx ka qo c.key.length qn kc qc c.key P x (hk.on Lr hbx) (hPO.pre.on Lr hbx)
  rwa [decide_eq_true hbeg] at this)
 obtain ⟨M, hM⟩ : ∃ M, (body ++ qB P.length c).length = M := ⟨_, rfl⟩
 have hbn : bn = body.length := hPO.ob.len
 have hMl : M = bn + (qB P.length c).length := by rw [← hM, zG, hbn]
 have HAP : Hid (∀ u, Below x.heap.size x u → Calls Tryz.prog 198 #[.agg (eV none 0 0 ka c.key.length kc c.kd va c.val.length vc c.pg c.ct), .slice bo bn bc, .int .i64 (qn : Int)] u fun e w' => ∃ ao cp, e = .returned (.slice ao M cp) ∧ Hid (OwnB w' B (.slice ao M cp) (body ++ qB P.length c)) ∧ Hid (Gr x (.slice bo bn bc) w' (.slice ao M cp))) := by
  refine zaa fun u hu => ?_
  have hwu := zab hbx Lr hu
  have h := eappended_any (.slice bo bn bc) B body none 0 0 ka c.key.length kc c.kd va c.val.length vc c.pg c.ct [] c.key c.val P.length u (hPO.ob.on Lr hwu) (zN hB hwu.size) (Sl.nil_any _ _ _ fun _ => rfl) (hk.on Lr hwu) (hv.on Lr hwu) (.inl rfl) fk fv (by omega) (by omega)
  rw [hpl] at h
  refine h.mono ?_
  rintro e w' ⟨v', rfl, HO, HG⟩
  obtain ⟨ao, cp, rfl⟩ := HO.out.shape
  have e1 : (body ++ qB qn ⟨[] ++ c.key, c.kd, c.val, c.pg, c.ct⟩).length = M := by rw [← hM, hpl]; rfl
  rw [e1] at HO HG ⊢
  refine ⟨ao, cp, rfl, zaa ?_, zaa ((Gr.ofBelow _ hu).trans HG.out)⟩
  rw [hpl]
  exact HO.out
 have hapa : (Value.slice bo bn bc).ownBlock ≠ some a := by
  have := hPO.row
  unfold QR at this
  exact hPO.ob.apart this (by decide)
 have hapS : (Value.slice so sn sc).ownBlock ≠ some a := by
  have := hPO.row
  unfold QR at this
  exact hPO.on.apart this (by decide)
 have hapN := hPO.ob.apartN hPO.on
 have hapB := hPO.on.apartB hPO.ob
 have HPO := zaa hPO
 have HPX := zaa (hPO.go hbx)
 have HBX := zaa hbx
 have HAPA := zaa (And.intro hapa (And.intro hapS (And.intro hapN hapB)))
 have HPL := zaa hpl
 have HM := zaa hM
 have HBN := zaa hbn
 have HS := zaa hs
 obtain ⟨st', hst'⟩ : ∃ st', st.take i ++ [bn] ++ st.drop i = st' := ⟨_, rfl⟩
 obtain ⟨body', hbd'⟩ : ∃ body', body ++ qB P.length c = body' := ⟨_, rfl⟩
 rw [hst', hbd']
 rw [hbd'] at HAP HM
 have HST' := zaa hst'
 have HBD' := zaa hbd'
 have HBW := zaa hB
 have hbnI : (bn : Int) ≤ 65536 := by omega
 have hMI : (M : Int) ≤ 200000 := by omega
 have hiI : (i : Int) ≤ 65536 := by omega
 have hnI : (n : Int) ≤ 65536 := by omega
 have HFIT : Hid (10 + qn + 2 * sn + bn + (M - bn) + 2 ≤ n ∧ bn ≤ M) := zaa (by omega)
 have HQN : Hid (qn ≤ 65536) := zaa (by omega)
 have HFS := zaa hfs
 clear hst' hbd' hfs hPO hk hv fk fv hbx hc5 hrx hhd hqc hi hbeg hpl hPk hM hMl hbn hapa hapS hapN hapB hB hfit
 go_enter Tryz.func291, Tryz.ntmps291
 go_upto_region 7 with (first | (go_at_call 153; refine zae HSW.out ?_) | (go_at_call 199; refine zae HHD.out ?_) | (go_at_call 293; refine zae HHP.out ?_))
 go_cut [11] from 37 to 45 (fun v u => ∃ ao cp, v = .slice ao M cp ∧ Hid (OwnB u B (.slice ao M cp) body') ∧ Hid (Gr x (.slice bo bn bc) u (.slice ao M cp)))
 case first =>
  go_wp2_with fail
  go_region_with (first | (go_at_call 198; refine (HAP.out _ (by first | exact Br | exact Br.drew | exact zad Br _)).mono ?_; rintro e w1 ⟨ao, cp, rfl, HO1, HG1⟩))
  all_goals (try go_wp2_with fail)
  all_goals go_meet
  all_goals exact ⟨ao, cp, rfl, by first | exact HO1 | exact zaa (HO1.out.on Lr Br.drew) | exact zaa (HO1.out.on Lr (zad Br _)), by first | exact HG1 | exact zaa (HG1.out.trans (Gr.ofBelow _ Br.drew)) | exact zaa (HG1.out.trans (Gr.ofBelow _ (zad Br _)))⟩
 obtain ⟨ao, cp, rfl, HO1, HG1⟩ := hcut
 obtain ⟨w1, hw1⟩ : ∃ w1, w1 = wc := ⟨_, rfl⟩
 subst hw1
 clear z0 z1 z2 z3 z4 c0 c1 c2 c3 c4 c5 HSW HHD HHP HAP
 have HR1 : Hid (QR w1 a k n (.slice qo qn qc) (.slice bo bn bc) (.slice so sn sc) ws) := zaa (HPX.out.row.gr HG1.out HAPA.out.1)
 obtain ⟨Z, hZ⟩ : ∃ Z, 10 + qn + 2 * sn + bn = Z := ⟨_, rfl⟩
 have HFL : Hid (∀ u, Below w1.heap.size w1 u → Calls Tryz.prog 286 #[.pointer (some ⟨a, 0, none⟩)] u fun e w' => e = .returned (.int .i64 (Z : Int)) ∧ w'.cell? ⟨a, 1, none⟩ = some (.int .i64 (n : Int)) ∧ Hid (Below w1.heap.size w1 w')) := by
  refine zaa fun u hu => (zdf u a k n qo qn qc bo bn bc so sn sc ws (zaf HR1.out hu) (by have := HQN.out; omega) (by omega) (by omega)).mono ?_
  rintro e w' ⟨rfl, q, rfl⟩
  rw [hZ]
  have hb := zad hu q
  exact ⟨rfl, (show QR (u.drewN q) a k n (.slice qo qn qc) (.slice bo bn bc) (.slice so sn sc) ws from zaf HR1.out hb).cells.2.1, zaa hb⟩
 have c1 := HR1.out.cells.2.1
 have hbM : (bn : Int) ≤ (M : Int) := by have := HFIT.out; omega
 have hZI : (Z : Int) ≤ 65536 := by have := HFIT.out; omega
 have HZF : Hid (Z + (M - bn) + 2 ≤ n) := zaa (by have := HFIT.out; omega)
 have hZn : ¬ (n : Int) < (Z : Int) + (M : Int) - (bn : Int) + 2 := by have := HZF.out; omega
 clear hZ
 go_upto_region 8 with fail
 go_cut [63] from 46 to 63 (fun v u => v = .bool false ∧ Hid (Below w1.heap.size w1 u))
 case first =>
  go_wp2_with fail
  go_region_with (first | (go_at_call 286; refine (HFL.out _ (by first | exact Br | exact Br.drew | exact zad Br _)).mono ?_; rintro e w2 ⟨rfl, y1, HB2⟩))
  all_goals (try go_wp2_with fail)
  all_goals go_meet
  all_goals exact ⟨by go_unwrap; simp; omega, by first | exact HB2 | exact zaa HB2.out.drew | exact zaa (zad HB2.out _)⟩
 obtain ⟨rfl, HB2⟩ := hcut
 obtain ⟨w2, hw2⟩ : ∃ w2, w2 = wc := ⟨_, rfl⟩
 subst hw2
 clear c1 HFL hZn hZI HZF
 have HW2 : Hid (Below w1.heap.size w1 w2) := HB2
 have HR2 : Hid (QR w2 a k n (.slice qo qn qc) (.slice bo bn bc) (.slice so sn sc) ws) := zaa (zaf HR1.out HB2.out)
 go_wp2_with fail
 go_loopw [12] (fun j wr => j = .int .i64 (i : Int) ∧ wr = w2) (fun _ _ => 0)
 case atStart => exact ⟨rfl, by first | rfl | trivial⟩
 case round =>
  obtain ⟨rfl, rfl⟩ := hrel
  have HSN : Hid (sn = st.length) := zaa HPO.out.on.len
  have HOS2 : Hid (OwnN wr B (.slice so sn sc) st) := zaa ((HPX.out.on.gr HG1.out HAPA.out.2.2.2).below HB2.out)
  obtain ⟨c0, c1, c2, c3, c4, c5⟩ := HR2.out.cells
  have f3 := HR2.out.free 3
  have f4 := HR2.out.free 4
  obtain ⟨u3, hu3⟩ : ∃ u3, (wr.setCell ⟨a, 3, none⟩ (.slice ao M cp)).alloc (.cells #[.int .i64 (bn : Int)] 3) = u3 := ⟨_, rfl⟩
  have hs3 : (wr.setCell ⟨a, 3, none⟩ (.slice ao M cp)).heap.size = wr.heap.size := by simp
  have hb3 : Below (wr.setCell ⟨a, 3, none⟩ (.slice ao M cp)).heap.size (wr.setCell ⟨a, 3, none⟩ (.slice ao M cp)) u3 := by rw [← hu3]; exact zac Br Lr _
  have hcs : Cf (· = a) wr (wr.setCell ⟨a, 3, none⟩ (.slice ao M cp)) := Cf.set _ _ _ _
  have hr2 := HR2.out
  unfold QR at hr2
  have HOB2 := HO1.out.on Lr HB2.out
  have HQ3 : Hid (QR u3 a k n (.slice qo qn qc) (.slice ao M cp) (.slice so sn sc) ws ∧ OwnB u3 B (.slice ao M cp) body' ∧ OwnN u3 B (.slice so sn sc) st ∧ u3.heap.size = wr.heap.size + 1) := zaa ⟨zaf (HR2.out.set3 _) hb3, (HOB2.cf hcs (HOB2.apart hr2 (by decide))).on Lr hb3, (HOS2.out.cf hcs (HOS2.out.apart hr2 (by decide))).below hb3, by rw [← hu3]; simp⟩
  have HRP : Hid (Calls Tryz.prog 187 #[.slice so sn sc, .int .i64 (i : Int), .int .i64 (i : Int), .slice (some ⟨wr.heap.size, 0, none⟩) 1 1] u3 (RN.To u3 B (.slice so sn sc) (i + 1 + (sn - i)) ((NI st).take i ++ NI [bn] ++ (NI st).drop i))) := zaa (by
   have h1 := HQ3.out.2.2.1
   unfold OwnN at h1
   rw [← HSN.out] at h1
   have h2 : u3.ownsRow wr.heap.size 3 1 (.slice (some ⟨wr.heap.size, 0, none⟩) 1 1) 1 (NI [bn]) := own_oneN (fr := (0, 0)) (by rw [← hu3]; have := heap_alloc_last (wr.setCell ⟨a, 3, none⟩ (.slice ao M cp)) (.cells #[.int .i64 (bn : Int)] 3); rw [hs3] at this; exact this) rfl
   refine RN.rep_any u3 B wr.heap.size sn 1 i i _ _ _ _ h1 h2 (NI_one _) (NI_one _) (.inr fun e => ?_) Lr his (by omega) ?_ (.inr (by omega))
   ·have h3 := HOS2.out
    unfold OwnN at h3
    have := (h3.lt wr.heap.size (by rw [← e]; rfl)).2
    omega
   ·have h4 := HQ3.out.2.2.2
    have h5 := HBW.out
    have h6 := HBX.out.size
    have h7 := HG1.out.grow.size
    have h8 := HB2.out.size
    omega)
  have HCA : Hid (Cf (QZ a (.slice bo bn bc) (.slice so sn sc)) w u3) := zaa (((((Cf.of_below HBX.out).go (Cf.ofGr HG1.out (fun g e => .inr (.inl e)))).go (Cf.of_below HB2.out)).go (hcs.wideQ (fun b e => .inl e))).go (Cf.of_below hb3))
  clear hr2 HOB2 hcs hb3
  go_wp2_with (go_at_call 187; refine HRP.out.mono ?_; rintro e w4 ⟨so4, sc4, rfl, HO4, HG4⟩; refine Hid.out ?_)
  apply zaa
  have HR4 : Hid (QR w4 a k n (.slice qo qn qc) (.slice ao M cp) (.slice so sn sc) ws) := zaa (HQ3.out.1.gr HG4.out HAPA.out.2.1)
  clear c0 c1 c2 c3 c4 c5 f3 f4 HRP hu3
  obtain ⟨c0, c1, c2, c3, c4, c5⟩ := HR4.out.cells
  have f4 := HR4.out.free 4
  go_wp2
  go_ret
  have hr4 := HR4.out
  unfold QR at hr4
  have hcs : Cf (· = a) w4 (w4.setCell ⟨a, 4, none⟩ (.slice so4 (i + 1 + (sn - i)) sc4)) := Cf.set _ _ _ _
  obtain ⟨_, qb, qs, _⟩ := HQ3.out
  have hob4 := qb.gr HG4.out (qb.apartN qs)
  have hon4 : OwnN w4 B (.slice so4 (i + 1 + (sn - i)) sc4) st' := by
   unfold OwnN
   rw [← HST'.out, NIq, ← NIq_take, ← NIq_drop]
   have e : (st.take i ++ [bn] ++ st.drop i).length = i + 1 + (sn - i) := by have := HSN.out; simp; omega
   rw [e]
   exact HO4.out
  have hcw : Cf (QZ a (.slice bo bn bc) (.slice so sn sc)) w (w4.setCell ⟨a, 4, none⟩ (.slice so4 (i + 1 + (sn - i)) sc4)) := (HCA.out.go (Cf.ofGr HG4.out (fun g e => .inr (.inr e)))).go (hcs.wideQ (fun b e => .inl e))
  have hpo := HPO.out
  have hfarv := hpo.far
  have hpre : Sl (w4.setCell ⟨a, 4, none⟩ (.slice so4 (i + 1 + (sn - i)) sc4)) qo qn qc P := hpo.pre.cf hcw (by
   rcases hpo.pre.apartQ hpo.row with h | h
   ·exact .inl h
   ·rcases hfarv with h1 | h1
    ·exact .inl h1
    ·rcases HFS.out with h2 | h2
     ·exact .inl h2
     ·right
      intro p hp
      rintro (e | e | e)
      ·exact h p hp e
      ·exact h1 p hp e
      ·exact h2 p hp e)
  have hpre3 : Sl u3 qo qn qc P := hpo.pre.cf HCA.out (by
   rcases hpo.pre.apartQ hpo.row with h | h
   ·exact .inl h
   ·rcases hfarv with h1 | h1
    ·exact .inl h1
    ·rcases HFS.out with h2 | h2
     ·exact .inl h2
     ·right
      intro p hp
      rintro (e | e | e)
      ·exact h p hp e
      ·exact h1 p hp e
      ·exact h2 p hp e)
  have hsz : w.heap.size ≤ u3.heap.size := HCA.out.size
  refine ⟨rfl, zaa ⟨_, _, ⟨HR4.out.set4 _, hpre, hob4.cf hcs (hob4.apart hr4 (by decide)), hon4.cf hcs (hon4.apart hr4 (by decide)), hfarv.gr HPX.out.pre HG1.out, hpo.ha⟩, HFS.out.gr hpre3 HG4.out, HG1.out.own.imp id (fun ⟨g, h1, h2⟩ => ⟨g, h1, zN HBX.out.size h2⟩), HG4.out.own.imp id (fun ⟨g, h1, h2⟩ => ⟨g, h1, zN hsz h2⟩)⟩, zaa hcw⟩
theorem QR.set5 {w : World} {a : Nat} {k n : Int} {vp vb vs : Value} {ws : Int} (h : QR w a k n vp vb vs ws) (x : Int) : QR (w.setCell ⟨a, 5, none⟩ (.int .i64 x)) a k n vp vb vs x := by
 unfold QR at *
 simpa using zam (w := w) (a := a) (i := 5) (cs := [.int .i64 k, .int .i64 n, vp, vb, vs, .int .i64 ws]) (u := .int .i64 x) h
theorem qB_most (m : Nat) (c : Cl) : (qB m c).length ≤ c.key.length + c.val.length + 31 := by
 unfold qB
 have h1 := (zas ((c.key.length - m : Nat) : Int)).1
 have h2 := (zas (c.val.length : Int)).1
 have h3 := (zas (c.pg % 18446744073709551616)).1
 have h4 := (zas (c.ct % 18446744073709551616)).1
 split <;> simp only [zG, List.length_cons, List.length_nil, zK] <;> omega
theorem full_ins (w : World) (B a : Nat) (k : Int) (n : Nat) (po : Option Addr) (pn pc : Nat) (bo : Option Addr) (bn bc : Nat) (so : Option Addr) (sn sc : Nat) (ws : Int) (P body : List Int) (st : List Nat)
  (hPO : PO w B a k n po pn pc (.slice bo bn bc) (.slice so sn sc) ws P body st) (hbb : bn ≤ 65536) (hss : sn ≤ 65536) (hB : B ≤ w.heap.size) (i : Nat) (hi : ¬ (k = 3 ∧ i = 0)) (his : i ≤ sn) (hn : n ≤ 65536)
  (c : Cl) (ka va : Option Addr) (kc vc : Nat) (hk : Sl w ka c.key.length kc c.key) (hv : Sl w va c.val.length vc c.val) (fk : Far ka c.key.length (.slice bo bn bc)) (fv : Far va c.val.length (.slice bo bn bc)) (hkl : c.key.length ≤ 65536) (hvl : c.val.length ≤ 65536)
  (hbeg : c.key.take P.length = P) (hfull : n < 10 + pn + 2 * sn + bn + (qB P.length c).length + 2) (hfit : 10 + pn + 2 * sn + bn ≤ n) :
  Calls Tryz.prog 291 #[.pointer (some ⟨a, 0, none⟩), .int .i64 (i : Int), .int .i64 (i : Int), .agg #[.slice ka c.key.length kc, .int .i64 c.kd, .slice va c.val.length vc, .int .i64 c.pg, .int .i64 c.ct]] w
   (fun e w' => e = .returned (.bool false) ∧ Hid (PO w' B a k n po pn pc (.slice bo bn bc) (.slice so sn sc) ws P body st) ∧ Hid (Cf (fun b => (Value.slice bo bn bc).ownBlock = some b) w w')) := by
 have hpl := hPO.pre.hlen
 have hPk : P.length ≤ c.key.length := by rw [← hbeg, zJ]; omega
 obtain ⟨x, hx⟩ : ∃ x, w.alloc (.cells #[.slice ka c.key.length kc, .int .i64 c.kd, .slice va c.val.length vc, .int .i64 c.pg, .int .i64 c.ct] 43) = x := ⟨_, rfl⟩
 have hbx : Below w.heap.size w x := by rw [← hx]; exact zac Br Lr _
 obtain ⟨s, hs⟩ : ∃ s, w.heap.size = s := ⟨_, rfl⟩
 have hc5 : C5 x s (.slice ka c.key.length kc) (.int .i64 c.kd) (.slice va c.val.length vc) (.int .i64 c.pg) (.int .i64 c.ct) := by rw [← hx, ← hs]; exact C5.box _ _ _ _ _ _
 obtain ⟨z0, z1, z2, z3, z4⟩ := hc5.cells
 have hrx : QR x a k n (.slice po pn pc) (.slice bo bn bc) (.slice so sn sc) ws := zaf hPO.row hbx
 obtain ⟨c0, c1, c2, c3, c4, c5⟩ := hrx.cells
 obtain ⟨qo, qn, qc, hqc, hhd⟩ := zcw k i po pn pc
 obtain ⟨rfl, rfl, rfl⟩ : qo = po ∧ qn = pn ∧ qc = pc := by
  rcases hqc with ⟨_, _, _, h4⟩ | ⟨h1, h2, h3, _⟩
  ·exact absurd h4 hi
  ·exact ⟨h1, h2, h3⟩
 have HHD := zaa (hhd x a n _ _ ws hrx)
 have HSW : Hid (Calls Tryz.prog 153 #[.int .i64 k, .int .i64 (i : Int)] x fun e w' => e = .returned (.bool false) ∧ w' = x) := zaa (by
  have := zba k (i : Int) x
  rwa [decide_eq_false (show ¬ (k = 3 ∧ (i : Int) = 0) by omega)] at this)
 have HHP : Hid (Calls Tryz.prog 293 #[.slice ka c.key.length kc, .slice qo qn qc] x fun e w' => e = .returned (.bool true) ∧ w' = x) := zaa (by
  have := zcx ka qo c.key.length qn kc qc c.key P x (hk.on Lr hbx) (hPO.pre.on Lr hbx)
  rwa [decide_eq_true hbeg] at this)
 obtain ⟨M, hM⟩ : ∃ M, (body ++ qB P.length c).length = M := ⟨_, rfl⟩
 have hbn : bn = body.length := hPO.ob.len
 have hMl : M = bn + (qB P.length c).length := by rw [← hM, zG, hbn]
 have HAP : Hid (∀ u, Below x.heap.size x u → Calls Tryz.prog 198 #[.agg (eV none 0 0 ka c.key.length kc c.kd va c.val.length vc c.pg c.ct), .slice bo bn bc, .int .i64 (qn : Int)] u fun e w' => ∃ ao cp, e = .returned (.slice ao M cp) ∧ Hid (OwnB w' B (.slice ao M cp) (body ++ qB P.length c)) ∧ Hid (Gs x (.slice bo bn bc) w' (.slice ao M cp))) := by
  refine zaa fun u hu => ?_
  have hwu := zab hbx Lr hu
  have h := eappended2 (.slice bo bn bc) B body none 0 0 ka c.key.length kc c.kd va c.val.length vc c.pg c.ct [] c.key c.val P.length u (hPO.ob.on Lr hwu) (zN hB hwu.size) (Sl.nil_any _ _ _ fun _ => rfl) (hk.on Lr hwu) (hv.on Lr hwu) (.inl rfl) fk fv (by omega) (by omega)
  rw [hpl] at h
  refine h.mono ?_
  rintro e w' ⟨v', rfl, HO, HG⟩
  obtain ⟨ao, cp, rfl⟩ := HO.out.shape
  have e1 : (body ++ qB qn ⟨[] ++ c.key, c.kd, c.val, c.pg, c.ct⟩).length = M := by rw [← hM, hpl]; rfl
  rw [e1] at HO HG ⊢
  refine ⟨ao, cp, rfl, zaa ?_, zaa ((Gs.ofBelow _ hu).trans HG.out)⟩
  rw [hpl]
  exact HO.out
 have hapa : (Value.slice bo bn bc).ownBlock ≠ some a := by
  have := hPO.row
  unfold QR at this
  exact hPO.ob.apart this (by decide)
 have hapS : (Value.slice so sn sc).ownBlock ≠ some a := by
  have := hPO.row
  unfold QR at this
  exact hPO.on.apart this (by decide)
 have hapN := hPO.ob.apartN hPO.on
 have hapB := hPO.on.apartB hPO.ob
 have HPO := zaa hPO
 have HPX := zaa (hPO.go hbx)
 have HBX := zaa hbx
 have HAPA := zaa (And.intro hapa (And.intro hapS (And.intro hapN hapB)))
 have HPL := zaa hpl
 have HM := zaa hM
 have HBN := zaa hbn
 have HS := zaa hs
 obtain ⟨body', hbd'⟩ : ∃ body', body ++ qB P.length c = body' := ⟨_, rfl⟩
 rw [hbd'] at HAP HM
 have HBD' := zaa hbd'
 have HBW := zaa hB
 have hbnI : (bn : Int) ≤ 65536 := by omega
 have hMI : (M : Int) ≤ 200000 := by have := qB_most P.length c; omega
 have hiI : (i : Int) ≤ 65536 := by omega
 have hnI : (n : Int) ≤ 65536 := by omega
 have HFIT : Hid (n < 10 + qn + 2 * sn + bn + (M - bn) + 2 ∧ bn ≤ M ∧ 10 + qn + 2 * sn + bn ≤ n) := zaa (by omega)
 have HQN : Hid (qn ≤ 65536) := zaa (by omega)
 clear hbd' hPO hk hv fk fv hbx hc5 hrx hhd hqc hi hbeg hpl hPk hM hMl hbn hapa hapS hapN hapB hB hfit hfull
 go_enter Tryz.func291, Tryz.ntmps291
 go_upto_region 7 with (first | (go_at_call 153; refine zae HSW.out ?_) | (go_at_call 199; refine zae HHD.out ?_) | (go_at_call 293; refine zae HHP.out ?_))
 go_cut [11] from 37 to 45 (fun v u => ∃ ao cp, v = .slice ao M cp ∧ Hid (OwnB u B (.slice ao M cp) body') ∧ Hid (Gs x (.slice bo bn bc) u (.slice ao M cp)))
 case first =>
  go_wp2_with fail
  go_region_with (first | (go_at_call 198; refine (HAP.out _ (by first | exact Br | exact Br.drew | exact zad Br _)).mono ?_; rintro e w1 ⟨ao, cp, rfl, HO1, HG1⟩))
  all_goals (try go_wp2_with fail)
  all_goals go_meet
  all_goals exact ⟨ao, cp, rfl, by first | exact HO1 | exact zaa (HO1.out.on Lr Br.drew) | exact zaa (HO1.out.on Lr (zad Br _)), by first | exact HG1 | exact zaa (HG1.out.trans (Gs.ofBelow _ Br.drew)) | exact zaa (HG1.out.trans (Gs.ofBelow _ (zad Br _)))⟩
 obtain ⟨ao, cp, rfl, HO1, HG1⟩ := hcut
 obtain ⟨w1, hw1⟩ : ∃ w1, w1 = wc := ⟨_, rfl⟩
 subst hw1
 clear z0 z1 z2 z3 z4 c0 c1 c2 c3 c4 c5 HSW HHD HHP HAP
 have HR1 : Hid (QR w1 a k n (.slice qo qn qc) (.slice bo bn bc) (.slice so sn sc) ws) := zaa (HPX.out.row.gr HG1.out.toGr HAPA.out.1)
 obtain ⟨Z, hZ⟩ : ∃ Z, 10 + qn + 2 * sn + bn = Z := ⟨_, rfl⟩
 have HFL : Hid (∀ u, Below w1.heap.size w1 u → Calls Tryz.prog 286 #[.pointer (some ⟨a, 0, none⟩)] u fun e w' => e = .returned (.int .i64 (Z : Int)) ∧ w'.cell? ⟨a, 1, none⟩ = some (.int .i64 (n : Int)) ∧ Hid (Below w1.heap.size w1 w')) := by
  refine zaa fun u hu => (zdf u a k n qo qn qc bo bn bc so sn sc ws (zaf HR1.out hu) (by have := HQN.out; omega) (by omega) (by omega)).mono ?_
  rintro e w' ⟨rfl, q, rfl⟩
  rw [hZ]
  have hb := zad hu q
  exact ⟨rfl, (show QR (u.drewN q) a k n (.slice qo qn qc) (.slice bo bn bc) (.slice so sn sc) ws from zaf HR1.out hb).cells.2.1, zaa hb⟩
 have c1 := HR1.out.cells.2.1
 have hbM : (bn : Int) ≤ (M : Int) := by have := HFIT.out; omega
 have hZI : (Z : Int) ≤ 65536 := by have := HFIT.out; omega
 have hZn : (n : Int) < (Z : Int) + (M : Int) - (bn : Int) + 2 := by have := HFIT.out; omega
 clear hZ
 go_upto_region 8 with fail
 go_cut [63] from 46 to 63 (fun v u => v = .bool true ∧ Hid (Below w1.heap.size w1 u))
 case first =>
  go_wp2_with fail
  go_region_with (first | (go_at_call 286; refine (HFL.out _ (by first | exact Br | exact Br.drew | exact zad Br _)).mono ?_; rintro e w2 ⟨rfl, y1, HB2⟩))
  all_goals (try go_wp2_with fail)
  all_goals go_meet
  all_goals exact ⟨by go_unwrap; simp; omega, by first | exact HB2 | exact zaa HB2.out.drew | exact zaa (zad HB2.out _)⟩
 obtain ⟨rfl, HB2⟩ := hcut
 obtain ⟨w2, hw2⟩ : ∃ w2, w2 = wc := ⟨_, rfl⟩
 subst hw2
 clear c1 HFL hZn hZI
 go_wp2
 go_ret
 have hpo := HPX.out
 have hold := (HG1.out.old B (.slice bo bn bc) body hpo.ob (fun C m g hm _ _ => by rw [hpo.ob.one7 hm]; exact List.prefix_refl _)).1
 have hcw : Cf (fun b => (Value.slice bo bn bc).ownBlock = some b) x w2 := (Cf.ofGr HG1.out.toGr (fun g e => e)).go (Cf.of_below HB2.out)
 refine ⟨rfl, zaa ⟨zaf HR1.out HB2.out, hpo.pre.cf hcw ?_, hold.on Lr HB2.out, (hpo.on.gr HG1.out.toGr HAPA.out.2.2.2).below HB2.out, hpo.far, hpo.ha⟩, zaa ((Cf.of_below HBX.out).go hcw)⟩
 rcases hpo.far with h1 | h1
 ·exact .inl h1
 ·exact .inr fun p hp e => h1 p hp e
theorem full_set (w : World) (B a : Nat) (k : Int) (n : Nat) (po : Option Addr) (pn pc : Nat) (bo : Option Addr) (bn bc : Nat) (so : Option Addr) (sn sc : Nat) (ws : Int) (P body : List Int) (st : List Nat)
  (hPO : PO w B a k n po pn pc (.slice bo bn bc) (.slice so sn sc) ws P body st) (hbb : bn ≤ 65536) (hss : sn ≤ 65536) (hB : B ≤ w.heap.size) (i j : Nat) (hij : i + 1 = j) (his : j ≤ sn) (H : List Int) (hH : (if k = 3 ∧ i = 0 then [] else P) = H) (hn : n ≤ 65536)
  (c : Cl) (ka va : Option Addr) (kc vc : Nat) (hk : Sl w ka c.key.length kc c.key) (hv : Sl w va c.val.length vc c.val) (fk : Far ka c.key.length (.slice bo bn bc)) (fv : Far va c.val.length (.slice bo bn bc)) (hkl : c.key.length ≤ 65536) (hvl : c.val.length ≤ 65536)
  (hbeg : c.key.take H.length = H) (hfull : n < 10 + pn + 2 * sn + bn + (qB H.length c).length) (hfit : 10 + pn + 2 * sn + bn ≤ n) :
  Calls Tryz.prog 291 #[.pointer (some ⟨a, 0, none⟩), .int .i64 (i : Int), .int .i64 (j : Int), .agg #[.slice ka c.key.length kc, .int .i64 c.kd, .slice va c.val.length vc, .int .i64 c.pg, .int .i64 c.ct]] w
   (fun e w' => e = .returned (.bool false) ∧ Hid (PO w' B a k n po pn pc (.slice bo bn bc) (.slice so sn sc) ws P body st) ∧ Hid (Cf (fun b => (Value.slice bo bn bc).ownBlock = some b) w w')) := by
 have hpl := hPO.pre.hlen
 have hPk : H.length ≤ c.key.length := by rw [← hbeg, zJ]; omega
 obtain ⟨x, hx⟩ : ∃ x, w.alloc (.cells #[.slice ka c.key.length kc, .int .i64 c.kd, .slice va c.val.length vc, .int .i64 c.pg, .int .i64 c.ct] 43) = x := ⟨_, rfl⟩
 have hbx : Below w.heap.size w x := by rw [← hx]; exact zac Br Lr _
 obtain ⟨s, hs⟩ : ∃ s, w.heap.size = s := ⟨_, rfl⟩
 have hc5 : C5 x s (.slice ka c.key.length kc) (.int .i64 c.kd) (.slice va c.val.length vc) (.int .i64 c.pg) (.int .i64 c.ct) := by rw [← hx, ← hs]; exact C5.box _ _ _ _ _ _
 obtain ⟨z0, z1, z2, z3, z4⟩ := hc5.cells
 have hrx : QR x a k n (.slice po pn pc) (.slice bo bn bc) (.slice so sn sc) ws := zaf hPO.row hbx
 obtain ⟨c0, c1, c2, c3, c4, c5⟩ := hrx.cells
 obtain ⟨qo, qn, qc, hqc, hhd⟩ := zcw k i po pn pc
 have hHl : H.length = qn := by
  rw [← hH]
  rcases hqc with ⟨_, h2, _, h4⟩ | ⟨_, h2, _, h4⟩
  ·rw [if_pos h4, h2]; rfl
  ·rw [if_neg h4, h2]; exact hpl
 have hHs : Sl w qo qn qc H := by
  rw [← hH]
  rcases hqc with ⟨h1, h2, h3, h4⟩ | ⟨h1, h2, h3, h4⟩
  ·rw [if_pos h4, h1, h2, h3]; exact Sl.nil_any _ _ _ fun _ => rfl
  ·rw [if_neg h4, h1, h2, h3]; exact hPO.pre
 have HHD := zaa (hhd x a n _ _ ws hrx)
 have HHP : Hid (Calls Tryz.prog 293 #[.slice ka c.key.length kc, .slice qo qn qc] x fun e w' => e = .returned (.bool true) ∧ w' = x) := zaa (by
  have := zcx ka qo c.key.length qn kc qc c.key H x (hk.on Lr hbx) (hHs.on Lr hbx)
  rwa [decide_eq_true hbeg] at this)
 obtain ⟨M, hM⟩ : ∃ M, (body ++ qB H.length c).length = M := ⟨_, rfl⟩
 have hbn : bn = body.length := hPO.ob.len
 have hMl : M = bn + (qB H.length c).length := by rw [← hM, zG, hbn]
 have HAP : Hid (∀ u, Below x.heap.size x u → Calls Tryz.prog 198 #[.agg (eV none 0 0 ka c.key.length kc c.kd va c.val.length vc c.pg c.ct), .slice bo bn bc, .int .i64 (qn : Int)] u fun e w' => ∃ ao cp, e = .returned (.slice ao M cp) ∧ Hid (OwnB w' B (.slice ao M cp) (body ++ qB H.length c)) ∧ Hid (Gs x (.slice bo bn bc) w' (.slice ao M cp))) := by
  refine zaa fun u hu => ?_
  have hwu := zab hbx Lr hu
  have h := eappended2 (.slice bo bn bc) B body none 0 0 ka c.key.length kc c.kd va c.val.length vc c.pg c.ct [] c.key c.val H.length u (hPO.ob.on Lr hwu) (zN hB hwu.size) (Sl.nil_any _ _ _ fun _ => rfl) (hk.on Lr hwu) (hv.on Lr hwu) (.inl rfl) fk fv (by omega) (by omega)
  rw [hHl] at h
  refine h.mono ?_
  rintro e w' ⟨v', rfl, HO, HG⟩
  obtain ⟨ao, cp, rfl⟩ := HO.out.shape
  have e1 : (body ++ qB qn ⟨[] ++ c.key, c.kd, c.val, c.pg, c.ct⟩).length = M := by rw [← hM, hHl]; rfl
  rw [e1] at HO HG ⊢
  refine ⟨ao, cp, rfl, zaa ?_, zaa ((Gs.ofBelow _ hu).trans HG.out)⟩
  rw [hHl]
  exact HO.out
 have hapa : (Value.slice bo bn bc).ownBlock ≠ some a := by
  have := hPO.row
  unfold QR at this
  exact hPO.ob.apart this (by decide)
 have hapS : (Value.slice so sn sc).ownBlock ≠ some a := by
  have := hPO.row
  unfold QR at this
  exact hPO.on.apart this (by decide)
 have hapN := hPO.ob.apartN hPO.on
 have hapB := hPO.on.apartB hPO.ob
 have HPO := zaa hPO
 have HPX := zaa (hPO.go hbx)
 have HBX := zaa hbx
 have HAPA := zaa (And.intro hapa (And.intro hapS (And.intro hapN hapB)))
 have HPL := zaa hpl
 have HM := zaa hM
 have HBN := zaa hbn
 have HS := zaa hs
 obtain ⟨body', hbd'⟩ : ∃ body', body ++ qB H.length c = body' := ⟨_, rfl⟩
 rw [hbd'] at HAP HM
 have HBD' := zaa hbd'
 have HBW := zaa hB
 have hbnI : (bn : Int) ≤ 65536 := by omega
 have hMI : (M : Int) ≤ 200000 := by have := qB_most H.length c; omega
 have hiI : (i : Int) ≤ 65536 := by omega
 have hjI : (j : Int) ≤ 65536 := by omega
 have hltI : (i : Int) < (j : Int) := by omega
 have hneI : ¬ (i : Int) = (j : Int) := by omega
 have HIJ := zaa hij
 have hnI : (n : Int) ≤ 65536 := by omega
 have HFIT : Hid (n < 10 + pn + 2 * sn + bn + (M - bn) ∧ bn ≤ M ∧ 10 + pn + 2 * sn + bn ≤ n) := zaa (by omega)
 have HQN : Hid (pn ≤ 65536) := zaa (by omega)
 clear hbd' hPO hk hv fk fv hbx hc5 hrx hhd hqc hbeg hpl hPk hHl hHs hH hM hMl hbn hapa hapS hapN hapB hB hfit hfull
 go_enter Tryz.func291, Tryz.ntmps291
 go_upto_region 7 with (first | (go_at_call 199; refine zae HHD.out ?_) | (go_at_call 293; refine zae HHP.out ?_))
 go_cut [11] from 37 to 45 (fun v u => ∃ ao cp, v = .slice ao M cp ∧ Hid (OwnB u B (.slice ao M cp) body') ∧ Hid (Gs x (.slice bo bn bc) u (.slice ao M cp)))
 case first =>
  go_wp2_with fail
  go_region_with (first | (go_at_call 198; refine (HAP.out _ (by first | exact Br | exact Br.drew | exact zad Br _)).mono ?_; rintro e w1 ⟨ao, cp, rfl, HO1, HG1⟩))
  all_goals (try go_wp2_with fail)
  all_goals go_meet
  all_goals exact ⟨ao, cp, rfl, by first | exact HO1 | exact zaa (HO1.out.on Lr Br.drew) | exact zaa (HO1.out.on Lr (zad Br _)), by first | exact HG1 | exact zaa (HG1.out.trans (Gs.ofBelow _ Br.drew)) | exact zaa (HG1.out.trans (Gs.ofBelow _ (zad Br _)))⟩
 obtain ⟨ao, cp, rfl, HO1, HG1⟩ := hcut
 obtain ⟨w1, hw1⟩ : ∃ w1, w1 = wc := ⟨_, rfl⟩
 subst hw1
 clear z0 z1 z2 z3 z4 c0 c1 c2 c3 c4 c5 HHD HHP HAP
 have HR1 : Hid (QR w1 a k n (.slice po pn pc) (.slice bo bn bc) (.slice so sn sc) ws) := zaa (HPX.out.row.gr HG1.out.toGr HAPA.out.1)
 obtain ⟨Z, hZ⟩ : ∃ Z, 10 + pn + 2 * sn + bn = Z := ⟨_, rfl⟩
 have HFL : Hid (∀ u, Below w1.heap.size w1 u → Calls Tryz.prog 286 #[.pointer (some ⟨a, 0, none⟩)] u fun e w' => e = .returned (.int .i64 (Z : Int)) ∧ w'.cell? ⟨a, 1, none⟩ = some (.int .i64 (n : Int)) ∧ Hid (Below w1.heap.size w1 w')) := by
  refine zaa fun u hu => (zdf u a k n po pn pc bo bn bc so sn sc ws (zaf HR1.out hu) (by have := HQN.out; omega) (by omega) (by omega)).mono ?_
  rintro e w' ⟨rfl, q, rfl⟩
  rw [hZ]
  have hb := zad hu q
  exact ⟨rfl, (show QR (u.drewN q) a k n (.slice po pn pc) (.slice bo bn bc) (.slice so sn sc) ws from zaf HR1.out hb).cells.2.1, zaa hb⟩
 have c1 := HR1.out.cells.2.1
 have hbM : (bn : Int) ≤ (M : Int) := by have := HFIT.out; omega
 have hZI : (Z : Int) ≤ 65536 := by have := HFIT.out; omega
 have hZn : (n : Int) < (Z : Int) + (M : Int) - (bn : Int) := by have := HFIT.out; omega
 clear hZ
 go_upto_region 8 with fail
 go_cut [63] from 46 to 63 (fun v u => v = .bool true ∧ Hid (Below w1.heap.size w1 u))
 case first =>
  go_wp2_with fail
  go_region_with (first | (go_at_call 286; refine (HFL.out _ (by first | exact Br | exact Br.drew | exact zad Br _)).mono ?_; rintro e w2 ⟨rfl, y1, HB2⟩))
  all_goals (try go_wp2_with fail)
  all_goals go_meet
  all_goals exact ⟨by go_unwrap; simp; have := HIJ.out; omega, by first | exact HB2 | exact zaa HB2.out.drew | exact zaa (zad HB2.out _)⟩
 obtain ⟨rfl, HB2⟩ := hcut
 obtain ⟨w2, hw2⟩ : ∃ w2, w2 = wc := ⟨_, rfl⟩
 subst hw2
 clear c1 HFL hZn hZI
 go_wp2
 go_ret
 have hpo := HPX.out
 have hold := (HG1.out.old B (.slice bo bn bc) body hpo.ob (fun C m g hm _ _ => by rw [hpo.ob.one7 hm]; exact List.prefix_refl _)).1
 have hcw : Cf (fun b => (Value.slice bo bn bc).ownBlock = some b) x w2 := (Cf.ofGr HG1.out.toGr (fun g e => e)).go (Cf.of_below HB2.out)
 refine ⟨rfl, zaa ⟨zaf HR1.out HB2.out, hpo.pre.cf hcw ?_, hold.on Lr HB2.out, (hpo.on.gr HG1.out.toGr HAPA.out.2.2.2).below HB2.out, hpo.far, hpo.ha⟩, zaa ((Cf.of_below HBX.out).go hcw)⟩
 rcases hpo.far with h1 | h1
 ·exact .inl h1
 ·exact .inr fun p hp e => h1 p hp e
end Go.Proofs.YtofafbmpbkjhnaaGreatDoor
