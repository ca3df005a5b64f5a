import Derived.Test.YtbkhjeacmmbabaaGreatDoorJ38
import Derived.Handy
import Derived.BigQuiet
import Derived.Test.YtbkhjeacmmbabaaGreatDoorJ37
namespace Go.Proofs.YtbkhjeacmmbabaaGreatDoor
set_option maxRecDepth 100000
set_option maxHeartbeats 4000000
open Go.RowKit
def QZ (a : Nat) (vb vs : Value) (b : Nat) : Prop := b = a ∨ vb.ownBlock = some b ∨ vs.ownBlock = some b
theorem own_oneN {w : World} {g : Nat} {x : Nat} {fr : Nat × Nat} (h : w.heap[g]? = some (.cells #[.int .i64 (x : Int)] 3 fr)) (hf : fr = (0, 0)) : w.ownsRow g 3 1 (.slice (some ⟨g, 0, none⟩) 1 1) 1 (NI [x]) := by
 subst hf
 refine ⟨by simp [NI], .inr ⟨g, 1, _, rfl, Lr, h, Lr, by unfold maxLen; omega, by simp, ?_⟩⟩
 simp [NI]
theorem NIq (a b c : List Nat) : NI (a ++ b ++ c) = NI a ++ NI b ++ NI c := by simp [NI]
theorem NIq_take (l : List Nat) (n : Nat) : (NI l).take n = NI (l.take n) := by simp [NI, List.map_take]
theorem NIq_drop (l : List Nat) (n : Nat) : (NI l).drop n = NI (l.drop n) := by simp [NI, List.map_drop]
def QuTo (w : World) (B a : Nat) (k : Int) (n : Nat) (po : Option Addr) (pn pc : Nat) (vb vs : Value) (ws : Int) (P body : List Int) (st : List Nat) (r : Value) (e : Ending) (w' : World) : Prop :=
 e = .returned r ∧ Hid (∃ vb' vs', PO w' B a k n po pn pc vb' vs' ws P body st ∧ Far po pn vs' ∧ (vb'.ownBlock = vb.ownBlock ∨ ∃ g, vb'.ownBlock = some g ∧ w.heap.size ≤ g) ∧ (vs'.ownBlock = vs.ownBlock ∨ ∃ g, vs'.ownBlock = some g ∧ w.heap.size ≤ g)) ∧ Hid (Cf (QZ a vb vs) w w')
theorem Cf.wideQ {F G : Nat → Prop} {w w' : World} (h : Cf F w w') (hf : ∀ b, F b → G b) : Cf G w w' := ⟨h.os, h.tape, h.output, h.size, fun k hk hg => h.block k hk (fun e => hg (hf k e))⟩
theorem inPlace_ins (w : World) (B a : Nat) (k : Int) (n : Nat) (po : Option Addr) (pn pc : Nat) (bo : Option Addr) (bn bc : Nat) (so : Option Addr) (sn sc : Nat) (ws : Int) (P body : List Int) (st : List Nat)
  (hPO : PO w B a k n po pn pc (.slice bo bn bc) (.slice so sn sc) ws P body st) (hbb : bn ≤ 65536) (hss : sn ≤ 65536) (hB : B ≤ w.heap.size) (i : Nat) (hi : ¬ (k = 3 ∧ i = 0)) (his : i ≤ sn) (hn : n ≤ 65536)
  (c : Cl) (ka va : Option Addr) (kc vc : Nat) (hk : Sl w ka c.key.length kc c.key) (hv : Sl w va c.val.length vc c.val) (fk : Far ka c.key.length (.slice bo bn bc)) (fv : Far va c.val.length (.slice bo bn bc)) (hkl : c.key.length ≤ 65536) (hvl : c.val.length ≤ 65536)
  (hbeg : c.key.take P.length = P) (hfs : Far po pn (.slice so sn sc)) (hfit : 10 + pn + 2 * sn + bn + (qB P.length c).length + 2 ≤ n) :
  Calls Tryz.prog 247 #[.pointer (some ⟨a, 0, none⟩), .int .i64 (i : Int), .int .i64 (i : Int), .agg #[.slice ka c.key.length kc, .int .i64 c.kd, .slice va c.val.length vc, .int .i64 c.pg, .int .i64 c.ct]] w
   (QuTo w B a k n po pn pc (.slice bo bn bc) (.slice so sn sc) ws P (body ++ qB P.length c) (st.take i ++ [bn] ++ st.drop i) (.bool true)) := by
 have hpl := hPO.pre.hlen
 have hPk : P.length ≤ c.key.length := by rw [← hbeg, zJ]; omega
 obtain ⟨x, hx⟩ : ∃ x, w.alloc (.cells #[.slice ka c.key.length kc, .int .i64 c.kd, .slice va c.val.length vc, .int .i64 c.pg, .int .i64 c.ct] 50) = x := ⟨_, rfl⟩
 have hbx : Below w.heap.size w x := by rw [← hx]; exact zad Br Lr _
 obtain ⟨s, hs⟩ : ∃ s, w.heap.size = s := ⟨_, rfl⟩
 have hc5 : C5 x s (.slice ka c.key.length kc) (.int .i64 c.kd) (.slice va c.val.length vc) (.int .i64 c.pg) (.int .i64 c.ct) := by rw [← hx, ← hs]; exact C5.box _ _ _ _ _ _
 obtain ⟨z0, z1, z2, z3, z4⟩ := hc5.cells
 have hrx : QR x a k n (.slice po pn pc) (.slice bo bn bc) (.slice so sn sc) ws := zag hPO.row hbx
 obtain ⟨c0, c1, c2, c3, c4, c5⟩ := hrx.cells
 obtain ⟨qo, qn, qc, hqc, hhd⟩ := head_row k i po pn pc
 obtain ⟨rfl, rfl, rfl⟩ : qo = po ∧ qn = pn ∧ qc = pc := by
  rcases hqc with ⟨_, _, _, h4⟩ | ⟨h1, h2, h3, _⟩
  ·exact absurd h4 hi
  ·exact ⟨h1, h2, h3⟩
 have HHD := zaa (hhd x a n _ _ ws hrx)
 have HSW : Hid (Calls Tryz.prog 82 #[.int .i64 k, .int .i64 (i : Int)] x fun e w' => e = .returned (.bool false) ∧ w' = x) := zaa (by
  have := zdm k (i : Int) x
  rwa [decide_eq_false (show ¬ (k = 3 ∧ (i : Int) = 0) by omega)] at this)
 have HHP : Hid (Calls Tryz.prog 250 #[.slice ka c.key.length kc, .slice qo qn qc] x fun e w' => e = .returned (.bool true) ∧ w' = x) := zaa (by
  have := hasPrefix_any ka qo c.key.length qn kc qc c.key P x (hk.on Lr hbx) (hPO.pre.on Lr hbx)
  rwa [decide_eq_true hbeg] at this)
 obtain ⟨M, hM⟩ : ∃ M, (body ++ qB P.length c).length = M := ⟨_, rfl⟩
 have hbn : bn = body.length := hPO.ob.len
 have hMl : M = bn + (qB P.length c).length := by rw [← hM, zG, hbn]
 have HAP : Hid (∀ u, Below x.heap.size x u → Calls Tryz.prog 126 #[.agg (eV none 0 0 ka c.key.length kc c.kd va c.val.length vc c.pg c.ct), .slice bo bn bc, .int .i64 (qn : Int)] u fun e w' => ∃ ao cp, e = .returned (.slice ao M cp) ∧ Hid (OwnB w' B (.slice ao M cp) (body ++ qB P.length c)) ∧ Hid (Gr x (.slice bo bn bc) w' (.slice ao M cp))) := by
  refine zaa fun u hu => ?_
  have hwu := zae hbx Lr hu
  have h := eappended_any (.slice bo bn bc) B body none 0 0 ka c.key.length kc c.kd va c.val.length vc c.pg c.ct [] c.key c.val P.length u (hPO.ob.on Lr hwu) (zN hB hwu.size) (Sl.nil_any _ _ _ fun _ => rfl) (hk.on Lr hwu) (hv.on Lr hwu) (.inl rfl) fk fv (by omega) (by omega)
  rw [hpl] at h
  refine h.mono ?_
  rintro e w' ⟨v', rfl, HO, HG⟩
  obtain ⟨ao, cp, rfl⟩ := HO.out.shape
  have e1 : (body ++ qB qn ⟨[] ++ c.key, c.kd, c.val, c.pg, c.ct⟩).length = M := by rw [← hM, hpl]; rfl
  rw [e1] at HO HG ⊢
  refine ⟨ao, cp, rfl, zaa ?_, zaa ((Gr.ofBelow _ hu).trans HG.out)⟩
  rw [hpl]
  exact HO.out
 have hapa : (Value.slice bo bn bc).ownBlock ≠ some a := by
  have := hPO.row
  unfold QR at this
  exact hPO.ob.apart this (by decide)
 have hapS : (Value.slice so sn sc).ownBlock ≠ some a := by
  have := hPO.row
  unfold QR at this
  exact hPO.on.apart this (by decide)
 have hapN := hPO.ob.apartN hPO.on
 have hapB := hPO.on.apartB hPO.ob
 have HPO := zaa hPO
 have HPX := zaa (hPO.go hbx)
 have HBX := zaa hbx
 have HAPA := zaa (And.intro hapa (And.intro hapS (And.intro hapN hapB)))
 have HPL := zaa hpl
 have HM := zaa hM
 have HBN := zaa hbn
 have HS := zaa hs
 obtain ⟨st', hst'⟩ : ∃ st', st.take i ++ [bn] ++ st.drop i = st' := ⟨_, rfl⟩
 obtain ⟨body', hbd'⟩ : ∃ body', body ++ qB P.length c = body' := ⟨_, rfl⟩
 rw [hst', hbd']
 rw [hbd'] at HAP HM
 have HST' := zaa hst'
 have HBD' := zaa hbd'
 have HBW := zaa hB
 have hbnI : (bn : Int) ≤ 65536 := by omega
 have hMI : (M : Int) ≤ 200000 := by omega
 have hiI : (i : Int) ≤ 65536 := by omega
 have hnI : (n : Int) ≤ 65536 := by omega
 have HFIT : Hid (10 + qn + 2 * sn + bn + (M - bn) + 2 ≤ n ∧ bn ≤ M) := zaa (by omega)
 have HQN : Hid (qn ≤ 65536) := zaa (by omega)
 have HFS := zaa hfs
 clear hst' hbd' hfs hPO hk hv fk fv hbx hc5 hrx hhd hqc hi hbeg hpl hPk hM hMl hbn hapa hapS hapN hapB hB hfit
 go_enter Tryz.func247, Tryz.ntmps247
 go_upto_region 7 with (first | (go_at_call 82; refine zac HSW.out ?_) | (go_at_call 127; refine zac HHD.out ?_) | (go_at_call 250; refine zac HHP.out ?_))
 go_cut [11] from 37 to 45 (fun v u => ∃ ao cp, v = .slice ao M cp ∧ Hid (OwnB u B (.slice ao M cp) body') ∧ Hid (Gr x (.slice bo bn bc) u (.slice ao M cp)))
 case first =>
  go_wp2_with fail
  go_region_with (first | (go_at_call 126; refine (HAP.out _ (by first | exact Br | exact Br.drew | exact zab Br _)).mono ?_; rintro e w1 ⟨ao, cp, rfl, HO1, HG1⟩))
  all_goals (try go_wp2_with fail)
  all_goals go_meet
  all_goals exact ⟨ao, cp, rfl, by first | exact HO1 | exact zaa (HO1.out.on Lr Br.drew) | exact zaa (HO1.out.on Lr (zab Br _)), by first | exact HG1 | exact zaa (HG1.out.trans (Gr.ofBelow _ Br.drew)) | exact zaa (HG1.out.trans (Gr.ofBelow _ (zab Br _)))⟩
 obtain ⟨ao, cp, rfl, HO1, HG1⟩ := hcut
 obtain ⟨w1, hw1⟩ : ∃ w1, w1 = wc := ⟨_, rfl⟩
 subst hw1
 clear z0 z1 z2 z3 z4 c0 c1 c2 c3 c4 c5 HSW HHD HHP HAP
 have HR1 : Hid (QR w1 a k n (.slice qo qn qc) (.slice bo bn bc) (.slice so sn sc) ws) := zaa (HPX.out.row.gr HG1.out HAPA.out.1)
 obtain ⟨Z, hZ⟩ : ∃ Z, 10 + qn + 2 * sn + bn = Z := ⟨_, rfl⟩
 have HFL : Hid (∀ u, Below w1.heap.size w1 u → Calls Tryz.prog 241 #[.pointer (some ⟨a, 0, none⟩)] u fun e w' => e = .returned (.int .i64 (Z : Int)) ∧ w'.cell? ⟨a, 1, none⟩ = some (.int .i64 (n : Int)) ∧ Hid (Below w1.heap.size w1 w')) := by
  refine zaa fun u hu => (filled_any u a k n qo qn qc bo bn bc so sn sc ws (zag HR1.out hu) (by have := HQN.out; omega) (by omega) (by omega)).mono ?_
  rintro e w' ⟨rfl, q, rfl⟩
  rw [hZ]
  have hb := zab hu q
  exact ⟨rfl, (show QR (u.drewN q) a k n (.slice qo qn qc) (.slice bo bn bc) (.slice so sn sc) ws from zag HR1.out hb).cells.2.1, zaa hb⟩
 have c1 := HR1.out.cells.2.1
 have hbM : (bn : Int) ≤ (M : Int) := by have := HFIT.out; omega
 have hZI : (Z : Int) ≤ 65536 := by have := HFIT.out; omega
 have HZF : Hid (Z + (M - bn) + 2 ≤ n) := zaa (by have := HFIT.out; omega)
 have hZn : ¬ (n : Int) < (Z : Int) + (M : Int) - (bn : Int) + 2 := by have := HZF.out; omega
 clear hZ
 go_upto_region 8 with fail
 go_cut [63] from 46 to 63 (fun v u => v = .bool false ∧ Hid (Below w1.heap.size w1 u))
 case first =>
  go_wp2_with fail
  go_region_with (first | (go_at_call 241; refine (HFL.out _ (by first | exact Br | exact Br.drew | exact zab Br _)).mono ?_; rintro e w2 ⟨rfl, y1, HB2⟩))
  all_goals (try go_wp2_with fail)
  all_goals go_meet
  all_goals exact ⟨by go_unwrap; simp; omega, by first | exact HB2 | exact zaa HB2.out.drew | exact zaa (zab HB2.out _)⟩
 obtain ⟨rfl, HB2⟩ := hcut
 obtain ⟨w2, hw2⟩ : ∃ w2, w2 = wc := ⟨_, rfl⟩
 subst hw2
 clear c1 HFL hZn hZI HZF
 have HW2 : Hid (Below w1.heap.size w1 w2) := HB2
 have HR2 : Hid (QR w2 a k n (.slice qo qn qc) (.slice bo bn bc) (.slice so sn sc) ws) := zaa (zag HR1.out HB2.out)
 go_wp2_with fail
 go_loopw [12] (fun j wr => j = .int .i64 (i : Int) ∧ wr = w2) (fun _ _ => 0)
 case atStart => exact ⟨rfl, by first | rfl | trivial⟩
 case round =>
  obtain ⟨rfl, rfl⟩ := hrel
  have HSN : Hid (sn = st.length) := zaa HPO.out.on.len
  have HOS2 : Hid (OwnN wr B (.slice so sn sc) st) := zaa ((HPX.out.on.gr HG1.out HAPA.out.2.2.2).below HB2.out)
  obtain ⟨c0, c1, c2, c3, c4, c5⟩ := HR2.out.cells
  have f3 := HR2.out.free 3
  have f4 := HR2.out.free 4
  obtain ⟨u3, hu3⟩ : ∃ u3, (wr.setCell ⟨a, 3, none⟩ (.slice ao M cp)).alloc (.cells #[.int .i64 (bn : Int)] 3) = u3 := ⟨_, rfl⟩
  have hs3 : (wr.setCell ⟨a, 3, none⟩ (.slice ao M cp)).heap.size = wr.heap.size := by simp
  have hb3 : Below (wr.setCell ⟨a, 3, none⟩ (.slice ao M cp)).heap.size (wr.setCell ⟨a, 3, none⟩ (.slice ao M cp)) u3 := by rw [← hu3]; exact zad Br Lr _
  have hcs : Cf (· = a) wr (wr.setCell ⟨a, 3, none⟩ (.slice ao M cp)) := Cf.set _ _ _ _
  have hr2 := HR2.out
  unfold QR at hr2
  have HOB2 := HO1.out.on Lr HB2.out
  have HQ3 : Hid (QR u3 a k n (.slice qo qn qc) (.slice ao M cp) (.slice so sn sc) ws ∧ OwnB u3 B (.slice ao M cp) body' ∧ OwnN u3 B (.slice so sn sc) st ∧ u3.heap.size = wr.heap.size + 1) := zaa ⟨zag (HR2.out.set3 _) hb3, (HOB2.cf hcs (HOB2.apart hr2 (by decide))).on Lr hb3, (HOS2.out.cf hcs (HOS2.out.apart hr2 (by decide))).below hb3, by rw [← hu3]; simp⟩
  have HRP : Hid (Calls Tryz.prog 115 #[.slice so sn sc, .int .i64 (i : Int), .int .i64 (i : Int), .slice (some ⟨wr.heap.size, 0, none⟩) 1 1] u3 (RN.To u3 B (.slice so sn sc) (i + 1 + (sn - i)) ((NI st).take i ++ NI [bn] ++ (NI st).drop i))) := zaa (by
   have h1 := HQ3.out.2.2.1
   unfold OwnN at h1
   rw [← HSN.out] at h1
   have h2 : u3.ownsRow wr.heap.size 3 1 (.slice (some ⟨wr.heap.size, 0, none⟩) 1 1) 1 (NI [bn]) := own_oneN (fr := (0, 0)) (by rw [← hu3]; have := heap_alloc_last (wr.setCell ⟨a, 3, none⟩ (.slice ao M cp)) (.cells #[.int .i64 (bn : Int)] 3); rw [hs3] at this; exact this) rfl
   refine RN.rep_any u3 B wr.heap.size sn 1 i i _ _ _ _ h1 h2 (NI_one _) (NI_one _) (.inr fun e => ?_) Lr his (by omega) ?_ (.inr (by omega))
   ·have h3 := HOS2.out
    unfold OwnN at h3
    have := (h3.lt wr.heap.size (by rw [← e]; rfl)).2
    omega
   ·have h4 := HQ3.out.2.2.2
    have h5 := HBW.out
    have h6 := HBX.out.size
    have h7 := HG1.out.grow.size
    have h8 := HB2.out.size
    omega)
  have HCA : Hid (Cf (QZ a (.slice bo bn bc) (.slice so sn sc)) w u3) := zaa (((((Cf.of_below HBX.out).go (Cf.ofGr HG1.out (fun g e => .inr (.inl e)))).go (Cf.of_below HB2.out)).go (hcs.wideQ (fun b e => .inl e))).go (Cf.of_below hb3))
  clear hr2 HOB2 hcs hb3
  go_wp2_with (go_at_call 115; refine HRP.out.mono ?_; rintro e w4 ⟨so4, sc4, rfl, HO4, HG4⟩; refine Hid.out ?_)
  apply zaa
  have HR4 : Hid (QR w4 a k n (.slice qo qn qc) (.slice ao M cp) (.slice so sn sc) ws) := zaa (HQ3.out.1.gr HG4.out HAPA.out.2.1)
  clear c0 c1 c2 c3 c4 c5 f3 f4 HRP hu3
  obtain ⟨c0, c1, c2, c3, c4, c5⟩ := HR4.out.cells
  have f4 := HR4.out.free 4
  go_wp2
  go_ret
  have hr4 := HR4.out
  unfold QR at hr4
  have hcs : Cf (· = a) w4 (w4.setCell ⟨a, 4, none⟩ (.slice so4 (i + 1 + (sn - i)) sc4)) := Cf.set _ _ _ _
  obtain ⟨_, qb, qs, _⟩ := HQ3.out
  have hob4 := qb.gr HG4.out (qb.apartN qs)
  have hon4 : OwnN w4 B (.slice so4 (i + 1 + (sn - i)) sc4) st' := by
   unfold OwnN
   rw [← HST'.out, NIq, ← NIq_take, ← NIq_drop]
   have e : (st.take i ++ [bn] ++ st.drop i).length = i + 1 + (sn - i) := by have := HSN.out; simp; omega
   rw [e]
   exact HO4.out
  have hcw : Cf (QZ a (.slice bo bn bc) (.slice so sn sc)) w (w4.setCell ⟨a, 4, none⟩ (.slice so4 (i + 1 + (sn - i)) sc4)) := (HCA.out.go (Cf.ofGr HG4.out (fun g e => .inr (.inr e)))).go (hcs.wideQ (fun b e => .inl e))
  have hpo := HPO.out
  have hfarv := hpo.far
  have hpre : Sl (w4.setCell ⟨a, 4, none⟩ (.slice so4 (i + 1 + (sn - i)) sc4)) qo qn qc P := hpo.pre.cf hcw (by
   rcases hpo.pre.apartQ hpo.row with h | h
   ·exact .inl h
   ·rcases hfarv with h1 | h1
    ·exact .inl h1
    ·rcases HFS.out with h2 | h2
     ·exact .inl h2
     ·right
      intro p hp
      rintro (e | e | e)
      ·exact h p hp e
      ·exact h1 p hp e
      ·exact h2 p hp e)
  have hpre3 : Sl u3 qo qn qc P := hpo.pre.cf HCA.out (by
   rcases hpo.pre.apartQ hpo.row with h | h
   ·exact .inl h
   ·rcases hfarv with h1 | h1
    ·exact .inl h1
    ·rcases HFS.out with h2 | h2
     ·exact .inl h2
     ·right
      intro p hp
      rintro (e | e | e)
      ·exact h p hp e
      ·exact h1 p hp e
      ·exact h2 p hp e)
  have hsz : w.heap.size ≤ u3.heap.size := HCA.out.size
  refine ⟨rfl, zaa ⟨_, _, ⟨HR4.out.set4 _, hpre, hob4.cf hcs (hob4.apart hr4 (by decide)), hon4.cf hcs (hon4.apart hr4 (by decide)), hfarv.gr HPX.out.pre HG1.out, hpo.ha⟩, HFS.out.gr hpre3 HG4.out, HG1.out.own.imp id (fun ⟨g, h1, h2⟩ => ⟨g, h1, zN HBX.out.size h2⟩), HG4.out.own.imp id (fun ⟨g, h1, h2⟩ => ⟨g, h1, zN hsz h2⟩)⟩, zaa hcw⟩
theorem qB_most (m : Nat) (c : Cl) : (qB m c).length ≤ c.key.length + c.val.length + 31 := by
 unfold qB
 have h1 := (zbe ((c.key.length - m : Nat) : Int)).1
 have h2 := (zbe (c.val.length : Int)).1
 have h3 := (zbe (c.pg % 18446744073709551616)).1
 have h4 := (zbe (c.ct % 18446744073709551616)).1
 split <;> simp only [zG, List.length_cons, List.length_nil, zK] <;> omega
theorem PO.pgq {w : World} {B a : Nat} {k : Int} {n : Nat} {po : Option Addr} {pn pc : Nat} {bo : Option Addr} {bn bc : Nat} {so : Option Addr} {sn sc : Nat} {ws : Int} {P body : List Int} {st : List Nat} (h : PO w B a k n po pn pc (.slice bo bn bc) (.slice so sn sc) ws P body st) (hw : Wf body) (hb : body.length ≤ 140737488355328) (hs : st.length ≤ 140737488355328) : PgQ w a k n po pn pc bo bn bc so sn sc ws P body st := by
 obtain ⟨bo', bc', so', sc', e1, e2, hp⟩ := h.pg hw hb hs
 injection e1 with i1 i2 i3
 injection e2 with i4 i5 i6
 subst i1 i3 i4 i6
 rw [← i2, ← i5] at hp
 exact hp
theorem hasQ (w : World) (a : Nat) (k : Int) (n : Nat) (po : Option Addr) (pn pc : Nat) (bo : Option Addr) (bn bc : Nat) (so : Option Addr) (sn sc : Nat) (ws : Int) (P body : List Int) (st : List Nat) (h : PgQ w a k n po pn pc bo bn bc so sn sc ws P body st) (i : Nat) (hi : i < sn) :
  Calls Tryz.prog 237 #[.pointer (some ⟨a, 0, none⟩), .int .i64 (i : Int)] w fun e w' => e = .returned (.bool true) ∧ w' = w := by
 have HL := zaa (zcz w a k n po pn pc bo bn bc so sn sc ws P body st h)
 have h1 : (i : Int) < (sn : Int) := by omega
 clear h
 go_enter Tryz.func237, Tryz.ntmps237
 go_wp2_with (go_at_call 88; refine zac HL.out ?_)
 go_ret
 exact ⟨by simp, rfl⟩
theorem hasQ_no (w : World) (a : Nat) (k : Int) (n : Nat) (po : Option Addr) (pn pc : Nat) (bo : Option Addr) (bn bc : Nat) (so : Option Addr) (sn sc : Nat) (ws : Int) (P body : List Int) (st : List Nat) (h : PgQ w a k n po pn pc bo bn bc so sn sc ws P body st) (i : Int) (hi : ¬ (0 ≤ i ∧ i < (sn : Int))) :
  Calls Tryz.prog 237 #[.pointer (some ⟨a, 0, none⟩), .int .i64 i] w fun e w' => e = .returned (.bool false) ∧ w' = w := by
 have HL := zaa (zcz w a k n po pn pc bo bn bc so sn sc ws P body st h)
 clear h
 by_cases h0 : 0 ≤ i
 ·have h1 : ¬ i < (sn : Int) := fun h => hi ⟨h0, h⟩
  clear hi
  go_enter Tryz.func237, Tryz.ntmps237
  go_wp2_with (go_at_call 88; refine zac HL.out ?_)
  go_ret
  exact ⟨by simp; omega, rfl⟩
 ·clear hi
  go_enter Tryz.func237, Tryz.ntmps237
  go_wp2_with (go_at_call 88; refine zac HL.out ?_)
  go_ret
  exact ⟨by simp, rfl⟩
def hdQ (k : Int) (i : Nat) (P : List Int) : List Int := if k = 3 ∧ i = 0 then [] else P
structure Qs where
 P : List Int
 cs : List Cl
 ws : Nat
def gone (k : Int) (s : Qs) (i j : Nat) : Nat := if j = i then 0 else match s.cs[i]? with
 | none => 0
 | some d => (qB (hdQ k i s.P).length d).length
section
variable {w w' : World} {K : Nat → Prop} {a : Nat} {k : Int} {n : Nat} {s : Qs} {po : Option Addr} {pn pc : Nat} {bo : Option Addr} {bn bc : Nat} {so : Option Addr} {sn sc : Nat} {body : List Int} {st : List Nat}
end
theorem qbd_big (m : Nat) : ∀ (f : Bool) (cs : List Cl), (∀ c ∈ cs, c.fit) → (qbd m f cs).length ≤ 131103 * cs.length
 | _, [], _ => by simp [qbd]
 | f, c :: r, h => by
  have ih := qbd_big m false r fun d hd => h d (by simp [hd])
  have h1 := qB_most (if f then 0 else m) c
  have h2 := (h c (by simp)).key
  have h3 := (h c (by simp)).val
  simp only [qbd, zG, List.length_cons]
  omega
theorem zbd {P : Program} {fn : Func} {p u : Tmp} {ty : TypeId} (h : fn.results = #[.cell p ty, .tmp u]) (tmps : Array Value) (w : World) (g : Nat) (t : TypeId) (cs : Array Value) (fr : Nat × Nat) (d : TypeDesc) (v : Value)
  (hp : tmps.getD p undef = .pointer (some ⟨g, 0, none⟩)) (hv : tmps.getD u undef = v) (hg : w.heap[g]? = some (.cells cs t fr))
  (hu : P.underlying ty = some d) (hd : (match d with | .struct _ | .array _ _ => true | _ => false) = true) (hi : (P.info? ty).map (·.size) = some cs.size) :
  (results fn tmps).run P w = .ok (.tuple #[.agg cs, v]) w := by
 subst hv
 rw [results_cell_tmp h, hp]
 simp [asAddr, run_loadVar_row w g t ty cs fr d hg hu hd hi, Result.andThen]
def cellQ (cs : List Cl) (x : Int) : Cl := if 0 ≤ x ∧ x < (cs.length : Int) then (cs[x.toNat]?).getD ⟨[], 0, [], 0, 0⟩ else ⟨[], 0, [], 0, 0⟩
def CelQ (c : Cl) (E : Int) (w : World) (e : Ending) (w' : World) : Prop :=
 ∃ ao a2 bo b2, e = .returned (.tuple #[.agg #[.slice ao c.key.length a2, .int .i64 c.kd, .slice bo c.val.length b2, .int .i64 c.pg, .int .i64 c.ct], .int .i64 E]) ∧ Hid (OwnB w' w.heap.size (.slice ao c.key.length a2) c.key ∧ OwnB w' w.heap.size (.slice bo c.val.length b2) c.val ∧ ∀ z, (Value.slice ao c.key.length a2).ownBlock = some z → ¬ (Value.slice bo c.val.length b2).ownBlock = some z) ∧ Hid (Below w.heap.size w w')
theorem cellQ_any (w : World) (a : Nat) (k : Int) (n : Nat) (po : Option Addr) (pn pc : Nat) (bo : Option Addr) (bn bc : Nat) (so : Option Addr) (sn sc : Nat) (ws : Int) (P body : List Int) (st : List Nat) (cs : List Cl) (h : PgQ w a k n po pn pc bo bn bc so sn sc ws P body st) (hl : LayQ k P cs body st) (x : Int) :
  Calls Tryz.prog 229 #[.pointer (some ⟨a, 0, none⟩), .int .i64 x] w (CelQ (cellQ cs x) (if 0 ≤ x ∧ x < (cs.length : Int) then 0 else 64) w) := by
 have hcs : cs.length = sn := by rw [← hl.len, h.starts.hlen]
 obtain ⟨s, hs⟩ : ∃ s, w.heap.size = s := ⟨_, rfl⟩
 obtain ⟨y, hy⟩ : ∃ y, w.alloc (.cells #[.slice none 0 0, .int .i64 0, .slice none 0 0, .int .i64 0, .int .i64 0] 50) = y := ⟨_, rfl⟩
 have hby : Below w.heap.size w y := by rw [← hy]; exact zad Br Lr _
 have HRES : Hid (C5 y s (.slice none 0 0) (.int .i64 0) (.slice none 0 0) (.int .i64 0) (.int .i64 0)) := by rw [← hy, ← hs]; exact zaa (C5.box _ _ _ _ _ _)
 have HBY := zaa hby
 have hpy := h.on hby
 have hys : s + 1 ≤ y.heap.size := by rw [← hy, ← hs]; simp
 unfold cellQ
 rw [hcs]
 by_cases hx : 0 ≤ x ∧ x < (sn : Int)
 ·rw [if_pos hx, if_pos hx]
  obtain ⟨i, rfl⟩ : ∃ i : Nat, x = (i : Int) := ⟨x.toNat, by omega⟩
  rw [Int.toNat_natCast]
  obtain ⟨c, hci⟩ : ∃ c, cs[i]? = some c := ⟨_, zI (by omega)⟩
  rw [hci, Option.getD_some]
  have HH := zaa (hasQ y a k n po pn pc bo bn bc so sn sc ws P body st hpy i (by omega))
  have HVW := zaa (pentry_any y a k n po pn pc bo bn bc so sn sc ws P body st cs hpy hl i c hci y.heap.size hpy.pre.lo hpy.body.lo)
  have HCF := zaa (hl.fit c (List.mem_of_getElem? hci))
  obtain ⟨key, kd, val, pg, ct⟩ := c
  have HYS := zaa hys
  have HSW := zaa hs
  have hiI : (i : Int) < (sn : Int) := hx.2
  clear h hl hpy hci hby hys hx hcs
  go_enter Tryz.func229, Tryz.ntmps229
  go_wp2_with (first
   | (go_at_call 237; refine zac HH.out ?_)
   | (go_at_call 89; refine HVW.out.mono ?_; rintro e u1 ⟨ho, hn, hc, ko, kn, kc, vo, vn, vc, hd, kk, rfl, HQ, HU1⟩; refine Hid.out ?_))
  apply zaa
  obtain ⟨KN, hKN⟩ : ∃ KN, hn + kn = KN := ⟨_, rfl⟩
  have HC : Hid (Calls Tryz.prog 90 #[.agg #[.slice ho hn hc, .slice ko kn kc, .int .i64 kd, .slice vo vn vc, .int .i64 pg, .int .i64 ct]] u1 fun e w' => CopQ key val KN kd vn pg ct u1 e w') := by
   obtain ⟨q1, q2, q3, q4, _⟩ := HQ.out
   have hkf := HCF.out.key
   have hll := congrArg List.length q4
   simp only [zG] at hll hkf
   have l1 := q1.hlen
   have l2 := q2.hlen
   have := ecopied_any ho hn hc ko kn kc kd vo vn vc pg ct hd kk val KN u1 q1 q2 q3 hKN (by omega)
   rw [q4] at this
   exact zaa this
  have HLN : Hid (KN = key.length ∧ vn = val.length ∧ val.length ≤ 65536) := by
   obtain ⟨q1, q2, q3, q4, _⟩ := HQ.out
   have hll := congrArg List.length q4
   have hvf := HCF.out.val
   simp only [zG] at hll hvf
   have l1 := q1.hlen
   have l2 := q2.hlen
   have l3 := q3.hlen
   exact zaa ⟨by omega, l3.symm, by omega⟩
  clear HH HVW hKN
  go_wp2_with (go_at_call 90; refine HC.out.mono ?_; rintro e u2 ⟨a1, c1, g2, rfl, HG, HU2⟩; refine Hid.out ?_)
  apply zaa
  have hres1 : C5 u2 s (.slice none 0 0) (.int .i64 0) (.slice none 0 0) (.int .i64 0) (.int .i64 0) := zag (zag HRES.out HU1.out) HU2.out
  have HR2 := zaa hres1
  obtain ⟨b0, b1, b2', b3, b4⟩ := hres1.cells
  obtain ⟨h0, h1, h2, h3, h4⟩ := hres1.free
  clear hres1 HC
  go_wp2
  refine bodyPost_ret (zbd rfl _ _ s 50 #[.slice a1 KN c1, .int .i64 kd, .slice (some ⟨g2, 0, none⟩) vn vn, .int .i64 pg, .int .i64 ct] (0, 0) _ (.int .i64 0) (by rfl) (by rfl) (HR2.out.put _ _ _ _ _) Tryz.underlying50 rfl zal) rfl ?_
  have hf := zas u2 s (.slice a1 KN c1) (.int .i64 kd) (.slice (some ⟨g2, 0, none⟩) vn vn) (.int .i64 pg) (.int .i64 ct)
  have hys := HYS.out
  have hsw := HSW.out
  obtain ⟨hkl, hvl, hvr⟩ := HLN.out
  have hu1 := HU1.out.size
  obtain ⟨hg1, hg2, hg3, hg4⟩ := HG.out
  have hbu := zae (zae HBY.out Lr HU1.out) Lr HU2.out
  subst hkl
  subst hvl
  refine ⟨a1, c1, some ⟨g2, 0, none⟩, val.length, rfl, zaa ⟨?_, ?_, ?_⟩, zaa (hbu.trans (hf.below hbu.size (by intro i hi e; omega)))⟩
  ·exact (hg1.low (by omega)).cf hf (hg1.apart5 HR2.out)
  ·exact zct (l := val) (hg2.cf hf (hg2.apart5 HR2.out)) (by omega) (zN hvr (by unfold maxLen; decide))
  ·intro z h1 h2
   have e2 : g2 = z := by simpa [Value.ownBlock] using h2
   rw [← e2] at h1
   exact hg4 h1
 ·rw [if_neg hx, if_neg hx]
  have HH := zaa (hasQ_no y a k n po pn pc bo bn bc so sn sc ws P body st hpy x hx)
  obtain ⟨b0, b1, b2', b3, b4⟩ := HRES.out.cells
  obtain ⟨h0, h1, h2, h3, h4⟩ := HRES.out.free
  have hf := zas y s (.slice none 0 0) (.int .i64 0) (.slice none 0 0) (.int .i64 0) (.int .i64 0)
  have HF := zaa hf
  have HS := zaa hs
  clear h hl hpy hby hys hf hx hcs
  go_enter Tryz.func229, Tryz.ntmps229
  go_wp2_with (go_at_call 237; refine zac HH.out ?_)
  refine bodyPost_ret (zbd rfl _ _ s 50 #[.slice none 0 0, .int .i64 0, .slice none 0 0, .int .i64 0, .int .i64 0] (0, 0) _ (.int .i64 64) (by rfl) (by rfl) (HRES.out.put _ _ _ _ _) Tryz.underlying50 rfl zal) rfl ?_
  exact ⟨none, 0, none, 0, rfl, zaa ⟨OwnB.nil _ _, OwnB.nil _ _, fun z h1 => (by simp [Value.ownBlock] at h1)⟩, zaa (HBY.out.trans (HF.out.below HBY.out.size (by intro i hi e; have := HS.out; omega)))⟩
theorem kindW_any (w : World) (a : Nat) (k n : Int) (vp vb vs : Value) (ws : Int) (h : QR w a k n vp vb vs ws) :
  Calls Tryz.prog 232 #[.pointer (some ⟨a, 0, none⟩)] w fun e w' => e = .returned (.int .i64 k) ∧ w' = w := by
 obtain ⟨c0, c1, c2, c3, c4, c5⟩ := h.cells
 clear h
 go_enter Tryz.func232, Tryz.ntmps232
 go_wp2_with fail
 go_ret
 exact ⟨rfl, rfl⟩
def rUx (l : List Int) (p : Int) : Int × Int × Int := if p < 0 ∨ l.length < p then (0, 0, 1) else rU p (l.drop p.toNat) 0 0
theorem mul_up (c : Int) (k : Nat) (n m : Int) (h : n + c * 128 ^ k = m) (h1 : 0 ≤ n + c * 128 ^ k) (h2 : n + c * 128 ^ k < 18446744073709551616) (hc : 0 ≤ c) (h0 : 0 ≤ n) : IntKind.u64.wrap (n + IntKind.u64.wrap (c * 128 ^ k)) = m := by
 have hcm : 0 ≤ c * 128 ^ k := Int.mul_nonneg hc (Int.le_of_lt (Int.pow_pos (by omega)))
 rw [IntKind.wrap_u64, IntKind.wrap_u64, ← h]
 generalize c * 128 ^ k = y at *
 have := h0
 omega
theorem pow_wrap (k : Nat) (h : k < 9) : IntKind.u64.wrap (128 ^ k * 128) = 128 ^ (k + 1) := by
 have h2 : k = 0 ∨ k = 1 ∨ k = 2 ∨ k = 3 ∨ k = 4 ∨ k = 5 ∨ k = 6 ∨ k = 7 ∨ k = 8 := by omega
 rcases h2 with rfl | rfl | rfl | rfl | rfl | rfl | rfl | rfl | rfl <;> rw [IntKind.wrap_u64] <;> decide
theorem zee (ao : Option Addr) (n cap : Nat) (l : List Int) (p' : Int) (w : World) (hs : Sl w ao n cap l) :
  Calls Tryz.prog 100 #[.slice ao n cap, .int .i64 p'] w fun e w' => e = .returned (.tuple #[.int .u64 (rUx l p').1, .int .i64 (rUx l p').2.1, .int .i64 (rUx l p').2.2]) ∧ w' = w := by
 obtain ⟨hlen, hcap, hroom, hwf, hnil, hat⟩ := hs
 unfold rUx
 by_cases h : p' < 0 ∨ l.length < p'
 ·rw [if_pos h]
  rw [hlen] at h
  rcases h with h | h
  ·go_enter Tryz.func100, Tryz.ntmps100
   go_wp2
   go_ret3
   exact ⟨rfl, rfl⟩
  ·have h' : ¬ p' < 0 := by omega
   go_enter Tryz.func100, Tryz.ntmps100
   go_wp2
   go_ret3
   exact ⟨rfl, rfl⟩
 ·rw [if_neg h]
  rw [hlen] at h
  obtain ⟨p, rfl⟩ := Int.eq_ofNat_of_zero_le (show 0 ≤ p' by omega)
  have hpn : p ≤ n := by omega
  clear h
  rw [Int.toNat_natCast]
  generalize hF : rU p (l.drop p) 0 0 = F
  have HF := zaa hF
  clear hF
  go_enter Tryz.func100, Tryz.ntmps100
  go_wp2_with fail
  go_loop [7, 8, 9] (fun v u i => ∃ (k : Nat) (m : Int), k ≤ n - p ∧ k ≤ 9 ∧ i = .int .i64 k ∧ u = .int .u64 (128 ^ k) ∧ v = .int .u64 m ∧ 0 ≤ m ∧ m < 128 ^ k ∧ Hid (rU p (l.drop (p + k)) k m = F)) (fun _ _ i => (n - p) - (intOf i).toNat)
  case atStart => exact ⟨0, 0, by omega, by omega, rfl, rfl, rfl, by omega, by simp, HF⟩
  case round =>
   obtain ⟨k, m, hk, hk9, rfl, rfl, rfl, hm0, hm, HR⟩ := hrel
   clear HF
   by_cases hlt : k < n - p
   ·rcases hat with h | ⟨b, off, rfl, hb, hc⟩
    ·omega
    have hck := hc (p + k) (by omega)
    have hby := hwf.getD (p + k)
    have e := HR.out
    rw [zbz l (p + k) (by omega), rU] at e
    clear hc HR
    generalize l.getD (p + k) 0 = c at *
    by_cases h9 : k = 9 ∧ 1 < c
    ·rw [if_pos h9] at e
     have HE := zaa e
     obtain ⟨rfl, hc1⟩ := h9
     clear e hm
     go_wp2
     go_ret3
     exact ⟨by rw [← HE.out]; rfl, rfl⟩
    ·rw [if_neg h9] at e
     by_cases hcc : 128 ≤ c
     ·rw [if_pos hcc] at e
      have h9' : k < 9 := by omega
      have hup := (or_up m (c - 128) k hm0 hm (by omega) (by omega) (.inl h9')).2
      have hb9 : ((k : Int) == 9) = false := by simp; omega
      have hnn : 0 ≤ m + (c - 128) * 128 ^ k := by
       have : 0 ≤ (c - 128) * 128 ^ k := Int.mul_nonneg (by omega) (Int.le_of_lt (Int.pow_pos (by omega)))
       omega
      have hcm : c % 128 = c - 128 := by omega
      have HE := zaa e
      have HUP := zaa hup
      clear e hup h9 hm
      generalize hP : (128 : Int) ^ k = P at *
      have HPP := zaa hP
      clear hP
      go_wp2
      go_round
      case rel =>
       refine ⟨k + 1, m + (c - 128) * P, by omega, by omega, by go_num, ?_, ?_, hnn, HUP.out.1, HE⟩
       ·rw [← HPP.out, pow_wrap k h9']
       ·have h63 : (128 : Int) ^ (k + 1) ≤ 18446744073709551616 := by
         have h2 : k = 0 ∨ k = 1 ∨ k = 2 ∨ k = 3 ∨ k = 4 ∨ k = 5 ∨ k = 6 ∨ k = 7 ∨ k = 8 := by omega
         rcases h2 with rfl | rfl | rfl | rfl | rfl | rfl | rfl | rfl | rfl <;> decide
        have hlt2 : m + (c - 128) * P < 18446744073709551616 := Int.lt_of_lt_of_le HUP.out.1 h63
        rw [← HPP.out] at hnn hlt2 ⊢
        rw [mul_up (c - 128) k m _ rfl hnn hlt2 (by omega) hm0]
      case measure => simp [intOf]; omega
     ·rw [if_neg hcc] at e
      have hcm : c % 128 = c := by omega
      have hup := (or_up m c k hm0 hm (by omega) (by omega) (by omega)).2
      have hlt2 : m + c * 128 ^ k < 18446744073709551616 := by
       rcases hup.2 with h | h
       ·have h2 : k = 0 ∨ k = 1 ∨ k = 2 ∨ k = 3 ∨ k = 4 ∨ k = 5 ∨ k = 6 ∨ k = 7 ∨ k = 8 := by omega
        have h3 := hup.1
        rcases h2 with rfl | rfl | rfl | rfl | rfl | rfl | rfl | rfl | rfl <;> simp at h3 ⊢ <;> omega
       ·exact h
      have hnn : 0 ≤ m + c * 128 ^ k := by
       have : 0 ≤ c * 128 ^ k := Int.mul_nonneg (by omega) (Int.le_of_lt (Int.pow_pos (by omega)))
       omega
      have HM := zaa (mul_up c k m _ rfl hnn hlt2 (by omega) hm0)
      clear hup hlt2 hnn hm
      by_cases hz : c = 0 ∧ 0 < k
      ·rw [if_pos hz] at e
       have HE := zaa e
       have hb0 : (c == 0) = true := by simp [hz.1]
       have hk0 := hz.2
       clear e hz HM
       generalize (128 : Int) ^ k = P at *
       by_cases h9k : k = 9
       ·have hc1 : c ≤ 1 := by omega
        subst h9k
        clear h9
        go_wp2
        go_ret3
        exact ⟨by rw [← HE.out]; rfl, rfl⟩
       ·have hb9 : ((k : Int) == 9) = false := by simp; omega
        clear h9
        go_wp2
        go_ret3
        exact ⟨by rw [← HE.out]; rfl, rfl⟩
      ·rw [if_neg hz] at e
       have HE := zaa e
       clear e
       by_cases h9k : k = 9
       ·have hc1 : c ≤ 1 := by omega
        have hb0 : (c == 0) = false := by simp; omega
        clear h9 hz
        generalize hP : (128 : Int) ^ k = P at *
        clear hP
        subst h9k
        go_wp2
        go_ret3
        exact ⟨by rw [← HE.out, ← HM.out]; rfl, rfl⟩
       ·have hb9 : ((k : Int) == 9) = false := by simp; omega
        clear h9
        by_cases hc0 : c = 0
        ·have hb0 : (c == 0) = true := by simp [hc0]
         have hk0 : ¬ (0 < (k : Int)) := by omega
         clear hz hc0
         generalize hP : (128 : Int) ^ k = P at *
         clear hP
         go_wp2
         go_ret3
         exact ⟨by rw [← HE.out, ← HM.out]; rfl, rfl⟩
        ·have hb0 : (c == 0) = false := by simp [hc0]
         clear hz hc0
         generalize hP : (128 : Int) ^ k = P at *
         clear hP
         go_wp2
         go_ret3
         exact ⟨by rw [← HE.out, ← HM.out]; rfl, rfl⟩
   ·have e := HR.out
    rw [List.drop_eq_nil_of_le (by omega), rU] at e
    have HE := zaa e
    clear e HR hm
    generalize (128 : Int) ^ k = P at *
    go_wp2
    go_ret3
    exact ⟨by rw [← HE.out]; rfl, rfl⟩
theorem ru_ok {l : List Int} {p : Nat} (hw : Wf l) (hp : p ≤ l.length) (h : (rUx l (p : Int)).2.2 = 0) : ∃ (v t9 : Nat), rUx l (p : Int) = ((v : Int), (t9 : Int), 0) ∧ l.drop p = uB (v : Int) ++ l.drop t9 ∧ p < t9 ∧ t9 ≤ l.length ∧ (v : Int) < 18446744073709551616 := by
 unfold rUx at h ⊢
 rw [if_neg (by omega)] at h ⊢
 rw [Int.toNat_natCast] at h ⊢
 obtain ⟨s1, s2, s3⟩ := rU_shift (l.drop p) (p : Int) 0 0
 rw [s2] at h
 have hpu : pU (l.drop p) = some ((rU 0 (l.drop p) 0 0).1, (l.drop p).drop (rU 0 (l.drop p) 0 0).2.1.toNat) := by
  unfold pU
  rw [if_pos h]
 obtain ⟨e1, h0, h1, _⟩ := pU_inv (hw.drop p) hpu
 generalize (rU 0 (l.drop p) 0 0).1 = v at *
 generalize (l.drop p).drop (rU 0 (l.drop p) 0 0).2.1.toNat = r at *
 obtain ⟨x, rfl⟩ := Int.eq_ofNat_of_zero_le h0
 have hl := congrArg List.length e1
 rw [zK, zG] at hl
 have hu := zcp (x : Int)
 refine ⟨x, p + (uB (x : Int)).length, ?_, ?_, by omega, by omega, h1⟩
 ·rw [e1, rU_uB _ _ _ h0 h1]
  simp
 ·rw [← List.drop_drop, e1, List.drop_left]
theorem ru_no {l : List Int} {p : Nat} (hp : p ≤ l.length) (h : (rUx l (p : Int)).2.2 ≠ 0) (v : Int) (R : List Int) (h0 : 0 ≤ v) (h1 : v < 18446744073709551616) : l.drop p ≠ uB v ++ R := fun e => by
 unfold rUx at h
 rw [if_neg (by omega), Int.toNat_natCast, e, rU_uB _ _ _ h0 h1] at h
 exact h rfl
theorem part_no (ao : Option Addr) (n cap at_ : Nat) (m : Int) (w : World) (ha : at_ ≤ n) (hn : n ≤ 65536) (hm : (n : Int) - (at_ : Int) < m) :
  Calls Tryz.prog 57 #[.slice ao n cap, .int .i64 (at_ : Int), .int .u64 m] w fun e w' => e = .returned (.tuple #[.slice none 0 0, .bool false]) ∧ w' = w := by
 obtain ⟨D, hD⟩ : ∃ D, n - at_ = D := ⟨_, rfl⟩
 have hDI : (n : Int) - (at_ : Int) = (D : Int) := by omega
 have hlt : (D : Int) < m := by omega
 have hDb : (D : Int) ≤ 65536 := by omega
 have hnI : (n : Int) ≤ 65536 := by omega
 have haI : (at_ : Int) ≤ 65536 := by omega
 clear hm hD ha
 go_enter Tryz.func57, Tryz.ntmps57
 go_wp2
 go_ret2
 exact ⟨rfl, rfl⟩
theorem part_yes (g off n cap at_ M : Nat) (l : List Int) (w : World) (hs : Sl w (some ⟨g, off, none⟩) n cap l) (hn : n ≤ 65536) (hM : at_ + M ≤ n) :
  ∃ po pc, (∀ u, Calls Tryz.prog 57 #[.slice (some ⟨g, off, none⟩) n cap, .int .i64 (at_ : Int), .int .u64 (M : Int)] u fun e w' => e = .returned (.tuple #[.slice po M pc, .bool true]) ∧ w' = u) ∧ (∀ u, Below w.heap.size w u → Sl u po M pc ((l.drop at_).take M)) ∧ ∀ p, po = some p → p.block = g := by
 have hc := hs.hcap
 have HS := zaa hs
 obtain ⟨D, hD⟩ : ∃ D, n - at_ = D := ⟨_, rfl⟩
 have hDI : (n : Int) - (at_ : Int) = (D : Int) := by omega
 have hlt : ¬ (D : Int) < (M : Int) := by omega
 have hDb : (D : Int) ≤ 65536 := by omega
 have hnI : (n : Int) ≤ 65536 := by omega
 have haI : (at_ : Int) ≤ 65536 := by omega
 have hMI : (M : Int) ≤ 65536 := by omega
 obtain ⟨t, ht⟩ : ∃ t, at_ + M = t := ⟨_, rfl⟩
 have htI : (at_ : Int) + (M : Int) = (t : Int) := by omega
 have htc : (t : Int) ≤ (cap : Int) := by omega
 have hat : (at_ : Int) ≤ (t : Int) := by omega
 have htm : t - at_ = M := by omega
 by_cases e : cap = at_
 ·obtain rfl : M = 0 := by omega
  refine ⟨some ⟨g, off, none⟩, 0, fun u => ?_, fun u hu => ?_, fun p hp => by cases hp; rfl⟩
  ·have hx1 : cap - at_ = 0 := by omega
   clear hs hD hM hc ht
   go_enter Tryz.func57, Tryz.ntmps57
   go_wp2
   go_ret2
   exact ⟨by simp, rfl⟩
  ·rw [List.take_zero]
   exact Sl.nil_any _ _ _ (fun h => by cases h)
 ·refine ⟨some ⟨g, off + at_, none⟩, cap - at_, fun u => ?_, fun u hu => (HS.out.on Lr hu).piece at_ M (cap - at_) hM (by omega), fun p hp => by cases hp; rfl⟩
  have hx1 : ¬ cap - at_ = 0 := by omega
  have hx2 : at_ < cap := by omega
  clear hs hD hM hc ht
  go_enter Tryz.func57, Tryz.ntmps57
  go_wp2
  go_ret2
  exact ⟨by simp, rfl⟩
end Go.Proofs.YtbkhjeacmmbabaaGreatDoor
