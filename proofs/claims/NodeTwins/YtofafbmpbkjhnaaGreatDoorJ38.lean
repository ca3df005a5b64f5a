import Derived.Test.YtofafbmpbkjhnaaGreatDoorJ35
import Derived.Test.YtofafbmpbkjhnaaGreatDoorJ36
import Derived.Test.YtofafbmpbkjhnaaGreatDoorJ37
namespace Go.Proofs.YtofafbmpbkjhnaaGreatDoor
set_option maxRecDepth 100000
set_option maxHeartbeats 4000000
open Go.RowKit
theorem inPlace_set (w : World) (B a : Nat) (k : Int) (n : Nat) (po : Option Addr) (pn pc : Nat) (bo : Option Addr) (bn bc : Nat) (so : Option Addr) (sn sc : Nat) (ws : Int) (P body : List Int) (st : List Nat)
  (hPO : PO w B a k n po pn pc (.slice bo bn bc) (.slice so sn sc) ws P body st) (hbb : bn ≤ 65536) (hss : sn ≤ 65536) (hB : B ≤ w.heap.size) (i j : Nat) (hij : i + 1 = j) (his : j ≤ sn) (cs : List Cl) (hl : LayQ k P cs body st) (d : Cl) (hd : cs[i]? = some d) (hwf : Wf body) (hw0 : 0 ≤ ws) (hw1 : ws ≤ 65536) (T : Nat) (H : List Int) (hH : (if k = 3 ∧ i = 0 then [] else P) = H) (hT : (qB H.length d).length = T) (hn : n ≤ 65536)
  (c : Cl) (ka va : Option Addr) (kc vc : Nat) (hk : Sl w ka c.key.length kc c.key) (hv : Sl w va c.val.length vc c.val) (fk : Far ka c.key.length (.slice bo bn bc)) (fv : Far va c.val.length (.slice bo bn bc)) (hkl : c.key.length ≤ 65536) (hvl : c.val.length ≤ 65536)
  (hbeg : c.key.take H.length = H) (hfs : Far po pn (.slice so sn sc)) (hfit : 10 + pn + 2 * sn + bn + (qB H.length c).length ≤ n) :
  Calls Tryz.prog 291 #[.pointer (some ⟨a, 0, none⟩), .int .i64 (i : Int), .int .i64 (j : Int), .agg #[.slice ka c.key.length kc, .int .i64 c.kd, .slice va c.val.length vc, .int .i64 c.pg, .int .i64 c.ct]] w
   (QuTo w B a k n po pn pc (.slice bo bn bc) (.slice so sn sc) (ws + (T : Int)) P (body ++ qB H.length c) (st.take i ++ [bn] ++ st.drop j) (.bool true)) := by
 have hpl := hPO.pre.hlen
 have hPk : H.length ≤ c.key.length := by rw [← hbeg, zJ]; omega
 obtain ⟨x, hx⟩ : ∃ x, w.alloc (.cells #[.slice ka c.key.length kc, .int .i64 c.kd, .slice va c.val.length vc, .int .i64 c.pg, .int .i64 c.ct] 43) = x := ⟨_, rfl⟩
 have hbx : Below w.heap.size w x := by rw [← hx]; exact zac Br Lr _
 obtain ⟨s, hs⟩ : ∃ s, w.heap.size = s := ⟨_, rfl⟩
 have hc5 : C5 x s (.slice ka c.key.length kc) (.int .i64 c.kd) (.slice va c.val.length vc) (.int .i64 c.pg) (.int .i64 c.ct) := by rw [← hx, ← hs]; exact C5.box _ _ _ _ _ _
 obtain ⟨z0, z1, z2, z3, z4⟩ := hc5.cells
 have hrx : QR x a k n (.slice po pn pc) (.slice bo bn bc) (.slice so sn sc) ws := zaf hPO.row hbx
 obtain ⟨c0, c1, c2, c3, c4, c5⟩ := hrx.cells
 obtain ⟨qo, qn, qc, hqc, hhd⟩ := zcw k i po pn pc
 have hHl : H.length = qn := by
  rw [← hH]
  rcases hqc with ⟨_, h2, _, h4⟩ | ⟨_, h2, _, h4⟩
  ·rw [if_pos h4, h2]; rfl
  ·rw [if_neg h4, h2]; exact hpl
 have hHs : Sl w qo qn qc H := by
  rw [← hH]
  rcases hqc with ⟨h1, h2, h3, h4⟩ | ⟨h1, h2, h3, h4⟩
  ·rw [if_pos h4, h1, h2, h3]; exact Sl.nil_any _ _ _ fun _ => rfl
  ·rw [if_neg h4, h1, h2, h3]; exact hPO.pre
 have HHD := zaa (hhd x a n _ _ ws hrx)
 have HHP : Hid (Calls Tryz.prog 293 #[.slice ka c.key.length kc, .slice qo qn qc] x fun e w' => e = .returned (.bool true) ∧ w' = x) := zaa (by
  have := zcx ka qo c.key.length qn kc qc c.key H x (hk.on Lr hbx) (hHs.on Lr hbx)
  rwa [decide_eq_true hbeg] at this)
 obtain ⟨M, hM⟩ : ∃ M, (body ++ qB H.length c).length = M := ⟨_, rfl⟩
 have hbn : bn = body.length := hPO.ob.len
 have hHc : (if k = 3 ∧ i = 0 then 0 else P.length) = H.length := by rw [← hH]; split <;> rfl
 have HLQ := zaa (And.intro hl (And.intro hd (And.intro hwf (And.intro (show (qB (if k = 3 ∧ i = 0 then 0 else P.length) d).length = T by rw [hHc]; exact hT) (show T ≤ bn by
  obtain ⟨r, hr⟩ := hl.at_ i d hd
  have h1 := congrArg List.length hr
  rw [hHc, zK, zG, hT] at h1
  omega)))))
 have hMl : M = bn + (qB H.length c).length := by rw [← hM, zG, hbn]
 have HAP : Hid (∀ u, Below x.heap.size x u → Calls Tryz.prog 198 #[.agg (eV none 0 0 ka c.key.length kc c.kd va c.val.length vc c.pg c.ct), .slice bo bn bc, .int .i64 (qn : Int)] u fun e w' => ∃ ao cp, e = .returned (.slice ao M cp) ∧ Hid (OwnB w' B (.slice ao M cp) (body ++ qB H.length c)) ∧ Hid (Gs x (.slice bo bn bc) w' (.slice ao M cp))) := by
  refine zaa fun u hu => ?_
  have hwu := zab hbx Lr hu
  have h := eappended2 (.slice bo bn bc) B body none 0 0 ka c.key.length kc c.kd va c.val.length vc c.pg c.ct [] c.key c.val H.length u (hPO.ob.on Lr hwu) (zN hB hwu.size) (Sl.nil_any _ _ _ fun _ => rfl) (hk.on Lr hwu) (hv.on Lr hwu) (.inl rfl) fk fv (by omega) (by omega)
  rw [hHl] at h
  refine h.mono ?_
  rintro e w' ⟨v', rfl, HO, HG⟩
  obtain ⟨ao, cp, rfl⟩ := HO.out.shape
  have e1 : (body ++ qB qn ⟨[] ++ c.key, c.kd, c.val, c.pg, c.ct⟩).length = M := by rw [← hM, hHl]; rfl
  rw [e1] at HO HG ⊢
  refine ⟨ao, cp, rfl, zaa ?_, zaa ((Gs.ofBelow _ hu).trans HG.out)⟩
  rw [hHl]
  exact HO.out
 have hapa : (Value.slice bo bn bc).ownBlock ≠ some a := by
  have := hPO.row
  unfold QR at this
  exact hPO.ob.apart this (by decide)
 have hapS : (Value.slice so sn sc).ownBlock ≠ some a := by
  have := hPO.row
  unfold QR at this
  exact hPO.on.apart this (by decide)
 have hapN := hPO.ob.apartN hPO.on
 have hapB := hPO.on.apartB hPO.ob
 have HPO := zaa hPO
 have HPX := zaa (hPO.go hbx)
 have HBX := zaa hbx
 have HAPA := zaa (And.intro hapa (And.intro hapS (And.intro hapN hapB)))
 have HPL := zaa hpl
 have HM := zaa hM
 have HBN := zaa hbn
 have HS := zaa hs
 obtain ⟨st', hst'⟩ : ∃ st', st.take i ++ [bn] ++ st.drop j = st' := ⟨_, rfl⟩
 obtain ⟨body', hbd'⟩ : ∃ body', body ++ qB H.length c = body' := ⟨_, rfl⟩
 rw [hst', hbd']
 rw [hbd'] at HAP HM
 have HST' := zaa hst'
 have HBD' := zaa hbd'
 have HBW := zaa hB
 have hbnI : (bn : Int) ≤ 65536 := by omega
 have hMI : (M : Int) ≤ 200000 := by have := qB_most H.length c; omega
 have hiI : (i : Int) ≤ 65536 := by omega
 have hjI : (j : Int) ≤ 65536 := by omega
 have hltI : (i : Int) < (j : Int) := by omega
 have hneI : ¬ (i : Int) = (j : Int) := by omega
 have HIJ := zaa hij
 have hnI : (n : Int) ≤ 65536 := by omega
 have HFIT : Hid (10 + pn + 2 * sn + bn + (M - bn) ≤ n ∧ bn ≤ M) := zaa (by omega)
 have HQN : Hid (pn ≤ 65536) := zaa (by omega)
 have HFS := zaa hfs
 clear hst' hbd' hfs hPO hk hv fk fv hbx hc5 hrx hhd hqc hbeg hpl hPk hHl hHs hH hl hd hwf hHc hT hM hMl hbn hapa hapS hapN hapB hB hfit
 go_enter Tryz.func291, Tryz.ntmps291
 go_upto_region 7 with (first | (go_at_call 199; refine zae HHD.out ?_) | (go_at_call 293; refine zae HHP.out ?_))
 go_cut [11] from 37 to 45 (fun v u => ∃ ao cp, v = .slice ao M cp ∧ Hid (OwnB u B (.slice ao M cp) body') ∧ Hid (Gs x (.slice bo bn bc) u (.slice ao M cp)))
 case first =>
  go_wp2_with fail
  go_region_with (first | (go_at_call 198; refine (HAP.out _ (by first | exact Br | exact Br.drew | exact zad Br _)).mono ?_; rintro e w1 ⟨ao, cp, rfl, HO1, HG1⟩))
  all_goals (try go_wp2_with fail)
  all_goals go_meet
  all_goals exact ⟨ao, cp, rfl, by first | exact HO1 | exact zaa (HO1.out.on Lr Br.drew) | exact zaa (HO1.out.on Lr (zad Br _)), by first | exact HG1 | exact zaa (HG1.out.trans (Gs.ofBelow _ Br.drew)) | exact zaa (HG1.out.trans (Gs.ofBelow _ (zad Br _)))⟩
 obtain ⟨ao, cp, rfl, HO1, HG1⟩ := hcut
 obtain ⟨w1, hw1⟩ : ∃ w1, w1 = wc := ⟨_, rfl⟩
 subst hw1
 clear z0 z1 z2 z3 z4 c0 c1 c2 c3 c4 c5 HHD HHP HAP
 have HR1 : Hid (QR w1 a k n (.slice po pn pc) (.slice bo bn bc) (.slice so sn sc) ws) := zaa (HPX.out.row.gr HG1.out.toGr HAPA.out.1)
 obtain ⟨Z, hZ⟩ : ∃ Z, 10 + pn + 2 * sn + bn = Z := ⟨_, rfl⟩
 have HFL : Hid (∀ u, Below w1.heap.size w1 u → Calls Tryz.prog 286 #[.pointer (some ⟨a, 0, none⟩)] u fun e w' => e = .returned (.int .i64 (Z : Int)) ∧ w'.cell? ⟨a, 1, none⟩ = some (.int .i64 (n : Int)) ∧ Hid (Below w1.heap.size w1 w')) := by
  refine zaa fun u hu => (zdf u a k n po pn pc bo bn bc so sn sc ws (zaf HR1.out hu) (by have := HQN.out; omega) (by omega) (by omega)).mono ?_
  rintro e w' ⟨rfl, q, rfl⟩
  rw [hZ]
  have hb := zad hu q
  exact ⟨rfl, (show QR (u.drewN q) a k n (.slice po pn pc) (.slice bo bn bc) (.slice so sn sc) ws from zaf HR1.out hb).cells.2.1, zaa hb⟩
 have c1 := HR1.out.cells.2.1
 have hbM : (bn : Int) ≤ (M : Int) := by have := HFIT.out; omega
 have hZI : (Z : Int) ≤ 65536 := by have := HFIT.out; omega
 have HZF : Hid (Z + (M - bn) ≤ n) := zaa (by have := HFIT.out; omega)
 have hZn : ¬ (n : Int) < (Z : Int) + (M : Int) - (bn : Int) := by have := HZF.out; omega
 clear hZ
 go_upto_region 8 with fail
 go_cut [63] from 46 to 63 (fun v u => v = .bool false ∧ Hid (Below w1.heap.size w1 u))
 case first =>
  go_wp2_with fail
  go_region_with (first | (go_at_call 286; refine (HFL.out _ (by first | exact Br | exact Br.drew | exact zad Br _)).mono ?_; rintro e w2 ⟨rfl, y1, HB2⟩))
  all_goals (try go_wp2_with fail)
  all_goals go_meet
  all_goals exact ⟨by go_unwrap; simp; omega, by first | exact HB2 | exact zaa HB2.out.drew | exact zaa (zad HB2.out _)⟩
 obtain ⟨rfl, HB2⟩ := hcut
 obtain ⟨w2, hw2⟩ : ∃ w2, w2 = wc := ⟨_, rfl⟩
 subst hw2
 clear c1 HFL hZn hZI HZF
 have HW2 : Hid (Below w1.heap.size w1 w2) := HB2
 have HR2 : Hid (QR w2 a k n (.slice po pn pc) (.slice bo bn bc) (.slice so sn sc) ws) := zaa (zaf HR1.out HB2.out)
 go_wp2_with fail
 have HSN0 : Hid (sn = st.length) := zaa HPO.out.on.len
 have HPQ : Hid (PgQ w2 a k n po pn pc bo bn bc so sn sc ws P body st) := zaa (by
  have hpo := HPX.out
  have hold := (HG1.out.old B (.slice bo bn bc) body hpo.ob (fun C m g hm _ _ => by rw [hpo.ob.one7 hm]; exact List.prefix_refl _)).1
  have hcw : Cf (fun b => (Value.slice bo bn bc).ownBlock = some b) x w2 := (Cf.ofGr HG1.out.toGr (fun g e => e)).go (Cf.of_below HB2.out)
  have hp2 : PO w2 B a k n po pn pc (.slice bo bn bc) (.slice so sn sc) ws P body st := by
   refine ⟨HR2.out, hpo.pre.cf hcw ?_, hold.on Lr HB2.out, (hpo.on.gr HG1.out.toGr HAPA.out.2.2.2).below HB2.out, hpo.far, hpo.ha⟩
   rcases hpo.far with h1 | h1
   ·exact .inl h1
   ·exact .inr fun p hp e => h1 p hp e
  exact hp2.pgq HLQ.out.2.2.1 (by have := HBN.out; omega) (by have := HSN0.out; omega))
 have HTK : Hid (∀ u, Below w2.heap.size w2 u → Calls Tryz.prog 284 #[.pointer (some ⟨a, 0, none⟩), .int .i64 (i : Int)] u fun e w' => e = .returned (.int .i64 (T : Int)) ∧ w'.cell? ⟨a, 5, none⟩ = some (.int .i64 ws) ∧ w'.frozen? ⟨a, 5, none⟩ = false ∧ Hid (Below w2.heap.size w2 w')) := zaa fun u hu => by
  refine (takenQ_any u a k n po pn pc bo bn bc so sn sc ws P body st cs (HPQ.out.on hu) HLQ.out.1 i d HLQ.out.2.1 (by omega) T HLQ.out.2.2.2.1).mono ?_
  rintro e w' ⟨rfl, HB⟩
  have hb := zab hu Lr HB.out
  have hr : QR w' a k n (.slice po pn pc) (.slice bo bn bc) (.slice so sn sc) ws := zaf HR2.out hb
  exact ⟨rfl, hr.cells.2.2.2.2.2, hr.free 5, zaa hb⟩
 have hTI : (T : Int) ≤ 65536 := by have := HLQ.out.2.2.2.2; omega
 go_loopw [12] (fun s12 wr => (s12 = .int .i64 (i : Int) ∧ wr = w2) ∨ (s12 = .int .i64 (j : Int) ∧ Hid (QR wr a k n (.slice po pn pc) (.slice bo bn bc) (.slice so sn sc) (ws + (T : Int)) ∧ OwnB wr B (.slice ao M cp) body' ∧ OwnN wr B (.slice so sn sc) st ∧ Cf (QZ a (.slice bo bn bc) (.slice so sn sc)) w wr ∧ w2.heap.size ≤ wr.heap.size))) (fun s12 _ => ((j : Int) - intOf s12).toNat)
 case atStart => exact .inl ⟨rfl, by first | rfl | trivial⟩
 case round =>
  rcases hrel with ⟨rfl, rfl⟩ | ⟨rfl, HWL⟩
  ·have c5 := HR2.out.cells.2.2.2.2.2
   have f5 := HR2.out.free 5
   go_wp2_with fail
   go_region_with (first | (go_at_call 284; refine (HTK.out _ (by first | exact Br | exact Br.drew | exact zad Br _)).mono ?_; rintro e w3 ⟨rfl, y5, z5, HB3⟩))
   all_goals (try go_wp2_with fail)
   all_goals
    have HRr : Hid (QR w3 a k n (.slice po pn pc) (.slice bo bn bc) (.slice so sn sc) ws) := zaa (zaf HR2.out HB3.out)
    have hr2 := HRr.out
    unfold QR at hr2
    have hcs : Cf (· = a) w3 (w3.setCell ⟨a, 5, none⟩ (.int .i64 (ws + (T : Int)))) := Cf.set _ _ _ _
    have hob := (HO1.out.on Lr HB2.out).on Lr HB3.out
    have hos := ((HPX.out.on.gr HG1.out.toGr HAPA.out.2.2.2).below HB2.out).below HB3.out
    refine ⟨.inr ⟨by rw [← hij]; rfl, zaa ⟨HRr.out.set5 _, hob.cf hcs (hob.apart hr2 (by decide)), hos.cf hcs (hos.apart hr2 (by decide)), ((((Cf.of_below HBX.out).go (Cf.ofGr HG1.out.toGr (fun g e => .inr (.inl e)))).go (Cf.of_below HB2.out)).go (Cf.of_below HB3.out)).go (hcs.wideQ (fun b e => .inl e)), zN HB3.out.size hcs.size⟩⟩, ?_⟩
    simp only [intOf]
    omega
  ·have HSN := HSN0
   have HRr : Hid (QR wr a k n (.slice po pn pc) (.slice bo bn bc) (.slice so sn sc) (ws + (T : Int))) := zaa HWL.out.1
   obtain ⟨c0, c1, c2, c3, c4, c5⟩ := HRr.out.cells
   have f3 := HRr.out.free 3
   have f4 := HRr.out.free 4
   obtain ⟨u3, hu3⟩ : ∃ u3, (wr.setCell ⟨a, 3, none⟩ (.slice ao M cp)).alloc (.cells #[.int .i64 (bn : Int)] 3) = u3 := ⟨_, rfl⟩
   have hs3 : (wr.setCell ⟨a, 3, none⟩ (.slice ao M cp)).heap.size = wr.heap.size := by simp
   have hb3 : Below (wr.setCell ⟨a, 3, none⟩ (.slice ao M cp)).heap.size (wr.setCell ⟨a, 3, none⟩ (.slice ao M cp)) u3 := by rw [← hu3]; exact zac Br Lr _
   have hcs : Cf (· = a) wr (wr.setCell ⟨a, 3, none⟩ (.slice ao M cp)) := Cf.set _ _ _ _
   have hr2 := HRr.out
   unfold QR at hr2
   have HOB2 := HWL.out.2.1
   have HOS2 := HWL.out.2.2.1
   have HQ3 : Hid (QR u3 a k n (.slice po pn pc) (.slice ao M cp) (.slice so sn sc) (ws + (T : Int)) ∧ OwnB u3 B (.slice ao M cp) body' ∧ OwnN u3 B (.slice so sn sc) st ∧ u3.heap.size = wr.heap.size + 1) := zaa ⟨zaf (HRr.out.set3 _) hb3, (HOB2.cf hcs (HOB2.apart hr2 (by decide))).on Lr hb3, (HOS2.cf hcs (HOS2.apart hr2 (by decide))).below hb3, by rw [← hu3]; simp⟩
   have HRP : Hid (Calls Tryz.prog 187 #[.slice so sn sc, .int .i64 (i : Int), .int .i64 (j : Int), .slice (some ⟨wr.heap.size, 0, none⟩) 1 1] u3 (RN.To u3 B (.slice so sn sc) sn ((NI st).take i ++ NI [bn] ++ (NI st).drop j))) := zaa (by
    suffices h9 : Calls Tryz.prog 187 #[.slice so sn sc, .int .i64 (i : Int), .int .i64 (j : Int), .slice (some ⟨wr.heap.size, 0, none⟩) 1 1] u3 (RN.To u3 B (.slice so sn sc) (i + 1 + (sn - j)) ((NI st).take i ++ NI [bn] ++ (NI st).drop j)) by
     rw [show i + 1 + (sn - j) = sn by omega] at h9
     exact h9
    have h1 := HQ3.out.2.2.1
    unfold OwnN at h1
    rw [← HSN.out] at h1
    have h2 : u3.ownsRow wr.heap.size 3 1 (.slice (some ⟨wr.heap.size, 0, none⟩) 1 1) 1 (NI [bn]) := own_oneN (fr := (0, 0)) (by rw [← hu3]; have := heap_alloc_last (wr.setCell ⟨a, 3, none⟩ (.slice ao M cp)) (.cells #[.int .i64 (bn : Int)] 3); rw [hs3] at this; exact this) rfl
    refine RN.rep_any u3 B wr.heap.size sn 1 i j _ _ _ _ h1 h2 (NI_one _) (NI_one _) (.inr fun e => ?_) (by omega) his (by omega) ?_ (.inr (by omega))
    ·have h3 := HOS2
     unfold OwnN at h3
     have := (h3.lt wr.heap.size (by rw [← e]; rfl)).2
     omega
    ·have h4 := HQ3.out.2.2.2
     have h5 := HBW.out
     have h6 := HWL.out.2.2.2.1.size
     omega)
   have HCA : Hid (Cf (QZ a (.slice bo bn bc) (.slice so sn sc)) w u3) := zaa ((HWL.out.2.2.2.1.go (hcs.wideQ (fun b e => .inl e))).go (Cf.of_below hb3))
   clear hr2 HOB2 HOS2 hcs hb3
   go_wp2_with (go_at_call 187; refine HRP.out.mono ?_; rintro e w4 ⟨so4, sc4, rfl, HO4, HG4⟩; refine Hid.out ?_)
   apply zaa
   have HR4 : Hid (QR w4 a k n (.slice po pn pc) (.slice ao M cp) (.slice so sn sc) (ws + (T : Int))) := zaa (HQ3.out.1.gr HG4.out HAPA.out.2.1)
   clear c0 c1 c2 c3 c4 c5 f3 f4 HRP hu3
   obtain ⟨c0, c1, c2, c3, c4, c5⟩ := HR4.out.cells
   have f4 := HR4.out.free 4
   go_wp2
   go_ret
   have hr4 := HR4.out
   unfold QR at hr4
   have hcs : Cf (· = a) w4 (w4.setCell ⟨a, 4, none⟩ (.slice so4 sn sc4)) := Cf.set _ _ _ _
   obtain ⟨_, qb, qs, _⟩ := HQ3.out
   have hob4 := qb.gr HG4.out (qb.apartN qs)
   have hon4 : OwnN w4 B (.slice so4 sn sc4) st' := by
    unfold OwnN
    rw [← HST'.out, NIq, ← NIq_take, ← NIq_drop]
    have e : (st.take i ++ [bn] ++ st.drop j).length = sn := by have := HSN.out; simp; omega
    rw [e]
    exact HO4.out
   have hcw : Cf (QZ a (.slice bo bn bc) (.slice so sn sc)) w (w4.setCell ⟨a, 4, none⟩ (.slice so4 sn sc4)) := (HCA.out.go (Cf.ofGr HG4.out (fun g e => .inr (.inr e)))).go (hcs.wideQ (fun b e => .inl e))
   have hpo := HPO.out
   have hfarv := hpo.far
   have hap3 : ∀ (z : World), Cf (QZ a (.slice bo bn bc) (.slice so sn sc)) w z → Sl z po pn pc P := fun z hz => hpo.pre.cf hz (by
    rcases hpo.pre.apartQ hpo.row with h | h
    ·exact .inl h
    ·rcases hfarv with h1 | h1
     ·exact .inl h1
     ·rcases HFS.out with h2 | h2
      ·exact .inl h2
      ·right
       intro p hp
       rintro (e | e | e)
       ·exact h p hp e
       ·exact h1 p hp e
       ·exact h2 p hp e)
   have hsz : w.heap.size ≤ u3.heap.size := HCA.out.size
   refine ⟨rfl, zaa ⟨_, _, ⟨HR4.out.set4 _, hap3 _ hcw, hob4.cf hcs (hob4.apart hr4 (by decide)), hon4.cf hcs (hon4.apart hr4 (by decide)), hfarv.gr HPX.out.pre HG1.out.toGr, hpo.ha⟩, HFS.out.gr (hap3 _ HCA.out) HG4.out, HG1.out.toGr.own.imp id (fun ⟨g, h1, h2⟩ => ⟨g, h1, zN HBX.out.size h2⟩), HG4.out.own.imp id (fun ⟨g, h1, h2⟩ => ⟨g, h1, zN hsz h2⟩)⟩, zaa hcw⟩
theorem delN_one (u : World) (B g sn c i j d : Nat) (xs : List Value) (h : u.ownsRow B 3 1 (.slice (some ⟨g, 0, none⟩) sn c) sn xs) (hx1 : ∀ v ∈ xs, v.oneCell' = true) (hij : i + 1 = j) (hj : j ≤ sn) (hd : d + 1 = sn) (hsn : sn ≤ 65535) :
  Calls Tryz.prog 285 #[.slice (some ⟨g, 0, none⟩) sn c, .int .i64 (i : Int), .int .i64 (j : Int)] u fun e w' => e = .returned (.slice (some ⟨g, 0, none⟩) d c) ∧ Hid (w'.ownsRow B 3 1 (.slice (some ⟨g, 0, none⟩) d c) d (xs.take i ++ xs.drop j)) ∧ Hid (u.grownBy w' (some g)) := by
 by_cases e : c = j
 ·exact delN_end u B g sn c i j (sn - j) d xs h hx1 hij (by omega) e (by omega) hsn
 ·exact delN_mid u B g sn c i j (sn - j) d xs h hx1 hij (by omega) e (by omega) hsn
theorem hasQ (w : World) (a : Nat) (k : Int) (n : Nat) (po : Option Addr) (pn pc : Nat) (bo : Option Addr) (bn bc : Nat) (so : Option Addr) (sn sc : Nat) (ws : Int) (P body : List Int) (st : List Nat) (h : PgQ w a k n po pn pc bo bn bc so sn sc ws P body st) (i : Nat) (hi : i < sn) :
  Calls Tryz.prog 278 #[.pointer (some ⟨a, 0, none⟩), .int .i64 (i : Int)] w fun e w' => e = .returned (.bool true) ∧ w' = w := by
 have HL := zaa (zbl w a k n po pn pc bo bn bc so sn sc ws P body st h)
 have h1 : (i : Int) < (sn : Int) := by omega
 clear h
 go_enter Tryz.func278, Tryz.ntmps278
 go_wp2_with (go_at_call 159; refine zae HL.out ?_)
 go_ret
 exact ⟨by simp, rfl⟩
theorem rem_in (w : World) (B a : Nat) (k : Int) (n : Nat) (po : Option Addr) (pn pc : Nat) (bo : Option Addr) (bn bc : Nat) (so : Option Addr) (sn sc : Nat) (ws : Int) (P body : List Int) (st : List Nat)
  (hPO : PO w B a k n po pn pc (.slice bo bn bc) (.slice so sn sc) ws P body st) (hbb : bn ≤ 65536) (hss : sn ≤ 65535) (i j e : Nat) (hij : i + 1 = j) (his : j ≤ sn) (hes : e + 1 = sn) (he0 : 0 < e) (hk0 : ¬ (k = 3 ∧ i = 0)) (cs : List Cl) (hl : LayQ k P cs body st) (d : Cl) (hd : cs[i]? = some d) (hwf : Wf body) (hw0 : 0 ≤ ws) (hw1 : ws ≤ 65536) (T : Nat) (hT : (qB P.length d).length = T) (hfs : Far po pn (.slice so sn sc)) :
  Calls Tryz.prog 274 #[.pointer (some ⟨a, 0, none⟩), .int .i64 (i : Int)] w fun r w' => r = .returned (.int .i64 0) ∧ Hid (PO w' B a k n po pn pc (.slice bo bn bc) (.slice so e sc) (ws + (T : Int)) P body (st.take i ++ st.drop j)) ∧ Hid (Cf (QZ a (.slice bo bn bc) (.slice so sn sc)) w w') := by
 have hsl : sn = st.length := hPO.on.len
 have hbl : bn = body.length := hPO.ob.len
 have hTb : T ≤ bn := by
  obtain ⟨r, hr⟩ := hl.at_ i d hd
  have h1 := congrArg List.length hr
  rw [if_neg hk0, zK, zG, hT] at h1
  omega
 have hpg := hPO.pgq hwf (by omega) (by omega)
 have hon := hPO.on
 unfold OwnN at hon
 rw [← hsl] at hon
 obtain ⟨g, rfl⟩ : ∃ g, so = some ⟨g, 0, none⟩ := by
  rcases hon.2 with ⟨_, h0⟩ | ⟨g, cap, cur, e1, _⟩
  ·omega
  ·injection e1 with e1 _ _
   exact ⟨g, e1⟩
 have HHS := zaa (hasQ w a k n po pn pc bo bn bc _ sn sc ws P body st hpg i (by omega))
 have HLN := zaa (zbl w a k n po pn pc bo bn bc _ sn sc ws P body st hpg)
 have HSW : Hid (∀ u, Calls Tryz.prog 153 #[.int .i64 k, .int .i64 (i : Int)] u fun e w' => e = .returned (.bool false) ∧ w' = u) := zaa (fun u => by
  have := zba k (i : Int) u
  rwa [decide_eq_false (by omega)] at this)
 have HTK : Hid (∀ u, Below w.heap.size w u → Calls Tryz.prog 284 #[.pointer (some ⟨a, 0, none⟩), .int .i64 (i : Int)] u fun e w' => e = .returned (.int .i64 (T : Int)) ∧ w'.cell? ⟨a, 5, none⟩ = some (.int .i64 ws) ∧ w'.frozen? ⟨a, 5, none⟩ = false ∧ Hid (Below w.heap.size w w')) := zaa fun u hu => by
  refine (takenQ_any u a k n po pn pc bo bn bc _ sn sc ws P body st cs (hpg.on hu) hl i d hd (by omega) T (by rw [if_neg hk0]; exact hT)).mono ?_
  rintro e w' ⟨rfl, HB⟩
  have hb := zab hu Lr HB.out
  have hr : QR w' a k n (.slice po pn pc) (.slice bo bn bc) (.slice (some ⟨g, 0, none⟩) sn sc) ws := zaf hPO.row hb
  exact ⟨rfl, hr.cells.2.2.2.2.2, hr.free 5, zaa hb⟩
 have hTI : (T : Int) ≤ 65536 := by omega
 have hIJ : (i : Int) + 1 = (j : Int) := by omega
 have hJI : (j : Int) ≤ 65535 := by omega
 have hS1 : ¬ (sn : Int) = 1 := by omega
 obtain ⟨c0, c1, c2, c3, c4, c5⟩ := hPO.row.cells
 have f5 := hPO.row.free 5
 have HPO := zaa hPO
 have HFS := zaa hfs
 have HSL := zaa hsl
 have HAPS : Hid ((Value.slice (some ⟨g, 0, none⟩) sn sc).ownBlock ≠ some a) := zaa (by
  have := hPO.row
  unfold QR at this
  exact hPO.on.apart this (by decide))
 clear hPO hpg hon hl hd hwf hT hfs hsl hbl hTb
 go_enter Tryz.func274, Tryz.ntmps274
 go_upto_region 5 with (first | (go_at_call 278; refine zae HHS.out ?_) | (go_at_call 153; refine zae (HSW.out _) ?_) | (go_at_call 159; refine zae HLN.out ?_))
 go_region_with (first | (go_at_call 284; refine (HTK.out _ (by first | exact Br | exact Br.drew | exact zad Br _)).mono ?_; rintro r w3 ⟨rfl, y5, z5, HB3⟩))
 all_goals
  obtain ⟨w4, hw4⟩ : ∃ w4, w3.setCell ⟨a, 5, none⟩ (.int .i64 (ws + (T : Int))) = w4 := ⟨_, rfl⟩
  have HP4 : Hid (PO w4 B a k n po pn pc (.slice bo bn bc) (.slice (some ⟨g, 0, none⟩) sn sc) (ws + (T : Int)) P body st ∧ Cf (QZ a (.slice bo bn bc) (.slice (some ⟨g, 0, none⟩) sn sc)) w w4) := zaa (by
   have hp3 := HPO.out.go HB3.out
   have hr3 := hp3.row
   unfold QR at hr3
   have hcs : Cf (· = a) w3 w4 := by rw [← hw4]; exact Cf.set _ _ _ _
   refine ⟨⟨by rw [← hw4]; exact hp3.row.set5 _, hp3.pre.cf hcs (hp3.pre.apartQ hp3.row), hp3.ob.cf hcs (hp3.ob.apart hr3 (by decide)), hp3.on.cf hcs (hp3.on.apart hr3 (by decide)), hp3.far, hp3.ha⟩, ?_⟩
   exact (Cf.of_below HB3.out).go (hcs.wideQ (fun b e => .inl e)))
  have HDL : Hid (Calls Tryz.prog 285 #[.slice (some ⟨g, 0, none⟩) sn sc, .int .i64 (i : Int), .int .i64 (j : Int)] w4 fun r w' => r = .returned (.slice (some ⟨g, 0, none⟩) e sc) ∧ Hid (w'.ownsRow B 3 1 (.slice (some ⟨g, 0, none⟩) e sc) e ((NI st).take i ++ (NI st).drop j)) ∧ Hid (w4.grownBy w' (some g))) := zaa (by
   have hon := HP4.out.1.on
   unfold OwnN at hon
   rw [← HSL.out] at hon
   exact delN_one w4 B g sn sc i j e (NI st) hon (NI_one _) hij his hes hss)
  clear c0 c1 c2 c3 c4 c5 f5 y5 z5
  obtain ⟨c0, c1, c2, c3, c4, c5⟩ := HP4.out.1.row.cells
  have f4 := HP4.out.1.row.free 4
  rw [show IntKind.i64.wrap (ws + (T : Int)) = ws + (T : Int) by rw [IntKind.wrap_i64]; omega, hw4]
  clear hw4
  go_wp2_with (go_at_call 285; refine HDL.out.mono ?_; rintro r w5 ⟨rfl, HO5, HG5⟩; refine Hid.out ?_)
  apply zaa
  have hg5 : Gr w4 (.slice (some ⟨g, 0, none⟩) sn sc) w5 (.slice (some ⟨g, 0, none⟩) e sc) := RN.gr_in HG5.out
  have HG6 := zaa hg5
  have HR5 : Hid (QR w5 a k n (.slice po pn pc) (.slice bo bn bc) (.slice (some ⟨g, 0, none⟩) sn sc) (ws + (T : Int))) := zaa (HP4.out.1.row.gr hg5 HAPS.out)
  clear c0 c1 c2 c3 c4 c5 f4 hg5 HDL
  obtain ⟨c0, c1, c2, c3, c4, c5⟩ := HR5.out.cells
  have f4 := HR5.out.free 4
  go_wp2
  go_ret
  have hp4 := HP4.out.1
  have hcs : Cf (· = a) w5 (w5.setCell ⟨a, 4, none⟩ (.slice (some ⟨g, 0, none⟩) e sc)) := Cf.set _ _ _ _
  have hr5 := HR5.out
  unfold QR at hr5
  have hob5 := hp4.ob.gr HG6.out (hp4.ob.apartN hp4.on)
  have hon5 : OwnN w5 B (.slice (some ⟨g, 0, none⟩) e sc) (st.take i ++ st.drop j) := by
   unfold OwnN
   have e1 : NI (st.take i ++ st.drop j) = (NI st).take i ++ (NI st).drop j := by simp [NI]
   have e2 : (st.take i ++ st.drop j).length = e := by have := HSL.out; simp; omega
   rw [e1, e2]
   exact HO5.out
  have hcw : Cf (QZ a (.slice bo bn bc) (.slice (some ⟨g, 0, none⟩) sn sc)) w (w5.setCell ⟨a, 4, none⟩ (.slice (some ⟨g, 0, none⟩) e sc)) := (HP4.out.2.go (Cf.ofGr HG6.out (fun g e => .inr (.inr e)))).go (hcs.wideQ (fun b e => .inl e))
  have hpo := HPO.out
  have hpre : Sl (w5.setCell ⟨a, 4, none⟩ (.slice (some ⟨g, 0, none⟩) e sc)) po pn pc P := hpo.pre.cf hcw (by
   rcases hpo.pre.apartQ hpo.row with h | h
   ·exact .inl h
   ·rcases hpo.far with h1 | h1
    ·exact .inl h1
    ·rcases HFS.out with h2 | h2
     ·exact .inl h2
     ·right
      intro p hp
      rintro (e | e | e)
      ·exact h p hp e
      ·exact h1 p hp e
      ·exact h2 p hp e)
  exact ⟨rfl, zaa ⟨HR5.out.set4 _, hpre, hob5.cf hcs (hob5.apart hr5 (by decide)), hon5.cf hcs (hon5.apart hr5 (by decide)), hp4.far, hp4.ha⟩, zaa hcw⟩
theorem hasQ_no (w : World) (a : Nat) (k : Int) (n : Nat) (po : Option Addr) (pn pc : Nat) (bo : Option Addr) (bn bc : Nat) (so : Option Addr) (sn sc : Nat) (ws : Int) (P body : List Int) (st : List Nat) (h : PgQ w a k n po pn pc bo bn bc so sn sc ws P body st) (i : Int) (hi : ¬ (0 ≤ i ∧ i < (sn : Int))) :
  Calls Tryz.prog 278 #[.pointer (some ⟨a, 0, none⟩), .int .i64 i] w fun e w' => e = .returned (.bool false) ∧ w' = w := by
 have HL := zaa (zbl w a k n po pn pc bo bn bc so sn sc ws P body st h)
 clear h
 by_cases h0 : 0 ≤ i
 ·have h1 : ¬ i < (sn : Int) := fun h => hi ⟨h0, h⟩
  clear hi
  go_enter Tryz.func278, Tryz.ntmps278
  go_wp2_with (go_at_call 159; refine zae HL.out ?_)
  go_ret
  exact ⟨by simp; omega, rfl⟩
 ·clear hi
  go_enter Tryz.func278, Tryz.ntmps278
  go_wp2_with (go_at_call 159; refine zae HL.out ?_)
  go_ret
  exact ⟨by simp, rfl⟩
theorem rem_no (w : World) (a : Nat) (k : Int) (n : Nat) (po : Option Addr) (pn pc : Nat) (bo : Option Addr) (bn bc : Nat) (so : Option Addr) (sn sc : Nat) (ws : Int) (P body : List Int) (st : List Nat) (h : PgQ w a k n po pn pc bo bn bc so sn sc ws P body st) (i : Int) (hi : ¬ (0 ≤ i ∧ i < (sn : Int))) :
  Calls Tryz.prog 274 #[.pointer (some ⟨a, 0, none⟩), .int .i64 i] w fun e w' => e = .returned (.int .i64 64) ∧ w' = w := by
 have HHS := zaa (hasQ_no w a k n po pn pc bo bn bc so sn sc ws P body st h i hi)
 clear h hi
 go_enter Tryz.func274, Tryz.ntmps274
 go_wp2_with (go_at_call 278; refine zae HHS.out ?_)
 go_ret
 exact ⟨rfl, rfl⟩
theorem ordL_flip : ∀ (a b : List Int), ordL a b = - ordL b a
 | [], [] => rfl
 | [], _ :: _ => rfl
 | _ :: _, [] => rfl
 | x :: a, y :: b => by
  have ih := ordL_flip a b
  simp only [ordL]
  by_cases h1 : x < y
  ·have h2 : ¬ y < x := by omega
   rw [if_pos h1, if_neg h2, if_pos h1]
  ·by_cases h2 : y < x
   ·rw [if_neg h1, if_pos h2, if_pos h2]
    rfl
   ·rw [if_neg h1, if_neg h2, if_neg h2, if_neg h1]
    exact ih
def spl {α : Type} (l : List α) (i j : Nat) (x : α) : List α := l.take i ++ [x] ++ l.drop j
theorem spl_get {α : Type} (l : List α) (i j : Nat) (x : α) (hi : i ≤ l.length) (q : Nat) : (spl l i j x)[q]? = if q < i then l[q]? else if q = i then some x else l[j + (q - i - 1)]? := by
 have hl : (l.take i).length = i := by rw [zJ]; omega
 unfold spl
 by_cases h1 : q < i
 ·rw [if_pos h1, zM, zL (by omega), List.getElem?_take_of_lt h1]
 ·rw [if_neg h1]
  by_cases h2 : q = i
  ·subst h2
   rw [if_pos rfl, zM, List.getElem?_append_right (by omega), hl, Nat.sub_self]
   rfl
  ·rw [if_neg h2, List.getElem?_append_right (by rw [zG, hl]; simp; omega), zG, hl, List.getElem?_drop]
   congr 1
theorem cut_get {α : Type} (l : List α) (i j : Nat) (hi : i ≤ l.length) (q : Nat) : (l.take i ++ l.drop j)[q]? = if q < i then l[q]? else l[j + (q - i)]? := by
 have hl : (l.take i).length = i := by rw [zJ]; omega
 by_cases h1 : q < i
 ·rw [if_pos h1, zL (by omega), List.getElem?_take_of_lt h1]
 ·rw [if_neg h1, List.getElem?_append_right (by omega), hl, List.getElem?_drop]
theorem zdk {α : Type} (l : List α) (i j : Nat) (x : α) (hi : i ≤ l.length) : (spl l i j x).length = i + 1 + (l.length - j) := by
 unfold spl
 simp
 omega
theorem spl_mem {α : Type} {l : List α} {i j : Nat} {x y : α} (h : y ∈ spl l i j x) : y = x ∨ y ∈ l.take i ∨ y ∈ l.drop j := by
 unfold spl at h
 rcases List.mem_append.1 h with h | h
 ·rcases List.mem_append.1 h with h | h
  ·exact .inr (.inl h)
  ·exact .inl (by simpa using h)
 ·exact .inr (.inr h)
theorem zcy {α : Type} {l : List α} {i j : Nat} {x y : α} (h : y ∈ spl l i j x) : y = x ∨ y ∈ l := by
 rcases spl_mem h with h | h | h
 ·exact .inl h
 ·exact .inr (List.mem_of_mem_take h)
 ·exact .inr (List.mem_of_mem_drop h)
def hdQ (k : Int) (i : Nat) (P : List Int) : List Int := if k = 3 ∧ i = 0 then [] else P
theorem hdQ_len (k : Int) (i : Nat) (P : List Int) : (if k = 3 ∧ i = 0 then 0 else P.length) = (hdQ k i P).length := by unfold hdQ; split <;> rfl
theorem LayQ.lt {k : Int} {P : List Int} {cs : List Cl} {body : List Int} {st : List Nat} (h : LayQ k P cs body st) {i : Nat} {c : Cl} (hi : cs[i]? = some c) : st.getD i 0 < body.length := by
 obtain ⟨r, hr⟩ := h.at_ i c hi
 have h1 := congrArg List.length hr
 rw [zK, zG] at h1
 have := qB_pos (if k = 3 ∧ i = 0 then 0 else P.length) c
 omega
theorem ktl_get {k : Int} {cs : List Cl} {c : Cl} (h : c ∈ ktl k cs) : ∃ j, cs[j]? = some c ∧ ¬ (k = 3 ∧ j = 0) := by
 unfold ktl at h
 by_cases hk : k = 3
 ·rw [if_pos hk] at h
  obtain ⟨j, hj⟩ := List.getElem?_of_mem h
  refine ⟨j + 1, ?_, by omega⟩
  rwa [List.getElem?_tail] at hj
 ·rw [if_neg hk] at h
  obtain ⟨j, hj⟩ := List.getElem?_of_mem h
  exact ⟨j, hj, by omega⟩
theorem beg_of {k : Int} {P : List Int} {cs : List Cl} (h : ∀ j c, cs[j]? = some c → ¬ (k = 3 ∧ j = 0) → c.key.take P.length = P) : Beg k P cs := fun c hc => by
 obtain ⟨j, h1, h2⟩ := ktl_get hc
 exact h j c h1 h2
theorem getD_of {l : List Nat} {i j : Nat} {m : List Nat} (h : l[i]? = m[j]?) : l.getD i 0 = m.getD j 0 := by
 rw [List.getD_eq_getElem?_getD, List.getD_eq_getElem?_getD, h]
theorem LayQ.put {k : Int} {P : List Int} {cs : List Cl} {body : List Int} {st : List Nat} (h : LayQ k P cs body st) {i j : Nat} (hij : j = i ∨ j = i + 1) (hj : j ≤ cs.length) (hk : j = i → ¬ (k = 3 ∧ i = 0)) {c : Cl} (hc : c.fit) (hb : c.key.take (hdQ k i P).length = hdQ k i P) :
  LayQ k P (spl cs i j c) (body ++ qB (hdQ k i P).length c) (spl st i j body.length) := by
 have hl := h.len
 have hi : i ≤ cs.length := by omega
 have hold : ∀ q d, cs[q]? = some d → ∃ r, (body ++ qB (hdQ k i P).length c).drop (st.getD q 0) = qB (if k = 3 ∧ q = 0 then 0 else P.length) d ++ r := by
  intro q d hd
  obtain ⟨r, hr⟩ := h.at_ q d hd
  have := h.lt hd
  refine ⟨r ++ qB (hdQ k i P).length c, ?_⟩
  rw [List.drop_append_of_le_length (by omega), hr, zM]
 refine ⟨?_, ?_, ?_, ?_⟩
 ·rw [zdk _ _ _ _ hi, zdk _ _ _ _ (by omega)]
  omega
 ·refine beg_of fun q d hd hq => ?_
  rw [spl_get _ _ _ _ hi] at hd
  split at hd
  ·exact h.beg d (zco hd hq)
  ·split at hd
   ·injection hd with hd
    subst hd
    unfold hdQ at hb
    rwa [if_neg (by omega)] at hb
   ·exact h.beg d (zco hd (by omega))
 ·intro d hd
  rcases zcy hd with rfl | hd
  ·exact hc
  ·exact h.fit d hd
 ·intro q d hd
  rw [spl_get _ _ _ _ hi] at hd
  have hg := spl_get st i j body.length (by omega) q
  split at hd
  ·next h1 =>
   rw [if_pos h1] at hg
   rw [getD_of hg]
   exact hold q d hd
  ·next h1 =>
   rw [if_neg h1] at hg
   split at hd
   ·next h2 =>
    rw [if_pos h2] at hg
    injection hd with hd
    subst hd
    subst h2
    rw [List.getD_eq_getElem?_getD, hg, Option.getD_some, List.drop_left, hdQ_len]
    exact ⟨[], by simp⟩
   ·next h2 =>
    rw [if_neg h2] at hg
    rw [getD_of hg, if_neg (show ¬ (k = 3 ∧ q = 0) by omega)]
    obtain ⟨r, hr⟩ := hold _ d hd
    rw [if_neg (show ¬ (k = 3 ∧ j + (q - i - 1) = 0) by omega)] at hr
    exact ⟨r, hr⟩
theorem LayQ.rem {k : Int} {P : List Int} {cs : List Cl} {body : List Int} {st : List Nat} (h : LayQ k P cs body st) {i j : Nat} (hij : i + 1 = j) (hj : j ≤ cs.length) (hk : ¬ (k = 3 ∧ i = 0)) :
  LayQ k P (cs.take i ++ cs.drop j) body (st.take i ++ st.drop j) := by
 have hl := h.len
 have hi : i ≤ cs.length := by omega
 refine ⟨?_, ?_, ?_, ?_⟩
 ·simp
  omega
 ·refine beg_of fun q d hd hq => ?_
  rw [cut_get _ _ _ hi] at hd
  split at hd
  ·exact h.beg d (zco hd hq)
  ·exact h.beg d (zco hd (by omega))
 ·intro d hd
  rcases List.mem_append.1 hd with hd | hd
  ·exact h.fit d (List.mem_of_mem_take hd)
  ·exact h.fit d (List.mem_of_mem_drop hd)
 ·intro q d hd
  rw [cut_get _ _ _ hi] at hd
  have hg := cut_get st i j (by omega) q
  split at hd
  ·next h1 =>
   rw [if_pos h1] at hg
   rw [getD_of hg]
   exact h.at_ q d hd
  ·next h1 =>
   rw [if_neg h1] at hg
   rw [getD_of hg, if_neg (show ¬ (k = 3 ∧ q = 0) by omega)]
   obtain ⟨r, hr⟩ := h.at_ _ d hd
   rw [if_neg (show ¬ (k = 3 ∧ j + (q - i) = 0) by omega)] at hr
   exact ⟨r, hr⟩
def lvQ (k : Int) (P : List Int) (cs : List Cl) : Nat := (qbd P.length (whl k) cs).length
theorem qbd_app (m : Nat) : ∀ (f : Bool) (a b : List Cl), qbd m f (a ++ b) = qbd m f a ++ qbd m (f && a.isEmpty) b
 | f, [], b => by simp [qbd]
 | f, c :: a, b => by
  have ih := qbd_app m false a b
  simp only [Bool.false_and] at ih
  simp only [List.cons_append, qbd, ih, List.isEmpty_cons, Bool.and_false, zM]
theorem whl_at {k : Int} {cs : List Cl} {i : Nat} (hi : i ≤ cs.length) : (whl k && (cs.take i).isEmpty) = decide (k = 3 ∧ i = 0) := by
 unfold whl
 by_cases h : i = 0
 ·subst h
  simp
 ·have : (cs.take i).isEmpty = false := by
   rw [List.isEmpty_eq_false_iff]
   intro e
   have := congrArg List.length e
   rw [zJ, List.length_nil] at this
   omega
  simp [this, h]
theorem cut_dec (k : Int) (i : Nat) (P : List Int) : (if decide (k = 3 ∧ i = 0) = true then 0 else P.length) = (hdQ k i P).length := by
 unfold hdQ
 by_cases h : k = 3 ∧ i = 0
 ·rw [decide_eq_true h, if_pos rfl, if_pos h]; rfl
 ·rw [decide_eq_false h, if_neg (by decide), if_neg h]
theorem lvQ_ins (k : Int) (P : List Int) (cs : List Cl) (i : Nat) (c : Cl) (hi : i ≤ cs.length) (hk : ¬ (k = 3 ∧ i = 0)) : lvQ k P (spl cs i i c) = lvQ k P cs + (qB P.length c).length := by
 have h1 := qbd_app P.length (whl k) (cs.take i) (cs.drop i)
 rw [List.take_append_drop, whl_at hi, decide_eq_false hk] at h1
 unfold lvQ spl
 rw [h1, zM, qbd_app P.length (whl k) (cs.take i), whl_at hi, decide_eq_false hk]
 simp [qbd]
 omega
theorem lvQ_set (k : Int) (P : List Int) (cs : List Cl) (i j : Nat) (c d : Cl) (hij : i + 1 = j) (hd : cs[i]? = some d) : lvQ k P (spl cs i j c) + (qB (hdQ k i P).length d).length = lvQ k P cs + (qB (hdQ k i P).length c).length := by
 obtain ⟨hi, e⟩ := zH.1 hd
 have h1 := qbd_app P.length (whl k) (cs.take i) (cs.drop i)
 rw [List.take_append_drop, whl_at (by omega), List.drop_eq_getElem_cons hi, e, hij] at h1
 unfold lvQ spl
 rw [h1, zM, qbd_app P.length (whl k) (cs.take i), whl_at (by omega)]
 simp only [qbd, cut_dec, List.cons_append, List.nil_append, zG]
 omega
theorem lvQ_rem (k : Int) (P : List Int) (cs : List Cl) (i j : Nat) (d : Cl) (hij : i + 1 = j) (hd : cs[i]? = some d) (hk : ¬ (k = 3 ∧ i = 0)) : lvQ k P (cs.take i ++ cs.drop j) + (qB P.length d).length = lvQ k P cs := by
 obtain ⟨hi, e⟩ := zH.1 hd
 have h1 := qbd_app P.length (whl k) (cs.take i) (cs.drop i)
 rw [List.take_append_drop, whl_at (by omega), decide_eq_false hk, List.drop_eq_getElem_cons hi, e, hij] at h1
 unfold lvQ
 rw [h1, qbd_app P.length (whl k) (cs.take i), whl_at (by omega), decide_eq_false hk]
 simp only [qbd, zG, Bool.false_eq_true, if_false]
 omega
def ordOk (cs : List Cl) (i j : Nat) (c : Cl) : Prop := (∀ t d, i = t + 1 → cs[t]? = some d → ordL d.key c.key < 0) ∧ (∀ d, cs[j]? = some d → 0 < ordL d.key c.key)
theorem rs_spl {cs : List Cl} {i j : Nat} {c : Cl} (hr : Rs cs) (hij : i ≤ j) (hj : j ≤ cs.length) (ho : ordOk cs i j c) : Rs (spl cs i j c) := by
 have hlo : ∀ q d, q < i → cs[q]? = some d → kl d.key c.key := by
  intro q d hq hd
  obtain ⟨t, rfl⟩ : ∃ t, i = t + 1 := ⟨i - 1, by omega⟩
  obtain ⟨e, he⟩ : ∃ e, cs[t]? = some e := ⟨_, zI (by omega)⟩
  have h1 : kl e.key c.key := by
   have := ho.1 t e rfl he
   have h3 := zcg e.key c.key
   unfold kl
   omega
  by_cases e2 : q = t
  ·subst e2
   rw [he] at hd
   injection hd with hd
   subst hd
   exact h1
  ·exact zce _ _ _ (rs_at hr (show q < t by omega) hd he) h1
 have hhi : ∀ q d, j ≤ q → cs[q]? = some d → kl c.key d.key := by
  intro q d hq hd
  have hql := (zH.1 hd).1
  obtain ⟨e, he⟩ : ∃ e, cs[j]? = some e := ⟨_, zI (by omega)⟩
  have h1 : kl c.key e.key := by
   have := ho.2 e he
   have h3 := zcg e.key c.key
   have h4 := ordL_flip c.key e.key
   unfold kl
   omega
  by_cases e2 : q = j
  ·subst e2
   rw [he] at hd
   injection hd with hd
   subst hd
   exact h1
  ·exact zce _ _ _ h1 (rs_at hr (show j < q by omega) he hd)
 unfold Rs
 rw [List.pairwise_iff_getElem]
 intro p q hp hq hpq
 have gp := spl_get cs i j c (by omega) p
 have gq := spl_get cs i j c (by omega) q
 rw [zI hp] at gp
 rw [zI hq] at gq
 generalize (spl cs i j c)[p] = x at *
 generalize (spl cs i j c)[q] = y at *
 by_cases h1 : p < i
 ·rw [if_pos h1] at gp
  by_cases h2 : q < i
  ·rw [if_pos h2] at gq
   exact rs_at hr hpq gp.symm gq.symm
  ·rw [if_neg h2] at gq
   by_cases h3 : q = i
   ·rw [if_pos h3] at gq
    injection gq with gq
    subst gq
    exact hlo p x h1 gp.symm
   ·rw [if_neg h3] at gq
    exact rs_at hr (show p < j + (q - i - 1) by omega) gp.symm gq.symm
 ·rw [if_neg h1] at gp
  rw [if_neg (by omega), if_neg (by omega)] at gq
  by_cases h3 : p = i
  ·rw [if_pos h3] at gp
   injection gp with gp
   subst gp
   exact hhi _ y (by omega) gq.symm
  ·rw [if_neg h3] at gp
   exact rs_at hr (show j + (p - i - 1) < j + (q - i - 1) by omega) gp.symm gq.symm
theorem rs_cut {cs : List Cl} (i j : Nat) (hij : i ≤ j) (hr : Rs cs) : Rs (cs.take i ++ cs.drop j) := by
 unfold Rs at *
 refine List.Pairwise.sublist ?_ hr
 have h1 : cs.take i ++ cs.drop j = cs.take i ++ (cs.drop i).drop (j - i) := by rw [List.drop_drop]; congr 2; omega
 rw [h1]
 conv => rhs; rw [← List.take_append_drop i cs]
 exact List.Sublist.append (List.Sublist.refl _) (List.drop_sublist _ _)
structure Qs where
 P : List Int
 cs : List Cl
 ws : Nat
def filQ (k : Int) (s : Qs) : Nat := 10 + s.P.length + 2 * s.cs.length + s.ws + lvQ k s.P s.cs
theorem filQ_eq (k : Int) (s : Qs) : filQ k s = szQ k s.P.length s.cs + s.ws := by
 have := szQ_eq k s.P.length s.cs
 unfold filQ lvQ
 omega
def LayR (k : Int) (n : Nat) (s : Qs) (cs : List Cl) (code : Int) (t : Qs) : Prop :=
 (szQ k (shP k cs).length cs ≤ n ∧ code = 0 ∧ t = ⟨shP k cs, cs, 0⟩) ∨ (¬ szQ k (shP k cs).length cs ≤ n ∧ code = 61 ∧ t = s)
def inPl (k : Int) (n : Nat) (s : Qs) (i j : Nat) (c : Cl) : Prop := ¬ (j = i ∧ k = 3 ∧ i = 0) ∧ c.key.take (hdQ k i s.P).length = hdQ k i s.P ∧ filQ k s + (qB (hdQ k i s.P).length c).length + 2 * (i + 1 - j) ≤ n
def gone (k : Int) (s : Qs) (i j : Nat) : Nat := if j = i then 0 else match s.cs[i]? with
 | none => 0
 | some d => (qB (hdQ k i s.P).length d).length
def PutR (k : Int) (n : Nat) (s : Qs) (i j : Nat) (c : Cl) (code : Int) (t : Qs) : Prop :=
 (¬ mayP k n c ∧ code = 62 ∧ t = s) ∨ (mayP k n c ∧ ¬ ordOk s.cs i j c ∧ code = 63 ∧ t = s) ∨
 (mayP k n c ∧ ordOk s.cs i j c ∧ ((inPl k n s i j c ∧ code = 0 ∧ t = ⟨s.P, spl s.cs i j c, s.ws + gone k s i j⟩) ∨ (¬ inPl k n s i j c ∧ LayR k n s (spl s.cs i j c) code t)))
structure Qok (k : Int) (n : Nat) (s : Qs) : Prop where
 beg : Beg k s.P s.cs
 rs : Rs s.cs
 may : ∀ c ∈ s.cs, mayP k n c
 wf : ∀ c ∈ s.cs, c.Wf
 fit : filQ k s ≤ n
def Zk (K : Nat → Prop) (w w' : World) : Nat → Prop := fun b => K b ∨ (w.heap.size ≤ b ∧ b < w'.heap.size)
def OutK (K : Nat → Prop) (ao : Option Addr) (n : Nat) : Prop := n = 0 ∨ ∀ p, ao = some p → ¬ K p.block
theorem Nw.inz {B : Nat} {w : World} {po : Option Addr} {pn pc : Nat} {P : List Int} (h : Nw B po pn) (hs : Sl w po pn pc P) {K : Nat → Prop} {w0 : World} (hB : w0.heap.size = B := by rfl) : pn = 0 ∨ ∀ p, po = some p → Zk K w0 w p.block := by
 rcases h with h | h
 ·exact .inl h
 ·rcases hs.hat with h0 | ⟨b, off, e, hb, _⟩
  ·exact .inl h0
  ·refine .inr fun p hp => .inr ⟨hB ▸ h p hp, ?_⟩
   rw [e] at hp
   injection hp with hp
   rw [← hp]
   exact hb
structure PkA (w : World) (K : Nat → Prop) (a : Nat) (k : Int) (n : Nat) (s : Qs) (po : Option Addr) (pn pc : Nat) (bo : Option Addr) (bn bc : Nat) (so : Option Addr) (sn sc : Nat) (body : List Int) (st : List Nat) : Prop where
 pg : PO w 0 a k n po pn pc (.slice bo bn bc) (.slice so sn sc) (s.ws : Int) s.P body st
 lay : LayQ k s.P s.cs body st
 wf : Wf body
 far : Far po pn (.slice so sn sc)
 ok : Qok k n s
 sum : bn = s.ws + lvQ k s.P s.cs
 ka : K a
 kb : ∀ g, (Value.slice bo bn bc).ownBlock = some g → K g
 ks : ∀ g, (Value.slice so sn sc).ownBlock = some g → K g
 kp : pn = 0 ∨ ∀ p, po = some p → K p.block
 kl : ∀ b, K b → b < w.heap.size
def Pk (w : World) (K : Nat → Prop) (a : Nat) (k : Int) (n : Nat) (s : Qs) : Prop := ∃ po pn pc bo bn bc so sn sc body st, PkA w K a k n s po pn pc bo bn bc so sn sc body st
section
variable {w w' : World} {K : Nat → Prop} {a : Nat} {k : Int} {n : Nat} {s : Qs} {po : Option Addr} {pn pc : Nat} {bo : Option Addr} {bn bc : Nat} {so : Option Addr} {sn sc : Nat} {body : List Int} {st : List Nat}
theorem PkA.go (h : PkA w K a k n s po pn pc bo bn bc so sn sc body st) (hb : Below w.heap.size w w') : PkA w' K a k n s po pn pc bo bn bc so sn sc body st :=
 ⟨h.pg.go hb, h.lay, h.wf, h.far, h.ok, h.sum, h.ka, h.kb, h.ks, h.kp, fun b e => zO (h.kl b e) hb.size⟩
theorem PkA.wide {G : Nat → Prop} (h : PkA w K a k n s po pn pc bo bn bc so sn sc body st) (hg : ∀ b, K b → G b) (hl : ∀ b, G b → b < w.heap.size) : PkA w G a k n s po pn pc bo bn bc so sn sc body st :=
 ⟨h.pg, h.lay, h.wf, h.far, h.ok, h.sum, hg _ h.ka, fun g e => hg g (h.kb g e), fun g e => hg g (h.ks g e), h.kp.imp id fun f p e => hg _ (f p e), hl⟩
theorem PkA.lens (h : PkA w K a k n s po pn pc bo bn bc so sn sc body st) : s.P.length = pn ∧ body.length = bn ∧ st.length = sn ∧ s.cs.length = sn ∧ filQ k s = 10 + pn + 2 * sn + bn := by
 have h1 := h.pg.pre.hlen
 have h2 := h.pg.ob.len
 have h3 := h.pg.on.len
 have h4 := h.lay.len
 have h5 := h.sum
 unfold filQ
 omega
theorem PkA.pgq (h : PkA w K a k n s po pn pc bo bn bc so sn sc body st) (hn : n ≤ 65536) : PgQ w a k n po pn pc bo bn bc so sn sc (s.ws : Int) s.P body st := by
 have h1 := h.lens
 have h2 := h.ok.fit
 exact h.pg.pgq h.wf (by omega) (by omega)
theorem PkA.cfq (h : PkA w K a k n s po pn pc bo bn bc so sn sc body st) (hc : Cf (QZ a (.slice bo bn bc) (.slice so sn sc)) w w') : Cf K w w' := hc.wideQ (fun b e => by
 rcases e with rfl | e | e
 ·exact h.ka
 ·exact h.kb b e
 ·exact h.ks b e)
theorem PkA.cfa (h : PkA w K a k n s po pn pc bo bn bc so sn sc body st) (hc : Cf (· = a) w w') : Cf K w w' := hc.wideQ (fun _ e => by rw [e]; exact h.ka)
theorem PkA.cfb (h : PkA w K a k n s po pn pc bo bn bc so sn sc body st) (hc : Cf (fun b => (Value.slice bo bn bc).ownBlock = some b) w w') : Cf K w w' := hc.wideQ (fun b e => h.kb b e)
theorem PkA.out (h : PkA w K a k n s po pn pc bo bn bc so sn sc body st) {ao : Option Addr} {m : Nat} (ho : OutK K ao m) : Far ao m (.slice bo bn bc) := by
 rcases ho with h0 | h0
 ·exact .inl h0
 ·exact .inr fun p hp e => h0 p hp (h.kb _ e)
theorem Pk.go (h : Pk w K a k n s) (hb : Below w.heap.size w w') : Pk w' K a k n s := by
 obtain ⟨po, pn, pc, bo, bn, bc, so, sn, sc, body, st, h⟩ := h
 exact ⟨po, pn, pc, bo, bn, bc, so, sn, sc, body, st, h.go hb⟩
theorem Pk.wide {G : Nat → Prop} (h : Pk w K a k n s) (hg : ∀ b, K b → G b) (hl : ∀ b, G b → b < w.heap.size) : Pk w G a k n s := by
 obtain ⟨po, pn, pc, bo, bn, bc, so, sn, sc, body, st, h⟩ := h
 exact ⟨po, pn, pc, bo, bn, bc, so, sn, sc, body, st, h.wide hg hl⟩
theorem Pk.kl (h : Pk w K a k n s) : ∀ b, K b → b < w.heap.size := by
 obtain ⟨po, pn, pc, bo, bn, bc, so, sn, sc, body, st, h⟩ := h
 exact h.kl
theorem Zk.lt {w0 : World} (h : ∀ b, K b → b < w0.heap.size) (hs : w0.heap.size ≤ w'.heap.size) : ∀ b, Zk K w w' b → b < w'.heap.size := by
 rintro b (e | e)
 ·exact zO (h b e) hs
 ·exact e.2
theorem Pk.zk {w0 : World} (h : Pk w K a k n s) : Pk w (Zk K w0 w) a k n s := h.wide (fun _ e => .inl e) (Zk.lt h.kl Lr)
theorem Pk.ok (h : Pk w K a k n s) : Qok k n s := by
 obtain ⟨po, pn, pc, bo, bn, bc, so, sn, sc, body, st, h⟩ := h
 exact h.ok
end
theorem Lo.farN {w : World} {B G : Nat} {v : Value} {l : List Nat} {ao : Option Addr} {n : Nat} (h : Lo G ao n) (ho : OwnN w B v l) (hG : G ≤ B) : Far ao n v := by
 rcases h with h0 | h
 ·exact .inl h0
 ·right
  intro p hp e
  have h1 := h p hp
  unfold OwnN at ho
  have h2 := (ho.lt _ e).1
  omega
theorem LaidTo.po2 {k : Int} {n : Nat} {cs : List Cl} {w w' : World} {e : Ending} (h : LaidTo k n cs w e w') :
  ∃ b po pn pc bo bn bc so sn sc, e = .returned (.pointer (some ⟨b, 0, none⟩)) ∧ Hid (PO w' w.heap.size b k n po pn pc (.slice bo bn bc) (.slice so sn sc) 0 (shP k cs) (qbd (shP k cs).length (whl k) cs) (qst (shP k cs).length (whl k) 0 cs) ∧ Far po pn (.slice so sn sc) ∧ Nw w.heap.size po pn) ∧ Hid (Below w.heap.size w w') ∧ Hid (pn = (shP k cs).length ∧ bn = (qbd (shP k cs).length (whl k) cs).length ∧ sn = cs.length) := by
 obtain ⟨w1, a, po, pn, pc, vb, vs, rfl, HL, HP, HB, HNW⟩ := h
 have hb := HL.out.be
 obtain ⟨bo, bc, rfl⟩ := HL.out.ob.shape
 obtain ⟨so, sc, rfl⟩ := HL.out.on.shape
 have hz := HB.out.size
 refine ⟨a, po, pn, pc, bo, _, bc, so, _, sc, rfl, zaa ⟨⟨HL.out.row, HP.out.on Lr hb, HL.out.ob.low hz, ?_, HP.out.lo.far HL.out.ob Lr, zN hz HL.out.ha⟩, HP.out.lo.farN HL.out.on Lr, HNW.out⟩, zaa (zab HB.out Lr hb), zaa ⟨HP.out.hlen.symm, rfl, zcn _ _ _ _⟩⟩
 have h6 := HL.out.on
 unfold OwnN at h6 ⊢
 rcases h6.2 with h8 | ⟨g, c, cur, e, hg, r⟩
 ·exact ⟨h6.1, .inl h8⟩
 ·exact ⟨h6.1, .inr ⟨g, c, cur, e, zN hz hg, r⟩⟩
def LayTo2 (a : Nat) (k : Int) (n : Nat) (cs : List Cl) (w : World) (e : Ending) (w' : World) : Prop :=
 e = .returned (.int .i64 0) ∧ Hid (Cf (· = a) w w') ∧ Hid (∃ po pn pc bo bn bc so sn sc, PO w' 0 a k n po pn pc (.slice bo bn bc) (.slice so sn sc) 0 (shP k cs) (qbd (shP k cs).length (whl k) cs) (qst (shP k cs).length (whl k) 0 cs) ∧ Far po pn (.slice so sn sc) ∧ (∀ g, (Value.slice bo bn bc).ownBlock = some g → w.heap.size ≤ g) ∧ (∀ g, (Value.slice so sn sc).ownBlock = some g → w.heap.size ≤ g) ∧ Nw w.heap.size po pn)
theorem lay_fit2 (w : World) (a : Nat) (k : Int) (n : Nat) (po : Option Addr) (pn pc : Nat) (bo : Option Addr) (bn bc : Nat) (so : Option Addr) (sn sc : Nat) (ws : Int) (h : QR w a k n (.slice po pn pc) (.slice bo bn bc) (.slice so sn sc) ws) (G : Nat) (ao : Option Addr) (m cap : Nat) (cs : List Cl) (hs : SlE w G ao m cap cs) (hG : G ≤ w.heap.size) (hr : Rs cs) (hf : ∀ c ∈ cs, c.fit) (hn : n ≤ 65536) (hfit : szQ k (shP k cs).length cs ≤ n) :
  Calls Tryz.prog 282 #[.pointer (some ⟨a, 0, none⟩), .slice ao m cap] w fun e w' => LayTo2 a k n cs w e w' := by
 have hz := szQ_eq k (shP k cs).length cs
 have hm : m ≤ 65536 := by have := hs.hlen; omega
 obtain ⟨Z, hZ⟩ : ∃ Z, szQ k (shP k cs).length cs = Z := ⟨_, rfl⟩
 rw [hZ] at hz hfit
 have haw := zah h
 have E1 : Hid (∀ u, Below w.heap.size w u → Calls Tryz.prog 157 #[.int .i64 k, .int .i64 (n : Int), .slice ao m cap] u fun e w' => ∃ b qo qn qc co cn cc to_ tn tc, e = .returned (.pointer (some ⟨b, 0, none⟩)) ∧ w'.cell? ⟨a, 1, none⟩ = some (.int .i64 (n : Int)) ∧ Hid (PO w' w.heap.size b k n qo qn qc (.slice co cn cc) (.slice to_ tn tc) 0 (shP k cs) (qbd (shP k cs).length (whl k) cs) (qst (shP k cs).length (whl k) 0 cs) ∧ Far qo qn (.slice to_ tn tc) ∧ Nw w.heap.size qo qn) ∧ Hid (Below w.heap.size w w') ∧ Hid (10 + qn + 2 * tn + cn = Z)) := by
  refine zaa fun u hu => (laid_any k n G ao m cap cs u (hs.on hu) (zN hG hu.size) hr hf hm (by omega)).mono ?_
  intro e w' hq
  obtain ⟨b, qo, qn, qc, co, cn, cc, to_, tn, tc, rfl, HPO, HB, HN⟩ := hq.po2
  have hb := zab hu Lr HB.out
  obtain ⟨hpo, hfr⟩ := HPO.out
  obtain ⟨n1, n2, n3⟩ := HN.out
  refine ⟨b, qo, qn, qc, co, cn, cc, to_, tn, tc, rfl, (show QR w' a k n (.slice po pn pc) (.slice bo bn bc) (.slice so sn sc) ws from zaf h hb).cells.2.1, zaa ⟨⟨hpo.row, hpo.pre, hpo.ob.low hu.size, ?_, hpo.far, zN hu.size hpo.ha⟩, hfr.1, hfr.2.low hu.size⟩, zaa hb, zaa (by omega)⟩
  have h6 := hpo.on
  unfold OwnN at h6 ⊢
  rcases h6.2 with h8 | ⟨g, c, cur, e, hg, r⟩
  ·exact ⟨h6.1, .inl h8⟩
  ·exact ⟨h6.1, .inr ⟨g, c, cur, e, zN hu.size hg, r⟩⟩
 have HRA : Hid (∀ u, Below w.heap.size w u → QR u a k n (.slice po pn pc) (.slice bo bn bc) (.slice so sn sc) ws) := zaa fun u hu => zaf h hu
 obtain ⟨c0, c1, c2, c3, c4, c5⟩ := h.cells
 have hfI : (Z : Int) ≤ (n : Int) := by omega
 have hnI : (n : Int) ≤ 65536 := by omega
 clear h hs hr hf hz hZ
 go_enter Tryz.func282, Tryz.ntmps282
 go_upto_region 1 with fail
 go_cut [5] from 6 to 15 (fun v u => ∃ b qo qn qc co cn cc to_ tn tc, v = .pointer (some ⟨b, 0, none⟩) ∧ Hid (PO u w.heap.size b k n qo qn qc (.slice co cn cc) (.slice to_ tn tc) 0 (shP k cs) (qbd (shP k cs).length (whl k) cs) (qst (shP k cs).length (whl k) 0 cs) ∧ Far qo qn (.slice to_ tn tc) ∧ Nw w.heap.size qo qn) ∧ Hid (Below w.heap.size w u) ∧ Hid (10 + qn + 2 * tn + cn = Z))
 case first =>
  go_wp2_with fail
  go_region_with (first | (go_at_call 157; refine (E1.out _ (by first | exact Br | exact Br.drew | exact zad Br _)).mono ?_; rintro e w1 ⟨b, qo, qn, qc, co, cn, cc, to_, tn, tc, rfl, y1, HPO, HB1, HZ1⟩))
  all_goals (try go_wp2_with fail)
  all_goals go_meet
  all_goals exact ⟨b, qo, qn, qc, co, cn, cc, to_, tn, tc, rfl, by first | exact HPO | exact zaa ⟨HPO.out.1.go Br.drew, HPO.out.2⟩ | exact zaa ⟨HPO.out.1.go (zad Br _), HPO.out.2⟩, by first | exact HB1 | exact zaa HB1.out.drew | exact zaa (zad HB1.out _), HZ1⟩
 obtain ⟨b, qo, qn, qc, co, cn, cc, to_, tn, tc, rfl, HPO, HB1, HZ1⟩ := hcut
 obtain ⟨w1, hw1⟩ : ∃ w1, w1 = wc := ⟨_, rfl⟩
 subst hw1
 clear c0 c1 c2 c3 c4 c5 E1
 have hz1 := HZ1.out
 have HUS : Hid (∀ u, Below w1.heap.size w1 u → Calls Tryz.prog 277 #[.pointer (some ⟨b, 0, none⟩)] u fun e w' => e = .returned (.int .i64 (Z : Int)) ∧ w'.cell? ⟨a, 1, none⟩ = some (.int .i64 (n : Int)) ∧ Hid (Below w1.heap.size w1 w')) := by
  refine zaa fun u hu => (usedQ_any u b k n qo qn qc co cn cc to_ tn tc (zaf HPO.out.1.row hu) (by omega) (by omega) (by omega) Z hz1).mono ?_
  rintro e w' ⟨rfl, HB⟩
  have hb := zab hu Lr HB.out
  exact ⟨rfl, (HRA.out w' (zab HB1.out Lr hb)).cells.2.1, zaa hb⟩
 have c1 := (HRA.out w1 HB1.out).cells.2.1
 clear hz1
 go_upto_region 2 with fail
 go_cut [22] from 16 to 22 (fun v u => v = .bool false ∧ Hid (Below w1.heap.size w1 u))
 case first =>
  go_wp2_with fail
  go_region_with (first | (go_at_call 277; refine (HUS.out _ (by first | exact Br | exact Br.drew | exact zad Br _)).mono ?_; rintro e w2 ⟨rfl, y1, HB2⟩))
  all_goals (try go_wp2_with fail)
  all_goals go_meet
  all_goals exact ⟨by simp; omega, by first | exact HB2 | exact zaa HB2.out.drew | exact zaa (zad HB2.out _)⟩
 obtain ⟨rfl, HB2⟩ := hcut
 obtain ⟨w2, hw2⟩ : ∃ w2, w2 = wc := ⟨_, rfl⟩
 subst hw2
 clear c1 HUS
 have HPO2 := zaa (HPO.out.1.go HB2.out)
 have HFR := zaa HPO.out.2.1
 have HNW := zaa HPO.out.2.2
 have HBW : Hid (Below w.heap.size w w2) := zaa (zab HB1.out Lr HB2.out)
 have HR2 := zaa (HRA.out w2 HBW.out)
 obtain ⟨c0, c1, c2, c3, c4, c5⟩ := HR2.out.cells
 obtain ⟨d0, d1, d2, d3, d4, d5⟩ := HPO2.out.row.cells
 have f0 := HR2.out.free 0
 have f1 := HR2.out.free 1
 have f2 := HR2.out.free 2
 have f3 := HR2.out.free 3
 have f4 := HR2.out.free 4
 have f5 := HR2.out.free 5
 have HAW := zaa haw
 clear haw
 go_wp2
 go_ret
 have hcf := put6_cf w2 a (.int .i64 k) (.int .i64 (n : Int)) (.slice qo qn qc) (.slice co cn cc) (.slice to_ tn tc) (.int .i64 0)
 have hr2 := HR2.out
 have hpo := HPO2.out
 have hbw := HBW.out
 have hkb : ∀ g, (Value.slice co cn cc).ownBlock = some g → w.heap.size ≤ g := fun g e => (hpo.ob.ltk7 e).1
 have hks : ∀ g, (Value.slice to_ tn tc).ownBlock = some g → w.heap.size ≤ g := fun g e => by
  have h6 := hpo.on
  unfold OwnN at h6
  exact (h6.lt g e).1
 refine ⟨rfl, zaa ((Cf.of_below hbw).go hcf), zaa ⟨qo, qn, qc, co, cn, cc, to_, tn, tc, ⟨?_, hpo.pre.cf hcf (hpo.pre.apartQ hr2), ?_, ?_, hpo.far, Nat.zero_le _⟩, HFR.out, hkb, hks, HNW.out⟩⟩
 ·exact QV.put (show QV w2 a _ _ _ _ _ _ from hr2) _ _ _ _ _ _
 ·unfold QR at hr2
  exact (hpo.ob.low (Nat.zero_le _)).cf hcf (hpo.ob.apart hr2 (by decide))
 ·unfold QR at hr2
  have h6 := hpo.on.cf hcf (hpo.on.apart hr2 (by decide))
  unfold OwnN at h6 ⊢
  rcases h6.2 with h8 | ⟨g, c, cur, e, hg, r⟩
  ·exact ⟨h6.1, .inl h8⟩
  ·exact ⟨h6.1, .inr ⟨g, c, cur, e, Nat.zero_le _, r⟩⟩
theorem qbd_wf2 {k : Int} {n : Nat} {cs : List Cl} (hn : n ≤ 65536) (hw : ∀ c ∈ cs, c.Wf) (hm : ∀ c ∈ cs, mayP k n c) (m : Nat) (f : Bool) : Wf (qbd m f cs) := qbd_wf m f cs fun c hc => ⟨hw c hc, (hm c hc).fit (by omega)⟩
theorem qbd_big (m : Nat) : ∀ (f : Bool) (cs : List Cl), (∀ c ∈ cs, c.fit) → (qbd m f cs).length ≤ 131103 * cs.length
 | _, [], _ => by simp [qbd]
 | f, c :: r, h => by
  have ih := qbd_big m false r fun d hd => h d (by simp [hd])
  have h1 := qB_most (if f then 0 else m) c
  have h2 := (h c (by simp)).key
  have h3 := (h c (by simp)).val
  simp only [qbd, zG, List.length_cons]
  omega
theorem szQ_big (k : Int) (cs : List Cl) (hf : ∀ c ∈ cs, c.fit) (hl : cs.length ≤ 65536) : szQ k (shP k cs).length cs ≤ 1099511627776 := by
 have h1 := szQ_eq k (shP k cs).length cs
 have h2 := qbd_big (shP k cs).length (whl k) cs hf
 have h3 : (shP k cs).length ≤ 65536 := by
  cases hk : ktl k cs with
  | nil => rw [shP_nil hk]; simp
  | cons c r =>
   have hm : c ∈ ktl k cs := by rw [hk]; simp
   have h4 := beg_len (zbz k cs c hm)
   obtain ⟨j, hj, _⟩ := ktl_get hm
   have h5 := (hf c (List.mem_of_getElem? hj)).key
   omega
 omega
theorem lay_any (w : World) (K : Nat → Prop) (a : Nat) (k : Int) (n : Nat) (s : Qs) (h : Pk w K a k n s) (G : Nat) (ao : Option Addr) (m cap : Nat) (cs : List Cl) (hs : SlE w G ao m cap cs) (hG : G ≤ w.heap.size) (hr : Rs cs) (hm : ∀ c ∈ cs, mayP k n c) (hw : ∀ c ∈ cs, c.Wf) (hn : n ≤ 65536) (hmm : m ≤ 65536) :
  Calls Tryz.prog 282 #[.pointer (some ⟨a, 0, none⟩), .slice ao m cap] w fun e w' => ∃ code t, e = .returned (.int .i64 code) ∧ Hid (LayR k n s cs code t) ∧ Hid (Pk w' (Zk K w w') a k n t) ∧ Hid (Cf K w w') := by
 obtain ⟨po, pn, pc, bo, bn, bc, so, sn, sc, body, st, h⟩ := h
 have hf : ∀ c ∈ cs, c.fit := fun c hc => (hm c hc).fit (by omega)
 by_cases hfit : szQ k (shP k cs).length cs ≤ n
 ·refine (lay_fit2 w a k n po pn pc bo bn bc so sn sc _ h.pg.row G ao m cap cs hs hG hr hf hn hfit).mono ?_
  rintro e w' ⟨rfl, HC, HP⟩
  obtain ⟨po', pn', pc', bo', bn', bc', so', sn', sc', hpo, hfr, hkb, hks, hnw⟩ := HP.out
  refine ⟨0, _, rfl, zaa (.inl ⟨hfit, rfl, rfl⟩), zaa ⟨po', pn', pc', bo', bn', bc', so', sn', sc', _, _, ⟨hpo, layQ_of (zbz k cs) hf, qbd_wf2 hn hw hm _ _, hfr, ⟨zbz k cs, hr, hm, hw, ?_⟩, ?_, .inl h.ka, fun g e => .inr ⟨hkb g e, (hpo.ob.ltk7 e).2⟩, fun g e => .inr ⟨hks g e, ?_⟩, hnw.inz hpo.pre, Zk.lt h.kl HC.out.size⟩⟩, zaa (h.cfa HC.out)⟩
  ·rw [filQ_eq]
   exact hfit
  ·have := hpo.ob.len
   unfold lvQ
   simp only
   omega
  ·have h6 := hpo.on
   unfold OwnN at h6
   exact (h6.lt g e).2
 ·refine (lay_no w a k n po pn pc bo bn bc so sn sc _ h.pg.row G ao m cap cs hs hG hr hf hn (by omega) (szQ_big k cs hf (by have := hs.hlen; omega)) hmm).mono ?_
  rintro e w' ⟨rfl, HB⟩
  exact ⟨61, s, rfl, zaa (.inr ⟨hfit, rfl, rfl⟩), zaa (Pk.zk ⟨_, _, _, _, _, _, _, _, _, _, _, h.go HB.out⟩), zaa (Cf.of_below HB.out)⟩
end Go.Proofs.YtofafbmpbkjhnaaGreatDoor
