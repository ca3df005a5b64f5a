import Derived.Test.YtfgffajgfgifhaaGreatDoorJ32
import Derived.Test.YtfgffajgfgifhaaGreatDoorJ30
namespace Go.Proofs.YtfgffajgfgifhaaGreatDoor
set_option maxRecDepth 100000
set_option maxHeartbeats 10995116277760
open Go.RowKit
theorem inPlace_set (w : World) (B a : Nat) (k : Int) (n : Nat) (po : Option Addr) (pn pc : Nat) (bo : Option Addr) (bn bc : Nat) (so : Option Addr) (sn sc : Nat) (ws : Int) (P body : List Int) (st : List Nat)
  (hPO : PO w B a k n po pn pc (.slice bo bn bc) (.slice so sn sc) ws P body st) (hbb : bn ≤ 65536) (hss : sn ≤ 65536) (hB : B ≤ w.heap.size) (i j : Nat) (hij : i + 1 = j) (his : j ≤ sn) (cs : List Cl) (hl : LayQ k P cs body st) (d : Cl) (hd : cs[i]? = some d) (hwf : Wf body) (hw0 : 0 ≤ ws) (hw1 : ws ≤ 65536) (T : Nat) (H : List Int) (hH : (if k = 3 ∧ i = 0 then [] else P) = H) (hT : (qB H.length d).length = T) (hn : n ≤ 65536)
  (c : Cl) (ka va : Option Addr) (kc vc : Nat) (hk : Sl w ka c.key.length kc c.key) (hv : Sl w va c.val.length vc c.val) (fk : Far ka c.key.length (.slice bo bn bc)) (fv : Far va c.val.length (.slice bo bn bc)) (hkl : c.key.length ≤ 65536) (hvl : c.val.length ≤ 65536)
  (hbeg : c.key.take H.length = H) (hfs : Far po pn (.slice so sn sc)) (hfit : 10 + pn + 2 * sn + bn + (qB H.length c).length ≤ n) :
  Calls Tryz.prog 88 #[.pointer (some ⟨a, 0, none⟩), .int .i64 (i : Int), .int .i64 (j : Int), .agg #[.slice ka c.key.length kc, .int .i64 c.kd, .slice va c.val.length vc, .int .i64 c.pg, .int .i64 c.ct]] w
   (QuTo w B a k n po pn pc (.slice bo bn bc) (.slice so sn sc) (ws + (T : Int)) P (body ++ qB H.length c) (st.take i ++ [bn] ++ st.drop j) (.bool true)) := by
 have hpl := hPO.pre.hlen
 have hPk : H.length ≤ c.key.length := by rw [← hbeg, zJ]; omega
 obtain ⟨x, hx⟩ : ∃ x, w.alloc (.cells #[.slice ka c.key.length kc, .int .i64 c.kd, .slice va c.val.length vc, .int .i64 c.pg, .int .i64 c.ct] 39) = x := ⟨_, rfl⟩
 have hbx : Below w.heap.size w x := by rw [← hx]; exact zac Br Lr _
 obtain ⟨s, hs⟩ : ∃ s, w.heap.size = s := ⟨_, rfl⟩
 have hc5 : C5 x s (.slice ka c.key.length kc) (.int .i64 c.kd) (.slice va c.val.length vc) (.int .i64 c.pg) (.int .i64 c.ct) := by rw [← hx, ← hs]; exact C5.box _ _ _ _ _ _
 obtain ⟨z0, z1, z2, z3, z4⟩ := hc5.cells
 have hrx : QR x a k n (.slice po pn pc) (.slice bo bn bc) (.slice so sn sc) ws := zaf hPO.row hbx
 obtain ⟨c0, c1, c2, c3, c4, c5⟩ := hrx.cells
 obtain ⟨qo, qn, qc, hqc, hhd⟩ := zch k i po pn pc
 have hHl : H.length = qn := by
  rw [← hH]
  rcases hqc with ⟨_, h2, _, h4⟩ | ⟨_, h2, _, h4⟩
  ·rw [if_pos h4, h2]; rfl
  ·rw [if_neg h4, h2]; exact hpl
 have hHs : Sl w qo qn qc H := by
  rw [← hH]
  rcases hqc with ⟨h1, h2, h3, h4⟩ | ⟨h1, h2, h3, h4⟩
  ·rw [if_pos h4, h1, h2, h3]; exact Sl.nil_any _ _ _ fun _ => rfl
  ·rw [if_neg h4, h1, h2, h3]; exact hPO.pre
 have HHD := zaa (hhd x a n _ _ ws hrx)
 have HHP : Hid (Calls Tryz.prog 123 #[.slice ka c.key.length kc, .slice qo qn qc] x fun e w' => e = .returned (.bool true) ∧ w' = x) := zaa (by
  have := zcs ka qo c.key.length qn kc qc c.key H x (hk.on Lr hbx) (hHs.on Lr hbx)
  rwa [decide_eq_true hbeg] at this)
 obtain ⟨M, hM⟩ : ∃ M, (body ++ qB H.length c).length = M := ⟨_, rfl⟩
 have hbn : bn = body.length := hPO.ob.len
 have hHc : (if k = 3 ∧ i = 0 then 0 else P.length) = H.length := by rw [← hH]; split <;> rfl
 have HLQ := zaa (And.intro hl (And.intro hd (And.intro hwf (And.intro (show (qB (if k = 3 ∧ i = 0 then 0 else P.length) d).length = T by rw [hHc]; exact hT) (show T ≤ bn by
  obtain ⟨r, hr⟩ := hl.at_ i d hd
  have h1 := congrArg List.length hr
  rw [hHc, zK, zG, hT] at h1
  omega)))))
 have hMl : M = bn + (qB H.length c).length := by rw [← hM, zG, hbn]
 have HAP : Hid (∀ u, Below x.heap.size x u → Calls Tryz.prog 94 #[.agg (eV none 0 0 ka c.key.length kc c.kd va c.val.length vc c.pg c.ct), .slice bo bn bc, .int .i64 (qn : Int)] u fun e w' => ∃ ao cp, e = .returned (.slice ao M cp) ∧ Hid (OwnB w' B (.slice ao M cp) (body ++ qB H.length c)) ∧ Hid (Gs x (.slice bo bn bc) w' (.slice ao M cp))) := by
  refine zaa fun u hu => ?_
  have hwu := zab hbx Lr hu
  have h := eappended2 (.slice bo bn bc) B body none 0 0 ka c.key.length kc c.kd va c.val.length vc c.pg c.ct [] c.key c.val H.length u (hPO.ob.on Lr hwu) (zN hB hwu.size) (Sl.nil_any _ _ _ fun _ => rfl) (hk.on Lr hwu) (hv.on Lr hwu) (.inl rfl) fk fv (by omega) (by omega)
  rw [hHl] at h
  refine h.mono ?_
  rintro e w' ⟨v', rfl, HO, HG⟩
  obtain ⟨ao, cp, rfl⟩ := HO.out.shape
  have e1 : (body ++ qB qn ⟨[] ++ c.key, c.kd, c.val, c.pg, c.ct⟩).length = M := by rw [← hM, hHl]; rfl
  rw [e1] at HO HG ⊢
  refine ⟨ao, cp, rfl, zaa ?_, zaa ((Gs.ofBelow _ hu).trans HG.out)⟩
  rw [hHl]
  exact HO.out
 have hapa : (Value.slice bo bn bc).ownBlock ≠ some a := by
  have := hPO.row
  unfold QR at this
  exact hPO.ob.apart this (by decide)
 have hapS : (Value.slice so sn sc).ownBlock ≠ some a := by
  have := hPO.row
  unfold QR at this
  exact hPO.on.apart this (by decide)
 have hapN := hPO.ob.apartN hPO.on
 have hapB := hPO.on.apartB hPO.ob
 have HPO := zaa hPO
 have HPX := zaa (hPO.go hbx)
 have HBX := zaa hbx
 have HAPA := zaa (And.intro hapa (And.intro hapS (And.intro hapN hapB)))
 have HPL := zaa hpl
 have HM := zaa hM
 have HBN := zaa hbn
 have HS := zaa hs
 obtain ⟨st', hst'⟩ : ∃ st', st.take i ++ [bn] ++ st.drop j = st' := ⟨_, rfl⟩
 obtain ⟨body', hbd'⟩ : ∃ body', body ++ qB H.length c = body' := ⟨_, rfl⟩
 rw [hst', hbd']
 rw [hbd'] at HAP HM
 have HST' := zaa hst'
 have HBD' := zaa hbd'
 have HBW := zaa hB
 have hbnI : (bn : Int) ≤ 65536 := by omega
 have hMI : (M : Int) ≤ 200000 := by have := qB_most H.length c; omega
 have hiI : (i : Int) ≤ 65536 := by omega
 have hjI : (j : Int) ≤ 65536 := by omega
 have hltI : (i : Int) < (j : Int) := by omega
 have hneI : ¬ (i : Int) = (j : Int) := by omega
 have HIJ := zaa hij
 have hnI : (n : Int) ≤ 65536 := by omega
 have HFIT : Hid (10 + pn + 2 * sn + bn + (M - bn) ≤ n ∧ bn ≤ M) := zaa (by omega)
 have HQN : Hid (pn ≤ 65536) := zaa (by omega)
 have HFS := zaa hfs
 clear hst' hbd' hfs hPO hk hv fk fv hbx hc5 hrx hhd hqc hbeg hpl hPk hHl hHs hH hl hd hwf hHc hT hM hMl hbn hapa hapS hapN hapB hB hfit
 go_enter Tryz.func88, Tryz.ntmps88
 go_upto_region 7 with (first | (go_at_call 95; refine zae HHD.out ?_) | (go_at_call 123; refine zae HHP.out ?_))
 go_cut [11] from 37 to 45 (fun v u => ∃ ao cp, v = .slice ao M cp ∧ Hid (OwnB u B (.slice ao M cp) body') ∧ Hid (Gs x (.slice bo bn bc) u (.slice ao M cp)))
 case first =>
  go_wp2_with fail
  go_region_with (first | (go_at_call 94; refine (HAP.out _ (by first | exact Br | exact Br.drew | exact zad Br _)).mono ?_; rintro e w1 ⟨ao, cp, rfl, HO1, HG1⟩))
  all_goals (try go_wp2_with fail)
  all_goals go_meet
  all_goals exact ⟨ao, cp, rfl, by first | exact HO1 | exact zaa (HO1.out.on Lr Br.drew) | exact zaa (HO1.out.on Lr (zad Br _)), by first | exact HG1 | exact zaa (HG1.out.trans (Gs.ofBelow _ Br.drew)) | exact zaa (HG1.out.trans (Gs.ofBelow _ (zad Br _)))⟩
 obtain ⟨ao, cp, rfl, HO1, HG1⟩ := hcut
 obtain ⟨w1, hw1⟩ : ∃ w1, w1 = wc := ⟨_, rfl⟩
 subst hw1
 clear z0 z1 z2 z3 z4 c0 c1 c2 c3 c4 c5 HHD HHP HAP
 have HR1 : Hid (QR w1 a k n (.slice po pn pc) (.slice bo bn bc) (.slice so sn sc) ws) := zaa (HPX.out.row.gr HG1.out.toGr HAPA.out.1)
 obtain ⟨Z, hZ⟩ : ∃ Z, 10 + pn + 2 * sn + bn = Z := ⟨_, rfl⟩
 have HFL : Hid (∀ u, Below w1.heap.size w1 u → Calls Tryz.prog 53 #[.pointer (some ⟨a, 0, none⟩)] u fun e w' => e = .returned (.int .i64 (Z : Int)) ∧ w'.cell? ⟨a, 1, none⟩ = some (.int .i64 (n : Int)) ∧ Hid (Below w1.heap.size w1 w')) := by
  refine zaa fun u hu => (zda u a k n po pn pc bo bn bc so sn sc ws (zaf HR1.out hu) (by have := HQN.out; omega) (by omega) (by omega)).mono ?_
  rintro e w' ⟨rfl, q, rfl⟩
  rw [hZ]
  have hb := zad hu q
  exact ⟨rfl, (show QR (u.drewN q) a k n (.slice po pn pc) (.slice bo bn bc) (.slice so sn sc) ws from zaf HR1.out hb).cells.2.1, zaa hb⟩
 have c1 := HR1.out.cells.2.1
 have hbM : (bn : Int) ≤ (M : Int) := by have := HFIT.out; omega
 have hZI : (Z : Int) ≤ 65536 := by have := HFIT.out; omega
 have HZF : Hid (Z + (M - bn) ≤ n) := zaa (by have := HFIT.out; omega)
 have hZn : ¬ (n : Int) < (Z : Int) + (M : Int) - (bn : Int) := by have := HZF.out; omega
 clear hZ
 go_upto_region 8 with fail
 go_cut [63] from 46 to 63 (fun v u => v = .bool false ∧ Hid (Below w1.heap.size w1 u))
 case first =>
  go_wp2_with fail
  go_region_with (first | (go_at_call 53; refine (HFL.out _ (by first | exact Br | exact Br.drew | exact zad Br _)).mono ?_; rintro e w2 ⟨rfl, y1, HB2⟩))
  all_goals (try go_wp2_with fail)
  all_goals go_meet
  all_goals exact ⟨by go_unwrap; simp; omega, by first | exact HB2 | exact zaa HB2.out.drew | exact zaa (zad HB2.out _)⟩
 obtain ⟨rfl, HB2⟩ := hcut
 obtain ⟨w2, hw2⟩ : ∃ w2, w2 = wc := ⟨_, rfl⟩
 subst hw2
 clear c1 HFL hZn hZI HZF
 have HW2 : Hid (Below w1.heap.size w1 w2) := HB2
 have HR2 : Hid (QR w2 a k n (.slice po pn pc) (.slice bo bn bc) (.slice so sn sc) ws) := zaa (zaf HR1.out HB2.out)
 go_wp2_with fail
 have HSN0 : Hid (sn = st.length) := zaa HPO.out.on.len
 have HPQ : Hid (PgQ w2 a k n po pn pc bo bn bc so sn sc ws P body st) := zaa (by
  have hpo := HPX.out
  have hold := (HG1.out.old B (.slice bo bn bc) body hpo.ob (fun C m g hm _ _ => by rw [hpo.ob.one7 hm]; exact List.prefix_refl _)).1
  have hcw : Cf (fun b => (Value.slice bo bn bc).ownBlock = some b) x w2 := (Cf.ofGr HG1.out.toGr (fun g e => e)).go (Cf.of_below HB2.out)
  have hp2 : PO w2 B a k n po pn pc (.slice bo bn bc) (.slice so sn sc) ws P body st := by
   refine ⟨HR2.out, hpo.pre.cf hcw ?_, hold.on Lr HB2.out, (hpo.on.gr HG1.out.toGr HAPA.out.2.2.2).below HB2.out, hpo.far, hpo.ha⟩
   rcases hpo.far with h1 | h1
   ·exact .inl h1
   ·exact .inr fun p hp e => h1 p hp e
  exact hp2.pgq HLQ.out.2.2.1 (by have := HBN.out; omega) (by have := HSN0.out; omega))
 have HTK : Hid (∀ u, Below w2.heap.size w2 u → Calls Tryz.prog 48 #[.pointer (some ⟨a, 0, none⟩), .int .i64 (i : Int)] u fun e w' => e = .returned (.int .i64 (T : Int)) ∧ w'.cell? ⟨a, 5, none⟩ = some (.int .i64 ws) ∧ w'.frozen? ⟨a, 5, none⟩ = false ∧ Hid (Below w2.heap.size w2 w')) := zaa fun u hu => by
  refine (takenQ_any u a k n po pn pc bo bn bc so sn sc ws P body st cs (HPQ.out.on hu) HLQ.out.1 i d HLQ.out.2.1 (by omega) T HLQ.out.2.2.2.1).mono ?_
  rintro e w' ⟨rfl, HB⟩
  have hb := zab hu Lr HB.out
  have hr : QR w' a k n (.slice po pn pc) (.slice bo bn bc) (.slice so sn sc) ws := zaf HR2.out hb
  exact ⟨rfl, hr.cells.2.2.2.2.2, hr.free 5, zaa hb⟩
 have hTI : (T : Int) ≤ 65536 := by have := HLQ.out.2.2.2.2; omega
 go_loopw [12] (fun s12 wr => (s12 = .int .i64 (i : Int) ∧ wr = w2) ∨ (s12 = .int .i64 (j : Int) ∧ Hid (QR wr a k n (.slice po pn pc) (.slice bo bn bc) (.slice so sn sc) (ws + (T : Int)) ∧ OwnB wr B (.slice ao M cp) body' ∧ OwnN wr B (.slice so sn sc) st ∧ Cf (QZ a (.slice bo bn bc) (.slice so sn sc)) w wr ∧ w2.heap.size ≤ wr.heap.size))) (fun s12 _ => ((j : Int) - intOf s12).toNat)
 case atStart => exact .inl ⟨rfl, by first | rfl | trivial⟩
 case round =>
  rcases hrel with ⟨rfl, rfl⟩ | ⟨rfl, HWL⟩
  ·have c5 := HR2.out.cells.2.2.2.2.2
   have f5 := HR2.out.free 5
   go_wp2_with fail
   go_region_with (first | (go_at_call 48; refine (HTK.out _ (by first | exact Br | exact Br.drew | exact zad Br _)).mono ?_; rintro e w3 ⟨rfl, y5, z5, HB3⟩))
   all_goals (try go_wp2_with fail)
   all_goals
    have HRr : Hid (QR w3 a k n (.slice po pn pc) (.slice bo bn bc) (.slice so sn sc) ws) := zaa (zaf HR2.out HB3.out)
    have hr2 := HRr.out
    unfold QR at hr2
    have hcs : Cf (· = a) w3 (w3.setCell ⟨a, 5, none⟩ (.int .i64 (ws + (T : Int)))) := Cf.set _ _ _ _
    have hob := (HO1.out.on Lr HB2.out).on Lr HB3.out
    have hos := ((HPX.out.on.gr HG1.out.toGr HAPA.out.2.2.2).below HB2.out).below HB3.out
    refine ⟨.inr ⟨by rw [← hij]; rfl, zaa ⟨HRr.out.set5 _, hob.cf hcs (hob.apart hr2 (by decide)), hos.cf hcs (hos.apart hr2 (by decide)), ((((Cf.of_below HBX.out).go (Cf.ofGr HG1.out.toGr (fun g e => .inr (.inl e)))).go (Cf.of_below HB2.out)).go (Cf.of_below HB3.out)).go (hcs.wideQ (fun b e => .inl e)), zN HB3.out.size hcs.size⟩⟩, ?_⟩
    simp only [intOf]
    omega
  ·have HSN := HSN0
   have HRr : Hid (QR wr a k n (.slice po pn pc) (.slice bo bn bc) (.slice so sn sc) (ws + (T : Int))) := zaa HWL.out.1
   obtain ⟨c0, c1, c2, c3, c4, c5⟩ := HRr.out.cells
   have f3 := HRr.out.free 3
   have f4 := HRr.out.free 4
   obtain ⟨u3, hu3⟩ : ∃ u3, (wr.setCell ⟨a, 3, none⟩ (.slice ao M cp)).alloc (.cells #[.int .i64 (bn : Int)] 3) = u3 := ⟨_, rfl⟩
   have hs3 : (wr.setCell ⟨a, 3, none⟩ (.slice ao M cp)).heap.size = wr.heap.size := by simp
   have hb3 : Below (wr.setCell ⟨a, 3, none⟩ (.slice ao M cp)).heap.size (wr.setCell ⟨a, 3, none⟩ (.slice ao M cp)) u3 := by rw [← hu3]; exact zac Br Lr _
   have hcs : Cf (· = a) wr (wr.setCell ⟨a, 3, none⟩ (.slice ao M cp)) := Cf.set _ _ _ _
   have hr2 := HRr.out
   unfold QR at hr2
   have HOB2 := HWL.out.2.1
   have HOS2 := HWL.out.2.2.1
   have HQ3 : Hid (QR u3 a k n (.slice po pn pc) (.slice ao M cp) (.slice so sn sc) (ws + (T : Int)) ∧ OwnB u3 B (.slice ao M cp) body' ∧ OwnN u3 B (.slice so sn sc) st ∧ u3.heap.size = wr.heap.size + 1) := zaa ⟨zaf (HRr.out.set3 _) hb3, (HOB2.cf hcs (HOB2.apart hr2 (by decide))).on Lr hb3, (HOS2.cf hcs (HOS2.apart hr2 (by decide))).below hb3, by rw [← hu3]; simp⟩
   have HRP : Hid (Calls Tryz.prog 124 #[.slice so sn sc, .int .i64 (i : Int), .int .i64 (j : Int), .slice (some ⟨wr.heap.size, 0, none⟩) 1 1] u3 (RN.To u3 B (.slice so sn sc) sn ((NI st).take i ++ NI [bn] ++ (NI st).drop j))) := zaa (by
    suffices h9 : Calls Tryz.prog 124 #[.slice so sn sc, .int .i64 (i : Int), .int .i64 (j : Int), .slice (some ⟨wr.heap.size, 0, none⟩) 1 1] u3 (RN.To u3 B (.slice so sn sc) (i + 1 + (sn - j)) ((NI st).take i ++ NI [bn] ++ (NI st).drop j)) by
     rw [show i + 1 + (sn - j) = sn by omega] at h9
     exact h9
    have h1 := HQ3.out.2.2.1
    unfold OwnN at h1
    rw [← HSN.out] at h1
    have h2 : u3.ownsRow wr.heap.size 3 1 (.slice (some ⟨wr.heap.size, 0, none⟩) 1 1) 1 (NI [bn]) := own_oneN (fr := (0, 0)) (by rw [← hu3]; have := heap_alloc_last (wr.setCell ⟨a, 3, none⟩ (.slice ao M cp)) (.cells #[.int .i64 (bn : Int)] 3); rw [hs3] at this; exact this) rfl
    refine RN.rep_any u3 B wr.heap.size sn 1 i j _ _ _ _ h1 h2 (NI_one _) (NI_one _) (.inr fun e => ?_) (by omega) his (by omega) ?_ (.inr (by omega))
    ·have h3 := HOS2
     unfold OwnN at h3
     have := (h3.lt wr.heap.size (by rw [← e]; rfl)).2
     omega
    ·have h4 := HQ3.out.2.2.2
     have h5 := HBW.out
     have h6 := HWL.out.2.2.2.1.size
     omega)
   have HCA : Hid (Cf (QZ a (.slice bo bn bc) (.slice so sn sc)) w u3) := zaa ((HWL.out.2.2.2.1.go (hcs.wideQ (fun b e => .inl e))).go (Cf.of_below hb3))
   clear hr2 HOB2 HOS2 hcs hb3
   go_wp2_with (go_at_call 124; refine HRP.out.mono ?_; rintro e w4 ⟨so4, sc4, rfl, HO4, HG4⟩; refine Hid.out ?_)
   apply zaa
   have HR4 : Hid (QR w4 a k n (.slice po pn pc) (.slice ao M cp) (.slice so sn sc) (ws + (T : Int))) := zaa (HQ3.out.1.gr HG4.out HAPA.out.2.1)
   clear c0 c1 c2 c3 c4 c5 f3 f4 HRP hu3
   obtain ⟨c0, c1, c2, c3, c4, c5⟩ := HR4.out.cells
   have f4 := HR4.out.free 4
   go_wp2
   go_ret
   have hr4 := HR4.out
   unfold QR at hr4
   have hcs : Cf (· = a) w4 (w4.setCell ⟨a, 4, none⟩ (.slice so4 sn sc4)) := Cf.set _ _ _ _
   obtain ⟨_, qb, qs, _⟩ := HQ3.out
   have hob4 := qb.gr HG4.out (qb.apartN qs)
   have hon4 : OwnN w4 B (.slice so4 sn sc4) st' := by
    unfold OwnN
    rw [← HST'.out, NIq, ← NIq_take, ← NIq_drop]
    have e : (st.take i ++ [bn] ++ st.drop j).length = sn := by have := HSN.out; simp; omega
    rw [e]
    exact HO4.out
   have hcw : Cf (QZ a (.slice bo bn bc) (.slice so sn sc)) w (w4.setCell ⟨a, 4, none⟩ (.slice so4 sn sc4)) := (HCA.out.go (Cf.ofGr HG4.out (fun g e => .inr (.inr e)))).go (hcs.wideQ (fun b e => .inl e))
   have hpo := HPO.out
   have hfarv := hpo.far
   have hap3 : ∀ (z : World), Cf (QZ a (.slice bo bn bc) (.slice so sn sc)) w z → Sl z po pn pc P := fun z hz => hpo.pre.cf hz (by
    rcases hpo.pre.apartQ hpo.row with h | h
    ·exact .inl h
    ·rcases hfarv with h1 | h1
     ·exact .inl h1
     ·rcases HFS.out with h2 | h2
      ·exact .inl h2
      ·right
       intro p hp
       rintro (e | e | e)
       ·exact h p hp e
       ·exact h1 p hp e
       ·exact h2 p hp e)
   have hsz : w.heap.size ≤ u3.heap.size := HCA.out.size
   refine ⟨rfl, zaa ⟨_, _, ⟨HR4.out.set4 _, hap3 _ hcw, hob4.cf hcs (hob4.apart hr4 (by decide)), hon4.cf hcs (hon4.apart hr4 (by decide)), hfarv.gr HPX.out.pre HG1.out.toGr, hpo.ha⟩, HFS.out.gr (hap3 _ HCA.out) HG4.out, HG1.out.toGr.own.imp id (fun ⟨g, h1, h2⟩ => ⟨g, h1, zN HBX.out.size h2⟩), HG4.out.own.imp id (fun ⟨g, h1, h2⟩ => ⟨g, h1, zN hsz h2⟩)⟩, zaa hcw⟩
theorem delN_one (u : World) (B g sn c i j d : Nat) (xs : List Value) (h : u.ownsRow B 3 1 (.slice (some ⟨g, 0, none⟩) sn c) sn xs) (hx1 : ∀ v ∈ xs, v.oneCell' = true) (hij : i + 1 = j) (hj : j ≤ sn) (hd : d + 1 = sn) (hsn : sn ≤ 65535) :
  Calls Tryz.prog 49 #[.slice (some ⟨g, 0, none⟩) sn c, .int .i64 (i : Int), .int .i64 (j : Int)] u fun e w' => e = .returned (.slice (some ⟨g, 0, none⟩) d c) ∧ Hid (w'.ownsRow B 3 1 (.slice (some ⟨g, 0, none⟩) d c) d (xs.take i ++ xs.drop j)) ∧ Hid (u.grownBy w' (some g)) := by
 by_cases e : c = j
 ·exact delN_end u B g sn c i j (sn - j) d xs h hx1 hij (by omega) e (by omega) hsn
 ·exact delN_mid u B g sn c i j (sn - j) d xs h hx1 hij (by omega) e (by omega) hsn
theorem hasQ (w : World) (a : Nat) (k : Int) (n : Nat) (po : Option Addr) (pn pc : Nat) (bo : Option Addr) (bn bc : Nat) (so : Option Addr) (sn sc : Nat) (ws : Int) (P body : List Int) (st : List Nat) (h : PgQ w a k n po pn pc bo bn bc so sn sc ws P body st) (i : Nat) (hi : i < sn) :
  Calls Tryz.prog 42 #[.pointer (some ⟨a, 0, none⟩), .int .i64 (i : Int)] w fun e w' => e = .returned (.bool true) ∧ w' = w := by
 have HL := zaa (zba w a k n po pn pc bo bn bc so sn sc ws P body st h)
 have h1 : (i : Int) < (sn : Int) := by omega
 clear h
 go_enter Tryz.func42, Tryz.ntmps42
 go_wp2_with (go_at_call 26; refine zae HL.out ?_)
 go_ret
 exact ⟨by simp, rfl⟩
theorem rem_in (w : World) (B a : Nat) (k : Int) (n : Nat) (po : Option Addr) (pn pc : Nat) (bo : Option Addr) (bn bc : Nat) (so : Option Addr) (sn sc : Nat) (ws : Int) (P body : List Int) (st : List Nat)
  (hPO : PO w B a k n po pn pc (.slice bo bn bc) (.slice so sn sc) ws P body st) (hbb : bn ≤ 65536) (hss : sn ≤ 65535) (i j e : Nat) (hij : i + 1 = j) (his : j ≤ sn) (hes : e + 1 = sn) (he0 : 0 < e) (hk0 : ¬ (k = 3 ∧ i = 0)) (cs : List Cl) (hl : LayQ k P cs body st) (d : Cl) (hd : cs[i]? = some d) (hwf : Wf body) (hw0 : 0 ≤ ws) (hw1 : ws ≤ 65536) (T : Nat) (hT : (qB P.length d).length = T) (hfs : Far po pn (.slice so sn sc)) :
  Calls Tryz.prog 13 #[.pointer (some ⟨a, 0, none⟩), .int .i64 (i : Int)] w fun r w' => r = .returned (.int .i64 0) ∧ Hid (PO w' B a k n po pn pc (.slice bo bn bc) (.slice so e sc) (ws + (T : Int)) P body (st.take i ++ st.drop j)) ∧ Hid (Cf (QZ a (.slice bo bn bc) (.slice so sn sc)) w w') := by
 have hsl : sn = st.length := hPO.on.len
 have hbl : bn = body.length := hPO.ob.len
 have hTb : T ≤ bn := by
  obtain ⟨r, hr⟩ := hl.at_ i d hd
  have h1 := congrArg List.length hr
  rw [if_neg hk0, zK, zG, hT] at h1
  omega
 have hpg := hPO.pgq hwf (by omega) (by omega)
 have hon := hPO.on
 unfold OwnN at hon
 rw [← hsl] at hon
 obtain ⟨g, rfl⟩ : ∃ g, so = some ⟨g, 0, none⟩ := by
  rcases hon.2 with ⟨_, h0⟩ | ⟨g, cap, cur, e1, _⟩
  ·omega
  ·injection e1 with e1 _ _
   exact ⟨g, e1⟩
 have HHS := zaa (hasQ w a k n po pn pc bo bn bc _ sn sc ws P body st hpg i (by omega))
 have HLN := zaa (zba w a k n po pn pc bo bn bc _ sn sc ws P body st hpg)
 have HSW : Hid (∀ u, Calls Tryz.prog 44 #[.int .i64 k, .int .i64 (i : Int)] u fun e w' => e = .returned (.bool false) ∧ w' = u) := zaa (fun u => by
  have := zay k (i : Int) u
  rwa [decide_eq_false (by omega)] at this)
 have HTK : Hid (∀ u, Below w.heap.size w u → Calls Tryz.prog 48 #[.pointer (some ⟨a, 0, none⟩), .int .i64 (i : Int)] u fun e w' => e = .returned (.int .i64 (T : Int)) ∧ w'.cell? ⟨a, 5, none⟩ = some (.int .i64 ws) ∧ w'.frozen? ⟨a, 5, none⟩ = false ∧ Hid (Below w.heap.size w w')) := zaa fun u hu => by
  refine (takenQ_any u a k n po pn pc bo bn bc _ sn sc ws P body st cs (hpg.on hu) hl i d hd (by omega) T (by rw [if_neg hk0]; exact hT)).mono ?_
  rintro e w' ⟨rfl, HB⟩
  have hb := zab hu Lr HB.out
  have hr : QR w' a k n (.slice po pn pc) (.slice bo bn bc) (.slice (some ⟨g, 0, none⟩) sn sc) ws := zaf hPO.row hb
  exact ⟨rfl, hr.cells.2.2.2.2.2, hr.free 5, zaa hb⟩
 have hTI : (T : Int) ≤ 65536 := by omega
 have hIJ : (i : Int) + 1 = (j : Int) := by omega
 have hJI : (j : Int) ≤ 65535 := by omega
 have hS1 : ¬ (sn : Int) = 1 := by omega
 obtain ⟨c0, c1, c2, c3, c4, c5⟩ := hPO.row.cells
 have f5 := hPO.row.free 5
 have HPO := zaa hPO
 have HFS := zaa hfs
 have HSL := zaa hsl
 have HAPS : Hid ((Value.slice (some ⟨g, 0, none⟩) sn sc).ownBlock ≠ some a) := zaa (by
  have := hPO.row
  unfold QR at this
  exact hPO.on.apart this (by decide))
 clear hPO hpg hon hl hd hwf hT hfs hsl hbl hTb
 go_enter Tryz.func13, Tryz.ntmps13
 go_upto_region 5 with (first | (go_at_call 42; refine zae HHS.out ?_) | (go_at_call 44; refine zae (HSW.out _) ?_) | (go_at_call 26; refine zae HLN.out ?_))
 go_region_with (first | (go_at_call 48; refine (HTK.out _ (by first | exact Br | exact Br.drew | exact zad Br _)).mono ?_; rintro r w3 ⟨rfl, y5, z5, HB3⟩))
 all_goals
  obtain ⟨w4, hw4⟩ : ∃ w4, w3.setCell ⟨a, 5, none⟩ (.int .i64 (ws + (T : Int))) = w4 := ⟨_, rfl⟩
  have HP4 : Hid (PO w4 B a k n po pn pc (.slice bo bn bc) (.slice (some ⟨g, 0, none⟩) sn sc) (ws + (T : Int)) P body st ∧ Cf (QZ a (.slice bo bn bc) (.slice (some ⟨g, 0, none⟩) sn sc)) w w4) := zaa (by
   have hp3 := HPO.out.go HB3.out
   have hr3 := hp3.row
   unfold QR at hr3
   have hcs : Cf (· = a) w3 w4 := by rw [← hw4]; exact Cf.set _ _ _ _
   refine ⟨⟨by rw [← hw4]; exact hp3.row.set5 _, hp3.pre.cf hcs (hp3.pre.apartQ hp3.row), hp3.ob.cf hcs (hp3.ob.apart hr3 (by decide)), hp3.on.cf hcs (hp3.on.apart hr3 (by decide)), hp3.far, hp3.ha⟩, ?_⟩
   exact (Cf.of_below HB3.out).go (hcs.wideQ (fun b e => .inl e)))
  have HDL : Hid (Calls Tryz.prog 49 #[.slice (some ⟨g, 0, none⟩) sn sc, .int .i64 (i : Int), .int .i64 (j : Int)] w4 fun r w' => r = .returned (.slice (some ⟨g, 0, none⟩) e sc) ∧ Hid (w'.ownsRow B 3 1 (.slice (some ⟨g, 0, none⟩) e sc) e ((NI st).take i ++ (NI st).drop j)) ∧ Hid (w4.grownBy w' (some g))) := zaa (by
   have hon := HP4.out.1.on
   unfold OwnN at hon
   rw [← HSL.out] at hon
   exact delN_one w4 B g sn sc i j e (NI st) hon (NI_one _) hij his hes hss)
  clear c0 c1 c2 c3 c4 c5 f5 y5 z5
  obtain ⟨c0, c1, c2, c3, c4, c5⟩ := HP4.out.1.row.cells
  have f4 := HP4.out.1.row.free 4
  rw [show IntKind.i64.wrap (ws + (T : Int)) = ws + (T : Int) by rw [IntKind.wrap_i64]; omega, hw4]
  clear hw4
  go_wp2_with (go_at_call 49; refine HDL.out.mono ?_; rintro r w5 ⟨rfl, HO5, HG5⟩; refine Hid.out ?_)
  apply zaa
  have hg5 : Gr w4 (.slice (some ⟨g, 0, none⟩) sn sc) w5 (.slice (some ⟨g, 0, none⟩) e sc) := RN.gr_in HG5.out
  have HG6 := zaa hg5
  have HR5 : Hid (QR w5 a k n (.slice po pn pc) (.slice bo bn bc) (.slice (some ⟨g, 0, none⟩) sn sc) (ws + (T : Int))) := zaa (HP4.out.1.row.gr hg5 HAPS.out)
  clear c0 c1 c2 c3 c4 c5 f4 hg5 HDL
  obtain ⟨c0, c1, c2, c3, c4, c5⟩ := HR5.out.cells
  have f4 := HR5.out.free 4
  go_wp2
  go_ret
  have hp4 := HP4.out.1
  have hcs : Cf (· = a) w5 (w5.setCell ⟨a, 4, none⟩ (.slice (some ⟨g, 0, none⟩) e sc)) := Cf.set _ _ _ _
  have hr5 := HR5.out
  unfold QR at hr5
  have hob5 := hp4.ob.gr HG6.out (hp4.ob.apartN hp4.on)
  have hon5 : OwnN w5 B (.slice (some ⟨g, 0, none⟩) e sc) (st.take i ++ st.drop j) := by
   unfold OwnN
   have e1 : NI (st.take i ++ st.drop j) = (NI st).take i ++ (NI st).drop j := by simp [NI]
   have e2 : (st.take i ++ st.drop j).length = e := by have := HSL.out; simp; omega
   rw [e1, e2]
   exact HO5.out
  have hcw : Cf (QZ a (.slice bo bn bc) (.slice (some ⟨g, 0, none⟩) sn sc)) w (w5.setCell ⟨a, 4, none⟩ (.slice (some ⟨g, 0, none⟩) e sc)) := (HP4.out.2.go (Cf.ofGr HG6.out (fun g e => .inr (.inr e)))).go (hcs.wideQ (fun b e => .inl e))
  have hpo := HPO.out
  have hpre : Sl (w5.setCell ⟨a, 4, none⟩ (.slice (some ⟨g, 0, none⟩) e sc)) po pn pc P := hpo.pre.cf hcw (by
   rcases hpo.pre.apartQ hpo.row with h | h
   ·exact .inl h
   ·rcases hpo.far with h1 | h1
    ·exact .inl h1
    ·rcases HFS.out with h2 | h2
     ·exact .inl h2
     ·right
      intro p hp
      rintro (e | e | e)
      ·exact h p hp e
      ·exact h1 p hp e
      ·exact h2 p hp e)
  exact ⟨rfl, zaa ⟨HR5.out.set4 _, hpre, hob5.cf hcs (hob5.apart hr5 (by decide)), hon5.cf hcs (hon5.apart hr5 (by decide)), hp4.far, hp4.ha⟩, zaa hcw⟩
theorem hasQ_no (w : World) (a : Nat) (k : Int) (n : Nat) (po : Option Addr) (pn pc : Nat) (bo : Option Addr) (bn bc : Nat) (so : Option Addr) (sn sc : Nat) (ws : Int) (P body : List Int) (st : List Nat) (h : PgQ w a k n po pn pc bo bn bc so sn sc ws P body st) (i : Int) (hi : ¬ (0 ≤ i ∧ i < (sn : Int))) :
  Calls Tryz.prog 42 #[.pointer (some ⟨a, 0, none⟩), .int .i64 i] w fun e w' => e = .returned (.bool false) ∧ w' = w := by
 have HL := zaa (zba w a k n po pn pc bo bn bc so sn sc ws P body st h)
 clear h
 by_cases h0 : 0 ≤ i
 ·have h1 : ¬ i < (sn : Int) := fun h => hi ⟨h0, h⟩
  clear hi
  go_enter Tryz.func42, Tryz.ntmps42
  go_wp2_with (go_at_call 26; refine zae HL.out ?_)
  go_ret
  exact ⟨by simp; omega, rfl⟩
 ·clear hi
  go_enter Tryz.func42, Tryz.ntmps42
  go_wp2_with (go_at_call 26; refine zae HL.out ?_)
  go_ret
  exact ⟨by simp, rfl⟩
theorem rem_no (w : World) (a : Nat) (k : Int) (n : Nat) (po : Option Addr) (pn pc : Nat) (bo : Option Addr) (bn bc : Nat) (so : Option Addr) (sn sc : Nat) (ws : Int) (P body : List Int) (st : List Nat) (h : PgQ w a k n po pn pc bo bn bc so sn sc ws P body st) (i : Int) (hi : ¬ (0 ≤ i ∧ i < (sn : Int))) :
  Calls Tryz.prog 13 #[.pointer (some ⟨a, 0, none⟩), .int .i64 i] w fun e w' => e = .returned (.int .i64 64) ∧ w' = w := by
 have HHS := zaa (hasQ_no w a k n po pn pc bo bn bc so sn sc ws P body st h i hi)
 clear h hi
 go_enter Tryz.func13, Tryz.ntmps13
 go_wp2_with (go_at_call 42; refine zae HHS.out ?_)
 go_ret
 exact ⟨rfl, rfl⟩
theorem waste_any (w : World) (a : Nat) (k : Int) (n : Int) (vp vb vs : Value) (ws : Int) (h : QR w a k n vp vb vs ws) :
  Calls Tryz.prog 16 #[.pointer (some ⟨a, 0, none⟩)] w fun e w' => e = .returned (.int .i64 ws) ∧ w' = w := by
 obtain ⟨c0, c1, c2, c3, c4, c5⟩ := h.cells
 clear h
 go_enter Tryz.func16, Tryz.ntmps16
 go_wp2_with fail
 go_ret
 exact ⟨rfl, rfl⟩
theorem lay_no (w : World) (a : Nat) (k : Int) (n : Nat) (po : Option Addr) (pn pc : Nat) (bo : Option Addr) (bn bc : Nat) (so : Option Addr) (sn sc : Nat) (ws : Int) (h : QR w a k n (.slice po pn pc) (.slice bo bn bc) (.slice so sn sc) ws) (G : Nat) (ao : Option Addr) (m cap : Nat) (cs : List Cl) (hs : SlE w G ao m cap cs) (hG : G ≤ w.heap.size) (hr : Rs cs) (hf : ∀ c ∈ cs, c.fit) (hn : n ≤ 65536) (hfit : n < szQ k (shP k cs).length cs) (hbig : szQ k (shP k cs).length cs ≤ 1099511627776) (hm : m ≤ 65536) :
  Calls Tryz.prog 45 #[.pointer (some ⟨a, 0, none⟩), .slice ao m cap] w fun e w' => e = .returned (.int .i64 61) ∧ Hid (Below w.heap.size w w') := by
 have hz := zal k (shP k cs).length cs
 obtain ⟨Z, hZ⟩ : ∃ Z, szQ k (shP k cs).length cs = Z := ⟨_, rfl⟩
 rw [hZ] at hz hfit hbig
 have E1 : Hid (∀ u, Below w.heap.size w u → Calls Tryz.prog 54 #[.int .i64 k, .int .i64 (n : Int), .slice ao m cap] u fun e w' => ∃ b qo qn qc co cn cc to_ tn tc, e = .returned (.pointer (some ⟨b, 0, none⟩)) ∧ w'.cell? ⟨a, 1, none⟩ = some (.int .i64 (n : Int)) ∧ Hid (PO w' w.heap.size b k n qo qn qc (.slice co cn cc) (.slice to_ tn tc) 0 (shP k cs) (qbd (shP k cs).length (whl k) cs) (qst (shP k cs).length (whl k) 0 cs)) ∧ Hid (Below w.heap.size w w') ∧ Hid (10 + qn + 2 * tn + cn = Z)) := by
  refine zaa fun u hu => (laid_any k n G ao m cap cs u (hs.on hu) (zN hG hu.size) hr hf hm (by omega)).mono ?_
  intro e w' hq
  obtain ⟨b, qo, qn, qc, co, cn, cc, to_, tn, tc, rfl, HPO, HB, HN⟩ := hq.po
  have hb := zab hu Lr HB.out
  have hpo := HPO.out
  obtain ⟨n1, n2, n3⟩ := HN.out
  refine ⟨b, qo, qn, qc, co, cn, cc, to_, tn, tc, rfl, (show QR w' a k n (.slice po pn pc) (.slice bo bn bc) (.slice so sn sc) ws from zaf h hb).cells.2.1, zaa ⟨hpo.row, hpo.pre, hpo.ob.low hu.size, ?_, hpo.far, zN hu.size hpo.ha⟩, zaa hb, zaa (by omega)⟩
  have h6 := hpo.on
  unfold OwnN at h6 ⊢
  rcases h6.2 with h8 | ⟨g, c, cur, e, hg, r⟩
  ·exact ⟨h6.1, .inl h8⟩
  ·exact ⟨h6.1, .inr ⟨g, c, cur, e, zN hu.size hg, r⟩⟩
 have HRA : Hid (∀ u, Below w.heap.size w u → QR u a k n (.slice po pn pc) (.slice bo bn bc) (.slice so sn sc) ws) := zaa fun u hu => zaf h hu
 obtain ⟨c0, c1, c2, c3, c4, c5⟩ := h.cells
 have hfI : (n : Int) < (Z : Int) := by omega
 have hZI : (Z : Int) ≤ 1099511627776 := by omega
 have hnI : (n : Int) ≤ 65536 := by omega
 clear h hs hr hf hz hZ
 go_enter Tryz.func45, Tryz.ntmps45
 go_upto_region 1 with fail
 go_cut [5] from 6 to 15 (fun v u => ∃ b qo qn qc co cn cc to_ tn tc, v = .pointer (some ⟨b, 0, none⟩) ∧ Hid (PO u w.heap.size b k n qo qn qc (.slice co cn cc) (.slice to_ tn tc) 0 (shP k cs) (qbd (shP k cs).length (whl k) cs) (qst (shP k cs).length (whl k) 0 cs)) ∧ Hid (Below w.heap.size w u) ∧ Hid (10 + qn + 2 * tn + cn = Z))
 case first =>
  go_wp2_with fail
  go_region_with (first | (go_at_call 54; refine (E1.out _ (by first | exact Br | exact Br.drew | exact zad Br _)).mono ?_; rintro e w1 ⟨b, qo, qn, qc, co, cn, cc, to_, tn, tc, rfl, y1, HPO, HB1, HZ1⟩))
  all_goals (try go_wp2_with fail)
  all_goals go_meet
  all_goals exact ⟨b, qo, qn, qc, co, cn, cc, to_, tn, tc, rfl, by first | exact HPO | exact zaa (HPO.out.go Br.drew) | exact zaa (HPO.out.go (zad Br _)), by first | exact HB1 | exact zaa HB1.out.drew | exact zaa (zad HB1.out _), HZ1⟩
 obtain ⟨b, qo, qn, qc, co, cn, cc, to_, tn, tc, rfl, HPO, HB1, HZ1⟩ := hcut
 obtain ⟨w1, hw1⟩ : ∃ w1, w1 = wc := ⟨_, rfl⟩
 subst hw1
 clear c0 c1 c2 c3 c4 c5 E1
 have hz1 := HZ1.out
 have HUS : Hid (∀ u, Below w1.heap.size w1 u → Calls Tryz.prog 17 #[.pointer (some ⟨b, 0, none⟩)] u fun e w' => e = .returned (.int .i64 (Z : Int)) ∧ w'.cell? ⟨a, 1, none⟩ = some (.int .i64 (n : Int)) ∧ Hid (Below w1.heap.size w1 w')) := by
  refine zaa fun u hu => (usedQ_any u b k n qo qn qc co cn cc to_ tn tc (zaf HPO.out.row hu) (by omega) (by omega) (by omega) Z hz1).mono ?_
  rintro e w' ⟨rfl, HB⟩
  have hb := zab hu Lr HB.out
  exact ⟨rfl, (HRA.out w' (zab HB1.out Lr hb)).cells.2.1, zaa hb⟩
 have c1 := (HRA.out w1 HB1.out).cells.2.1
 clear hz1
 go_upto_region 2 with fail
 go_cut [22] from 16 to 22 (fun v u => v = .bool true ∧ Hid (Below w1.heap.size w1 u))
 case first =>
  go_wp2_with fail
  go_region_with (first | (go_at_call 17; refine (HUS.out _ (by first | exact Br | exact Br.drew | exact zad Br _)).mono ?_; rintro e w2 ⟨rfl, y1, HB2⟩))
  all_goals (try go_wp2_with fail)
  all_goals go_meet
  all_goals exact ⟨by (simp <;> omega), by first | exact HB2 | exact zaa HB2.out.drew | exact zaa (zad HB2.out _)⟩
 obtain ⟨rfl, HB2⟩ := hcut
 obtain ⟨w2, hw2⟩ : ∃ w2, w2 = wc := ⟨_, rfl⟩
 subst hw2
 clear c1 HUS
 go_wp2
 go_ret
 exact ⟨rfl, zaa (zab HB1.out Lr HB2.out)⟩
end Go.Proofs.YtfgffajgfgifhaaGreatDoor
