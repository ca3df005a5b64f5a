import Derived.Test.YtfgffajgfgifhaaGreatDoorJ20
import Derived.Test.YtfgffajgfgifhaaGreatDoorJ31
namespace Go.Proofs.YtfgffajgfgifhaaGreatDoor
set_option maxRecDepth 100000
set_option maxHeartbeats 4000000
open Go.RowKit
theorem QR.set5 {w : World} {a : Nat} {k n : Int} {vp vb vs : Value} {ws : Int} (h : QR w a k n vp vb vs ws) (x : Int) : QR (w.setCell ⟨a, 5, none⟩ (.int .i64 x)) a k n vp vb vs x := by
 unfold QR at *
 simpa using zam (w := w) (a := a) (i := 5) (cs := [.int .i64 k, .int .i64 n, vp, vb, vs, .int .i64 ws]) (u := .int .i64 x) h
theorem qB_most (m : Nat) (c : Cl) : (qB m c).length ≤ c.key.length + c.val.length + 31 := by
 unfold qB
 have h1 := (zan ((c.key.length - m : Nat) : Int)).1
 have h2 := (zan (c.val.length : Int)).1
 have h3 := (zan (c.pg % 18446744073709551616)).1
 have h4 := (zan (c.ct % 18446744073709551616)).1
 split <;> simp only [zG, List.length_cons, List.length_nil, zK] <;> omega
theorem full_ins (w : World) (B a : Nat) (k : Int) (n : Nat) (po : Option Addr) (pn pc : Nat) (bo : Option Addr) (bn bc : Nat) (so : Option Addr) (sn sc : Nat) (ws : Int) (P body : List Int) (st : List Nat)
  (hPO : PO w B a k n po pn pc (.slice bo bn bc) (.slice so sn sc) ws P body st) (hbb : bn ≤ 65536) (hss : sn ≤ 65536) (hB : B ≤ w.heap.size) (i : Nat) (hi : ¬ (k = 3 ∧ i = 0)) (his : i ≤ sn) (hn : n ≤ 65536)
  (c : Cl) (ka va : Option Addr) (kc vc : Nat) (hk : Sl w ka c.key.length kc c.key) (hv : Sl w va c.val.length vc c.val) (fk : Far ka c.key.length (.slice bo bn bc)) (fv : Far va c.val.length (.slice bo bn bc)) (hkl : c.key.length ≤ 65536) (hvl : c.val.length ≤ 65536)
  (hbeg : c.key.take P.length = P) (hfull : n < 10 + pn + 2 * sn + bn + (qB P.length c).length + 2) (hfit : 10 + pn + 2 * sn + bn ≤ n) :
  Calls Tryz.prog 88 #[.pointer (some ⟨a, 0, none⟩), .int .i64 (i : Int), .int .i64 (i : Int), .agg #[.slice ka c.key.length kc, .int .i64 c.kd, .slice va c.val.length vc, .int .i64 c.pg, .int .i64 c.ct]] w
   (fun e w' => e = .returned (.bool false) ∧ Hid (PO w' B a k n po pn pc (.slice bo bn bc) (.slice so sn sc) ws P body st) ∧ Hid (Cf (fun b => (Value.slice bo bn bc).ownBlock = some b) w w')) := by
 have hpl := hPO.pre.hlen
 have hPk : P.length ≤ c.key.length := by rw [← hbeg, zJ]; omega
 obtain ⟨x, hx⟩ : ∃ x, w.alloc (.cells #[.slice ka c.key.length kc, .int .i64 c.kd, .slice va c.val.length vc, .int .i64 c.pg, .int .i64 c.ct] 39) = x := ⟨_, rfl⟩
 have hbx : Below w.heap.size w x := by rw [← hx]; exact zac Br Lr _
 obtain ⟨s, hs⟩ : ∃ s, w.heap.size = s := ⟨_, rfl⟩
 have hc5 : C5 x s (.slice ka c.key.length kc) (.int .i64 c.kd) (.slice va c.val.length vc) (.int .i64 c.pg) (.int .i64 c.ct) := by rw [← hx, ← hs]; exact C5.box _ _ _ _ _ _
 obtain ⟨z0, z1, z2, z3, z4⟩ := hc5.cells
 have hrx : QR x a k n (.slice po pn pc) (.slice bo bn bc) (.slice so sn sc) ws := zaf hPO.row hbx
 obtain ⟨c0, c1, c2, c3, c4, c5⟩ := hrx.cells
 obtain ⟨qo, qn, qc, hqc, hhd⟩ := zch k i po pn pc
 obtain ⟨rfl, rfl, rfl⟩ : qo = po ∧ qn = pn ∧ qc = pc := by
  rcases hqc with ⟨_, _, _, h4⟩ | ⟨h1, h2, h3, _⟩
  ·exact absurd h4 hi
  ·exact ⟨h1, h2, h3⟩
 have HHD := zaa (hhd x a n _ _ ws hrx)
 have HSW : Hid (Calls Tryz.prog 44 #[.int .i64 k, .int .i64 (i : Int)] x fun e w' => e = .returned (.bool false) ∧ w' = x) := zaa (by
  have := zay k (i : Int) x
  rwa [decide_eq_false (show ¬ (k = 3 ∧ (i : Int) = 0) by omega)] at this)
 have HHP : Hid (Calls Tryz.prog 123 #[.slice ka c.key.length kc, .slice qo qn qc] x fun e w' => e = .returned (.bool true) ∧ w' = x) := zaa (by
  have := zcs ka qo c.key.length qn kc qc c.key P x (hk.on Lr hbx) (hPO.pre.on Lr hbx)
  rwa [decide_eq_true hbeg] at this)
 obtain ⟨M, hM⟩ : ∃ M, (body ++ qB P.length c).length = M := ⟨_, rfl⟩
 have hbn : bn = body.length := hPO.ob.len
 have hMl : M = bn + (qB P.length c).length := by rw [← hM, zG, hbn]
 have HAP : Hid (∀ u, Below x.heap.size x u → Calls Tryz.prog 94 #[.agg (eV none 0 0 ka c.key.length kc c.kd va c.val.length vc c.pg c.ct), .slice bo bn bc, .int .i64 (qn : Int)] u fun e w' => ∃ ao cp, e = .returned (.slice ao M cp) ∧ Hid (OwnB w' B (.slice ao M cp) (body ++ qB P.length c)) ∧ Hid (Gs x (.slice bo bn bc) w' (.slice ao M cp))) := by
  refine zaa fun u hu => ?_
  have hwu := zab hbx Lr hu
  have h := eappended2 (.slice bo bn bc) B body none 0 0 ka c.key.length kc c.kd va c.val.length vc c.pg c.ct [] c.key c.val P.length u (hPO.ob.on Lr hwu) (zN hB hwu.size) (Sl.nil_any _ _ _ fun _ => rfl) (hk.on Lr hwu) (hv.on Lr hwu) (.inl rfl) fk fv (by omega) (by omega)
  rw [hpl] at h
  refine h.mono ?_
  rintro e w' ⟨v', rfl, HO, HG⟩
  obtain ⟨ao, cp, rfl⟩ := HO.out.shape
  have e1 : (body ++ qB qn ⟨[] ++ c.key, c.kd, c.val, c.pg, c.ct⟩).length = M := by rw [← hM, hpl]; rfl
  rw [e1] at HO HG ⊢
  refine ⟨ao, cp, rfl, zaa ?_, zaa ((Gs.ofBelow _ hu).trans HG.out)⟩
  rw [hpl]
  exact HO.out
 have hapa : (Value.slice bo bn bc).ownBlock ≠ some a := by
  have := hPO.row
  unfold QR at this
  exact hPO.ob.apart this (by decide)
 have hapS : (Value.slice so sn sc).ownBlock ≠ some a := by
  have := hPO.row
  unfold QR at this
  exact hPO.on.apart this (by decide)
 have hapN := hPO.ob.apartN hPO.on
 have hapB := hPO.on.apartB hPO.ob
 have HPO := zaa hPO
 have HPX := zaa (hPO.go hbx)
 have HBX := zaa hbx
 have HAPA := zaa (And.intro hapa (And.intro hapS (And.intro hapN hapB)))
 have HPL := zaa hpl
 have HM := zaa hM
 have HBN := zaa hbn
 have HS := zaa hs
 obtain ⟨body', hbd'⟩ : ∃ body', body ++ qB P.length c = body' := ⟨_, rfl⟩
 rw [hbd'] at HAP HM
 have HBD' := zaa hbd'
 have HBW := zaa hB
 have hbnI : (bn : Int) ≤ 65536 := by omega
 have hMI : (M : Int) ≤ 200000 := by have := qB_most P.length c; omega
 have hiI : (i : Int) ≤ 65536 := by omega
 have hnI : (n : Int) ≤ 65536 := by omega
 have HFIT : Hid (n < 10 + qn + 2 * sn + bn + (M - bn) + 2 ∧ bn ≤ M ∧ 10 + qn + 2 * sn + bn ≤ n) := zaa (by omega)
 have HQN : Hid (qn ≤ 65536) := zaa (by omega)
 clear hbd' hPO hk hv fk fv hbx hc5 hrx hhd hqc hi hbeg hpl hPk hM hMl hbn hapa hapS hapN hapB hB hfit hfull
 go_enter Tryz.func88, Tryz.ntmps88
 go_upto_region 7 with (first | (go_at_call 44; refine zae HSW.out ?_) | (go_at_call 95; refine zae HHD.out ?_) | (go_at_call 123; refine zae HHP.out ?_))
 go_cut [11] from 37 to 45 (fun v u => ∃ ao cp, v = .slice ao M cp ∧ Hid (OwnB u B (.slice ao M cp) body') ∧ Hid (Gs x (.slice bo bn bc) u (.slice ao M cp)))
 case first =>
  go_wp2_with fail
  go_region_with (first | (go_at_call 94; refine (HAP.out _ (by first | exact Br | exact Br.drew | exact zad Br _)).mono ?_; rintro e w1 ⟨ao, cp, rfl, HO1, HG1⟩))
  all_goals (try go_wp2_with fail)
  all_goals go_meet
  all_goals exact ⟨ao, cp, rfl, by first | exact HO1 | exact zaa (HO1.out.on Lr Br.drew) | exact zaa (HO1.out.on Lr (zad Br _)), by first | exact HG1 | exact zaa (HG1.out.trans (Gs.ofBelow _ Br.drew)) | exact zaa (HG1.out.trans (Gs.ofBelow _ (zad Br _)))⟩
 obtain ⟨ao, cp, rfl, HO1, HG1⟩ := hcut
 obtain ⟨w1, hw1⟩ : ∃ w1, w1 = wc := ⟨_, rfl⟩
 subst hw1
 clear z0 z1 z2 z3 z4 c0 c1 c2 c3 c4 c5 HSW HHD HHP HAP
 have HR1 : Hid (QR w1 a k n (.slice qo qn qc) (.slice bo bn bc) (.slice so sn sc) ws) := zaa (HPX.out.row.gr HG1.out.toGr HAPA.out.1)
 obtain ⟨Z, hZ⟩ : ∃ Z, 10 + qn + 2 * sn + bn = Z := ⟨_, rfl⟩
 have HFL : Hid (∀ u, Below w1.heap.size w1 u → Calls Tryz.prog 53 #[.pointer (some ⟨a, 0, none⟩)] u fun e w' => e = .returned (.int .i64 (Z : Int)) ∧ w'.cell? ⟨a, 1, none⟩ = some (.int .i64 (n : Int)) ∧ Hid (Below w1.heap.size w1 w')) := by
  refine zaa fun u hu => (zda u a k n qo qn qc bo bn bc so sn sc ws (zaf HR1.out hu) (by have := HQN.out; omega) (by omega) (by omega)).mono ?_
  rintro e w' ⟨rfl, q, rfl⟩
  rw [hZ]
  have hb := zad hu q
  exact ⟨rfl, (show QR (u.drewN q) a k n (.slice qo qn qc) (.slice bo bn bc) (.slice so sn sc) ws from zaf HR1.out hb).cells.2.1, zaa hb⟩
 have c1 := HR1.out.cells.2.1
 have hbM : (bn : Int) ≤ (M : Int) := by have := HFIT.out; omega
 have hZI : (Z : Int) ≤ 65536 := by have := HFIT.out; omega
 have hZn : (n : Int) < (Z : Int) + (M : Int) - (bn : Int) + 2 := by have := HFIT.out; omega
 clear hZ
 go_upto_region 8 with fail
 go_cut [63] from 46 to 63 (fun v u => v = .bool true ∧ Hid (Below w1.heap.size w1 u))
 case first =>
  go_wp2_with fail
  go_region_with (first | (go_at_call 53; refine (HFL.out _ (by first | exact Br | exact Br.drew | exact zad Br _)).mono ?_; rintro e w2 ⟨rfl, y1, HB2⟩))
  all_goals (try go_wp2_with fail)
  all_goals go_meet
  all_goals exact ⟨by go_unwrap; simp; omega, by first | exact HB2 | exact zaa HB2.out.drew | exact zaa (zad HB2.out _)⟩
 obtain ⟨rfl, HB2⟩ := hcut
 obtain ⟨w2, hw2⟩ : ∃ w2, w2 = wc := ⟨_, rfl⟩
 subst hw2
 clear c1 HFL hZn hZI
 go_wp2
 go_ret
 have hpo := HPX.out
 have hold := (HG1.out.old B (.slice bo bn bc) body hpo.ob (fun C m g hm _ _ => by rw [hpo.ob.one7 hm]; exact List.prefix_refl _)).1
 have hcw : Cf (fun b => (Value.slice bo bn bc).ownBlock = some b) x w2 := (Cf.ofGr HG1.out.toGr (fun g e => e)).go (Cf.of_below HB2.out)
 refine ⟨rfl, zaa ⟨zaf HR1.out HB2.out, hpo.pre.cf hcw ?_, hold.on Lr HB2.out, (hpo.on.gr HG1.out.toGr HAPA.out.2.2.2).below HB2.out, hpo.far, hpo.ha⟩, zaa ((Cf.of_below HBX.out).go hcw)⟩
 rcases hpo.far with h1 | h1
 ·exact .inl h1
 ·exact .inr fun p hp e => h1 p hp e
theorem full_set (w : World) (B a : Nat) (k : Int) (n : Nat) (po : Option Addr) (pn pc : Nat) (bo : Option Addr) (bn bc : Nat) (so : Option Addr) (sn sc : Nat) (ws : Int) (P body : List Int) (st : List Nat)
  (hPO : PO w B a k n po pn pc (.slice bo bn bc) (.slice so sn sc) ws P body st) (hbb : bn ≤ 65536) (hss : sn ≤ 65536) (hB : B ≤ w.heap.size) (i j : Nat) (hij : i + 1 = j) (his : j ≤ sn) (H : List Int) (hH : (if k = 3 ∧ i = 0 then [] else P) = H) (hn : n ≤ 65536)
  (c : Cl) (ka va : Option Addr) (kc vc : Nat) (hk : Sl w ka c.key.length kc c.key) (hv : Sl w va c.val.length vc c.val) (fk : Far ka c.key.length (.slice bo bn bc)) (fv : Far va c.val.length (.slice bo bn bc)) (hkl : c.key.length ≤ 65536) (hvl : c.val.length ≤ 65536)
  (hbeg : c.key.take H.length = H) (hfull : n < 10 + pn + 2 * sn + bn + (qB H.length c).length) (hfit : 10 + pn + 2 * sn + bn ≤ n) :
  Calls Tryz.prog 88 #[.pointer (some ⟨a, 0, none⟩), .int .i64 (i : Int), .int .i64 (j : Int), .agg #[.slice ka c.key.length kc, .int .i64 c.kd, .slice va c.val.length vc, .int .i64 c.pg, .int .i64 c.ct]] w
   (fun e w' => e = .returned (.bool false) ∧ Hid (PO w' B a k n po pn pc (.slice bo bn bc) (.slice so sn sc) ws P body st) ∧ Hid (Cf (fun b => (Value.slice bo bn bc).ownBlock = some b) w w')) := by
 have hpl := hPO.pre.hlen
 have hPk : H.length ≤ c.key.length := by rw [← hbeg, zJ]; omega
 obtain ⟨x, hx⟩ : ∃ x, w.alloc (.cells #[.slice ka c.key.length kc, .int .i64 c.kd, .slice va c.val.length vc, .int .i64 c.pg, .int .i64 c.ct] 39) = x := ⟨_, rfl⟩
 have hbx : Below w.heap.size w x := by rw [← hx]; exact zac Br Lr _
 obtain ⟨s, hs⟩ : ∃ s, w.heap.size = s := ⟨_, rfl⟩
 have hc5 : C5 x s (.slice ka c.key.length kc) (.int .i64 c.kd) (.slice va c.val.length vc) (.int .i64 c.pg) (.int .i64 c.ct) := by rw [← hx, ← hs]; exact C5.box _ _ _ _ _ _
 obtain ⟨z0, z1, z2, z3, z4⟩ := hc5.cells
 have hrx : QR x a k n (.slice po pn pc) (.slice bo bn bc) (.slice so sn sc) ws := zaf hPO.row hbx
 obtain ⟨c0, c1, c2, c3, c4, c5⟩ := hrx.cells
 obtain ⟨qo, qn, qc, hqc, hhd⟩ := zch k i po pn pc
 have hHl : H.length = qn := by
  rw [← hH]
  rcases hqc with ⟨_, h2, _, h4⟩ | ⟨_, h2, _, h4⟩
  ·rw [if_pos h4, h2]; rfl
  ·rw [if_neg h4, h2]; exact hpl
 have hHs : Sl w qo qn qc H := by
  rw [← hH]
  rcases hqc with ⟨h1, h2, h3, h4⟩ | ⟨h1, h2, h3, h4⟩
  ·rw [if_pos h4, h1, h2, h3]; exact Sl.nil_any _ _ _ fun _ => rfl
  ·rw [if_neg h4, h1, h2, h3]; exact hPO.pre
 have HHD := zaa (hhd x a n _ _ ws hrx)
 have HHP : Hid (Calls Tryz.prog 123 #[.slice ka c.key.length kc, .slice qo qn qc] x fun e w' => e = .returned (.bool true) ∧ w' = x) := zaa (by
  have := zcs ka qo c.key.length qn kc qc c.key H x (hk.on Lr hbx) (hHs.on Lr hbx)
  rwa [decide_eq_true hbeg] at this)
 obtain ⟨M, hM⟩ : ∃ M, (body ++ qB H.length c).length = M := ⟨_, rfl⟩
 have hbn : bn = body.length := hPO.ob.len
 have hMl : M = bn + (qB H.length c).length := by rw [← hM, zG, hbn]
 have HAP : Hid (∀ u, Below x.heap.size x u → Calls Tryz.prog 94 #[.agg (eV none 0 0 ka c.key.length kc c.kd va c.val.length vc c.pg c.ct), .slice bo bn bc, .int .i64 (qn : Int)] u fun e w' => ∃ ao cp, e = .returned (.slice ao M cp) ∧ Hid (OwnB w' B (.slice ao M cp) (body ++ qB H.length c)) ∧ Hid (Gs x (.slice bo bn bc) w' (.slice ao M cp))) := by
  refine zaa fun u hu => ?_
  have hwu := zab hbx Lr hu
  have h := eappended2 (.slice bo bn bc) B body none 0 0 ka c.key.length kc c.kd va c.val.length vc c.pg c.ct [] c.key c.val H.length u (hPO.ob.on Lr hwu) (zN hB hwu.size) (Sl.nil_any _ _ _ fun _ => rfl) (hk.on Lr hwu) (hv.on Lr hwu) (.inl rfl) fk fv (by omega) (by omega)
  rw [hHl] at h
  refine h.mono ?_
  rintro e w' ⟨v', rfl, HO, HG⟩
  obtain ⟨ao, cp, rfl⟩ := HO.out.shape
  have e1 : (body ++ qB qn ⟨[] ++ c.key, c.kd, c.val, c.pg, c.ct⟩).length = M := by rw [← hM, hHl]; rfl
  rw [e1] at HO HG ⊢
  refine ⟨ao, cp, rfl, zaa ?_, zaa ((Gs.ofBelow _ hu).trans HG.out)⟩
  rw [hHl]
  exact HO.out
 have hapa : (Value.slice bo bn bc).ownBlock ≠ some a := by
  have := hPO.row
  unfold QR at this
  exact hPO.ob.apart this (by decide)
 have hapS : (Value.slice so sn sc).ownBlock ≠ some a := by
  have := hPO.row
  unfold QR at this
  exact hPO.on.apart this (by decide)
 have hapN := hPO.ob.apartN hPO.on
 have hapB := hPO.on.apartB hPO.ob
 have HPO := zaa hPO
 have HPX := zaa (hPO.go hbx)
 have HBX := zaa hbx
 have HAPA := zaa (And.intro hapa (And.intro hapS (And.intro hapN hapB)))
 have HPL := zaa hpl
 have HM := zaa hM
 have HBN := zaa hbn
 have HS := zaa hs
 obtain ⟨body', hbd'⟩ : ∃ body', body ++ qB H.length c = body' := ⟨_, rfl⟩
 rw [hbd'] at HAP HM
 have HBD' := zaa hbd'
 have HBW := zaa hB
 have hbnI : (bn : Int) ≤ 65536 := by omega
 have hMI : (M : Int) ≤ 200000 := by have := qB_most H.length c; omega
 have hiI : (i : Int) ≤ 65536 := by omega
 have hjI : (j : Int) ≤ 65536 := by omega
 have hltI : (i : Int) < (j : Int) := by omega
 have hneI : ¬ (i : Int) = (j : Int) := by omega
 have HIJ := zaa hij
 have hnI : (n : Int) ≤ 65536 := by omega
 have HFIT : Hid (n < 10 + pn + 2 * sn + bn + (M - bn) ∧ bn ≤ M ∧ 10 + pn + 2 * sn + bn ≤ n) := zaa (by omega)
 have HQN : Hid (pn ≤ 65536) := zaa (by omega)
 clear hbd' hPO hk hv fk fv hbx hc5 hrx hhd hqc hbeg hpl hPk hHl hHs hH hM hMl hbn hapa hapS hapN hapB hB hfit hfull
 go_enter Tryz.func88, Tryz.ntmps88
 go_upto_region 7 with (first | (go_at_call 95; refine zae HHD.out ?_) | (go_at_call 123; refine zae HHP.out ?_))
 go_cut [11] from 37 to 45 (fun v u => ∃ ao cp, v = .slice ao M cp ∧ Hid (OwnB u B (.slice ao M cp) body') ∧ Hid (Gs x (.slice bo bn bc) u (.slice ao M cp)))
 case first =>
  go_wp2_with fail
  go_region_with (first | (go_at_call 94; refine (HAP.out _ (by first | exact Br | exact Br.drew | exact zad Br _)).mono ?_; rintro e w1 ⟨ao, cp, rfl, HO1, HG1⟩))
  all_goals (try go_wp2_with fail)
  all_goals go_meet
  all_goals exact ⟨ao, cp, rfl, by first | exact HO1 | exact zaa (HO1.out.on Lr Br.drew) | exact zaa (HO1.out.on Lr (zad Br _)), by first | exact HG1 | exact zaa (HG1.out.trans (Gs.ofBelow _ Br.drew)) | exact zaa (HG1.out.trans (Gs.ofBelow _ (zad Br _)))⟩
 obtain ⟨ao, cp, rfl, HO1, HG1⟩ := hcut
 obtain ⟨w1, hw1⟩ : ∃ w1, w1 = wc := ⟨_, rfl⟩
 subst hw1
 clear z0 z1 z2 z3 z4 c0 c1 c2 c3 c4 c5 HHD HHP HAP
 have HR1 : Hid (QR w1 a k n (.slice po pn pc) (.slice bo bn bc) (.slice so sn sc) ws) := zaa (HPX.out.row.gr HG1.out.toGr HAPA.out.1)
 obtain ⟨Z, hZ⟩ : ∃ Z, 10 + pn + 2 * sn + bn = Z := ⟨_, rfl⟩
 have HFL : Hid (∀ u, Below w1.heap.size w1 u → Calls Tryz.prog 53 #[.pointer (some ⟨a, 0, none⟩)] u fun e w' => e = .returned (.int .i64 (Z : Int)) ∧ w'.cell? ⟨a, 1, none⟩ = some (.int .i64 (n : Int)) ∧ Hid (Below w1.heap.size w1 w')) := by
  refine zaa fun u hu => (zda u a k n po pn pc bo bn bc so sn sc ws (zaf HR1.out hu) (by have := HQN.out; omega) (by omega) (by omega)).mono ?_
  rintro e w' ⟨rfl, q, rfl⟩
  rw [hZ]
  have hb := zad hu q
  exact ⟨rfl, (show QR (u.drewN q) a k n (.slice po pn pc) (.slice bo bn bc) (.slice so sn sc) ws from zaf HR1.out hb).cells.2.1, zaa hb⟩
 have c1 := HR1.out.cells.2.1
 have hbM : (bn : Int) ≤ (M : Int) := by have := HFIT.out; omega
 have hZI : (Z : Int) ≤ 65536 := by have := HFIT.out; omega
 have hZn : (n : Int) < (Z : Int) + (M : Int) - (bn : Int) := by have := HFIT.out; omega
 clear hZ
 go_upto_region 8 with fail
 go_cut [63] from 46 to 63 (fun v u => v = .bool true ∧ Hid (Below w1.heap.size w1 u))
 case first =>
  go_wp2_with fail
  go_region_with (first | (go_at_call 53; refine (HFL.out _ (by first | exact Br | exact Br.drew | exact zad Br _)).mono ?_; rintro e w2 ⟨rfl, y1, HB2⟩))
  all_goals (try go_wp2_with fail)
  all_goals go_meet
  all_goals exact ⟨by go_unwrap; simp; have := HIJ.out; omega, by first | exact HB2 | exact zaa HB2.out.drew | exact zaa (zad HB2.out _)⟩
 obtain ⟨rfl, HB2⟩ := hcut
 obtain ⟨w2, hw2⟩ : ∃ w2, w2 = wc := ⟨_, rfl⟩
 subst hw2
 clear c1 HFL hZn hZI
 go_wp2
 go_ret
 have hpo := HPX.out
 have hold := (HG1.out.old B (.slice bo bn bc) body hpo.ob (fun C m g hm _ _ => by rw [hpo.ob.one7 hm]; exact List.prefix_refl _)).1
 have hcw : Cf (fun b => (Value.slice bo bn bc).ownBlock = some b) x w2 := (Cf.ofGr HG1.out.toGr (fun g e => e)).go (Cf.of_below HB2.out)
 refine ⟨rfl, zaa ⟨zaf HR1.out HB2.out, hpo.pre.cf hcw ?_, hold.on Lr HB2.out, (hpo.on.gr HG1.out.toGr HAPA.out.2.2.2).below HB2.out, hpo.far, hpo.ha⟩, zaa ((Cf.of_below HBX.out).go hcw)⟩
 rcases hpo.far with h1 | h1
 ·exact .inl h1
 ·exact .inr fun p hp e => h1 p hp e
theorem PO.pgq {w : World} {B a : Nat} {k : Int} {n : Nat} {po : Option Addr} {pn pc : Nat} {bo : Option Addr} {bn bc : Nat} {so : Option Addr} {sn sc : Nat} {ws : Int} {P body : List Int} {st : List Nat} (h : PO w B a k n po pn pc (.slice bo bn bc) (.slice so sn sc) ws P body st) (hw : Wf body) (hb : body.length ≤ 140737488355328) (hs : st.length ≤ 140737488355328) : PgQ w a k n po pn pc bo bn bc so sn sc ws P body st := by
 obtain ⟨bo', bc', so', sc', e1, e2, hp⟩ := h.pg hw hb hs
 injection e1 with i1 i2 i3
 injection e2 with i4 i5 i6
 subst i1 i3 i4 i6
 rw [← i2, ← i5] at hp
 exact hp
theorem put_end (w : World) (B a : Nat) (k : Int) (n : Nat) (po : Option Addr) (pn pc : Nat) (bo : Option Addr) (bn bc : Nat) (so : Option Addr) (sn sc : Nat) (P body : List Int) (st : List Nat) (cs : List Cl) (hPO : PO w B a k n po pn pc (.slice bo bn bc) (.slice so sn sc) 0 P body st) (hl : LayQ k P cs body st) (hwf : Wf body) (hbb : body.length ≤ 65536) (hB : B ≤ w.heap.size)
  (c : Cl) (ka va : Option Addr) (kc vc : Nat) (hk : Sl w ka c.key.length kc c.key) (hv : Sl w va c.val.length vc c.val) (hm : mayP k n c) (hn : pw n) (hr : Rs (cs ++ [c])) (hno : c.key.take P.length ≠ P) (hfit : szQ k (shP k (cs ++ [c])).length (cs ++ [c]) ≤ n) (t : Nat) (hsn : sn = t + 1) :
  Calls Tryz.prog 43 #[.pointer (some ⟨a, 0, none⟩), .int .i64 (sn : Int), .int .i64 (sn : Int), .agg #[.slice ka c.key.length kc, .int .i64 c.kd, .slice va c.val.length vc, .int .i64 c.pg, .int .i64 c.ct]] w fun e w' => LayTo B a k n (cs ++ [c]) w e w' := by
 have hn2 := zai hn
 have hzz := zal k (shP k (cs ++ [c])).length (cs ++ [c])
 rw [zG] at hzz
 have hstl := hl.len
 have hsl : st.length = sn := (hPO.on.len).symm
 have hcl : cs.length = sn := by omega
 have hsb : sn ≤ 65535 := by simp at hzz; omega
 have hpg0 := hPO.pgq hwf (by omega) (by omega)
 have hrs : Rs cs := (List.pairwise_append.1 hr).1
 have hcf : c.fit := hm.fit (by omega)
 have hck := hcf.key
 have hcv := hcf.val
 have hbn : bn = body.length := hPO.ob.len
 obtain ⟨d, hd⟩ : ∃ d, cs[t]? = some d := ⟨_, zI (by omega)⟩
 have hkl : kl d.key c.key := (List.pairwise_append.1 hr).2.2 d (List.mem_of_getElem? hd) c (by simp)
 have hff : ∀ x ∈ cs ++ [c], x.fit := by
  intro x hx
  rcases List.mem_append.1 hx with e | e
  ·exact hl.fit x e
  ·simp at e; subst e; exact hcf
 obtain ⟨x, hx⟩ : ∃ x, w.alloc (.cells #[.slice ka c.key.length kc, .int .i64 c.kd, .slice va c.val.length vc, .int .i64 c.pg, .int .i64 c.ct] 39) = x := ⟨_, rfl⟩
 have hbx : Below w.heap.size w x := by rw [← hx]; exact zac Br Lr _
 obtain ⟨s, hs⟩ : ∃ s, w.heap.size = s := ⟨_, rfl⟩
 have hc5 : C5 x s (.slice ka c.key.length kc) (.int .i64 c.kd) (.slice va c.val.length vc) (.int .i64 c.pg) (.int .i64 c.ct) := by rw [← hx, ← hs]; exact C5.box _ _ _ _ _ _
 have HMB := zaa (fun u => zdg k (n : Int) ka c.key.length kc c.kd va c.val.length vc c.pg c.ct u (by omega) (by omega) (by omega) (by omega))
 rw [decide_eq_true ((mayP_iff k n c).2 hm)] at HMB
 have HU : Hid (∀ u, Below x.heap.size x u → PgQ u a k n po pn pc bo bn bc so sn sc 0 P body st ∧ C5 u s (.slice ka c.key.length kc) (.int .i64 c.kd) (.slice va c.val.length vc) (.int .i64 c.pg) (.int .i64 c.ct) ∧ Sl u ka c.key.length kc c.key ∧ Sl u va c.val.length vc c.val ∧ Below w.heap.size w u) := zaa fun u hu => by
  have hb := zab hbx Lr hu
  exact ⟨hpg0.on hb, zaf hc5 hu, hk.on Lr hb, hv.on Lr hb, hb⟩
 have HLAY := zaa hl
 have HRS := zaa hrs
 have HD := zaa hd
 have HKL := zaa hkl
 have HNO := zaa hno
 obtain ⟨p0, p1, p2, p3, p4, p5⟩ := (hpg0.on hbx).cells
 obtain ⟨z0, z1, z2, z3, z4⟩ := hc5.cells
 have HBA : Hid (B ≤ a) := zaa hPO.ha
 have HLK : Hid (Lo w.heap.size ka c.key.length ∧ Lo w.heap.size va c.val.length) := zaa ⟨hk.lo, hv.lo⟩
 have HFF := zaa hff
 have HR := zaa hr
 have HFIT := zaa hfit
 have hsI : (sn : Int) - 1 = (t : Int) := by omega
 have hs0 : 0 < sn := by omega
 have hs0I : 0 < (sn : Int) := by omega
 have bsI : (sn : Int) ≤ 65535 := by omega
 have HSN : Hid (sn = t + 1) := zaa hsn
 have hbnb : bn ≤ 65536 := by omega
 have hnb : n ≤ 65536 := hn2.2
 have HSW := zaa hs
 clear hPO hl hwf hk hv hm hn hr hno hfit hpg0 hrs hcf hd hkl hff hbx hc5 hzz hstl hsl hcl hsn hbn hck hcv hn2
 go_enter Tryz.func43, Tryz.ntmps43
 go_upto_region 1 with fail
 go_cut [20] from 10 to 20 (fun v u => v = .bool false ∧ Hid (Below x.heap.size x u))
 case first =>
  go_wp2_with fail
  go_region_with (first | (go_at_call 63; refine (HMB.out _).mono ?_; rintro e w2 ⟨rfl, hb2⟩; have HB2 : Hid (Below x.heap.size x w2) := zaa (by first | exact hb2 | exact zab Br.drew Lr hb2 | exact zab (zad Br _) Lr hb2)))
  all_goals (try go_wp2_with fail)
  all_goals go_meet
  all_goals exact ⟨by simp, by first | exact HB2 | exact zaa HB2.out.drew | exact zaa (zad HB2.out _)⟩
 obtain ⟨rfl, HB2⟩ := hcut
 obtain ⟨w2, hw2⟩ : ∃ w2, w2 = wc := ⟨_, rfl⟩
 subst hw2
 clear p0 p1 p2 p3 p4 p5 z0 z1 z2 z3 z4 HMB hx
 obtain ⟨hpg2, hc52, hk2, hv2, hb2⟩ := HU.out w2 HB2.out
 obtain ⟨z0, z1, z2, z3, z4⟩ := hc52.cells
 have HAG := zaa (zdp w2 a k n po pn pc _ _ 0 P hpg2.row hpg2.pre ka c.key.length kc c.key hk2)
 clear hpg2 hc52 hk2 hv2 hb2
 go_wp2_with (go_at_call 66; refine HAG.out.mono ?_; rintro e w3 ⟨b1, b2, b3, b4, ro, rn, rc, b, rfl, HA3, HB3⟩; refine Hid.out ?_)
 apply zaa
 have HX3 : Hid (Below x.heap.size x w3) := zaa (zab HB2.out Lr HB3.out)
 clear z0 z1 z2 z3 z4 HAG
 have HF3 : Hid (Calls Tryz.prog 110 #[.int .i64 (t : Int), .pointer (some ⟨b1, 0, none⟩), .pointer (some ⟨b2, 0, none⟩), .pointer (some ⟨b3, 0, none⟩), .pointer (some ⟨b4, 0, none⟩)] w3 fun e w' => e = .returned (.int .i64 (ordL d.key c.key)) ∧ Hid (Below w3.heap.size w3 w')) := zaa (zdo w3 a k n po pn pc bo bn bc so sn sc 0 P body st cs (HU.out w3 HX3.out).1 HLAY.out t d HD.out (by omega) b1 b2 b3 b4 ka c.key.length kc ro rn rc b c.key HA3.out)
 have ho : ordL d.key c.key < 0 := by
  have := HKL.out
  have h3 := zbt d.key c.key
  unfold kl at this
  omega
 generalize ordL d.key c.key = o at *
 have hoI : ¬ (0 ≤ o) := by omega
 have HLN : Hid (∀ u, Below x.heap.size x u → Calls Tryz.prog 26 #[.pointer (some ⟨a, 0, none⟩)] u fun e w' => e = .returned (.int .i64 (sn : Int)) ∧ w' = u) := zaa fun u hu => zba u a k n po pn pc bo bn bc so sn sc 0 P body st (HU.out u hu).1
 have hssI : ¬ (sn : Int) < (sn : Int) := by omega
 go_wp2_with (first
  | (go_at_call 110; refine HF3.out.mono ?_; rintro e w4 ⟨rfl, HB4⟩; have HX4 : Hid (Below x.heap.size x w4) := zaa (zab HX3.out Lr HB4.out); obtain ⟨z0, z1, z2, z3, z4⟩ := (HU.out w4 HX4.out).2.1.cells)
  | (go_at_call 26; refine zae (HLN.out _ HX4.out) ?_)
  | (go_at_call 88; refine Hid.out ?_))
 apply zaa
 obtain ⟨hpg4, hc54, hk4, hv4, hb4⟩ := HU.out w4 HX4.out
 have HIP := zaa (inPlace_no w4 a k n po pn pc _ _ 0 P hpg4.row hpg4.pre sn (by omega) ka c.key.length kc c.kd va c.val.length vc c.pg c.ct c.key hk4 HNO.out)
 clear hpg4 hc54 hk4 hv4 hb4 HF3
 refine HIP.out.mono ?_
 rintro e w5 ⟨rfl, HB5⟩
 have HX5 : Hid (Below x.heap.size x w5) := zaa (zab HX4.out Lr HB5.out)
 clear z0 z1 z2 z3 z4 HIP
 obtain ⟨z0, z1, z2, z3, z4⟩ := (HU.out w5 HX5.out).2.1.cells
 have z0a := fun o => (HU.out (w5.alloc o) (zac HX5.out Lr _)).2.1.cells
 have EN : Hid (∀ u, Below w5.heap.size w5 u → Calls Tryz.prog 47 #[.pointer (some ⟨a, 0, none⟩)] u fun e w' => ∃ g, e = .returned (.slice (some ⟨g, 0, none⟩) sn sn) ∧ (w'.cell? ⟨s, 0, none⟩ = some (.slice ka c.key.length kc) ∧ w'.cell? ⟨s, 1, none⟩ = some (.int .i64 c.kd) ∧ w'.cell? ⟨s, 2, none⟩ = some (.slice va c.val.length vc) ∧ w'.cell? ⟨s, 3, none⟩ = some (.int .i64 c.pg) ∧ w'.cell? ⟨s, 4, none⟩ = some (.int .i64 c.ct)) ∧ Hid (SlE w' g (some ⟨g, 0, none⟩) sn sn cs ∧ zah w' g sn ∧ w5.heap.size ≤ g ∧ g < w'.heap.size) ∧ Hid (Below u.heap.size u w') ∧ Hid (Below w5.heap.size w5 w')) := by
  refine zaa fun u hu => (zdn u a k n po pn pc bo bn bc so sn sc 0 P body st cs (HU.out u (zab HX5.out Lr hu)).1 HLAY.out (by omega)).mono ?_
  rintro e w' ⟨g, rfl, HS, HB⟩
  have hb := zab hu Lr HB.out.1
  exact ⟨g, rfl, (HU.out w' (zab HX5.out Lr hb)).2.1.cells, zaa ⟨HS.out.1, HS.out.2, zN hu.size HB.out.2.1, HB.out.2.2⟩, zaa HB.out.1, zaa hb⟩
 have RP : Hid (∀ u w6 g b, Hid (SlE w6 g (some ⟨g, 0, none⟩) sn sn cs ∧ zah w6 g sn ∧ w5.heap.size ≤ g ∧ g < w6.heap.size) → Hid (Below w5.heap.size w5 w6) → Below w6.heap.size w6 u → E6 u b (.slice none 0 0) (.slice ka c.key.length kc) (.int .i64 c.kd) (.slice va c.val.length vc) (.int .i64 c.pg) (.int .i64 c.ct) → Calls Tryz.prog 89 #[.slice (some ⟨g, 0, none⟩) sn sn, .int .i64 (sn : Int), .int .i64 (sn : Int), .slice (some ⟨b, 0, none⟩) 1 1] u fun e w' => ∃ ao c', e = .returned (.slice ao (sn + 1) c') ∧ Hid (SlE w' g ao (sn + 1) c' (cs ++ [c]) ∧ Below w5.heap.size w5 w' ∧ g ≤ w'.heap.size)) := by
  refine zaa fun u w6 g b hq h56 hu hb => ?_
  obtain ⟨q1, q2, q3, q4⟩ := hq.out
  have h5u := zab h56.out Lr hu
  obtain ⟨_, _, hku, hvu, hbu⟩ := HU.out u (zab HX5.out Lr h5u)
  have hwg : w.heap.size ≤ g := zN (HU.out w5 HX5.out).2.2.2.2.size q3
  refine (repE_any u g sn cs c (q1.on hu) (q2.on hu) hsb b ka va kc vc hb hku hvu (HLK.out.1.mono hwg) (HLK.out.2.mono hwg)).mono ?_
  rintro e w' ⟨ao, c', rfl, HS, HB⟩
  exact ⟨ao, c', rfl, zaa ⟨HS.out, h5u.trans (HB.out.mono q3), zN (Nat.le_of_lt q4) (zN hu.size HB.out.size)⟩⟩
 have LY : Hid (∀ u w7 g ao c', Hid (SlE w7 g ao (sn + 1) c' (cs ++ [c]) ∧ Below w5.heap.size w5 w7 ∧ g ≤ w7.heap.size) → Below w7.heap.size w7 u → Calls Tryz.prog 45 #[.pointer (some ⟨a, 0, none⟩), .slice ao (sn + 1) c'] u fun e w' => LayTo B a k n (cs ++ [c]) w e w') := by
  refine zaa fun u w7 g ao c' hq hu => ?_
  obtain ⟨q1, q2, q3⟩ := hq.out
  have h5u := zab q2 Lr hu
  obtain ⟨hpu, _, _, _, hbu⟩ := HU.out u (zab HX5.out Lr h5u)
  refine (lay_fit u B a k n po pn pc bo bn bc so sn sc 0 hpu.row HBA.out (zN hB hbu.size) g ao (sn + 1) c' (cs ++ [c]) (q1.on hu) (zN q3 hu.size) HR.out HFF.out hnb HFIT.out).mono ?_
  rintro e w' ⟨rfl, HC, HP⟩
  exact ⟨rfl, zaa ((Cf.of_below hbu).go HC.out), HP⟩
 clear HU
 go_wp2_with fail
 go_region_with (first
  | (go_at_call 45; refine (LY.out _ w7 g7 ao7 c7 HQ7 (by first | exact Br | exact Br.drew | exact zad Br _)).mono ?_; rintro e w8 ⟨rfl, HC8, HP8⟩)
  | (go_at_call 89; refine (RP.out _ w6 g7 _ HQ6 HB65 (by repeat (first | exact Br | apply Below.drew | apply below_drewN | refine zac ?_ Lr _)) (by first | exact E6.box _ _ _ _ _ _ _ | exact (show E6 _ _ _ _ _ _ _ _ from zaf (by exact E6.box w5 _ _ _ _ _ _) HB6.out))).mono ?_; rintro e w7 ⟨ao7, c7, rfl, HQ7⟩)
  | (go_at_call 47; refine (EN.out _ (by repeat (first | exact Br | apply Below.drew | apply below_drewN | refine zac ?_ Lr _))).mono ?_; rintro e w6 ⟨g7, rfl, ⟨y0, y1, y2, y3, y4⟩, HQ6, HB6, HB65⟩))
 all_goals
  go_wp2
  go_ret
  exact ⟨rfl, HC8, HP8⟩
end Go.Proofs.YtfgffajgfgifhaaGreatDoor
