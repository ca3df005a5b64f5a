/- packed: how many bytes of the body a cell has. -/
import Derived.Test.YtbefpojdopfeeaaGreatDoorJ34
import Derived.Test.YtbefpojdopfeeaaGreatDoorJ14
import Derived.BigQuiet
import Derived.Test.YtbefpojdopfeeaaGreatDoorJ33
namespace Go.Proofs.YtbefpojdopfeeaaGreatDoor
open Go.RowKit

set_option maxRecDepth 100000 in
set_option maxHeartbeats 2000000 in
theorem takenQ_any (w : World) (a : Nat) (k : Int) (n : Nat) (po : Option Addr) (pn pc : Nat) (bo : Option Addr) (bn bc : Nat) (so : Option Addr) (sn sc : Nat) (ws : Int) (P body : List Int) (st : List Nat) (cs : List Cl) (h : PgQ w a k n po pn pc bo bn bc so sn sc ws P body st) (hl : LayQ k P cs body st) (i : Nat) (c : Cl) (hci : cs[i]? = some c) (hbn : bn ≤ 65536) (T : Nat) (hT : (qB (if k = 3 ∧ i = 0 then 0 else P.length) c).length = T) :
    Calls Tryz.prog 48 #[.pointer (some ⟨a, 0, none⟩), .int .i64 (i : Int)] w fun e w' => e = .returned (.int .i64 (T : Int)) ∧ Hid (Below w.heap.size w w') := by
  obtain ⟨c0, c1, c2, c3, c4, c5⟩ := h.cells
  have hcf := hl.fit c (List.mem_of_getElem? hci)
  obtain ⟨r, hat⟩ := hl.at_ i c hci
  have hil : i < sn := by
    have := (List.getElem?_eq_some_iff.1 hci).1
    have := hl.len
    have := h.starts.hlen
    omega
  obtain ⟨m, hm⟩ : ∃ m, (if k = 3 ∧ i = 0 then 0 else P.length) = m := ⟨_, rfl⟩
  rw [hm] at hat hT
  have hpc : pC (body.drop (st.getD i 0)) = some (c.cut m, r) := by rw [hat, pC_mid m c r hcf]
  have hl1 := congrArg List.length hat
  rw [List.length_drop, List.length_append, h.body.hlen, hT] at hl1
  have hTp : 0 < T := by rw [← hT]; exact qB_pos m c
  obtain ⟨s0, hst⟩ : ∃ s0, st.getD i 0 = s0 := ⟨_, rfl⟩
  rw [hst] at hpc hl1
  have hlen : s0 + T + r.length = bn := by omega
  obtain ⟨gb, off, rfl⟩ : ∃ gb off, bo = some ⟨gb, off, none⟩ := by
    rcases h.body.hat with h0 | ⟨b, off, e, _⟩
    · omega
    · exact ⟨b, off, e⟩
  obtain ⟨gs, offs, rfl, hgs, hcs⟩ : ∃ b off, so = some ⟨b, off, none⟩ ∧ b < w.heap.size ∧ ∀ j, j < sn → w.cell? ⟨b, off + j, none⟩ = some (.int .i64 ((st.getD j 0 : Nat) : Int)) := by
    rcases h.starts.hat with h0 | h0
    · omega
    · exact h0
  have cj := hcs i hil
  rw [hst] at cj
  have HPC := hidden hpc
  have HSL := hidden h.body
  have HPG := hidden h
  have HLEN := hidden (And.intro hlen h.body.hlen)
  have i0 : (i : Int) < (sn : Int) := by omega
  have i1 : i < sn := hil
  have hstb : s0 ≤ bn := by omega
  have hsI : (s0 : Int) ≤ 65536 := by omega
  have hbx : ∀ o, Below w.heap.size w (w.alloc o) := fun o => bl_al (Below.refl _ _) (Nat.le_refl _) _
  have HBXX := hidden hbx
  have d2 := fun o => (h.on (hbx o)).cells.2.2.2.1
  have d3 := fun o => (h.on (hbx o)).cells.2.2.2.2.1
  have dj := fun o => ((hbx o).cell (p := ⟨gs, offs + i, none⟩) hgs).trans cj
  have HCJ : Hid (∀ u, Below w.heap.size w u → u.cell? ⟨gs, offs + i, none⟩ = some (.int .i64 (s0 : Int)) ∧ PgQ u a k n po pn pc (some ⟨gb, off, none⟩) bn bc (some ⟨gs, offs, none⟩) sn sc ws P body st) := hidden fun u hu => ⟨(hu.cell (p := ⟨gs, offs + i, none⟩) hgs).trans cj, h.on hu⟩
  clear h hpc hcs hcf hbx hci hl hat hm hst hT hl1 hlen
  go_enter Tryz.func48, Tryz.ntmps48
  go_wp2_with fail
  go_region
  obtain ⟨g4, hg4⟩ : ∃ g4, w.heap.size = g4 := ⟨_, rfl⟩
  obtain ⟨x, hx⟩ : ∃ x, (w.alloc (.cells #[.slice (some ⟨gb, off, none⟩) bn bc, .int .i64 (s0 : Int), .bool false] 104)).drew = x := ⟨_, rfl⟩
  have hbx : Below w.heap.size w x := by rw [← hx]; exact (HBXX.out _).drew
  have HRD : Hid (Rdq x g4 (some ⟨gb, off, none⟩) bn bc s0 false) := by
    rw [← hx, ← hg4]
    exact hidden (heap_alloc_last w _)
  have HBX := hidden hbx
  rw [hx, hg4]
  have HCL := hidden (ucell_any body x g4 gb off bn bc s0 false HRD.out (HSL.out.on (Nat.le_refl _) hbx) hstb)
  have HG4 := hidden hg4
  clear hx hbx c0 c1 c2 c3 c4 c5 cj d2 d3 dj hg4
  go_wp2_with (first | (go_at_call 90; refine HCL.out.mono ?_; rintro e w2 ⟨ko, kn, kc, kd, vo, vn, vc, pg, ct, q, en, key, val, rfl, HR2, HCF, HQ⟩; refine Hid.out ?_))
  apply hidden
  have HQT : Hid (q = s0 + T) := hidden (by
    obtain ⟨_, _, _, _, ⟨hq, _⟩, hcase⟩ := HQ.out
    rw [HPC.out] at hcase
    rcases hcase with ⟨hcase, _⟩ | ⟨hcase, _⟩
    · injection hcase with hcase
      injection hcase with _ hc2
      have h1 := congrArg List.length hc2
      have h2 := HLEN.out
      rw [List.length_drop, h2.2] at h1
      omega
    · cases hcase)
  have HBE : Hid (Below w.heap.size w w2) := hidden (HBX.out.trans (HCF.out.below HBX.out.size (by have := HG4.out; intro i hi e; omega)))
  obtain rfl := HQT.out
  have hz : ∀ z, PgQ (w2.drewN z) a k n po pn pc (some ⟨gb, off, none⟩) bn bc (some ⟨gs, offs, none⟩) sn sc ws P body st := fun z => (HCJ.out _ (bl_dr HBE.out z)).2
  have e4 := fun z => (hz z).cells.2.2.2.2.1
  have ej := fun z => (HCJ.out _ (bl_dr HBE.out z)).1
  have er : ∀ z, (w2.drewN z).cell? ⟨g4, 1, none⟩ = some (.int .i64 ((s0 : Int) + (T : Int))) := fun z => by
    have h := HR2.out
    unfold Rdq at h
    have := cell_of_row (w2.drewN z) g4 1 _ _ _ h
    simpa using this
  have e40 := e4 0
  have ej0 := ej 0
  have er0 := er 0
  have hTI : (T : Int) ≤ 65536 := by have := HLEN.out.1; omega
  have hwz : IntKind.i64.wrap ((s0 : Int) + (T : Int) - (s0 : Int)) = (T : Int) := by rw [IntKind.wrap_i64]; omega
  clear hz HCL HCF HR2 HRD HQ HQT
  go_wp2_with fail
  go_quiet (fail)
  go_wp2
  go_ret
  refine ⟨by first | rfl | (congr 2; omega) | (simp; try omega), hidden (by first | exact bl_dr HBE.out _ | exact HBE.out)⟩
end Go.Proofs.YtbefpojdopfeeaaGreatDoor

/- packed: putInPlace where there is no room. -/

namespace Go.Proofs.YtbefpojdopfeeaaGreatDoor
open Go.RowKit

set_option maxRecDepth 100000 in
theorem QR.set5 {w : World} {a : Nat} {k n : Int} {vp vb vs : Value} {ws : Int} (h : QR w a k n vp vb vs ws) (x : Int) : QR (w.setCell ⟨a, 5, none⟩ (.int .i64 x)) a k n vp vb vs x := by
  unfold QR at *
  simpa using set_row (w := w) (a := a) (i := 5) (cs := [.int .i64 k, .int .i64 n, vp, vb, vs, .int .i64 ws]) (u := .int .i64 x) h
set_option maxRecDepth 100000 in
theorem qB_most (m : Nat) (c : Cl) : (qB m c).length ≤ c.key.length + c.val.length + 31 := by
  unfold qB
  have h1 := (uB_length ((c.key.length - m : Nat) : Int)).1
  have h2 := (uB_length (c.val.length : Int)).1
  have h3 := (uB_length (c.pg % 18446744073709551616)).1
  have h4 := (uB_length (c.ct % 18446744073709551616)).1
  split <;> simp only [List.length_append, List.length_cons, List.length_nil, List.length_drop] <;> omega
set_option maxRecDepth 100000 in
set_option maxHeartbeats 4000000 in
theorem full_ins (w : World) (B a : Nat) (k : Int) (n : Nat) (po : Option Addr) (pn pc : Nat) (bo : Option Addr) (bn bc : Nat) (so : Option Addr) (sn sc : Nat) (ws : Int) (P body : List Int) (st : List Nat)
    (hPO : PO w B a k n po pn pc (.slice bo bn bc) (.slice so sn sc) ws P body st) (hbb : bn ≤ 65536) (hss : sn ≤ 65536) (hB : B ≤ w.heap.size) (i : Nat) (hi : ¬ (k = 3 ∧ i = 0)) (his : i ≤ sn) (hn : n ≤ 65536)
    (c : Cl) (ka va : Option Addr) (kc vc : Nat) (hk : Sl w ka c.key.length kc c.key) (hv : Sl w va c.val.length vc c.val) (fk : Far ka c.key.length (.slice bo bn bc)) (fv : Far va c.val.length (.slice bo bn bc)) (hkl : c.key.length ≤ 65536) (hvl : c.val.length ≤ 65536)
    (hbeg : c.key.take P.length = P) (hfull : n < 10 + pn + 2 * sn + bn + (qB P.length c).length + 2) (hfit : 10 + pn + 2 * sn + bn ≤ n) :
    Calls Tryz.prog 88 #[.pointer (some ⟨a, 0, none⟩), .int .i64 (i : Int), .int .i64 (i : Int), .agg #[.slice ka c.key.length kc, .int .i64 c.kd, .slice va c.val.length vc, .int .i64 c.pg, .int .i64 c.ct]] w
      (fun e w' => e = .returned (.bool false) ∧ Hid (PO w' B a k n po pn pc (.slice bo bn bc) (.slice so sn sc) ws P body st) ∧ Hid (Cf (fun b => (Value.slice bo bn bc).ownBlock = some b) w w')) := by
  have hpl := hPO.pre.hlen
  have hPk : P.length ≤ c.key.length := by rw [← hbeg, List.length_take]; omega
  obtain ⟨x, hx⟩ : ∃ x, w.alloc (.cells #[.slice ka c.key.length kc, .int .i64 c.kd, .slice va c.val.length vc, .int .i64 c.pg, .int .i64 c.ct] 39) = x := ⟨_, rfl⟩
  have hbx : Below w.heap.size w x := by rw [← hx]; exact bl_al (Below.refl _ _) (Nat.le_refl _) _
  obtain ⟨s, hs⟩ : ∃ s, w.heap.size = s := ⟨_, rfl⟩
  have hc5 : C5 x s (.slice ka c.key.length kc) (.int .i64 c.kd) (.slice va c.val.length vc) (.int .i64 c.pg) (.int .i64 c.ct) := by rw [← hx, ← hs]; exact C5.box _ _ _ _ _ _
  obtain ⟨z0, z1, z2, z3, z4⟩ := hc5.cells
  have hrx : QR x a k n (.slice po pn pc) (.slice bo bn bc) (.slice so sn sc) ws := box_on hPO.row hbx
  obtain ⟨c0, c1, c2, c3, c4, c5⟩ := hrx.cells
  obtain ⟨qo, qn, qc, hqc, hhd⟩ := head_row k i po pn pc
  obtain ⟨rfl, rfl, rfl⟩ : qo = po ∧ qn = pn ∧ qc = pc := by
    rcases hqc with ⟨_, _, _, h4⟩ | ⟨h1, h2, h3, _⟩
    · exact absurd h4 hi
    · exact ⟨h1, h2, h3⟩
  have HHD := hidden (hhd x a n _ _ ws hrx)
  have HSW : Hid (Calls Tryz.prog 44 #[.int .i64 k, .int .i64 (i : Int)] x fun e w' => e = .returned (.bool false) ∧ w' = x) := hidden (by
    have := standsWhole_any k (i : Int) x
    rwa [decide_eq_false (show ¬ (k = 3 ∧ (i : Int) = 0) by omega)] at this)
  have HHP : Hid (Calls Tryz.prog 123 #[.slice ka c.key.length kc, .slice qo qn qc] x fun e w' => e = .returned (.bool true) ∧ w' = x) := hidden (by
    have := hasPrefix_any ka qo c.key.length qn kc qc c.key P x (hk.on (Nat.le_refl _) hbx) (hPO.pre.on (Nat.le_refl _) hbx)
    rwa [decide_eq_true hbeg] at this)
  obtain ⟨M, hM⟩ : ∃ M, (body ++ qB P.length c).length = M := ⟨_, rfl⟩
  have hbn : bn = body.length := hPO.ob.len
  have hMl : M = bn + (qB P.length c).length := by rw [← hM, List.length_append, hbn]
  have HAP : Hid (∀ u, Below x.heap.size x u → Calls Tryz.prog 94 #[.agg (eV none 0 0 ka c.key.length kc c.kd va c.val.length vc c.pg c.ct), .slice bo bn bc, .int .i64 (qn : Int)] u fun e w' => ∃ ao cp, e = .returned (.slice ao M cp) ∧ Hid (OwnB w' B (.slice ao M cp) (body ++ qB P.length c)) ∧ Hid (Gs x (.slice bo bn bc) w' (.slice ao M cp))) := by
    refine hidden fun u hu => ?_
    have hwu := bl_go hbx (Nat.le_refl _) hu
    have h := eappended2 (.slice bo bn bc) B body none 0 0 ka c.key.length kc c.kd va c.val.length vc c.pg c.ct [] c.key c.val P.length u (hPO.ob.on (Nat.le_refl _) hwu) (Nat.le_trans hB hwu.size) (Sl.nil_any _ _ _ fun _ => rfl) (hk.on (Nat.le_refl _) hwu) (hv.on (Nat.le_refl _) hwu) (.inl rfl) fk fv (by omega) (by omega)
    rw [hpl] at h
    refine h.mono ?_
    rintro e w' ⟨v', rfl, HO, HG⟩
    obtain ⟨ao, cp, rfl⟩ := HO.out.shape
    have e1 : (body ++ qB qn ⟨[] ++ c.key, c.kd, c.val, c.pg, c.ct⟩).length = M := by rw [← hM, hpl]; rfl
    rw [e1] at HO HG ⊢
    refine ⟨ao, cp, rfl, hidden ?_, hidden ((Gs.ofBelow _ hu).trans HG.out)⟩
    rw [hpl]
    exact HO.out
  have hapa : (Value.slice bo bn bc).ownBlock ≠ some a := by
    have := hPO.row
    unfold QR at this
    exact hPO.ob.apart this (by decide)
  have hapS : (Value.slice so sn sc).ownBlock ≠ some a := by
    have := hPO.row
    unfold QR at this
    exact hPO.on.apart this (by decide)
  have hapN := hPO.ob.apartN hPO.on
  have hapB := hPO.on.apartB hPO.ob
  have HPO := hidden hPO
  have HPX := hidden (hPO.go hbx)
  have HBX := hidden hbx
  have HAPA := hidden (And.intro hapa (And.intro hapS (And.intro hapN hapB)))
  have HPL := hidden hpl
  have HM := hidden hM
  have HBN := hidden hbn
  have HS := hidden hs
  obtain ⟨body', hbd'⟩ : ∃ body', body ++ qB P.length c = body' := ⟨_, rfl⟩
  rw [hbd'] at HAP HM
  have HBD' := hidden hbd'
  have HBW := hidden hB
  have hbnI : (bn : Int) ≤ 65536 := by omega
  have hMI : (M : Int) ≤ 200000 := by have := qB_most P.length c; omega
  have hiI : (i : Int) ≤ 65536 := by omega
  have hnI : (n : Int) ≤ 65536 := by omega
  have HFIT : Hid (n < 10 + qn + 2 * sn + bn + (M - bn) + 2 ∧ bn ≤ M ∧ 10 + qn + 2 * sn + bn ≤ n) := hidden (by omega)
  have HQN : Hid (qn ≤ 65536) := hidden (by omega)
  clear hbd' hPO hk hv fk fv hbx hc5 hrx hhd hqc hi hbeg hpl hPk hM hMl hbn hapa hapS hapN hapB hB hfit hfull
  go_enter Tryz.func88, Tryz.ntmps88
  go_upto_region 7 with (first | (go_at_call 44; refine same_call HSW.out ?_) | (go_at_call 95; refine same_call HHD.out ?_) | (go_at_call 123; refine same_call HHP.out ?_))
  go_cut [11] from 37 to 45 (fun v u => ∃ ao cp, v = .slice ao M cp ∧ Hid (OwnB u B (.slice ao M cp) body') ∧ Hid (Gs x (.slice bo bn bc) u (.slice ao M cp)))
  case first =>
    go_wp2_with fail
    go_region_with (first | (go_at_call 94; refine (HAP.out _ (by first | exact Below.refl _ _ | exact (Below.refl _ _).drew | exact bl_dr (Below.refl _ _) _)).mono ?_; rintro e w1 ⟨ao, cp, rfl, HO1, HG1⟩))
    all_goals (try go_wp2_with fail)
    all_goals go_meet
    all_goals exact ⟨ao, cp, rfl, by first | exact HO1 | exact hidden (HO1.out.on (Nat.le_refl _) (Below.refl _ _).drew) | exact hidden (HO1.out.on (Nat.le_refl _) (bl_dr (Below.refl _ _) _)), by first | exact HG1 | exact hidden (HG1.out.trans (Gs.ofBelow _ (Below.refl _ _).drew)) | exact hidden (HG1.out.trans (Gs.ofBelow _ (bl_dr (Below.refl _ _) _)))⟩
  obtain ⟨ao, cp, rfl, HO1, HG1⟩ := hcut
  obtain ⟨w1, hw1⟩ : ∃ w1, w1 = wc := ⟨_, rfl⟩
  subst hw1
  clear z0 z1 z2 z3 z4 c0 c1 c2 c3 c4 c5 HSW HHD HHP HAP
  have HR1 : Hid (QR w1 a k n (.slice qo qn qc) (.slice bo bn bc) (.slice so sn sc) ws) := hidden (HPX.out.row.gr HG1.out.toGr HAPA.out.1)
  obtain ⟨Z, hZ⟩ : ∃ Z, 10 + qn + 2 * sn + bn = Z := ⟨_, rfl⟩
  have HFL : Hid (∀ u, Below w1.heap.size w1 u → Calls Tryz.prog 53 #[.pointer (some ⟨a, 0, none⟩)] u fun e w' => e = .returned (.int .i64 (Z : Int)) ∧ w'.cell? ⟨a, 1, none⟩ = some (.int .i64 (n : Int)) ∧ Hid (Below w1.heap.size w1 w')) := by
    refine hidden fun u hu => (filled_any u a k n qo qn qc bo bn bc so sn sc ws (box_on HR1.out hu) (by have := HQN.out; omega) (by omega) (by omega)).mono ?_
    rintro e w' ⟨rfl, q, rfl⟩
    rw [hZ]
    have hb := bl_dr hu q
    exact ⟨rfl, (show QR (u.drewN q) a k n (.slice qo qn qc) (.slice bo bn bc) (.slice so sn sc) ws from box_on HR1.out hb).cells.2.1, hidden hb⟩
  have c1 := HR1.out.cells.2.1
  have hbM : (bn : Int) ≤ (M : Int) := by have := HFIT.out; omega
  have hZI : (Z : Int) ≤ 65536 := by have := HFIT.out; omega
  have hZn : (n : Int) < (Z : Int) + (M : Int) - (bn : Int) + 2 := by have := HFIT.out; omega
  clear hZ
  go_upto_region 8 with fail
  go_cut [63] from 46 to 63 (fun v u => v = .bool true ∧ Hid (Below w1.heap.size w1 u))
  case first =>
    go_wp2_with fail
    go_region_with (first | (go_at_call 53; refine (HFL.out _ (by first | exact Below.refl _ _ | exact (Below.refl _ _).drew | exact bl_dr (Below.refl _ _) _)).mono ?_; rintro e w2 ⟨rfl, y1, HB2⟩))
    all_goals (try go_wp2_with fail)
    all_goals go_meet
    all_goals exact ⟨by go_unwrap; simp; omega, by first | exact HB2 | exact hidden HB2.out.drew | exact hidden (bl_dr HB2.out _)⟩
  obtain ⟨rfl, HB2⟩ := hcut
  obtain ⟨w2, hw2⟩ : ∃ w2, w2 = wc := ⟨_, rfl⟩
  subst hw2
  clear c1 HFL hZn hZI
  go_wp2
  go_ret
  have hpo := HPX.out
  have hold := (HG1.out.old B (.slice bo bn bc) body hpo.ob (fun C m g hm _ _ => by rw [hpo.ob.one7 hm]; exact List.prefix_refl _)).1
  have hcw : Cf (fun b => (Value.slice bo bn bc).ownBlock = some b) x w2 := (Cf.ofGr HG1.out.toGr (fun g e => e)).go (Cf.of_below HB2.out)
  refine ⟨rfl, hidden ⟨box_on HR1.out HB2.out, hpo.pre.cf hcw ?_, hold.on (Nat.le_refl _) HB2.out, (hpo.on.gr HG1.out.toGr HAPA.out.2.2.2).below HB2.out, hpo.far, hpo.ha⟩, hidden ((Cf.of_below HBX.out).go hcw)⟩
  rcases hpo.far with h1 | h1
  · exact .inl h1
  · exact .inr fun p hp e => h1 p hp e
set_option maxRecDepth 100000 in
set_option maxHeartbeats 4000000 in
theorem full_set (w : World) (B a : Nat) (k : Int) (n : Nat) (po : Option Addr) (pn pc : Nat) (bo : Option Addr) (bn bc : Nat) (so : Option Addr) (sn sc : Nat) (ws : Int) (P body : List Int) (st : List Nat)
    (hPO : PO w B a k n po pn pc (.slice bo bn bc) (.slice so sn sc) ws P body st) (hbb : bn ≤ 65536) (hss : sn ≤ 65536) (hB : B ≤ w.heap.size) (i j : Nat) (hij : i + 1 = j) (his : j ≤ sn) (H : List Int) (hH : (if k = 3 ∧ i = 0 then [] else P) = H) (hn : n ≤ 65536)
    (c : Cl) (ka va : Option Addr) (kc vc : Nat) (hk : Sl w ka c.key.length kc c.key) (hv : Sl w va c.val.length vc c.val) (fk : Far ka c.key.length (.slice bo bn bc)) (fv : Far va c.val.length (.slice bo bn bc)) (hkl : c.key.length ≤ 65536) (hvl : c.val.length ≤ 65536)
    (hbeg : c.key.take H.length = H) (hfull : n < 10 + pn + 2 * sn + bn + (qB H.length c).length) (hfit : 10 + pn + 2 * sn + bn ≤ n) :
    Calls Tryz.prog 88 #[.pointer (some ⟨a, 0, none⟩), .int .i64 (i : Int), .int .i64 (j : Int), .agg #[.slice ka c.key.length kc, .int .i64 c.kd, .slice va c.val.length vc, .int .i64 c.pg, .int .i64 c.ct]] w
      (fun e w' => e = .returned (.bool false) ∧ Hid (PO w' B a k n po pn pc (.slice bo bn bc) (.slice so sn sc) ws P body st) ∧ Hid (Cf (fun b => (Value.slice bo bn bc).ownBlock = some b) w w')) := by
  have hpl := hPO.pre.hlen
  have hPk : H.length ≤ c.key.length := by rw [← hbeg, List.length_take]; omega
  obtain ⟨x, hx⟩ : ∃ x, w.alloc (.cells #[.slice ka c.key.length kc, .int .i64 c.kd, .slice va c.val.length vc, .int .i64 c.pg, .int .i64 c.ct] 39) = x := ⟨_, rfl⟩
  have hbx : Below w.heap.size w x := by rw [← hx]; exact bl_al (Below.refl _ _) (Nat.le_refl _) _
  obtain ⟨s, hs⟩ : ∃ s, w.heap.size = s := ⟨_, rfl⟩
  have hc5 : C5 x s (.slice ka c.key.length kc) (.int .i64 c.kd) (.slice va c.val.length vc) (.int .i64 c.pg) (.int .i64 c.ct) := by rw [← hx, ← hs]; exact C5.box _ _ _ _ _ _
  obtain ⟨z0, z1, z2, z3, z4⟩ := hc5.cells
  have hrx : QR x a k n (.slice po pn pc) (.slice bo bn bc) (.slice so sn sc) ws := box_on hPO.row hbx
  obtain ⟨c0, c1, c2, c3, c4, c5⟩ := hrx.cells
  obtain ⟨qo, qn, qc, hqc, hhd⟩ := head_row k i po pn pc
  have hHl : H.length = qn := by
    rw [← hH]
    rcases hqc with ⟨_, h2, _, h4⟩ | ⟨_, h2, _, h4⟩
    · rw [if_pos h4, h2]; rfl
    · rw [if_neg h4, h2]; exact hpl
  have hHs : Sl w qo qn qc H := by
    rw [← hH]
    rcases hqc with ⟨h1, h2, h3, h4⟩ | ⟨h1, h2, h3, h4⟩
    · rw [if_pos h4, h1, h2, h3]; exact Sl.nil_any _ _ _ fun _ => rfl
    · rw [if_neg h4, h1, h2, h3]; exact hPO.pre
  have HHD := hidden (hhd x a n _ _ ws hrx)
  have HHP : Hid (Calls Tryz.prog 123 #[.slice ka c.key.length kc, .slice qo qn qc] x fun e w' => e = .returned (.bool true) ∧ w' = x) := hidden (by
    have := hasPrefix_any ka qo c.key.length qn kc qc c.key H x (hk.on (Nat.le_refl _) hbx) (hHs.on (Nat.le_refl _) hbx)
    rwa [decide_eq_true hbeg] at this)
  obtain ⟨M, hM⟩ : ∃ M, (body ++ qB H.length c).length = M := ⟨_, rfl⟩
  have hbn : bn = body.length := hPO.ob.len
  have hMl : M = bn + (qB H.length c).length := by rw [← hM, List.length_append, hbn]
  have HAP : Hid (∀ u, Below x.heap.size x u → Calls Tryz.prog 94 #[.agg (eV none 0 0 ka c.key.length kc c.kd va c.val.length vc c.pg c.ct), .slice bo bn bc, .int .i64 (qn : Int)] u fun e w' => ∃ ao cp, e = .returned (.slice ao M cp) ∧ Hid (OwnB w' B (.slice ao M cp) (body ++ qB H.length c)) ∧ Hid (Gs x (.slice bo bn bc) w' (.slice ao M cp))) := by
    refine hidden fun u hu => ?_
    have hwu := bl_go hbx (Nat.le_refl _) hu
    have h := eappended2 (.slice bo bn bc) B body none 0 0 ka c.key.length kc c.kd va c.val.length vc c.pg c.ct [] c.key c.val H.length u (hPO.ob.on (Nat.le_refl _) hwu) (Nat.le_trans hB hwu.size) (Sl.nil_any _ _ _ fun _ => rfl) (hk.on (Nat.le_refl _) hwu) (hv.on (Nat.le_refl _) hwu) (.inl rfl) fk fv (by omega) (by omega)
    rw [hHl] at h
    refine h.mono ?_
    rintro e w' ⟨v', rfl, HO, HG⟩
    obtain ⟨ao, cp, rfl⟩ := HO.out.shape
    have e1 : (body ++ qB qn ⟨[] ++ c.key, c.kd, c.val, c.pg, c.ct⟩).length = M := by rw [← hM, hHl]; rfl
    rw [e1] at HO HG ⊢
    refine ⟨ao, cp, rfl, hidden ?_, hidden ((Gs.ofBelow _ hu).trans HG.out)⟩
    rw [hHl]
    exact HO.out
  have hapa : (Value.slice bo bn bc).ownBlock ≠ some a := by
    have := hPO.row
    unfold QR at this
    exact hPO.ob.apart this (by decide)
  have hapS : (Value.slice so sn sc).ownBlock ≠ some a := by
    have := hPO.row
    unfold QR at this
    exact hPO.on.apart this (by decide)
  have hapN := hPO.ob.apartN hPO.on
  have hapB := hPO.on.apartB hPO.ob
  have HPO := hidden hPO
  have HPX := hidden (hPO.go hbx)
  have HBX := hidden hbx
  have HAPA := hidden (And.intro hapa (And.intro hapS (And.intro hapN hapB)))
  have HPL := hidden hpl
  have HM := hidden hM
  have HBN := hidden hbn
  have HS := hidden hs
  obtain ⟨body', hbd'⟩ : ∃ body', body ++ qB H.length c = body' := ⟨_, rfl⟩
  rw [hbd'] at HAP HM
  have HBD' := hidden hbd'
  have HBW := hidden hB
  have hbnI : (bn : Int) ≤ 65536 := by omega
  have hMI : (M : Int) ≤ 200000 := by have := qB_most H.length c; omega
  have hiI : (i : Int) ≤ 65536 := by omega
  have hjI : (j : Int) ≤ 65536 := by omega
  have hltI : (i : Int) < (j : Int) := by omega
  have hneI : ¬ (i : Int) = (j : Int) := by omega
  have HIJ := hidden hij
  have hnI : (n : Int) ≤ 65536 := by omega
  have HFIT : Hid (n < 10 + pn + 2 * sn + bn + (M - bn) ∧ bn ≤ M ∧ 10 + pn + 2 * sn + bn ≤ n) := hidden (by omega)
  have HQN : Hid (pn ≤ 65536) := hidden (by omega)
  clear hbd' hPO hk hv fk fv hbx hc5 hrx hhd hqc hbeg hpl hPk hHl hHs hH hM hMl hbn hapa hapS hapN hapB hB hfit hfull
  go_enter Tryz.func88, Tryz.ntmps88
  go_upto_region 7 with (first | (go_at_call 95; refine same_call HHD.out ?_) | (go_at_call 123; refine same_call HHP.out ?_))
  go_cut [11] from 37 to 45 (fun v u => ∃ ao cp, v = .slice ao M cp ∧ Hid (OwnB u B (.slice ao M cp) body') ∧ Hid (Gs x (.slice bo bn bc) u (.slice ao M cp)))
  case first =>
    go_wp2_with fail
    go_region_with (first | (go_at_call 94; refine (HAP.out _ (by first | exact Below.refl _ _ | exact (Below.refl _ _).drew | exact bl_dr (Below.refl _ _) _)).mono ?_; rintro e w1 ⟨ao, cp, rfl, HO1, HG1⟩))
    all_goals (try go_wp2_with fail)
    all_goals go_meet
    all_goals exact ⟨ao, cp, rfl, by first | exact HO1 | exact hidden (HO1.out.on (Nat.le_refl _) (Below.refl _ _).drew) | exact hidden (HO1.out.on (Nat.le_refl _) (bl_dr (Below.refl _ _) _)), by first | exact HG1 | exact hidden (HG1.out.trans (Gs.ofBelow _ (Below.refl _ _).drew)) | exact hidden (HG1.out.trans (Gs.ofBelow _ (bl_dr (Below.refl _ _) _)))⟩
  obtain ⟨ao, cp, rfl, HO1, HG1⟩ := hcut
  obtain ⟨w1, hw1⟩ : ∃ w1, w1 = wc := ⟨_, rfl⟩
  subst hw1
  clear z0 z1 z2 z3 z4 c0 c1 c2 c3 c4 c5 HHD HHP HAP
  have HR1 : Hid (QR w1 a k n (.slice po pn pc) (.slice bo bn bc) (.slice so sn sc) ws) := hidden (HPX.out.row.gr HG1.out.toGr HAPA.out.1)
  obtain ⟨Z, hZ⟩ : ∃ Z, 10 + pn + 2 * sn + bn = Z := ⟨_, rfl⟩
  have HFL : Hid (∀ u, Below w1.heap.size w1 u → Calls Tryz.prog 53 #[.pointer (some ⟨a, 0, none⟩)] u fun e w' => e = .returned (.int .i64 (Z : Int)) ∧ w'.cell? ⟨a, 1, none⟩ = some (.int .i64 (n : Int)) ∧ Hid (Below w1.heap.size w1 w')) := by
    refine hidden fun u hu => (filled_any u a k n po pn pc bo bn bc so sn sc ws (box_on HR1.out hu) (by have := HQN.out; omega) (by omega) (by omega)).mono ?_
    rintro e w' ⟨rfl, q, rfl⟩
    rw [hZ]
    have hb := bl_dr hu q
    exact ⟨rfl, (show QR (u.drewN q) a k n (.slice po pn pc) (.slice bo bn bc) (.slice so sn sc) ws from box_on HR1.out hb).cells.2.1, hidden hb⟩
  have c1 := HR1.out.cells.2.1
  have hbM : (bn : Int) ≤ (M : Int) := by have := HFIT.out; omega
  have hZI : (Z : Int) ≤ 65536 := by have := HFIT.out; omega
  have hZn : (n : Int) < (Z : Int) + (M : Int) - (bn : Int) := by have := HFIT.out; omega
  clear hZ
  go_upto_region 8 with fail
  go_cut [63] from 46 to 63 (fun v u => v = .bool true ∧ Hid (Below w1.heap.size w1 u))
  case first =>
    go_wp2_with fail
    go_region_with (first | (go_at_call 53; refine (HFL.out _ (by first | exact Below.refl _ _ | exact (Below.refl _ _).drew | exact bl_dr (Below.refl _ _) _)).mono ?_; rintro e w2 ⟨rfl, y1, HB2⟩))
    all_goals (try go_wp2_with fail)
    all_goals go_meet
    all_goals exact ⟨by go_unwrap; simp; have := HIJ.out; omega, by first | exact HB2 | exact hidden HB2.out.drew | exact hidden (bl_dr HB2.out _)⟩
  obtain ⟨rfl, HB2⟩ := hcut
  obtain ⟨w2, hw2⟩ : ∃ w2, w2 = wc := ⟨_, rfl⟩
  subst hw2
  clear c1 HFL hZn hZI
  go_wp2
  go_ret
  have hpo := HPX.out
  have hold := (HG1.out.old B (.slice bo bn bc) body hpo.ob (fun C m g hm _ _ => by rw [hpo.ob.one7 hm]; exact List.prefix_refl _)).1
  have hcw : Cf (fun b => (Value.slice bo bn bc).ownBlock = some b) x w2 := (Cf.ofGr HG1.out.toGr (fun g e => e)).go (Cf.of_below HB2.out)
  refine ⟨rfl, hidden ⟨box_on HR1.out HB2.out, hpo.pre.cf hcw ?_, hold.on (Nat.le_refl _) HB2.out, (hpo.on.gr HG1.out.toGr HAPA.out.2.2.2).below HB2.out, hpo.far, hpo.ha⟩, hidden ((Cf.of_below HBX.out).go hcw)⟩
  rcases hpo.far with h1 | h1
  · exact .inl h1
  · exact .inr fun p hp e => h1 p hp e
end Go.Proofs.YtbefpojdopfeeaaGreatDoor
