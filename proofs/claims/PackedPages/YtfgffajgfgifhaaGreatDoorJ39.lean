import Derived.Test.YtfgffajgfgifhaaGreatDoorJ38
namespace Go.Proofs.YtfgffajgfgifhaaGreatDoor
set_option maxRecDepth 100000
set_option maxHeartbeats 8000000
open Go.RowKit
def PutTo (K : Nat → Prop) (a : Nat) (k : Int) (n : Nat) (s : Qs) (i j : Nat) (c : Cl) (w : World) (e : Ending) (w' : World) : Prop :=
 ∃ code t, e = .returned (.int .i64 code) ∧ Hid (PutR k n s i j c code t) ∧ Hid (Pk w' (Zk K w w') a k n t) ∧ Hid (Cf K w w')
theorem put_may (w : World) (K : Nat → Prop) (a : Nat) (k : Int) (n : Nat) (s : Qs) (h : Pk w K a k n s) (i j : Nat) (hn : pw n)
  (c : Cl) (ka va : Option Addr) (kc vc : Nat) (hk : Sl w ka c.key.length kc c.key) (hv : Sl w va c.val.length vc c.val) (hm : ¬ mayP k n c) :
  Calls Tryz.prog 43 #[.pointer (some ⟨a, 0, none⟩), .int .i64 (i : Int), .int .i64 (j : Int), .agg #[.slice ka c.key.length kc, .int .i64 c.kd, .slice va c.val.length vc, .int .i64 c.pg, .int .i64 c.ct]] w (PutTo K a k n s i j c w) := by
 obtain ⟨po, pn, pc, bo, bn, bc, so, sn, sc, body, st, hA⟩ := h
 have hn2 := zai hn
 obtain ⟨x, hx⟩ : ∃ x, w.alloc (.cells #[.slice ka c.key.length kc, .int .i64 c.kd, .slice va c.val.length vc, .int .i64 c.pg, .int .i64 c.ct] 39) = x := ⟨_, rfl⟩
 have hbx : Below w.heap.size w x := by rw [← hx]; exact zac Br Lr _
 obtain ⟨g, hg⟩ : ∃ g, w.heap.size = g := ⟨_, rfl⟩
 have hc5 : C5 x g (.slice ka c.key.length kc) (.int .i64 c.kd) (.slice va c.val.length vc) (.int .i64 c.pg) (.int .i64 c.ct) := by rw [← hx, ← hg]; exact C5.box _ _ _ _ _ _
 have h1 := hk.hroom
 have h2 := hv.hroom
 have HMB := zaa (fun u => zdg k (n : Int) ka c.key.length kc c.kd va c.val.length vc c.pg c.ct u (by omega) (by omega) (by omega) (by omega))
 rw [decide_eq_false (fun e => hm ((mayP_iff k n c).1 e))] at HMB
 obtain ⟨p0, p1, p2, p3, p4, p5⟩ := (hA.pg.go hbx).row.cells
 obtain ⟨z0, z1, z2, z3, z4⟩ := hc5.cells
 have HA := zaa hA
 have HBX := zaa hbx
 have HM := zaa hm
 have HG := zaa hg
 clear hA hk hv hm hn hn2 hbx hc5
 go_enter Tryz.func43, Tryz.ntmps43
 go_upto_region 1 with fail
 go_cut [20] from 10 to 20 (fun v u => v = .bool true ∧ Hid (Below x.heap.size x u))
 case first =>
  go_wp2_with fail
  go_region_with (first | (go_at_call 63; refine (HMB.out _).mono ?_; rintro e w2 ⟨rfl, hb2⟩; have HB2 : Hid (Below x.heap.size x w2) := zaa (by first | exact hb2 | exact zab Br.drew Lr hb2 | exact zab (zad Br _) Lr hb2)))
  all_goals (try go_wp2_with fail)
  all_goals go_meet
  all_goals exact ⟨by simp, by first | exact HB2 | exact zaa HB2.out.drew | exact zaa (zad HB2.out _)⟩
 obtain ⟨rfl, HB2⟩ := hcut
 clear p0 p1 p2 p3 p4 p5 z0 z1 z2 z3 z4 HMB hx
 go_wp2
 go_ret
 have hb := zab HBX.out Lr HB2.out
 exact ⟨62, s, rfl, zaa (.inl ⟨HM.out, rfl, rfl⟩), zaa (Pk.zk ⟨_, _, _, _, _, _, _, _, _, _, _, HA.out.go hb⟩), zaa (Cf.of_below hb)⟩
theorem put_ord (w : World) (K : Nat → Prop) (a : Nat) (k : Int) (n : Nat) (s : Qs) (h : Pk w K a k n s) (i j : Nat) (hij : j = i ∨ j = i + 1) (hj : j ≤ s.cs.length) (hn : pw n)
  (c : Cl) (ka va : Option Addr) (kc vc : Nat) (hk : Sl w ka c.key.length kc c.key) (hv : Sl w va c.val.length vc c.val) (fk : OutK K ka c.key.length) (fv : OutK K va c.val.length) (hm : mayP k n c) :
  Calls Tryz.prog 43 #[.pointer (some ⟨a, 0, none⟩), .int .i64 (i : Int), .int .i64 (j : Int), .agg #[.slice ka c.key.length kc, .int .i64 c.kd, .slice va c.val.length vc, .int .i64 c.pg, .int .i64 c.ct]] w (PutTo K a k n s i j c w) := by
 obtain ⟨po, pn, pc, bo, bn, bc, so, sn, sc, body, st, hA⟩ := h
 have hn2 := zai hn
 obtain ⟨l1, l2, l3, l4, l5⟩ := hA.lens
 have hfit := hA.ok.fit
 obtain ⟨x, hx⟩ : ∃ x, w.alloc (.cells #[.slice ka c.key.length kc, .int .i64 c.kd, .slice va c.val.length vc, .int .i64 c.pg, .int .i64 c.ct] 39) = x := ⟨_, rfl⟩
 have hbx : Below w.heap.size w x := by rw [← hx]; exact zac Br Lr _
 obtain ⟨g, hg⟩ : ∃ g, w.heap.size = g := ⟨_, rfl⟩
 have hc5 : C5 x g (.slice ka c.key.length kc) (.int .i64 c.kd) (.slice va c.val.length vc) (.int .i64 c.pg) (.int .i64 c.ct) := by rw [← hx, ← hg]; exact C5.box _ _ _ _ _ _
 have h1 := hk.hroom
 have h2 := hv.hroom
 have HMB := zaa (fun u => zdg k (n : Int) ka c.key.length kc c.kd va c.val.length vc c.pg c.ct u (by omega) (by omega) (by omega) (by omega))
 rw [decide_eq_true ((mayP_iff k n c).2 hm)] at HMB
 have HU : Hid (∀ u, Below x.heap.size x u → PkA u K a k n s po pn pc bo bn bc so sn sc body st ∧ PgQ u a k n po pn pc bo bn bc so sn sc (s.ws : Int) s.P body st ∧ C5 u g (.slice ka c.key.length kc) (.int .i64 c.kd) (.slice va c.val.length vc) (.int .i64 c.pg) (.int .i64 c.ct) ∧ Sl u ka c.key.length kc c.key ∧ Sl u va c.val.length vc c.val ∧ Below w.heap.size w u) := zaa fun u hu => by
  have hb := zab hbx Lr hu
  have hAu := hA.go hb
  exact ⟨hAu, hAu.pgq (by omega), zaf hc5 hu, hk.on Lr hb, hv.on Lr hb, hb⟩
 obtain ⟨p0, p1, p2, p3, p4, p5⟩ := (hA.pg.go hbx).row.cells
 obtain ⟨z0, z1, z2, z3, z4⟩ := hc5.cells
 have HLAY := zaa hA.lay
 have HLK : Hid (Lo w.heap.size ka c.key.length ∧ Lo w.heap.size va c.val.length) := zaa ⟨hk.lo, hv.lo⟩
 have HSK : Hid (Sl w ka c.key.length kc c.key ∧ Sl w va c.val.length vc c.val) := zaa ⟨hk, hv⟩
 have HF := zaa (And.intro fk fv)
 have HM := zaa hm
 have HOK := zaa hA.ok
 have HKL := zaa hA.kl
 have HG := zaa hg
 have HIJ : Hid ((j = i ∨ j = i + 1) ∧ j ≤ s.cs.length ∧ s.cs.length = sn) := zaa ⟨hij, hj, l4⟩
 have hsn : sn ≤ 65535 := by omega
 have hbn : bn ≤ 65536 := by omega
 have hnb : n ≤ 65536 := hn2.2
 have bsI : (sn : Int) ≤ 65535 := by omega
 have hjI : (j : Int) ≤ 65536 := by omega
 have hiI : (i : Int) ≤ 65536 := by omega
 clear hA hk hv fk fv hm hn hn2 hbx hc5 hij hj l1 l2 l3 l4 l5 hfit h1 h2
 go_enter Tryz.func43, Tryz.ntmps43
 go_upto_region 1 with fail
 go_cut [20] from 10 to 20 (fun v u => v = .bool false ∧ Hid (Below x.heap.size x u))
 case first =>
  go_wp2_with fail
  go_region_with (first | (go_at_call 63; refine (HMB.out _).mono ?_; rintro e w2 ⟨rfl, hb2⟩; have HB2 : Hid (Below x.heap.size x w2) := zaa (by first | exact hb2 | exact zab Br.drew Lr hb2 | exact zab (zad Br _) Lr hb2)))
  all_goals (try go_wp2_with fail)
  all_goals go_meet
  all_goals exact ⟨by simp, by first | exact HB2 | exact zaa HB2.out.drew | exact zaa (zad HB2.out _)⟩
 obtain ⟨rfl, HB2⟩ := hcut
 obtain ⟨w2, hw2⟩ : ∃ w2, w2 = wc := ⟨_, rfl⟩
 subst hw2
 clear p0 p1 p2 p3 p4 p5 z0 z1 z2 z3 z4 HMB hx
 obtain ⟨_, hpg2, hc52, hk2, hv2, _⟩ := HU.out w2 HB2.out
 obtain ⟨z0, z1, z2, z3, z4⟩ := hc52.cells
 have HAG := zaa (zdp w2 a k n po pn pc _ _ (s.ws : Int) s.P hpg2.row hpg2.pre ka c.key.length kc c.key hk2)
 clear hpg2 hc52 hk2 hv2
 go_wp2_with (go_at_call 66; refine HAG.out.mono ?_; rintro e w3 ⟨b1, b2, b3, b4, ro, rn, rc, b, rfl, HA3, HB3⟩; refine Hid.out ?_)
 apply zaa
 have HX3 : Hid (Below x.heap.size x w3) := zaa (zab HB2.out Lr HB3.out)
 clear z0 z1 z2 z3 z4 HAG
 have HF3 : Hid (∀ u (q : Nat) d, Below w3.heap.size w3 u → s.cs[q]? = some d → Calls Tryz.prog 110 #[.int .i64 (q : Int), .pointer (some ⟨b1, 0, none⟩), .pointer (some ⟨b2, 0, none⟩), .pointer (some ⟨b3, 0, none⟩), .pointer (some ⟨b4, 0, none⟩)] u fun e w' => e = .returned (.int .i64 (ordL d.key c.key)) ∧ Hid (Below w3.heap.size w3 w')) := by
  refine zaa fun u q d hu hd => (zdo u a k n po pn pc bo bn bc so sn sc (s.ws : Int) s.P body st s.cs (HU.out u (zab HX3.out Lr hu)).2.1 HLAY.out q d hd (by omega) b1 b2 b3 b4 ka c.key.length kc ro rn rc b c.key (HA3.out.go hu)).mono ?_
  rintro e w' ⟨rfl, HB⟩
  exact ⟨rfl, zaa (zab hu Lr HB.out)⟩
 have HLN : Hid (∀ u, Below x.heap.size x u → Calls Tryz.prog 26 #[.pointer (some ⟨a, 0, none⟩)] u fun e w' => e = .returned (.int .i64 (sn : Int)) ∧ w' = u) := zaa fun u hu => zba u a k n po pn pc bo bn bc so sn sc (s.ws : Int) s.P body st (HU.out u hu).2.1
 obtain ⟨bb, hbb⟩ : ∃ bb : Bool, (bb = true ↔ ¬ zau s.cs i j c) := ⟨@decide (¬ zau s.cs i j c) (Classical.propDecidable _), by simp⟩
 have HBB := zaa hbb
 clear hbb
 go_upto_region 4 with fail
 go_cut [45] from 25 to 45 (fun v u => v = .bool bb ∧ Hid (Below x.heap.size x u))
 case first =>
  have HJ := HIJ.out
  by_cases hi0 : i = 0
  ·subst hi0
   by_cases hjs : j = sn
   ·have hjn : ¬ (j : Int) < (sn : Int) := by omega
    have hb : bb = false := by
     cases bb with
     | false => rfl
     | true =>
      refine absurd ⟨fun t d e => by omega, fun d hd => ?_⟩ (HBB.out.1 rfl)
      have := (zH.1 hd).1
      omega
    subst hb
    clear HJ hjs
    go_wp2_with (go_at_call 26; refine zae (HLN.out _ HX3.out) ?_)
    go_meet
    exact ⟨by simp, HX3⟩
   ·have hjn : (j : Int) < (sn : Int) := by omega
    obtain ⟨d, hd⟩ : ∃ d, s.cs[j]? = some d := ⟨_, zI (by omega)⟩
    have HD := zaa hd
    have HFJ := zaa (HF3.out w3 j d Br hd)
    obtain ⟨o, ho⟩ : ∃ o, ordL d.key c.key = o := ⟨_, rfl⟩
    rw [ho] at HFJ
    have hb : bb = decide (o ≤ 0) := by
     cases bb with
     | false =>
      symm
      rw [zP]
      intro h
      have h2 : ¬ ¬ zau s.cs 0 j c := fun e => by have := HBB.out.2 e; cases this
      apply h2
      intro e
      have := e.2 d hd
      omega
     | true =>
      symm
      rw [decide_eq_true_eq]
      rcases Int.lt_or_le 0 o with h | h
      ·refine absurd ⟨fun t d e => by omega, fun e he => ?_⟩ (HBB.out.1 rfl)
       rw [hd] at he
       injection he with he
       subst he
       omega
      ·exact h
    subst hb
    clear HJ hjs hd ho
    go_wp2_with (first | (go_at_call 26; refine zae (HLN.out _ HX3.out) ?_) | (go_at_call 110; refine HFJ.out.mono ?_; rintro e w4 ⟨rfl, HB4⟩))
    go_meet
    exact ⟨by simp, zaa (zab HX3.out Lr HB4.out)⟩
  ·obtain ⟨t, ht⟩ : ∃ t, i = t + 1 := ⟨i - 1, by omega⟩
   obtain ⟨dt, hdt⟩ : ∃ d, s.cs[t]? = some d := ⟨_, zI (by omega)⟩
   have HDT := zaa hdt
   have HFT := zaa (HF3.out w3 t dt Br hdt)
   obtain ⟨o, ho⟩ : ∃ o, ordL dt.key c.key = o := ⟨_, rfl⟩
   rw [ho] at HFT
   have HO := zaa ho
   have HT := zaa ht
   have htI : (i : Int) - 1 = (t : Int) := by omega
   have hi1 : 0 < (i : Int) := by omega
   have hi2 : 0 < i := by omega
   by_cases h0 : 0 ≤ o
   ·have hb : bb = true := HBB.out.2 fun e => by have := e.1 t dt ht hdt; omega
    subst hb
    have h0b : decide (0 ≤ o) = true := decide_eq_true h0
    clear HJ hi0 hdt ho ht
    go_wp2_with (go_at_call 110; refine HFT.out.mono ?_; rintro e w4 ⟨rfl, HB4⟩)
    go_meet
    exact ⟨by simp, zaa (zab HX3.out Lr HB4.out)⟩
   ·have h0b : decide (0 ≤ o) = false := decide_eq_false h0
    by_cases hjs : j = sn
    ·have hjn : ¬ (j : Int) < (sn : Int) := by omega
     have hb : bb = false := by
      cases bb with
      | false => rfl
      | true =>
       refine absurd ⟨fun t' d e he => ?_, fun d hd => ?_⟩ (HBB.out.1 rfl)
       ·obtain rfl : t' = t := by omega
        rw [hdt] at he
        injection he with he
        subst he
        omega
       ·have := (zH.1 hd).1
        omega
     subst hb
     clear HJ hi0 hdt ho ht hjs
     go_wp2_with (first | (go_at_call 110; refine HFT.out.mono ?_; rintro e w4 ⟨rfl, HB4⟩; have HX4 : Hid (Below x.heap.size x w4) := zaa (zab HX3.out Lr HB4.out)) | (go_at_call 26; refine zae (HLN.out _ HX4.out) ?_))
     go_meet
     exact ⟨by simp, HX4⟩
    ·have hjn : (j : Int) < (sn : Int) := by omega
     obtain ⟨d, hd⟩ : ∃ d, s.cs[j]? = some d := ⟨_, zI (by omega)⟩
     obtain ⟨o2, ho2⟩ : ∃ o, ordL d.key c.key = o := ⟨_, rfl⟩
     have HFB : Hid (∀ (I o' : Int) u, ((I = (t : Int) ∧ o' = o) ∨ (I = (j : Int) ∧ o' = o2)) → Below w3.heap.size w3 u → Calls Tryz.prog 110 #[.int .i64 I, .pointer (some ⟨b1, 0, none⟩), .pointer (some ⟨b2, 0, none⟩), .pointer (some ⟨b3, 0, none⟩), .pointer (some ⟨b4, 0, none⟩)] u fun e w' => e = .returned (.int .i64 o') ∧ Hid (Below w3.heap.size w3 w')) := by
      refine zaa fun I o' u hI hu => ?_
      rcases hI with ⟨rfl, rfl⟩ | ⟨rfl, rfl⟩
      ·rw [← ho]; exact HF3.out u t dt hu hdt
      ·rw [← ho2]; exact HF3.out u j d hu hd
     have hb : bb = decide (o2 ≤ 0) := by
      cases bb with
      | false =>
       symm
       rw [zP]
       intro h
       have h2 : ¬ ¬ zau s.cs i j c := fun e => by have := HBB.out.2 e; cases this
       apply h2
       intro e
       have := e.2 d hd
       omega
      | true =>
       symm
       rw [decide_eq_true_eq]
       rcases Int.lt_or_le 0 o2 with h | h
       ·refine absurd ⟨fun t' d e he => ?_, fun e he => ?_⟩ (HBB.out.1 rfl)
        ·obtain rfl : t' = t := by omega
         rw [hdt] at he
         injection he with he
         subst he
         omega
        ·rw [hd] at he
         injection he with he
         subst he
         omega
       ·exact h
     subst hb
     clear HJ hi0 hdt ho ht hjs hd ho2 HFT
     go_wp2_with (first | (go_at_call 110; refine (HFB.out _ _ _ (by first | exact .inl ⟨rfl, rfl⟩ | exact .inr ⟨rfl, rfl⟩) (by first | exact HB4.out | exact Br)).mono ?_; rintro e w4 ⟨rfl, HB4⟩; have HX4 : Hid (Below x.heap.size x w4) := zaa (zab HX3.out Lr HB4.out)) | (go_at_call 26; refine zae (HLN.out _ HX4.out) ?_))
     go_meet
     exact ⟨by simp, HX4⟩
 obtain ⟨rfl, HX4⟩ := hcut
 obtain ⟨w4, hw4⟩ : ∃ w4, w4 = wc := ⟨_, rfl⟩
 subst hw4
 clear HF3 HLN HA3 HB3 HX3 HB2
 cases bb with
 | true =>
  go_wp2
  go_ret
  obtain ⟨hA4, _, _, _, _, hb4⟩ := HU.out w4 HX4.out
  exact ⟨63, s, rfl, zaa (.inr (.inl ⟨HM.out, HBB.out.1 (by trivial), rfl, rfl⟩)), zaa (Pk.zk ⟨_, _, _, _, _, _, _, _, _, _, _, hA4⟩), zaa (Cf.of_below hb4)⟩
 | false =>
  have HORD : Hid (zau s.cs i j c) := zaa (Classical.byContradiction fun e => by have := HBB.out.2 e; cases this)
  obtain ⟨hA4, _, hc54, hk4, hv4, hb4⟩ := HU.out w4 HX4.out
  obtain ⟨z0, z1, z2, z3, z4⟩ := hc54.cells
  have HC54 := zaa hc54
  have HK4 := zaa (And.intro hk4 (And.intro hv4 hb4))
  have HIP := zaa (inPlace_any w4 K a k n s ⟨_, _, _, _, _, _, _, _, _, _, _, hA4⟩ i j HIJ.out.1 HIJ.out.2.1 hnb c ka va kc vc hk4 hv4 HF.out.1 HF.out.2 HM.out HORD.out)
  clear hA4 hc54 hk4 hv4 hb4 HU HLAY
  go_wp2_with (go_at_call 88; refine HIP.out.mono ?_; rintro e w5 ⟨ib, t5, rfl, HI5, HP5, HC5⟩; refine Hid.out ?_)
  apply zaa
  clear HIP z0 z1 z2 z3 z4
  cases ib with
  | true =>
   go_wp2
   go_ret
   have hcw : Cf K w w5 := (Cf.of_below HK4.out.2.2).go HC5.out
   refine ⟨0, t5, rfl, zaa ?_, zaa (HP5.out.wide ?_ (Zk.lt HKL.out hcw.size)), zaa hcw⟩
   ·rcases HI5.out with ⟨_, h1, h2⟩ | ⟨h, _⟩
    ·exact .inr (.inr ⟨HM.out, HORD.out, .inl ⟨h1, rfl, h2⟩⟩)
    ·cases h
   ·rintro b (e | e)
    ·exact .inl e
    ·exact .inr ⟨zN HK4.out.2.2.size e.1, e.2⟩
  | false =>
   have HNI : Hid (¬ inPl k n s i j c ∧ t5 = s) := zaa (by
    rcases HI5.out with ⟨h, _⟩ | ⟨_, h1, h2⟩
    ·cases h
    ·exact ⟨h1, h2⟩)
   obtain rfl : t5 = s := HNI.out.2
   obtain ⟨K5, hK5⟩ : ∃ K5, Zk K w4 w5 = K5 := ⟨_, rfl⟩
   rw [hK5] at HP5
   have HK5 := zaa hK5
   clear hK5
   obtain ⟨po5, pn5, pc5, bo5, bn5, bc5, so5, sn5, sc5, body5, st5, hA5⟩ := HP5.out
   obtain ⟨l1, l2, l3, l4, l5⟩ := hA5.lens
   obtain rfl : sn = sn5 := by rw [← l4, HIJ.out.2.2]
   have hcw : Cf K w w5 := (Cf.of_below HK4.out.2.2).go HC5.out
   have hgK : ¬ K g := fun e => by have := HKL.out g e; have := HG.out; omega
   have hc55 : C5 w5 g (.slice ka c.key.length kc) (.int .i64 c.kd) (.slice va c.val.length vc) (.int .i64 c.pg) (.int .i64 c.ct) := HC54.out.cf HC5.out hgK
   have hk5 : Sl w5 ka c.key.length kc c.key := HSK.out.1.cf hcw HF.out.1
   have hv5 : Sl w5 va c.val.length vc c.val := HSK.out.2.cf hcw HF.out.2
   have HU : Hid (∀ u, Below w5.heap.size w5 u → PkA u K5 a k n t5 po5 pn5 pc5 bo5 bn5 bc5 so5 sn sc5 body5 st5 ∧ PgQ u a k n po5 pn5 pc5 bo5 bn5 bc5 so5 sn sc5 (t5.ws : Int) t5.P body5 st5 ∧ C5 u g (.slice ka c.key.length kc) (.int .i64 c.kd) (.slice va c.val.length vc) (.int .i64 c.pg) (.int .i64 c.ct) ∧ Sl u ka c.key.length kc c.key ∧ Sl u va c.val.length vc c.val ∧ Below w5.heap.size w5 u) := zaa fun u hu => by
    have hAu := hA5.go hu
    exact ⟨hAu, hAu.pgq (by omega), zaf hc55 hu, hk5.on Lr hu, hv5.on Lr hu, hu⟩
   have HLAY := zaa hA5.lay
   have HCW := zaa hcw
   have hws : w.heap.size ≤ w5.heap.size := hcw.size
   have HNEW : Hid (Rs (spl t5.cs i j c) ∧ (∀ d ∈ spl t5.cs i j c, mayP k n d) ∧ (∀ d ∈ spl t5.cs i j c, d.Wf) ∧ (spl t5.cs i j c).length ≤ 65536) := zaa ⟨rs_spl HOK.out.rs (by have := HIJ.out.1; omega) HIJ.out.2.1 HORD.out, fun d hd => by
    rcases zbr hd with rfl | hd
    ·exact HM.out
    ·exact HOK.out.may d hd, fun d hd => by
    rcases zbr hd with rfl | hd
    ·exact ⟨HSK.out.1.wf, HSK.out.2.wf⟩
    ·exact HOK.out.wf d hd, by
    have h1 := HIJ.out
    rw [zbx _ _ _ _ (by omega)]
    omega⟩
   obtain ⟨z0, z1, z2, z3, z4⟩ := hc55.cells
   clear hA5 hcw hc55 hk5 hv5 l1 l2 l3 l4 l5
   have z0a := fun o => (HU.out (w5.alloc o) (zac Br Lr _)).2.2.1.cells
   have EN : Hid (∀ u, Below w5.heap.size w5 u → Calls Tryz.prog 47 #[.pointer (some ⟨a, 0, none⟩)] u fun e w' => ∃ q, e = .returned (.slice (some ⟨q, 0, none⟩) sn sn) ∧ (w'.cell? ⟨g, 0, none⟩ = some (.slice ka c.key.length kc) ∧ w'.cell? ⟨g, 1, none⟩ = some (.int .i64 c.kd) ∧ w'.cell? ⟨g, 2, none⟩ = some (.slice va c.val.length vc) ∧ w'.cell? ⟨g, 3, none⟩ = some (.int .i64 c.pg) ∧ w'.cell? ⟨g, 4, none⟩ = some (.int .i64 c.ct)) ∧ Hid (SlE w' q (some ⟨q, 0, none⟩) sn sn t5.cs ∧ zah w' q sn ∧ w5.heap.size ≤ q ∧ q < w'.heap.size) ∧ Hid (Below u.heap.size u w') ∧ Hid (Below w5.heap.size w5 w')) := by
    refine zaa fun u hu => (zdn u a k n po5 pn5 pc5 bo5 bn5 bc5 so5 sn sc5 (t5.ws : Int) t5.P body5 st5 t5.cs (HU.out u hu).2.1 HLAY.out (by omega)).mono ?_
    rintro e w' ⟨q, rfl, HS, HB⟩
    have hb := zab hu Lr HB.out.1
    exact ⟨q, rfl, (HU.out w' hb).2.2.1.cells, zaa ⟨HS.out.1, HS.out.2, zN hu.size HB.out.2.1, HB.out.2.2⟩, zaa HB.out.1, zaa hb⟩
   have RP : Hid (∀ u w6 q b, Hid (SlE w6 q (some ⟨q, 0, none⟩) sn sn t5.cs ∧ zah w6 q sn ∧ w5.heap.size ≤ q ∧ q < w6.heap.size) → Hid (Below w5.heap.size w5 w6) → Below w6.heap.size w6 u → E6 u b (.slice none 0 0) (.slice ka c.key.length kc) (.int .i64 c.kd) (.slice va c.val.length vc) (.int .i64 c.pg) (.int .i64 c.ct) → Calls Tryz.prog 89 #[.slice (some ⟨q, 0, none⟩) sn sn, .int .i64 (i : Int), .int .i64 (j : Int), .slice (some ⟨b, 0, none⟩) 1 1] u fun e w' => ∃ ao m c', e = .returned (.slice ao m c') ∧ Hid (SlE w' q ao m c' (spl t5.cs i j c) ∧ Below w5.heap.size w5 w' ∧ q ≤ w'.heap.size)) := by
    refine zaa fun u w6 q b hq h56 hu hb => ?_
    obtain ⟨q1, q2, q3, q4⟩ := hq.out
    have h5u := zab h56.out Lr hu
    obtain ⟨_, _, _, hku, hvu, _⟩ := HU.out u h5u
    have hwq : w.heap.size ≤ q := zN hws q3
    refine (repE_all u q sn t5.cs c (q1.on hu) (q2.on hu) hsn i j HIJ.out.1 (by have := HIJ.out; omega) b ka va kc vc hb hku hvu (HLK.out.1.mono hwq) (HLK.out.2.mono hwq)).mono ?_
    rintro e w' ⟨ao, m, c', rfl, HS, HB⟩
    exact ⟨ao, m, c', rfl, zaa ⟨HS.out, h5u.trans (HB.out.mono q3), zN (Nat.le_of_lt q4) (zN hu.size HB.out.size)⟩⟩
   have LY : Hid (∀ u w7 q ao m c', Hid (SlE w7 q ao m c' (spl t5.cs i j c) ∧ Below w5.heap.size w5 w7 ∧ q ≤ w7.heap.size) → Below w7.heap.size w7 u → Calls Tryz.prog 45 #[.pointer (some ⟨a, 0, none⟩), .slice ao m c'] u (PutTo K a k n t5 i j c w)) := by
    refine zaa fun u w7 q ao m c' hq hu => ?_
    obtain ⟨q1, q2, q3⟩ := hq.out
    have h5u := zab q2 Lr hu
    obtain ⟨hAu, _, _, _, _, _⟩ := HU.out u h5u
    obtain ⟨n1, n2, n3, n4⟩ := HNEW.out
    refine (lay_any u K5 a k n t5 ⟨_, _, _, _, _, _, _, _, _, _, _, hAu⟩ q ao m c' (spl t5.cs i j c) (q1.on hu) (zN q3 hu.size) n1 n2 n3 hnb (by have := q1.hlen; omega)).mono ?_
    rintro e w' ⟨code, t, rfl, HR, HP, HC⟩
    have hz : ∀ b, K5 b → K b ∨ (w.heap.size ≤ b ∧ b < w5.heap.size) := by
     rw [← HK5.out]
     rintro b (e | e)
     ·exact .inl e
     ·exact .inr ⟨zN HK4.out.2.2.size e.1, e.2⟩
    have hc5u : Cf K w u := HCW.out.trans (Cf.of_below (F := K) h5u) (fun _ _ e => e)
    have hcw' : Cf K w w' := hc5u.trans HC.out (fun b hb e => by
     rcases hz b e with e | e
     ·exact e
     ·omega)
    refine ⟨code, t, rfl, zaa (.inr (.inr ⟨HM.out, HORD.out, .inr ⟨HNI.out.1, HR.out⟩⟩)), zaa (HP.out.wide ?_ (Zk.lt HKL.out hcw'.size)), zaa hcw'⟩
    have hs1 := h5u.size
    have hs2 := HC.out.size
    rintro b (e | e)
    ·rcases hz b e with e | e
     ·exact .inl e
     ·exact .inr ⟨e.1, by omega⟩
    ·exact .inr ⟨by omega, e.2⟩
   clear HU
   go_wp2_with fail
   go_region_with (first
    | (go_at_call 45; refine (LY.out _ w7 g7 ao7 m7 c7 HQ7 (by first | exact Br | exact Br.drew | exact zad Br _)).mono ?_; rintro e w8 ⟨code, t, rfl, HR8, HP8, HC8⟩)
    | (go_at_call 89; refine (RP.out _ w6 g7 _ HQ6 HB65 (by repeat (first | exact Br | apply Below.drew | apply below_drewN | refine zac ?_ Lr _)) (by first | exact E6.box _ _ _ _ _ _ _ | exact (show E6 _ _ _ _ _ _ _ _ from zaf (by exact E6.box w5 _ _ _ _ _ _) HB6.out))).mono ?_; rintro e w7 ⟨ao7, m7, c7, rfl, HQ7⟩)
    | (go_at_call 47; refine (EN.out _ (by repeat (first | exact Br | apply Below.drew | apply below_drewN | refine zac ?_ Lr _))).mono ?_; rintro e w6 ⟨g7, rfl, ⟨y0, y1, y2, y3, y4⟩, HQ6, HB6, HB65⟩))
   all_goals
    go_wp2
    go_ret
    exact ⟨code, t, rfl, HR8, HP8, HC8⟩
theorem put_any (w : World) (K : Nat → Prop) (a : Nat) (k : Int) (n : Nat) (s : Qs) (h : Pk w K a k n s) (i j : Nat) (hij : j = i ∨ j = i + 1) (hj : j ≤ s.cs.length) (hn : pw n)
  (c : Cl) (ka va : Option Addr) (kc vc : Nat) (hk : Sl w ka c.key.length kc c.key) (hv : Sl w va c.val.length vc c.val) (fk : OutK K ka c.key.length) (fv : OutK K va c.val.length) :
  Calls Tryz.prog 43 #[.pointer (some ⟨a, 0, none⟩), .int .i64 (i : Int), .int .i64 (j : Int), .agg #[.slice ka c.key.length kc, .int .i64 c.kd, .slice va c.val.length vc, .int .i64 c.pg, .int .i64 c.ct]] w (PutTo K a k n s i j c w) := by
 by_cases hm : mayP k n c
 ·exact put_ord w K a k n s h i j hij hj hn c ka va kc vc hk hv fk fv hm
 ·exact put_may w K a k n s h i j hn c ka va kc vc hk hv hm
def ChTo (R : Int → Qs → Prop) (K : Nat → Prop) (a : Nat) (k : Int) (n : Nat) (w : World) (e : Ending) (w' : World) : Prop :=
 ∃ code t, e = .returned (.int .i64 code) ∧ Hid (R code t) ∧ Hid (Pk w' (Zk K w w') a k n t) ∧ Hid (Cf K w w')
theorem Zk.from {K : Nat → Prop} {w x w' : World} (hs : w.heap.size ≤ x.heap.size) : ∀ b, Zk K x w' b → Zk K w w' b := by
 rintro b (e | e)
 ·exact .inl e
 ·exact .inr ⟨zN hs e.1, e.2⟩
theorem ChTo.from {R S : Int → Qs → Prop} {K : Nat → Prop} {a : Nat} {k : Int} {n : Nat} {w x w' : World} {e : Ending} (hb : Below w.heap.size w x) (hK : ∀ b, K b → b < w.heap.size) (hR : ∀ code t, R code t → S code t) (h : ChTo R K a k n x e w') : ChTo S K a k n w e w' := by
 obtain ⟨code, t, rfl, HR, HP, HC⟩ := h
 have hc : Cf K w w' := (Cf.of_below hb).go HC.out
 exact ⟨code, t, rfl, zaa (hR code t HR.out), zaa (HP.out.wide (Zk.from hb.size) (Zk.lt hK hc.size)), zaa hc⟩
theorem ChTo.stay {R : Int → Qs → Prop} {K : Nat → Prop} {a : Nat} {k : Int} {n : Nat} {s : Qs} {w w' : World} {code : Int} (h : Pk w K a k n s) (hb : Below w.heap.size w w') (hR : R code s) : ChTo R K a k n w (.returned (.int .i64 code)) w' :=
 ⟨code, s, rfl, zaa hR, zaa (h.go hb).zk, zaa (Cf.of_below hb)⟩
def InsR (k : Int) (n : Nat) (s : Qs) (I : Int) (c : Cl) (code : Int) (t : Qs) : Prop :=
 (¬ (0 ≤ I ∧ I ≤ (s.cs.length : Int)) ∧ code = 64 ∧ t = s) ∨ ∃ i : Nat, I = (i : Int) ∧ i ≤ s.cs.length ∧ PutR k n s i i c code t
def SetR (k : Int) (n : Nat) (s : Qs) (I : Int) (c : Cl) (code : Int) (t : Qs) : Prop :=
 (¬ (0 ≤ I ∧ I < (s.cs.length : Int)) ∧ code = 64 ∧ t = s) ∨ ∃ i : Nat, I = (i : Int) ∧ i < s.cs.length ∧ PutR k n s i (i + 1) c code t
theorem insertQ_any (w : World) (K : Nat → Prop) (a : Nat) (k : Int) (n : Nat) (s : Qs) (h : Pk w K a k n s) (I : Int) (hn : pw n)
  (c : Cl) (ka va : Option Addr) (kc vc : Nat) (hk : Sl w ka c.key.length kc c.key) (hv : Sl w va c.val.length vc c.val) (fk : OutK K ka c.key.length) (fv : OutK K va c.val.length) :
  Calls Tryz.prog 10 #[.pointer (some ⟨a, 0, none⟩), .int .i64 I, .agg #[.slice ka c.key.length kc, .int .i64 c.kd, .slice va c.val.length vc, .int .i64 c.pg, .int .i64 c.ct]] w (ChTo (InsR k n s I c) K a k n w) := by
 obtain ⟨x, hx⟩ : ∃ x, w.alloc (.cells #[.slice ka c.key.length kc, .int .i64 c.kd, .slice va c.val.length vc, .int .i64 c.pg, .int .i64 c.ct] 39) = x := ⟨_, rfl⟩
 have hbx : Below w.heap.size w x := by rw [← hx]; exact zac Br Lr _
 have hc5 : C5 x w.heap.size (.slice ka c.key.length kc) (.int .i64 c.kd) (.slice va c.val.length vc) (.int .i64 c.pg) (.int .i64 c.ct) := by rw [← hx]; exact C5.box _ _ _ _ _ _
 obtain ⟨z0, z1, z2, z3, z4⟩ := hc5.cells
 have hn2 := zai hn
 have hPx := h.go hbx
 have hkl := h.kl
 obtain ⟨po, pn, pc, bo, bn, bc, so, sn, sc, body, st, hA⟩ := hPx
 obtain ⟨l1, l2, l3, l4, l5⟩ := hA.lens
 have hpg := hA.pgq hn2.2
 have hfit := hA.ok.fit
 have HLN := zaa (zba x a k n po pn pc bo bn bc so sn sc _ s.P body st hpg)
 have HP := zaa (And.intro h (And.intro hbx hkl))
 have hsI : (sn : Int) ≤ 65536 := by omega
 by_cases hin : 0 ≤ I ∧ I ≤ (s.cs.length : Int)
 ·obtain ⟨i, rfl⟩ : ∃ i : Nat, I = (i : Int) := ⟨I.toNat, by omega⟩
  have HPT := zaa (put_any x K a k n s (h.go hbx) i i (.inl rfl) (by omega) hn c ka va kc vc (hk.on Lr hbx) (hv.on Lr hbx) fk fv)
  have HI : Hid (i ≤ s.cs.length) := zaa (by omega)
  by_cases he : i = sn
  ·have heI : (i : Int) = (sn : Int) := by omega
   subst he
   clear h hk hv fk fv hbx hc5 hn hkl hA l1 l2 l3 l4 l5 hpg hfit hin heI hn2
   go_enter Tryz.func10, Tryz.ntmps10
   go_wp2_with (first | (go_at_call 26; refine zae HLN.out ?_) | (go_at_call 43; refine HPT.out.mono ?_; rintro e w2 ⟨code, t, rfl, HR2, HP2, HC2⟩))
   go_ret
   exact ChTo.from HP.out.2.1 HP.out.2.2 (fun code t h => .inr ⟨i, rfl, HI.out, h⟩) ⟨code, t, rfl, HR2, HP2, HC2⟩
  ·have heI : ¬ (i : Int) = (sn : Int) := by omega
   have HHS := zaa (hasQ x a k n po pn pc bo bn bc so sn sc _ s.P body st hpg i (by omega))
   clear h hk hv fk fv hbx hc5 hn hkl hA l1 l2 l3 l4 l5 hpg hfit hin hn2 he
   go_enter Tryz.func10, Tryz.ntmps10
   go_wp2_with (first | (go_at_call 26; refine zae HLN.out ?_) | (go_at_call 42; refine zae HHS.out ?_) | (go_at_call 43; refine HPT.out.mono ?_; rintro e w2 ⟨code, t, rfl, HR2, HP2, HC2⟩))
   go_ret
   exact ChTo.from HP.out.2.1 HP.out.2.2 (fun code t h => .inr ⟨i, rfl, HI.out, h⟩) ⟨code, t, rfl, HR2, HP2, HC2⟩
 ·have heI : ¬ I = (sn : Int) := by omega
  have HHS := zaa (hasQ_no x a k n po pn pc bo bn bc so sn sc _ s.P body st hpg I (by omega))
  have HN := zaa hin
  clear h hk hv fk fv hbx hc5 hn hkl hA l1 l2 l3 l4 l5 hpg hfit hin hn2
  go_enter Tryz.func10, Tryz.ntmps10
  go_wp2_with (first | (go_at_call 26; refine zae HLN.out ?_) | (go_at_call 42; refine zae HHS.out ?_))
  go_ret
  exact ChTo.stay HP.out.1 HP.out.2.1 (.inl ⟨HN.out, rfl, rfl⟩)
theorem setQ_any (w : World) (K : Nat → Prop) (a : Nat) (k : Int) (n : Nat) (s : Qs) (h : Pk w K a k n s) (I : Int) (hn : pw n)
  (c : Cl) (ka va : Option Addr) (kc vc : Nat) (hk : Sl w ka c.key.length kc c.key) (hv : Sl w va c.val.length vc c.val) (fk : OutK K ka c.key.length) (fv : OutK K va c.val.length) :
  Calls Tryz.prog 12 #[.pointer (some ⟨a, 0, none⟩), .int .i64 I, .agg #[.slice ka c.key.length kc, .int .i64 c.kd, .slice va c.val.length vc, .int .i64 c.pg, .int .i64 c.ct]] w (ChTo (SetR k n s I c) K a k n w) := by
 obtain ⟨x, hx⟩ : ∃ x, w.alloc (.cells #[.slice ka c.key.length kc, .int .i64 c.kd, .slice va c.val.length vc, .int .i64 c.pg, .int .i64 c.ct] 39) = x := ⟨_, rfl⟩
 have hbx : Below w.heap.size w x := by rw [← hx]; exact zac Br Lr _
 have hc5 : C5 x w.heap.size (.slice ka c.key.length kc) (.int .i64 c.kd) (.slice va c.val.length vc) (.int .i64 c.pg) (.int .i64 c.ct) := by rw [← hx]; exact C5.box _ _ _ _ _ _
 obtain ⟨z0, z1, z2, z3, z4⟩ := hc5.cells
 have hn2 := zai hn
 have hPx := h.go hbx
 have hkl := h.kl
 obtain ⟨po, pn, pc, bo, bn, bc, so, sn, sc, body, st, hA⟩ := hPx
 obtain ⟨l1, l2, l3, l4, l5⟩ := hA.lens
 have hpg := hA.pgq hn2.2
 have hfit := hA.ok.fit
 have HP := zaa (And.intro h (And.intro hbx hkl))
 by_cases hin : 0 ≤ I ∧ I < (s.cs.length : Int)
 ·obtain ⟨i, rfl⟩ : ∃ i : Nat, I = (i : Int) := ⟨I.toNat, by omega⟩
  obtain ⟨j, hj⟩ : ∃ j, i + 1 = j := ⟨_, rfl⟩
  have HPT := zaa (put_any x K a k n s (h.go hbx) i j (.inr hj.symm) (by omega) hn c ka va kc vc (hk.on Lr hbx) (hv.on Lr hbx) fk fv)
  have HI : Hid (i < s.cs.length ∧ j = i + 1) := zaa (by omega)
  have HHS := zaa (hasQ x a k n po pn pc bo bn bc so sn sc _ s.P body st hpg i (by omega))
  have hjI : (i : Int) + 1 = (j : Int) := by omega
  have hjb : (j : Int) ≤ 65536 := by omega
  clear h hk hv fk fv hbx hc5 hn hkl hA l1 l2 l3 l4 l5 hpg hfit hin hn2 hj
  go_enter Tryz.func12, Tryz.ntmps12
  go_wp2_with (first | (go_at_call 42; refine zae HHS.out ?_) | (go_at_call 43; refine HPT.out.mono ?_; rintro e w2 ⟨code, t, rfl, HR2, HP2, HC2⟩))
  go_ret
  exact ChTo.from HP.out.2.1 HP.out.2.2 (fun code t h => .inr ⟨i, rfl, HI.out.1, by rw [← HI.out.2]; exact h⟩) ⟨code, t, rfl, HR2, HP2, HC2⟩
 ·have HHS := zaa (hasQ_no x a k n po pn pc bo bn bc so sn sc _ s.P body st hpg I (by omega))
  have HN := zaa hin
  clear h hk hv fk fv hbx hc5 hn hkl hA l1 l2 l3 l4 l5 hpg hfit hin hn2
  go_enter Tryz.func12, Tryz.ntmps12
  go_wp2_with (go_at_call 42; refine zae HHS.out ?_)
  go_ret
  exact ChTo.stay HP.out.1 HP.out.2.1 (.inl ⟨HN.out, rfl, rfl⟩)
end Go.Proofs.YtfgffajgfgifhaaGreatDoor
