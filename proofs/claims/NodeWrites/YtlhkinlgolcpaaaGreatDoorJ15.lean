import Derived.Test.YtlhkinlgolcpaaaGreatDoorJ12
import Derived.Test.YtlhkinlgolcpaaaGreatDoorJ14
namespace Go.Proofs.YtlhkinlgolcpaaaGreatDoor
set_option maxRecDepth 100000
open Go.RowKit
structure Po (w : World) (B a : Nat) (k : Int) (n : Nat) (vb vs : Value) (cs : List Cl) : Prop where
 row : PR w a k n vb vs
 body : OwnB w B vb (bdy cs)
 starts : OwnN w B vs (sts 0 cs)
def PZ (a : Nat) (vb vs : Value) (b : Nat) : Prop := b = a ∨ vb.ownBlock = some b ∨ vs.ownBlock = some b
theorem OwnN.shape {w : World} {B : Nat} {v : Value} {l : List Nat} (h : OwnN w B v l) : ∃ ao cap, v = .slice ao l.length cap := by
 unfold OwnN at h
 rcases h.2 with ⟨rfl, h0⟩ | ⟨g, cap, cur, rfl, _⟩
 ·exact ⟨none, 0, by rw [h0]⟩
 ·exact ⟨_, cap, rfl⟩
theorem OwnN.sl2 {w : World} {B : Nat} {ao : Option Addr} {n c : Nat} {l : List Nat} (h : OwnN w B (.slice ao n c) l) (hn : l.length ≤ 140737488355328) : SlN w ao n c l ∧ l.length = n := by
 obtain ⟨x, y, hxy, hsl⟩ := h.sln hn
 injection hxy with e1 e2 e3
 subst e1
 subst e3
 rw [e2]
 exact ⟨hsl, rfl⟩
theorem Po.on {w w' : World} {B a : Nat} {k : Int} {n : Nat} {vb vs : Value} {cs : List Cl} (h : Po w B a k n vb vs cs) (hb : Below w.heap.size w w') : Po w' B a k n vb vs cs := ⟨box_on h.row hb, h.body.on (Nat.le_refl _) hb, h.starts.below hb⟩
theorem Po.pg {w : World} {B a : Nat} {k : Int} {n : Nat} {bo : Option Addr} {bn bc : Nat} {so : Option Addr} {sn sc : Nat} {cs : List Cl} (h : Po w B a k n (.slice bo bn bc) (.slice so sn sc) cs) (hw : ∀ c ∈ cs, c.Wf) (hl : szN cs ≤ 65536) : PgAt w a k n bo bn bc so sn sc cs := by
 have hz := szN_eq cs
 refine ⟨h.row, ?_, (h.starts.sl2 (by rw [sts_length]; omega)).1⟩
 obtain ⟨x, y, hxy, hsl, _⟩ := h.body.sl (bdy_wf hw) (by omega)
 injection hxy with e1 e2 e3
 subst e1
 subst e3
 rw [e2]
 exact hsl
theorem By_take (l : List Int) (n : Nat) : (By l).take n = By (l.take n) := by simp [By, List.map_take]
theorem By_drop (l : List Int) (n : Nat) : (By l).drop n = By (l.drop n) := by simp [By, List.map_drop]
theorem NI_take (l : List Nat) (n : Nat) : (NI l).take n = NI (l.take n) := by simp [NI, List.map_take]
theorem NI_drop (l : List Nat) (n : Nat) : (NI l).drop n = NI (l.drop n) := by simp [NI, List.map_drop]
theorem NI_append (a b : List Nat) : NI (a ++ b) = NI a ++ NI b := by simp [NI]
theorem bdy_take (cs : List Cl) (i : Nat) : (bdy cs).take (bdy (cs.take i)).length = bdy (cs.take i) := by
 conv => lhs; arg 2; rw [← List.take_append_drop i cs, bdy_append]
 exact List.take_left
theorem cB_pos (c : Cl) : 0 < (cB c).length := by
 unfold cB
 split <;> simp
theorem bdy_pos : ∀ (cs : List Cl), 0 < cs.length → 0 < (bdy cs).length
 | [], h => by simp at h
 | c :: r, _ => by
  rw [bdy_cons, List.length_append]
  have := cB_pos c
  omega
theorem start_any (w : World) (B a : Nat) (k : Int) (n : Nat) (vb vs : Value) (cs : List Cl) (h : Po w B a k n vb vs cs) (hl : szN cs ≤ 65536) (i : Nat) (hi : i ≤ cs.length) :
  Calls Tryz.prog 114 #[.pointer (some ⟨a, 0, none⟩), .int .i64 (i : Int)] w fun e w' => e = .returned (.int .i64 ((bdy (cs.take i)).length : Int)) ∧ w' = w := by
 have hz := szN_eq cs
 obtain ⟨bo, bc, rfl⟩ := h.body.slice
 obtain ⟨so, sc, rfl⟩ := h.starts.shape
 obtain ⟨c0, c1, c2, c3⟩ := h.row.cells
 have hst := h.starts
 rw [sts_length] at c3 hst
 have hsl := (hst.sl2 (by rw [sts_length]; omega)).1
 by_cases hin : i = cs.length
 ·have e : (bdy (cs.take i)).length = (bdy cs).length := by rw [List.take_of_length_le (by omega)]
  rw [e]
  subst hin
  generalize (bdy cs).length = bn at *
  generalize cs.length = sn at *
  clear h hst hsl
  go_enter Tryz.func114, Tryz.ntmps114
  go_wp2
  go_ret
  exact ⟨rfl, rfl⟩
 ·have hg := sts_get 0 i cs (by omega)
  rw [Nat.zero_add] at hg
  obtain ⟨g, off, rfl, cI⟩ : ∃ g off, so = some ⟨g, off, none⟩ ∧ w.cell? ⟨g, off + i, none⟩ = some (.int .i64 (((bdy (cs.take i)).length : Nat) : Int)) := by
   rcases hsl.hat with h0 | ⟨g, off, e, _, hc⟩
   ·omega
   ·refine ⟨g, off, e, ?_⟩
    rw [← hg]
    exact hc i (by omega)
  have hiI : ¬ (i : Int) = (cs.length : Int) := by omega
  have hlI : (i : Int) < (cs.length : Int) := by omega
  have hlN : i < cs.length := by omega
  generalize (bdy (cs.take i)).length = r at *
  generalize (bdy cs).length = bn at *
  generalize cs.length = sn at *
  clear h hst hsl hg
  go_enter Tryz.func114, Tryz.ntmps114
  go_wp2
  go_ret
  exact ⟨rfl, rfl⟩
theorem sts_mid (cs ns : List Cl) (i j F : Nat) (hij : i ≤ j) (hj : j ≤ cs.length) (hF : F = (bdy (cs.take i)).length) (q : Nat) (h1 : i + ns.length ≤ q) (h2 : q < i + ns.length + (cs.length - j)) :
  (((sts 0 cs).take i ++ sts F ns ++ (sts 0 cs).drop j).getD q 0 : Int) + (((bdy ns).length : Int) - (((bdy (cs.take j)).length : Int) - (F : Int))) = ((sts 0 (cs.take i ++ ns ++ cs.drop j)).getD q 0 : Int) := by
 have hti : ((sts 0 cs).take i).length = i := by rw [List.length_take, sts_length]; omega
 obtain ⟨t, rfl⟩ : ∃ t, q = i + ns.length + t := ⟨q - i - ns.length, by omega⟩
 have e1 : ((sts 0 cs).take i ++ sts F ns ++ (sts 0 cs).drop j).getD (i + ns.length + t) 0 = (bdy (cs.take (j + t))).length := by
  have := sts_get 0 (j + t) cs (by omega)
  rw [Nat.zero_add] at this
  rw [← this]
  simp only [List.getD]
  rw [List.getElem?_append_right (by rw [List.length_append, hti, sts_length]; omega), List.length_append, hti, sts_length, List.getElem?_drop, show j + (i + ns.length + t - (i + ns.length)) = j + t by omega]
 have hil : (cs.take i).length = i := by rw [List.length_take]; omega
 have e2 : (sts 0 (cs.take i ++ ns ++ cs.drop j)).getD (i + ns.length + t) 0 = (bdy (cs.take i)).length + (bdy ns).length + (bdy ((cs.drop j).take t)).length := by
  have := sts_get 0 (i + ns.length + t) (cs.take i ++ ns ++ cs.drop j) (by simp only [List.length_append, List.length_drop, hil]; omega)
  rw [Nat.zero_add] at this
  rw [this, List.take_append, List.take_of_length_le (by simp only [List.length_append, hil]; omega), bdy_append, bdy_append, List.length_append, List.length_append]
  simp only [List.length_append, hil]
  rw [show i + ns.length + t - (i + ns.length) = t by omega]
 have e3 : (bdy (cs.take (j + t))).length = (bdy (cs.take j)).length + (bdy ((cs.drop j).take t)).length := by
  rw [List.take_add, bdy_append, List.length_append]
 rw [e1, e2, e3, hF]
 omega
theorem sts_pre (cs ns : List Cl) (i j F : Nat) (hij : i ≤ j) (hj : j ≤ cs.length) (hF : F = (bdy (cs.take i)).length) : ((sts 0 cs).take i ++ sts F ns ++ (sts 0 cs).drop j).take (i + ns.length) = (sts 0 (cs.take i ++ ns ++ cs.drop j)).take (i + ns.length) := by
 have hti : ((sts 0 cs).take i).length = i := by rw [List.length_take, sts_length]; omega
 have hil : (cs.take i).length = i := by rw [List.length_take]; omega
 have e0 : (sts 0 cs).take i = sts 0 (cs.take i) := by
  conv => lhs; arg 2; rw [← List.take_append_drop i cs, sts_append]
  rw [List.take_left' (by rw [sts_length, hil])]
 rw [List.take_left' (by rw [List.length_append, hti, sts_length]), sts_append, sts_append, List.take_left' (by rw [List.length_append, sts_length, sts_length, hil]), e0, Nat.zero_add, hF]
set_option maxHeartbeats 8000000 in
theorem replace_any (w : World) (B a : Nat) (k : Int) (n : Nat) (vb vs : Value) (cs : List Cl) (i j : Nat) (co : Option Addr) (cn cc : Nat) (ns : List Cl) (hp : Po w B a k n vb vs cs) (hij : i ≤ j) (hj : j ≤ cs.length) (hs : SlC w co cn cc ns) (hf : ∀ c ∈ ns, c.fit) (hz : szN cs ≤ 65536) (hz2 : szN ns ≤ 65536) (hm : i < j ∨ 0 < cn) (hB : B ≤ w.heap.size) :
  Calls Tryz.prog 83 #[.pointer (some ⟨a, 0, none⟩), .int .i64 (i : Int), .int .i64 (j : Int), .slice co cn cc] w fun e w' => e = .returned (.tuple #[]) ∧ Hid (∃ vb' vs', Po w' B a k n vb' vs' (cs.take i ++ ns ++ cs.drop j) ∧ (vb'.ownBlock = vb.ownBlock ∨ ∃ g, vb'.ownBlock = some g ∧ w.heap.size ≤ g) ∧ (vs'.ownBlock = vs.ownBlock ∨ ∃ g, vs'.ownBlock = some g ∧ w.heap.size ≤ g)) ∧ Hid (Cf (PZ a vb vs) w w') := by
 have hzc := szN_eq cs
 have hzn := szN_eq ns
 have hlen := hs.hlen
 have hcn : cn ≤ 65536 := by omega
 have hcl : cs.length ≤ 65536 := by omega
 have hiI : (i : Int) ≤ 65536 := by omega
 have hjI : (j : Int) ≤ 65536 := by omega
 have HST1 := hidden (start_any w B a k n vb vs cs hp hz i (by omega))
 have HST2 := hidden (start_any w B a k n vb vs cs hp hz j hj)
 obtain ⟨F, hF⟩ : ∃ F, (bdy (cs.take i)).length = F := ⟨_, rfl⟩
 obtain ⟨T, hT⟩ : ∃ T, (bdy (cs.take j)).length = T := ⟨_, rfl⟩
 rw [hF] at HST1
 rw [hT] at HST2
 have hFle : F ≤ 65536 := by rw [← hF]; have := bdy_take_le cs i; omega
 have hTle : T ≤ 65536 := by rw [← hT]; have := bdy_take_le cs j; omega
 have hFT : F ≤ T := by
  rw [← hF, ← hT]
  have := bdy_take_le (cs.take j) i
  rwa [List.take_take, Nat.min_eq_left hij] at this
 have hFI : (F : Int) ≤ 65536 := by omega
 have hTI : (T : Int) ≤ 65536 := by omega
 have HST : Hid (∀ x y : Nat, (x = i ∧ y = F) ∨ (x = j ∧ y = T) → Calls Tryz.prog 114 #[.pointer (some ⟨a, 0, none⟩), .int .i64 (x : Int)] w fun e w' => e = .returned (.int .i64 (y : Int)) ∧ w' = w) := hidden (by
  rintro x y (⟨rfl, rfl⟩ | ⟨rfl, rfl⟩)
  ·exact HST1.out
  ·exact HST2.out)
 clear HST1 HST2
 have HFE := hidden hF
 have HTE := hidden hT
 have HP := hidden hp
 have HS := hidden hs
 have HFIT := hidden hf
 have HBL : Hid ((bdy ns).length ≤ 65536) := hidden (by omega)
 have HLEN := hidden hlen
 obtain ⟨B0, hB0⟩ : ∃ B0, w.heap.size = B0 := ⟨_, rfl⟩
 have HB := hidden hB0
 have HBB := hidden hB
 clear hp hs hf hlen hF hT hB0 hB hzc hzn
 go_enter Tryz.func83, Tryz.ntmps83
 go_wp2_with (first | (go_at_call 114; refine same_call (HST.out _ _ (by first | exact .inl ⟨rfl, rfl⟩ | exact .inr ⟨rfl, rfl⟩)) ?_))
 go_loopw [10, 11, 24] (fun vb vs ix wr => ∃ (q : Nat) (bo : Option Addr) (bn bc : Nat) (so : Option Addr) (sn sc : Nat), q ≤ cn ∧ ix = .int .i64 q ∧ vb = .slice bo bn bc ∧ vs = .slice so sn sc ∧ Hid (OwnB wr B0 (.slice bo bn bc) (bdy (ns.take q))) ∧ Hid (OwnN wr B0 (.slice so sn sc) (sts F (ns.take q))) ∧ Hid (Below B0 w wr)) (fun _ _ ix _ => cn - (intOf ix).toNat)
 case atStart => exact ⟨0, none, 0, 0, none, 0, 0, by omega, rfl, rfl, rfl, hidden (by simpa [bdy] using OwnB.nil w B0), hidden (by simpa [sts] using OwnN.nil w B0), hidden (Below.refl _ _)⟩
 case round =>
  obtain ⟨q, bo, bn, bc, so, sn, sc, hq, rfl, rfl, rfl, HOB, HON, HBE⟩ := hrel
  clear HST
  have bj : (q : Int) ≤ 65536 := by omega
  by_cases hlt : q < cn
  ·have hltI : (q : Int) < (cn : Int) := by omega
   obtain ⟨b, off, c, ka, kc, va, vc, rfl, hb, hci, c0, c1, c2, c3, c4, hk, hv⟩ := HS.out.item q hlt
   have hbw := HBE.out
   rw [← HB.out] at hbw
   have d0 := (hbw.cell (p := ⟨b, off + q * 5, none⟩) hb).trans c0
   have d1 := (hbw.cell (p := ⟨b, off + q * 5 + 1, none⟩) hb).trans c1
   have d2 := (hbw.cell (p := ⟨b, off + q * 5 + 2, none⟩) hb).trans c2
   have d3 := (hbw.cell (p := ⟨b, off + q * 5 + 3, none⟩) hb).trans c3
   have d4 := (hbw.cell (p := ⟨b, off + q * 5 + 4, none⟩) hb).trans c4
   have HK := hidden hk
   have HV := hidden hv
   have hcf := HFIT.out c (List.mem_of_getElem? hci)
   have HCF := hidden hcf
   have HTK : Hid (bdy (ns.take (q + 1)) = bdy (ns.take q) ++ cB c ∧ sts F (ns.take (q + 1)) = sts F (ns.take q) ++ [F + bn]) := by
    have e : ns.take (q + 1) = ns.take q ++ [c] := by rw [List.take_add_one, hci]; rfl
    have hbn : bn = (bdy (ns.take q)).length := by
     obtain ⟨x, y, hxy⟩ := HOB.out.slice
     injection hxy
    refine hidden ⟨by rw [e, bdy_append]; simp [bdy], ?_⟩
    rw [e, sts_append, hbn]
    rfl
   have hbl2 := bdy_take_le ns q
   have hbn2 : bn ≤ 65536 := by
    obtain ⟨x, y, hxy⟩ := HOB.out.slice
    injection hxy with _ h2
    have := HBL.out
    omega
   have bbn : (bn : Int) ≤ 65536 := by omega
   have hFb : (F : Int) ≤ 65536 := by omega
   have HBNL : Hid ((bdy (ns.take q)).length ≤ 65536) := hidden (Nat.le_trans hbl2 HBL.out)
   have HSTL : Hid ((sts F (ns.take q)).length + 1 ≤ 1000000) := hidden (by rw [sts_length, List.length_take]; omega)
   obtain ⟨x, hx⟩ : ∃ x, (wr.alloc (.cells #[.slice ka c.key.length kc, .int .i64 c.kd, .slice va c.val.length vc, .int .i64 c.pg, .int .i64 c.ct] 41)).alloc (.cells #[.int .i64 ((F : Int) + (bn : Int))] 3) = x := ⟨_, rfl⟩
   have hbx : Below wr.heap.size wr x := by rw [← hx]; exact bl_al (bl_al (Below.refl _ _) (Nat.le_refl _) _) (Nat.le_refl _) _
   obtain ⟨s, hss⟩ : ∃ s, wr.heap.size = s := ⟨_, rfl⟩
   have HBOX : Hid (C5 x s (.slice ka c.key.length kc) (.int .i64 c.kd) (.slice va c.val.length vc) (.int .i64 c.pg) (.int .i64 c.ct)) := by
    rw [← hx, ← hss]
    exact hidden ((Below.heap_alloc _ _ _ (by simp)).trans (heap_alloc_last wr _))
   have H1 : Hid (∀ i, i < 1 → x.cell? ⟨s + 1, 0 + i, none⟩ = some (.int .i64 (([F + bn].getD i 0 : Nat) : Int))) := by
    rw [← hx, ← hss]
    refine hidden fun i hi => ?_
    obtain rfl : i = 0 := by omega
    simp
   have HON1 := hidden (HON.out.below hbx)
   have HOB1 : Hid (OwnB x B0 (.slice bo bn bc) (bdy (ns.take q))) := hidden (HOB.out.on (Nat.le_refl _) hbx)
   have hBx : B0 ≤ x.heap.size := Nat.le_trans (by rw [← HB.out]; exact hbw.size) hbx.size
   have HBX : Hid (Below B0 w x) := hidden (HBE.out.trans (hbx.mono (by rw [← HB.out]; exact hbw.size)))
   clear hb hci c0 c1 c2 c3 c4 hk hv hcf hbl2 hbx hbw HOB HON HBE
   go_wp2_with (at_builtin; refine app_slN _ rfl _ _ rfl B0 (sts F (ns.take q)) [F + bn] (.slice so sn sc) (s + 1) 0 1 1 rfl rfl HON1.out rfl H1.out HSTL.out hBx ?_; refine Hid.out ?_)
   apply hidden
   intro v2 w2 ho2 g2
   obtain ⟨so2, sc2, rfl, _⟩ := ho2.sln (by rw [List.length_append]; have := HSTL.out; simp; omega)
   obtain ⟨sn2, hsn2⟩ : ∃ sn2, (sts F (ns.take q) ++ [F + bn]).length = sn2 := ⟨_, rfl⟩
   rw [hsn2] at ho2 g2 ⊢
   have HON2 := hidden ho2
   have HB2 : Hid (Below B0 w w2) := hidden (HBX.out.trans (HON1.out.be g2 hBx))
   have HOB2 : Hid (OwnB w2 B0 (.slice bo bn bc) (bdy (ns.take q))) := hidden (World.ownsRow.kept HOB1.out g2.grow (own_bn HOB1.out HON1.out))
   have HBOX2 : Hid (C5 w2 s (.slice ka c.key.length kc) (.int .i64 c.kd) (.slice va c.val.length vc) (.int .i64 c.pg) (.int .i64 c.ct)) := hidden (HBOX.out.gr g2 (HON1.out.apart HBOX.out (by decide)))
   have hB2 : B0 ≤ w2.heap.size := by have := HB2.out.size; have := HB.out; omega
   have hbw2 : Below w.heap.size w w2 := by rw [HB.out]; exact HB2.out
   have HK2 : Hid (Sl w2 ka c.key.length kc c.key) := hidden (HK.out.on (Nat.le_refl _) hbw2)
   have HV2 : Hid (Sl w2 va c.val.length vc c.val) := hidden (HV.out.on (Nat.le_refl _) hbw2)
   have hob : OwnB w2 w.heap.size (.slice bo bn bc) (bdy (ns.take q)) := by rw [HB.out]; exact HOB2.out
   have HT := hidden (appended_any (.slice bo bn bc) B0 (bdy (ns.take q)) ka c.key.length kc c.kd va c.val.length vc c.pg c.ct c.key c.val w2 HOB2.out hB2 HK2.out HV2.out (HK.out.far hob) (HV.out.far hob) HCF.out.pg HCF.out.ct (by have := HBNL.out; have := HCF.out.key; have := HCF.out.val; omega))
   obtain ⟨c0, c1, c2, c3, c4⟩ := HBOX2.out.cells
   clear ho2 g2 hsn2 hbw2 hob hx hss H1 HON1 HOB1 HBOX d0 d1 d2 d3 d4 hBx HBX
   go_wp2_with (first | (go_at_call 115; refine HT.out.mono ?_; rintro e w3 ⟨v3, rfl, HO3, HG3⟩; refine Hid.out ?_))
   apply hidden
   obtain ⟨bo3, bc3, rfl⟩ := HO3.out.slice
   obtain ⟨bn3, hbn3⟩ : ∃ bn3, (bdy (ns.take q) ++ cB ⟨c.key, c.kd, c.val, c.pg, c.ct⟩).length = bn3 := ⟨_, rfl⟩
   rw [hbn3] at HO3 HG3 ⊢
   have HON3 : Hid (OwnN w3 B0 (.slice so2 sn2 sc2) (sts F (ns.take q) ++ [F + bn])) := hidden (World.ownsRow.kept HON2.out HG3.out.grow (by
    rcases own_bn HOB2.out HON2.out with h | h
    ·cases hv : (Value.slice so2 sn2 sc2).ownBlock with
     | none => exact .inl rfl
     | some q => right; rw [h]; simp
    ·exact .inr (fun e => h e.symm)))
   have HB3 : Hid (Below B0 w w3) := hidden (HB2.out.trans (HG3.out.below HOB2.out hB2))
   have HOB3 : Hid (OwnB w3 B0 (.slice bo3 bn3 bc3) (bdy (ns.take (q + 1)))) := hidden (by rw [HTK.out.1]; exact HO3.out)
   have HON4 : Hid (OwnN w3 B0 (.slice so2 sn2 sc2) (sts F (ns.take (q + 1)))) := hidden (by rw [HTK.out.2]; exact HON3.out)
   clear HT HO3 HG3 hbn3 c0 c1 c2 c3 c4 HBOX2 HK2 HV2 HOB2 HON2 HON3
   go_wp2
   go_roundw
   case rel => exact ⟨q + 1, bo3, bn3, bc3, so2, sn2, sc2, by omega, by go_num, rfl, rfl, HOB3, HON4, HB3⟩
   case measure => simp [intOf]; omega
  ·obtain rfl : q = cn := by omega
   have hlI : ¬ (q : Int) < (q : Int) := by omega
   have htk : ns.take q = ns := List.take_of_length_le (by rw [HLEN.out]; exact Nat.le_refl _)
   rw [htk] at HOB HON
   have hbw : Below w.heap.size w wr := by rw [HB.out]; exact HBE.out
   have HPr := hidden (HP.out.on hbw)
   obtain ⟨po, pc, hvb⟩ := HP.out.body.slice
   obtain ⟨ta, tc, hvs⟩ := HP.out.starts.shape
   rw [sts_length] at hvs
   obtain ⟨bl, hbl⟩ : ∃ bl, (bdy cs).length = bl := ⟨_, rfl⟩
   obtain ⟨sl, hsl⟩ : ∃ sl, cs.length = sl := ⟨_, rfl⟩
   rw [hbl] at hvb
   rw [hsl] at hvs
   subst hvb
   subst hvs
   have hzc := szN_eq cs
   have hblb : bl ≤ 65536 := by omega
   have hslb : sl ≤ 65536 := by omega
   have hTbl : T ≤ bl := by rw [← hbl, ← HTE.out]; exact bdy_take_le cs j
   have hbnE : (bdy ns).length = bn := by
    obtain ⟨x, y, hxy⟩ := HOB.out.slice
    injection hxy with _ h2 _
    exact h2.symm
   have hsnE : ns.length = sn := by
    obtain ⟨x, y, hxy⟩ := HON.out.shape
    injection hxy with _ h2 _
    rw [h2, sts_length]
   have hqsn : q = sn := by rw [← hsnE, HLEN.out]
   have hbnb : bn ≤ 65536 := by have := HBL.out; omega
   have hFTlt : F < T ∨ 0 < bn := by
    rcases hm with h | h
    ·left
     have e : bdy (cs.take j) = bdy (cs.take i) ++ bdy ((cs.take j).drop i) := by
      rw [← bdy_append]
      conv => lhs; rw [← List.take_append_drop i (cs.take j), List.take_take, Nat.min_eq_left hij]
     have hne : 0 < ((cs.take j).drop i).length := by simp; omega
     have hpos := bdy_pos ((cs.take j).drop i) hne
     have := congrArg List.length e
     rw [List.length_append, HTE.out, HFE.out] at this
     omega
    ·right
     have := bdy_pos ns (by rw [HLEN.out]; omega)
     omega
   have HRB : Hid (Calls Tryz.prog 116 #[.slice po bl pc, .int .i64 (F : Int), .int .i64 (T : Int), .slice bo bn bc] wr (RB.To wr B (.slice po bl pc) (F + bn + (bl - T)) ((By (bdy cs)).take F ++ By (bdy ns) ++ (By (bdy cs)).drop T))) := hidden (by
    have h1 := HPr.out.body
    have h2 := HOB.out
    unfold OwnB at h1 h2
    rw [hbl] at h1
    rw [hbnE] at h2
    refine RB.rep_any wr B B0 bl bn F T _ _ _ _ h1 h2 (By_one _) (By_one _) ?_ hFT hTbl (by omega) (Nat.le_trans HBB.out hbw.size) hFTlt
    cases e : (Value.slice bo bn bc).ownBlock with
    | none => exact .inl rfl
    | some z =>
     right
     intro e2
     have a1 := (h2.lt z e).1
     have h3 := HP.out.body
     unfold OwnB at h3
     have a2 := (h3.lt z e2.symm).2
     have := HB.out
     omega)
   obtain ⟨c0, c1, c2, c3⟩ := HPr.out.row.cells
   have HWB : Hid (Below w.heap.size w wr) := hidden hbw
   clear htk hbw hzc
   have HQ := hidden hqsn
   clear hqsn
   go_wp2_with (first | (go_at_call 116; refine HRB.out.mono ?_; rintro e w2 ⟨b2o, b2c, rfl, HO2, HG2⟩; refine Hid.out ?_))
   apply hidden
   obtain ⟨L2, hL2⟩ : ∃ L2, F + bn + (bl - T) = L2 := ⟨_, rfl⟩
   rw [hL2] at HO2 HG2 ⊢
   have HBD : Hid (bdy (cs.take i ++ ns ++ cs.drop j) = (bdy cs).take F ++ bdy ns ++ (bdy cs).drop T) := hidden (by
    rw [bdy_append, bdy_append, ← HFE.out, ← HTE.out, bdy_take, bdy_drop])
   have HOB2 : Hid (OwnB w2 B (.slice b2o L2 b2c) (bdy (cs.take i ++ ns ++ cs.drop j))) := hidden (by
    have hl : (bdy (cs.take i ++ ns ++ cs.drop j)).length = L2 := by
     rw [HBD.out]
     simp only [List.length_append, List.length_take, List.length_drop, hbl, hbnE]
     omega
    have := HO2.out
    rw [By_take, By_drop, ← By_append, ← By_append, ← HBD.out] at this
    unfold OwnB
    rw [hl]
    exact this)
   have hpr := HPr.out.row
   unfold PR at hpr
   have hnb : ∀ z, (Value.slice po bl pc).ownBlock = some z → ∃ cs fz, wr.heap[z]? = some (.cells cs 5 fz) := fun z hz => by
    have h1 := HPr.out.body
    unfold OwnB at h1
    rcases h1.2 with ⟨e, _⟩ | ⟨g, cap, cur, e, _, hh, _⟩
    ·rw [e] at hz; cases hz
    ·rw [e] at hz
     injection hz with hz
     have hz' : g = z := hz
     subst hz'
     exact ⟨_, _, hh⟩
   have HR2 : Hid (PR w2 a k n (.slice po bl pc) (.slice ta sl tc)) := hidden ((HG2.out.grow.block a (lt_some hpr) (fun e => by
    obtain ⟨x, y, h⟩ := hnb a e.symm
    rw [hpr] at h
    simp at h)).trans hpr)
   have hNk : ∀ {D : Nat} {v : Value} {l : List Nat}, OwnN wr D v l → OwnN w2 D v l := fun {D v l} h => by
    refine World.ownsRow.kept h HG2.out.grow ?_
    cases e : v.ownBlock with
    | none => exact .inl rfl
    | some z =>
     right
     intro e2
     obtain ⟨x, y, hh⟩ := hnb z e2.symm
     exact h.apart hh (by decide) e
   have HS2 := hidden (hNk HPr.out.starts)
   have HN2 := hidden (hNk HON.out)
   clear c0 c1 c2 c3 HRB hpr hnb hNk HPr HO2 HON HOB
   obtain ⟨c0, c1, c2, c3⟩ := HR2.out.cells
   have f2 := HR2.out.free 2
   obtain ⟨u3, hu3⟩ : ∃ u3, w2.setCell ⟨a, 2, none⟩ (.slice b2o L2 b2c) = u3 := ⟨_, rfl⟩
   have hset : ∀ x, Cf (· = a) w2 (w2.setCell ⟨a, 2, none⟩ x) := fun x => Cf.set w2 a 2 x
   have hrow2 := HR2.out
   unfold PR at hrow2
   have HR3 : Hid (PR u3 a k n (.slice b2o L2 b2c) (.slice ta sl tc)) := hidden (by rw [← hu3]; exact HR2.out.set2 _)
   have HS3 : Hid (OwnN u3 B (.slice ta sl tc) (sts 0 cs)) := hidden (by rw [← hu3]; exact HS2.out.cf (hset _) (HS2.out.apart hrow2 (by decide)))
   have HN3 : Hid (OwnN u3 B0 (.slice so sn sc) (sts F ns)) := hidden (by rw [← hu3]; exact HN2.out.cf (hset _) (HN2.out.apart hrow2 (by decide)))
   have HB3 : Hid (OwnB u3 B (.slice b2o L2 b2c) (bdy (cs.take i ++ ns ++ cs.drop j))) := hidden (by
    rw [← hu3]
    refine World.ownsRow.kept (row := some a) HOB2.out ⟨rfl, rfl, rfl, by simp [World.setCell], fun z _ hz => Below.heap_setCell _ _ _ _ (fun e => hz (by rw [e]))⟩ (.inr fun e => ?_)
    have h1 := HOB2.out
    unfold OwnB at h1
    rcases h1.2 with ⟨e1, _⟩ | ⟨g, cap, cur, e1, _, hh, _⟩
    ·rw [e1] at e; cases e
    ·rw [e1] at e
     injection e with e
     have e' : g = a := e
     subst e'
     rw [hrow2] at hh
     simp at hh)
   have HC3 : Hid (Cf (PZ a (.slice po bl pc) (.slice ta sl tc)) w u3) := hidden (by
    rw [← hu3]
    refine (Cf.of_below HWB.out).trans (G := PZ a (.slice po bl pc) (.slice ta sl tc)) ?_ (fun _ _ h => h)
    refine (show Cf (PZ a (.slice po bl pc) (.slice ta sl tc)) wr w2 from ⟨HG2.out.grow.os, HG2.out.grow.tape, HG2.out.grow.output, HG2.out.grow.size, fun z hz hn => HG2.out.grow.block z hz (fun e => hn (.inr (.inl e.symm)))⟩).trans (hset _) (fun z _ h => .inl h))
   have HW3 : Hid (w.heap.size ≤ u3.heap.size) := hidden HC3.out.size
   have HRN : Hid (Calls Tryz.prog 117 #[.slice ta sl tc, .int .i64 (i : Int), .int .i64 (j : Int), .slice so sn sc] u3 (RN.To u3 B (.slice ta sl tc) (i + sn + (sl - j)) ((NI (sts 0 cs)).take i ++ NI (sts F ns) ++ (NI (sts 0 cs)).drop j))) := hidden (by
    have h1 := HS3.out
    have h2 := HN3.out
    unfold OwnN at h1 h2
    rw [sts_length] at h1 h2
    rw [hsl] at h1
    rw [hsnE] at h2
    refine RN.rep_any u3 B B0 sl sn i j _ _ _ _ h1 h2 (NI_one _) (NI_one _) ?_ hij (by omega) (by have := HQ.out; omega) (Nat.le_trans HBB.out HW3.out) (by rw [← HQ.out]; exact hm)
    cases e : (Value.slice so sn sc).ownBlock with
    | none => exact .inl rfl
    | some z =>
     right
     intro e2
     have a1 := (h2.lt z e).1
     have h3 := HP.out.starts
     unfold OwnN at h3
     have a2 := (h3.lt z e2.symm).2
     have := HB.out
     omega)
   have HV2 : Hid ((Value.slice b2o L2 b2c).ownBlock = (Value.slice po bl pc).ownBlock ∨ ∃ g, (Value.slice b2o L2 b2c).ownBlock = some g ∧ w.heap.size ≤ g) := hidden (HG2.out.own.imp id fun ⟨g, h1, h2⟩ => ⟨g, h1, Nat.le_trans HWB.out.size h2⟩)
   clear hset hrow2 HR2 HS2 HN2 HOB2 HG2
   obtain ⟨d0, d1, d2, d3⟩ := HR3.out.cells
   go_wp2_with (first | (go_at_call 117; refine HRN.out.mono ?_; rintro e w4 ⟨s4o, s4c, rfl, HO4, HG4⟩; refine Hid.out ?_))
   apply hidden
   obtain ⟨N4, hN4⟩ : ∃ N4, i + sn + (sl - j) = N4 := ⟨_, rfl⟩
   rw [hN4] at HO4 HG4 ⊢
   have hN4b : N4 ≤ 131072 := by have := HQ.out; omega
   obtain ⟨S0, hS0⟩ : ∃ S0, (sts 0 cs).take i ++ sts F ns ++ (sts 0 cs).drop j = S0 := ⟨_, rfl⟩
   obtain ⟨S1, hS1⟩ : ∃ S1, sts 0 (cs.take i ++ ns ++ cs.drop j) = S1 := ⟨_, rfl⟩
   have HL0 : Hid (S0.length = N4) := hidden (by rw [← hS0]; simp only [List.length_append, List.length_take, List.length_drop, sts_length, hsl, hsnE]; omega)
   have HN4L : Hid (i + sn ≤ N4) := hidden (by omega)
   have HL1 : Hid (S1.length = N4) := hidden (by rw [← hS1, sts_length]; simp only [List.length_append, List.length_take, List.length_drop, hsl, hsnE]; omega)
   have HPRE : Hid (S0.take (i + sn) = S1.take (i + sn)) := hidden (by rw [← hS0, ← hS1, ← hsnE]; exact sts_pre cs ns i j F hij hj HFE.out.symm)
   have HMID : Hid (∀ q, i + sn ≤ q → q < N4 → ((S0.getD q 0 : Nat) : Int) + ((bn : Int) - ((T : Int) - (F : Int))) = ((S1.getD q 0 : Nat) : Int)) := hidden (fun q h1 h2 => by
    rw [← hS0, ← hS1, ← hbnE, ← HTE.out]
    exact sts_mid cs ns i j F hij hj HFE.out.symm q (by rw [hsnE]; exact h1) (by rw [hsnE, hsl]; omega))
   have HS0B : Hid (∀ q, i + sn ≤ q → q < N4 → S1.getD q 0 ≤ 131072 ∧ S0.getD q 0 ≤ 131072) := hidden (fun q h1 h2 => by
    have hm1 := HMID.out q h1 h2
    have h3 : S1.getD q 0 ≤ 131072 := by
     rw [← hS1, sts_get 0 q _ (by rw [← sts_length 0, hS1, HL1.out]; exact h2), Nat.zero_add]
     have h4 := bdy_take_le (cs.take i ++ ns ++ cs.drop j) q
     have h5 : (bdy (cs.take i ++ ns ++ cs.drop j)).length = L2 := by
      rw [HBD.out]
      simp only [List.length_append, List.length_take, List.length_drop, hbl, hbnE]
      omega
     omega
    refine ⟨h3, ?_⟩
    have : S0.getD q 0 ≤ bl := by
     rw [← hS0, ← hbl]
     obtain ⟨t, rfl⟩ : ∃ t, q = i + sn + t := ⟨q - (i + sn), by omega⟩
     have hti : ((sts 0 cs).take i).length = i := by rw [List.length_take, sts_length]; omega
     have := sts_get 0 (j + t) cs (by omega)
     rw [Nat.zero_add] at this
     simp only [List.getD] at this ⊢
     rw [List.getElem?_append_right (by rw [List.length_append, hti, sts_length, hsnE]; omega), List.length_append, hti, sts_length, hsnE, List.getElem?_drop, show j + (i + sn + t - (i + sn)) = j + t by omega, this]
     exact bdy_take_le cs (j + t)
    omega)
   have HN4 : Hid (OwnN w4 B (.slice s4o N4 s4c) S0) := hidden (by
    have := HO4.out
    rw [NI_take, NI_drop, ← NI_append, ← NI_append, hS0] at this
    unfold OwnN
    rw [HL0.out]
    exact this)
   have HS1E := hidden hS1
   have hpr := HR3.out
   unfold PR at hpr
   have hnb : ∀ z, (Value.slice ta sl tc).ownBlock = some z → ∃ cs fz, u3.heap[z]? = some (.cells cs 3 fz) := fun z hz => by
    have h1 := HS3.out
    unfold OwnN at h1
    rcases h1.2 with ⟨e, _⟩ | ⟨g, cap, cur, e, _, hh, _⟩
    ·rw [e] at hz; cases hz
    ·rw [e] at hz
     injection hz with hz
     have hz' : g = z := hz
     subst hz'
     exact ⟨_, _, hh⟩
   have HR4 : Hid (PR w4 a k n (.slice b2o L2 b2c) (.slice ta sl tc)) := hidden ((HG4.out.grow.block a (lt_some hpr) (fun e => by
    obtain ⟨x, y, h⟩ := hnb a e.symm
    rw [hpr] at h
    simp at h)).trans hpr)
   have HB4 : Hid (OwnB w4 B (.slice b2o L2 b2c) (bdy (cs.take i ++ ns ++ cs.drop j))) := hidden (by
    refine World.ownsRow.kept HB3.out HG4.out.grow ?_
    exact own_bn HB3.out HS3.out)
   have HV4 : Hid ((Value.slice s4o N4 s4c).ownBlock = (Value.slice ta sl tc).ownBlock ∨ ∃ g, (Value.slice s4o N4 s4c).ownBlock = some g ∧ w.heap.size ≤ g) := hidden (HG4.out.own.imp id fun ⟨g, h1, h2⟩ => ⟨g, h1, Nat.le_trans HW3.out h2⟩)
   have HC4 : Hid (Cf (PZ a (.slice po bl pc) (.slice ta sl tc)) w w4) := hidden (HC3.out.trans (G := PZ a (.slice po bl pc) (.slice ta sl tc)) ⟨HG4.out.grow.os, HG4.out.grow.tape, HG4.out.grow.output, HG4.out.grow.size, fun z hz hn => HG4.out.grow.block z hz (fun e => hn (.inr (.inr e.symm)))⟩ (fun _ _ h => h))
   have hrow4 := HR4.out
   unfold PR at hrow4
   obtain ⟨u5, hu5⟩ : ∃ u5, w4.setCell ⟨a, 3, none⟩ (.slice s4o N4 s4c) = u5 := ⟨_, rfl⟩
   have HR5 : Hid (PR u5 a k n (.slice b2o L2 b2c) (.slice s4o N4 s4c)) := hidden (by rw [← hu5]; exact HR4.out.set3 _)
   have HN5 : Hid (OwnN u5 B (.slice s4o N4 s4c) S0) := hidden (by rw [← hu5]; exact HN4.out.cf (Cf.set w4 a 3 _) (HN4.out.apart hrow4 (by decide)))
   have HB5 : Hid (OwnB u5 B (.slice b2o L2 b2c) (bdy (cs.take i ++ ns ++ cs.drop j))) := hidden (by
    rw [← hu5]
    refine World.ownsRow.kept (row := some a) HB4.out ⟨rfl, rfl, rfl, by simp [World.setCell], fun z _ hz => Below.heap_setCell _ _ _ _ (fun e => hz (by rw [e]))⟩ (.inr fun e => ?_)
    have h1 := HB4.out
    unfold OwnB at h1
    rcases h1.2 with ⟨e1, _⟩ | ⟨g, cap, cur, e1, _, hh, _⟩
    ·rw [e1] at e; cases e
    ·rw [e1] at e
     injection e with e
     have e' : g = a := e
     subst e'
     rw [hrow4] at hh
     simp at hh)
   have HC5 : Hid (Cf (PZ a (.slice po bl pc) (.slice ta sl tc)) w u5) := hidden (by rw [← hu5]; exact HC4.out.trans (Cf.set w4 a 3 _) (fun z _ h => .inl h))
   obtain ⟨x0, x1, x2, x3⟩ := HR4.out.cells
   have f3 := HR4.out.free 3
   obtain ⟨Gi, hGi⟩ : ∃ Gi : Int, (bn : Int) - ((T : Int) - (F : Int)) = Gi := ⟨_, rfl⟩
   rw [hGi] at HMID
   have hGib : -131072 ≤ Gi ∧ Gi ≤ 131072 := by omega
   have hbnI : (bn : Int) ≤ 65536 := by omega
   have hsnI : (sn : Int) ≤ 65536 := by have := HQ.out; omega
   have hsnN : q = sn := HQ.out
   subst hsnN
   clear hS0 hS1 hN4 hL2 hpr hnb hrow4 d0 d1 d2 d3 c0 c1 c2 c3 f2 HRN HO4 HG4 HR3 HS3 HN3 HB3 HC3 HW3 HR4 HB4 HN4 HC4 hbnE hsnE hbl hsl
   have HIN : Hid (i + q ≤ N4) := hidden (by have := HL0.out; have := HN4L.out; omega)
   go_wp2_with fail
   clear x0 x1 x2 x3 f3
   obtain ⟨wo, hwo⟩ : ∃ wo, wo = wr := ⟨_, rfl⟩
   subst hwo
   go_loopw [15] (fun kx wq => ∃ t : Nat, i + q ≤ t ∧ t ≤ N4 ∧ kx = .int .i64 (t : Int) ∧ Hid (OwnN wq B (.slice s4o N4 s4c) (S1.take t ++ S0.drop t)) ∧ Hid (PR wq a k n (.slice b2o L2 b2c) (.slice s4o N4 s4c)) ∧ Hid (OwnB wq B (.slice b2o L2 b2c) (bdy (cs.take i ++ ns ++ cs.drop j))) ∧ Hid (Cf (PZ a (.slice po bl pc) (.slice ta sl tc)) w wq)) (fun kx _ => N4 - (intOf kx).toNat)
   case atStart =>
    refine ⟨i + q, Nat.le_refl _, HIN.out, by go_num, ?_, ?_, ?_, ?_⟩
    all_goals (try rw [hu5])
    ·exact hidden (by rw [← HPRE.out, List.take_append_drop]; exact HN5.out)
    ·exact HR5
    ·exact HB5
    ·exact HC5
   case round =>
    obtain ⟨t, ht1, ht2, rfl, HNt, HRt, HBt, HCt⟩ := hrel
    clear HN5 HR5 HB5 HC5 hu5
    have htI : (t : Int) ≤ 131072 := by omega
    obtain ⟨x0, x1, x2, x3⟩ := HRt.out.cells
    by_cases hlt : t < N4
    ·have hltI : (t : Int) < (N4 : Int) := by omega
     have hNt := HNt.out
     unfold OwnN at hNt
     have hll : (S1.take t ++ S0.drop t).length = N4 := by
      rw [List.length_append, List.length_take, List.length_drop, HL0.out, HL1.out]
      omega
     rw [hll] at hNt
     obtain ⟨g, rfl, hBg, hgn⟩ : ∃ g, s4o = some ⟨g, 0, none⟩ ∧ B ≤ g ∧ g ≠ a := by
      rcases hNt.2 with ⟨_, h0⟩ | ⟨g, cap, cur, e, h1, hh, _⟩
      ·omega
      ·injection e with e1 _ _
       refine ⟨g, e1, h1, fun e2 => ?_⟩
       have hr := HRt.out
       unfold PR at hr
       rw [← e2, hh] at hr
       simp at hr
     have hgx : (S1.take t ++ S0.drop t)[t]? = some (S0.getD t 0) := by
      rw [List.getElem?_append_right (by rw [List.length_take]; omega), List.length_take, List.getElem?_drop, HL1.out, show t + (t - min t N4) = t by omega]
      simp [List.getD, List.getElem?_eq_getElem (show t < S0.length by rw [HL0.out]; exact hlt)]
     have hcell : wr.cell? ⟨g, t, none⟩ = some (.int .i64 ((S0.getD t 0 : Nat) : Int)) := by
      rw [hNt.cellAt t (by omega)]
      unfold NI
      rw [List.getElem?_map, hgx]
      rfl
     have hfr : wr.frozen? ⟨g, t, none⟩ = false := hNt.frozenAt t
     have hadd := HMID.out t ht1 hlt
     have hbd := HS0B.out t ht1 hlt
     obtain ⟨hst, hgr⟩ := hNt.stored t (.int .i64 ((S1.getD t 0 : Nat) : Int))
     have HN' : Hid (OwnN (wr.setCell ⟨g, t, none⟩ (.int .i64 ((S1.getD t 0 : Nat) : Int))) B (.slice (some ⟨g, 0, none⟩) N4 s4c) (S1.take (t + 1) ++ S0.drop (t + 1))) := hidden (by
      have e : (S1.take t ++ S0.drop t).set t (S1.getD t 0) = S1.take (t + 1) ++ S0.drop (t + 1) := by
       have h1 : t < S1.length := by rw [HL1.out]; exact hlt
       have h0 : t < S0.length := by rw [HL0.out]; exact hlt
       rw [List.set_append_right _ _ (by rw [List.length_take]; omega), List.length_take, show t - min t S1.length = 0 by omega, List.drop_eq_getElem_cons h0, List.set_cons_zero, List.take_add_one, List.getElem?_eq_getElem h1, List.append_assoc]
       simp [List.getD, List.getElem?_eq_getElem h1]
      unfold OwnN
      rw [← e, List.length_set, hll]
      have e2 : NI ((S1.take t ++ S0.drop t).set t (S1.getD t 0)) = (NI (S1.take t ++ S0.drop t)).set t (.int .i64 ((S1.getD t 0 : Nat) : Int)) := by
       unfold NI
       rw [List.map_set]
      rw [e2]
      exact hst)
     have hC1 : Cf (· = g) wr (wr.setCell ⟨g, t, none⟩ (.int .i64 ((S1.getD t 0 : Nat) : Int))) := Cf.set wr g t _
     have HR' : Hid (PR (wr.setCell ⟨g, t, none⟩ (.int .i64 ((S1.getD t 0 : Nat) : Int))) a k n (.slice b2o L2 b2c) (.slice (some ⟨g, 0, none⟩) N4 s4c)) := hidden (HRt.out.cf hC1 (fun e => hgn e.symm))
     have HB' : Hid (OwnB (wr.setCell ⟨g, t, none⟩ (.int .i64 ((S1.getD t 0 : Nat) : Int))) B (.slice b2o L2 b2c) (bdy (cs.take i ++ ns ++ cs.drop j))) := hidden (World.ownsRow.kept HBt.out hgr (by
      have := own_bn HBt.out HNt.out
      exact this))
     have HC' : Hid (Cf (PZ a (.slice po bl pc) (.slice ta sl tc)) w (wr.setCell ⟨g, t, none⟩ (.int .i64 ((S1.getD t 0 : Nat) : Int)))) := hidden (HCt.out.trans hC1 (fun z hz e => by
      subst e
      rcases HV4.out with e | ⟨g', e1, h2⟩
      ·exact .inr (.inr e.symm)
      ·injection e1 with e1
       have : z = g' := e1
       omega))
     obtain ⟨x, hx⟩ : ∃ x : Nat, S0.getD t 0 = x := ⟨_, rfl⟩
     obtain ⟨y, hy⟩ : ∃ y : Nat, S1.getD t 0 = y := ⟨_, rfl⟩
     rw [hx] at hcell hadd hbd
     rw [hy] at HN' HR' HB' HC' hadd hbd
     have hxb : (x : Int) ≤ 131072 := by omega
     have hyb : (y : Int) ≤ 131072 := by omega
     clear hNt hll hgx hst hgr hC1 HNt HRt HBt HCt hx hy hbd
     go_wp2
     go_roundw
     case rel => exact ⟨t + 1, by omega, by omega, by go_num, HN', HR', HB', HC'⟩
     case measure => simp [intOf]; omega
    ·obtain rfl : t = N4 := by omega
     have hltI : ¬ (t : Int) < (t : Int) := by omega
     have HE : Hid (S1.take t ++ S0.drop t = S1) := hidden (by rw [List.take_of_length_le (by rw [HL1.out]; exact Nat.le_refl _), List.drop_eq_nil_of_le (by rw [HL0.out]; exact Nat.le_refl _), List.append_nil])
     go_wp2
     go_returns
     have hPo : Po wr B a k n (.slice b2o L2 b2c) (.slice s4o t s4c) (cs.take i ++ ns ++ cs.drop j) := ⟨HRt.out, HBt.out, by
      have := HNt.out
      rw [HE.out, ← HS1E.out] at this
      exact this⟩
     rw [List.append_assoc] at hPo
     exact ⟨rfl, hidden ⟨_, _, hPo, HV2.out, HV4.out⟩, HCt⟩
def hasP (x : Int) (n : Nat) : Prop := 0 ≤ x ∧ x < (n : Int)
theorem has_any (w : World) (a : Nat) (k : Int) (n : Nat) (vb : Value) (so : Option Addr) (sn sc : Nat) (h : PR w a k n vb (.slice so sn sc)) (x : Int) (b : Bool) (hb : b = true ↔ hasP x sn) :
  Calls Tryz.prog 195 #[.pointer (some ⟨a, 0, none⟩), .int .i64 x] w fun e w' => e = .returned (.bool b) ∧ w' = w := by
 have HL := hidden (lenR_any w a k n vb so sn sc h)
 clear h
 by_cases h0 : 0 ≤ x
 ·by_cases h1 : x < (sn : Int)
  ·have hbt : b = true := hb.2 ⟨h0, h1⟩
   subst hbt
   clear hb
   go_enter Tryz.func195, Tryz.ntmps195
   go_wp2_with (first | (go_at_call 85; refine same_call HL.out ?_))
   go_ret
   exact ⟨ret_bool (by simp), rfl⟩
  ·have hbt : b = false := by
    cases b with
    | false => rfl
    | true => exact absurd (hb.1 rfl).2 h1
   subst hbt
   clear hb
   go_enter Tryz.func195, Tryz.ntmps195
   go_wp2_with (first | (go_at_call 85; refine same_call HL.out ?_))
   go_ret
   exact ⟨ret_bool (by simp; omega), rfl⟩
 ·have hbt : b = false := by
   cases b with
   | false => rfl
   | true => exact absurd (hb.1 rfl).1 h0
  subst hbt
  have h0' : x < 0 := by omega
  clear hb
  go_enter Tryz.func195, Tryz.ntmps195
  go_wp2_with (first | (go_at_call 85; refine same_call HL.out ?_))
  go_ret
  exact ⟨ret_bool (by simp), rfl⟩
end Go.Proofs.YtlhkinlgolcpaaaGreatDoor
