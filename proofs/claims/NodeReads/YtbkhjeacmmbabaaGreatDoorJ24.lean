import Derived.Test.YtbkhjeacmmbabaaGreatDoorJ21
import Derived.Test.YtbkhjeacmmbabaaGreatDoorJ23
import Derived.Deep.RegionWith
import Derived.Laws.MakeOwn
namespace Go.Proofs.YtbkhjeacmmbabaaGreatDoor
set_option maxRecDepth 100000
set_option maxHeartbeats 8000000
open Go.RowKit
structure Po (w : World) (B a : Nat) (k : Int) (n : Nat) (vb vs : Value) (cs : List Cl) : Prop where
 row : PR w a k n vb vs
 body : OwnB w B vb (bdy cs)
 starts : OwnN w B vs (sts 0 cs)
def PZ (a : Nat) (vb vs : Value) (b : Nat) : Prop := b = a ∨ vb.ownBlock = some b ∨ vs.ownBlock = some b
theorem OwnN.shape {w : World} {B : Nat} {v : Value} {l : List Nat} (h : OwnN w B v l) : ∃ ao cap, v = .slice ao l.length cap := by
 unfold OwnN at h
 rcases h.2 with ⟨rfl, h0⟩ | ⟨g, cap, cur, rfl, _⟩
 ·exact ⟨none, 0, by rw [h0]⟩
 ·exact ⟨_, cap, rfl⟩
theorem OwnN.sl2 {w : World} {B : Nat} {ao : Option Addr} {n c : Nat} {l : List Nat} (h : OwnN w B (.slice ao n c) l) (hn : l.length ≤ 140737488355328) : SlN w ao n c l ∧ l.length = n := by
 obtain ⟨x, y, hxy, hsl⟩ := h.sln hn
 injection hxy with e1 e2 e3
 subst e1
 subst e3
 rw [e2]
 exact ⟨hsl, rfl⟩
theorem Po.on {w w' : World} {B a : Nat} {k : Int} {n : Nat} {vb vs : Value} {cs : List Cl} (h : Po w B a k n vb vs cs) (hb : Below w.heap.size w w') : Po w' B a k n vb vs cs := ⟨zag h.row hb, h.body.on Lr hb, h.starts.below hb⟩
theorem Po.pg {w : World} {B a : Nat} {k : Int} {n : Nat} {bo : Option Addr} {bn bc : Nat} {so : Option Addr} {sn sc : Nat} {cs : List Cl} (h : Po w B a k n (.slice bo bn bc) (.slice so sn sc) cs) (hw : ∀ c ∈ cs, c.Wf) (hl : szN cs ≤ 65536) : PgAt w a k n bo bn bc so sn sc cs := by
 have hz := zbb cs
 refine ⟨h.row, ?_, (h.starts.sl2 (by rw [zak]; omega)).1⟩
 obtain ⟨x, y, hxy, hsl, _⟩ := h.body.sl (bdy_wf hw) (by omega)
 injection hxy with e1 e2 e3
 subst e1
 subst e3
 rw [e2]
 exact hsl
theorem By_take (l : List Int) (n : Nat) : (By l).take n = By (l.take n) := by simp [By, List.map_take]
theorem By_drop (l : List Int) (n : Nat) : (By l).drop n = By (l.drop n) := by simp [By, List.map_drop]
theorem NI_take (l : List Nat) (n : Nat) : (NI l).take n = NI (l.take n) := by simp [NI, List.map_take]
theorem NI_drop (l : List Nat) (n : Nat) : (NI l).drop n = NI (l.drop n) := by simp [NI, List.map_drop]
theorem NI_append (a b : List Nat) : NI (a ++ b) = NI a ++ NI b := by simp [NI]
theorem bdy_take (cs : List Cl) (i : Nat) : (bdy cs).take (bdy (cs.take i)).length = bdy (cs.take i) := by
 conv => lhs; arg 2; rw [← List.take_append_drop i cs, zbl]
 exact List.take_left
theorem cB_pos (c : Cl) : 0 < (cB c).length := by
 unfold cB
 split <;> simp
theorem bdy_pos : ∀ (cs : List Cl), 0 < cs.length → 0 < (bdy cs).length
 | [], h => by simp at h
 | c :: r, _ => by
  rw [zbu, zG]
  have := cB_pos c
  omega
theorem start_any (w : World) (B a : Nat) (k : Int) (n : Nat) (vb vs : Value) (cs : List Cl) (h : Po w B a k n vb vs cs) (hl : szN cs ≤ 65536) (i : Nat) (hi : i ≤ cs.length) :
  Calls Tryz.prog 112 #[.pointer (some ⟨a, 0, none⟩), .int .i64 (i : Int)] w fun e w' => e = .returned (.int .i64 ((bdy (cs.take i)).length : Int)) ∧ w' = w := by
 have hz := zbb cs
 obtain ⟨bo, bc, rfl⟩ := h.body.slice
 obtain ⟨so, sc, rfl⟩ := h.starts.shape
 obtain ⟨c0, c1, c2, c3⟩ := h.row.cells
 have hst := h.starts
 rw [zak] at c3 hst
 have hsl := (hst.sl2 (by rw [zak]; omega)).1
 by_cases hin : i = cs.length
 ·have e : (bdy (cs.take i)).length = (bdy cs).length := by rw [List.take_of_length_le (by omega)]
  rw [e]
  subst hin
  generalize (bdy cs).length = bn at *
  generalize cs.length = sn at *
  clear h hst hsl
  go_enter Tryz.func112, Tryz.ntmps112
  go_wp2
  go_ret
  exact ⟨rfl, rfl⟩
 ·have hg := zch 0 i cs (by omega)
  rw [Nat.zero_add] at hg
  obtain ⟨g, off, rfl, cI⟩ : ∃ g off, so = some ⟨g, off, none⟩ ∧ w.cell? ⟨g, off + i, none⟩ = some (.int .i64 (((bdy (cs.take i)).length : Nat) : Int)) := by
   rcases hsl.hat with h0 | ⟨g, off, e, _, hc⟩
   ·omega
   ·refine ⟨g, off, e, ?_⟩
    rw [← hg]
    exact hc i (by omega)
  have hiI : ¬ (i : Int) = (cs.length : Int) := by omega
  have hlI : (i : Int) < (cs.length : Int) := by omega
  have hlN : i < cs.length := by omega
  generalize (bdy (cs.take i)).length = r at *
  generalize (bdy cs).length = bn at *
  generalize cs.length = sn at *
  clear h hst hsl hg
  go_enter Tryz.func112, Tryz.ntmps112
  go_wp2
  go_ret
  exact ⟨rfl, rfl⟩
theorem sts_mid (cs ns : List Cl) (i j F : Nat) (hij : i ≤ j) (hj : j ≤ cs.length) (hF : F = (bdy (cs.take i)).length) (q : Nat) (h1 : i + ns.length ≤ q) (h2 : q < i + ns.length + (cs.length - j)) :
  (((sts 0 cs).take i ++ sts F ns ++ (sts 0 cs).drop j).getD q 0 : Int) + (((bdy ns).length : Int) - (((bdy (cs.take j)).length : Int) - (F : Int))) = ((sts 0 (cs.take i ++ ns ++ cs.drop j)).getD q 0 : Int) := by
 have hti : ((sts 0 cs).take i).length = i := by rw [zJ, zak]; omega
 obtain ⟨t, rfl⟩ : ∃ t, q = i + ns.length + t := ⟨q - i - ns.length, by omega⟩
 have e1 : ((sts 0 cs).take i ++ sts F ns ++ (sts 0 cs).drop j).getD (i + ns.length + t) 0 = (bdy (cs.take (j + t))).length := by
  have := zch 0 (j + t) cs (by omega)
  rw [Nat.zero_add] at this
  rw [← this]
  simp only [List.getD]
  rw [List.getElem?_append_right (by rw [zG, hti, zak]; omega), zG, hti, zak, List.getElem?_drop, show j + (i + ns.length + t - (i + ns.length)) = j + t by omega]
 have hil : (cs.take i).length = i := by rw [zJ]; omega
 have e2 : (sts 0 (cs.take i ++ ns ++ cs.drop j)).getD (i + ns.length + t) 0 = (bdy (cs.take i)).length + (bdy ns).length + (bdy ((cs.drop j).take t)).length := by
  have := zch 0 (i + ns.length + t) (cs.take i ++ ns ++ cs.drop j) (by simp only [zG, zK, hil]; omega)
  rw [Nat.zero_add] at this
  rw [this, List.take_append, List.take_of_length_le (by simp only [zG, hil]; omega), zbl, zbl, zG, zG]
  simp only [zG, hil]
  rw [show i + ns.length + t - (i + ns.length) = t by omega]
 have e3 : (bdy (cs.take (j + t))).length = (bdy (cs.take j)).length + (bdy ((cs.drop j).take t)).length := by
  rw [List.take_add, zbl, zG]
 rw [e1, e2, e3, hF]
 omega
theorem sts_pre (cs ns : List Cl) (i j F : Nat) (hij : i ≤ j) (hj : j ≤ cs.length) (hF : F = (bdy (cs.take i)).length) : ((sts 0 cs).take i ++ sts F ns ++ (sts 0 cs).drop j).take (i + ns.length) = (sts 0 (cs.take i ++ ns ++ cs.drop j)).take (i + ns.length) := by
 have hti : ((sts 0 cs).take i).length = i := by rw [zJ, zak]; omega
 have hil : (cs.take i).length = i := by rw [zJ]; omega
 have e0 : (sts 0 cs).take i = sts 0 (cs.take i) := by
  conv => lhs; arg 2; rw [← List.take_append_drop i cs, zdp]
  rw [List.take_left' (by rw [zak, hil])]
 rw [List.take_left' (by rw [zG, hti, zak]), zdp, zdp, List.take_left' (by rw [zG, zak, zak, hil]), e0, Nat.zero_add, hF]
theorem replace_any (w : World) (B a : Nat) (k : Int) (n : Nat) (vb vs : Value) (cs : List Cl) (i j : Nat) (co : Option Addr) (cn cc : Nat) (ns : List Cl) (hp : Po w B a k n vb vs cs) (hij : i ≤ j) (hj : j ≤ cs.length) (hs : SlC w co cn cc ns) (hf : ∀ c ∈ ns, c.fit) (hz : szN cs ≤ 65536) (hz2 : szN ns ≤ 65536) (hm : i < j ∨ 0 < cn) (hB : B ≤ w.heap.size) :
  Calls Tryz.prog 73 #[.pointer (some ⟨a, 0, none⟩), .int .i64 (i : Int), .int .i64 (j : Int), .slice co cn cc] w fun e w' => e = .returned (.tuple #[]) ∧ Hid (∃ vb' vs', Po w' B a k n vb' vs' (cs.take i ++ ns ++ cs.drop j) ∧ (vb'.ownBlock = vb.ownBlock ∨ ∃ g, vb'.ownBlock = some g ∧ w.heap.size ≤ g) ∧ (vs'.ownBlock = vs.ownBlock ∨ ∃ g, vs'.ownBlock = some g ∧ w.heap.size ≤ g)) ∧ Hid (Cf (PZ a vb vs) w w') := by
 have hzc := zbb cs
 have hzn := zbb ns
 have hlen := hs.hlen
 have hcn : cn ≤ 65536 := by omega
 have hcl : cs.length ≤ 65536 := by omega
 have hiI : (i : Int) ≤ 65536 := by omega
 have hjI : (j : Int) ≤ 65536 := by omega
 have HST1 := zaa (start_any w B a k n vb vs cs hp hz i (by omega))
 have HST2 := zaa (start_any w B a k n vb vs cs hp hz j hj)
 obtain ⟨F, hF⟩ : ∃ F, (bdy (cs.take i)).length = F := ⟨_, rfl⟩
 obtain ⟨T, hT⟩ : ∃ T, (bdy (cs.take j)).length = T := ⟨_, rfl⟩
 rw [hF] at HST1
 rw [hT] at HST2
 have hFle : F ≤ 65536 := by rw [← hF]; have := zcj cs i; omega
 have hTle : T ≤ 65536 := by rw [← hT]; have := zcj cs j; omega
 have hFT : F ≤ T := by
  rw [← hF, ← hT]
  have := zcj (cs.take j) i
  rwa [List.take_take, Nat.min_eq_left hij] at this
 have hFI : (F : Int) ≤ 65536 := by omega
 have hTI : (T : Int) ≤ 65536 := by omega
 have HST : Hid (∀ x y : Nat, (x = i ∧ y = F) ∨ (x = j ∧ y = T) → Calls Tryz.prog 112 #[.pointer (some ⟨a, 0, none⟩), .int .i64 (x : Int)] w fun e w' => e = .returned (.int .i64 (y : Int)) ∧ w' = w) := zaa (by
  rintro x y (⟨rfl, rfl⟩ | ⟨rfl, rfl⟩)
  ·exact HST1.out
  ·exact HST2.out)
 clear HST1 HST2
 have HFE := zaa hF
 have HTE := zaa hT
 have HP := zaa hp
 have HS := zaa hs
 have HFIT := zaa hf
 have HBL : Hid ((bdy ns).length ≤ 65536) := zaa (by omega)
 have HLEN := zaa hlen
 obtain ⟨B0, hB0⟩ : ∃ B0, w.heap.size = B0 := ⟨_, rfl⟩
 have HB := zaa hB0
 have HBB := zaa hB
 clear hp hs hf hlen hF hT hB0 hB hzc hzn
 go_enter Tryz.func73, Tryz.ntmps73
 go_wp2_with (go_at_call 112; refine zac (HST.out _ _ (by first | exact .inl ⟨rfl, rfl⟩ | exact .inr ⟨rfl, rfl⟩)) ?_)
 go_loopw [10, 11, 24] (fun vb vs ix wr => ∃ (q : Nat) (bo : Option Addr) (bn bc : Nat) (so : Option Addr) (sn sc : Nat), q ≤ cn ∧ ix = .int .i64 q ∧ vb = .slice bo bn bc ∧ vs = .slice so sn sc ∧ Hid (OwnB wr B0 (.slice bo bn bc) (bdy (ns.take q))) ∧ Hid (OwnN wr B0 (.slice so sn sc) (sts F (ns.take q))) ∧ Hid (Below B0 w wr)) (fun _ _ ix _ => cn - (intOf ix).toNat)
 case atStart => exact ⟨0, none, 0, 0, none, 0, 0, by omega, rfl, rfl, rfl, zaa (by simpa [bdy] using OwnB.nil w B0), zaa (by simpa [sts] using OwnN.nil w B0), zaa Br⟩
 case round =>
  obtain ⟨q, bo, bn, bc, so, sn, sc, hq, rfl, rfl, rfl, HOB, HON, HBE⟩ := hrel
  clear HST
  have bj : (q : Int) ≤ 65536 := by omega
  by_cases hlt : q < cn
  ·have hltI : (q : Int) < (cn : Int) := by omega
   obtain ⟨b, off, c, ka, kc, va, vc, rfl, hb, hci, c0, c1, c2, c3, c4, hk, hv⟩ := HS.out.item q hlt
   have hbw := HBE.out
   rw [← HB.out] at hbw
   have d0 := (hbw.cell (p := ⟨b, off + q * 5, none⟩) hb).trans c0
   have d1 := (hbw.cell (p := ⟨b, off + q * 5 + 1, none⟩) hb).trans c1
   have d2 := (hbw.cell (p := ⟨b, off + q * 5 + 2, none⟩) hb).trans c2
   have d3 := (hbw.cell (p := ⟨b, off + q * 5 + 3, none⟩) hb).trans c3
   have d4 := (hbw.cell (p := ⟨b, off + q * 5 + 4, none⟩) hb).trans c4
   have HK := zaa hk
   have HV := zaa hv
   have hcf := HFIT.out c (List.mem_of_getElem? hci)
   have HCF := zaa hcf
   have HTK : Hid (bdy (ns.take (q + 1)) = bdy (ns.take q) ++ cB c ∧ sts F (ns.take (q + 1)) = sts F (ns.take q) ++ [F + bn]) := by
    have e : ns.take (q + 1) = ns.take q ++ [c] := by rw [List.take_add_one, hci]; rfl
    have hbn : bn = (bdy (ns.take q)).length := by
     obtain ⟨x, y, hxy⟩ := HOB.out.slice
     injection hxy
    refine zaa ⟨by rw [e, zbl]; simp [bdy], ?_⟩
    rw [e, zdp, hbn]
    rfl
   have hbl2 := zcj ns q
   have hbn2 : bn ≤ 65536 := by
    obtain ⟨x, y, hxy⟩ := HOB.out.slice
    injection hxy with _ h2
    have := HBL.out
    omega
   have bbn : (bn : Int) ≤ 65536 := by omega
   have hFb : (F : Int) ≤ 65536 := by omega
   have HBNL : Hid ((bdy (ns.take q)).length ≤ 65536) := zaa (zN hbl2 HBL.out)
   have HSTL : Hid ((sts F (ns.take q)).length + 1 ≤ 1000000) := zaa (by rw [zak, zJ]; omega)
   obtain ⟨x, hx⟩ : ∃ x, (wr.alloc (.cells #[.slice ka c.key.length kc, .int .i64 c.kd, .slice va c.val.length vc, .int .i64 c.pg, .int .i64 c.ct] 50)).alloc (.cells #[.int .i64 ((F : Int) + (bn : Int))] 3) = x := ⟨_, rfl⟩
   have hbx : Below wr.heap.size wr x := by rw [← hx]; exact zad (zad Br Lr _) Lr _
   obtain ⟨s, hss⟩ : ∃ s, wr.heap.size = s := ⟨_, rfl⟩
   have HBOX : Hid (C5 x s (.slice ka c.key.length kc) (.int .i64 c.kd) (.slice va c.val.length vc) (.int .i64 c.pg) (.int .i64 c.ct)) := by
    rw [← hx, ← hss]
    exact zaa ((Below.heap_alloc _ _ _ (by simp)).trans (heap_alloc_last wr _))
   have H1 : Hid (∀ i, i < 1 → x.cell? ⟨s + 1, 0 + i, none⟩ = some (.int .i64 (([F + bn].getD i 0 : Nat) : Int))) := by
    rw [← hx, ← hss]
    refine zaa fun i hi => ?_
    obtain rfl : i = 0 := by omega
    simp
   have HON1 := zaa (HON.out.below hbx)
   have HOB1 : Hid (OwnB x B0 (.slice bo bn bc) (bdy (ns.take q))) := zaa (HOB.out.on Lr hbx)
   have hBx : B0 ≤ x.heap.size := zN (by rw [← HB.out]; exact hbw.size) hbx.size
   have HBX : Hid (Below B0 w x) := zaa (HBE.out.trans (hbx.mono (by rw [← HB.out]; exact hbw.size)))
   clear hb hci c0 c1 c2 c3 c4 hk hv hcf hbl2 hbx hbw HOB HON HBE
   go_wp2_with (at_builtin; refine app_slN _ rfl _ _ rfl B0 (sts F (ns.take q)) [F + bn] (.slice so sn sc) (s + 1) 0 1 1 rfl rfl HON1.out rfl H1.out HSTL.out hBx ?_; refine Hid.out ?_)
   apply zaa
   intro v2 w2 ho2 g2
   obtain ⟨so2, sc2, rfl, _⟩ := ho2.sln (by rw [zG]; have := HSTL.out; simp; omega)
   obtain ⟨sn2, hsn2⟩ : ∃ sn2, (sts F (ns.take q) ++ [F + bn]).length = sn2 := ⟨_, rfl⟩
   rw [hsn2] at ho2 g2 ⊢
   have HON2 := zaa ho2
   have HB2 : Hid (Below B0 w w2) := zaa (HBX.out.trans (HON1.out.be g2 hBx))
   have HOB2 : Hid (OwnB w2 B0 (.slice bo bn bc) (bdy (ns.take q))) := zaa (World.ownsRow.kept HOB1.out g2.grow (own_bn HOB1.out HON1.out))
   have HBOX2 : Hid (C5 w2 s (.slice ka c.key.length kc) (.int .i64 c.kd) (.slice va c.val.length vc) (.int .i64 c.pg) (.int .i64 c.ct)) := zaa (HBOX.out.gr g2 (HON1.out.apart HBOX.out (by decide)))
   have hB2 : B0 ≤ w2.heap.size := by have := HB2.out.size; have := HB.out; omega
   have hbw2 : Below w.heap.size w w2 := by rw [HB.out]; exact HB2.out
   have HK2 : Hid (Sl w2 ka c.key.length kc c.key) := zaa (HK.out.on Lr hbw2)
   have HV2 : Hid (Sl w2 va c.val.length vc c.val) := zaa (HV.out.on Lr hbw2)
   have hob : OwnB w2 w.heap.size (.slice bo bn bc) (bdy (ns.take q)) := by rw [HB.out]; exact HOB2.out
   have HT := zaa (appended_any (.slice bo bn bc) B0 (bdy (ns.take q)) ka c.key.length kc c.kd va c.val.length vc c.pg c.ct c.key c.val w2 HOB2.out hB2 HK2.out HV2.out (HK.out.far hob) (HV.out.far hob) HCF.out.pg HCF.out.ct (by have := HBNL.out; have := HCF.out.key; have := HCF.out.val; omega))
   obtain ⟨c0, c1, c2, c3, c4⟩ := HBOX2.out.cells
   clear ho2 g2 hsn2 hbw2 hob hx hss H1 HON1 HOB1 HBOX d0 d1 d2 d3 d4 hBx HBX
   go_wp2_with (go_at_call 113; refine HT.out.mono ?_; rintro e w3 ⟨v3, rfl, HO3, HG3⟩; refine Hid.out ?_)
   apply zaa
   obtain ⟨bo3, bc3, rfl⟩ := HO3.out.slice
   obtain ⟨bn3, hbn3⟩ : ∃ bn3, (bdy (ns.take q) ++ cB ⟨c.key, c.kd, c.val, c.pg, c.ct⟩).length = bn3 := ⟨_, rfl⟩
   rw [hbn3] at HO3 HG3 ⊢
   have HON3 : Hid (OwnN w3 B0 (.slice so2 sn2 sc2) (sts F (ns.take q) ++ [F + bn])) := zaa (World.ownsRow.kept HON2.out HG3.out.grow (by
    rcases own_bn HOB2.out HON2.out with h | h
    ·cases hv : (Value.slice so2 sn2 sc2).ownBlock with
     | none => exact .inl rfl
     | some q => right; rw [h]; simp
    ·exact .inr (fun e => h e.symm)))
   have HB3 : Hid (Below B0 w w3) := zaa (HB2.out.trans (HG3.out.below HOB2.out hB2))
   have HOB3 : Hid (OwnB w3 B0 (.slice bo3 bn3 bc3) (bdy (ns.take (q + 1)))) := zaa (by rw [HTK.out.1]; exact HO3.out)
   have HON4 : Hid (OwnN w3 B0 (.slice so2 sn2 sc2) (sts F (ns.take (q + 1)))) := zaa (by rw [HTK.out.2]; exact HON3.out)
   clear HT HO3 HG3 hbn3 c0 c1 c2 c3 c4 HBOX2 HK2 HV2 HOB2 HON2 HON3
   go_wp2
   go_roundw
   case rel => exact ⟨q + 1, bo3, bn3, bc3, so2, sn2, sc2, by omega, by go_num, rfl, rfl, HOB3, HON4, HB3⟩
   case measure => simp [intOf]; omega
  ·obtain rfl : q = cn := by omega
   have hlI : ¬ (q : Int) < (q : Int) := by omega
   have htk : ns.take q = ns := List.take_of_length_le (by rw [HLEN.out]; exact Lr)
   rw [htk] at HOB HON
   have hbw : Below w.heap.size w wr := by rw [HB.out]; exact HBE.out
   have HPr := zaa (HP.out.on hbw)
   obtain ⟨po, pc, hvb⟩ := HP.out.body.slice
   obtain ⟨ta, tc, hvs⟩ := HP.out.starts.shape
   rw [zak] at hvs
   obtain ⟨bl, hbl⟩ : ∃ bl, (bdy cs).length = bl := ⟨_, rfl⟩
   obtain ⟨sl, hsl⟩ : ∃ sl, cs.length = sl := ⟨_, rfl⟩
   rw [hbl] at hvb
   rw [hsl] at hvs
   subst hvb
   subst hvs
   have hzc := zbb cs
   have hblb : bl ≤ 65536 := by omega
   have hslb : sl ≤ 65536 := by omega
   have hTbl : T ≤ bl := by rw [← hbl, ← HTE.out]; exact zcj cs j
   have hbnE : (bdy ns).length = bn := by
    obtain ⟨x, y, hxy⟩ := HOB.out.slice
    injection hxy with _ h2 _
    exact h2.symm
   have hsnE : ns.length = sn := by
    obtain ⟨x, y, hxy⟩ := HON.out.shape
    injection hxy with _ h2 _
    rw [h2, zak]
   have hqsn : q = sn := by rw [← hsnE, HLEN.out]
   have hbnb : bn ≤ 65536 := by have := HBL.out; omega
   have hFTlt : F < T ∨ 0 < bn := by
    rcases hm with h | h
    ·left
     have e : bdy (cs.take j) = bdy (cs.take i) ++ bdy ((cs.take j).drop i) := by
      rw [← zbl]
      conv => lhs; rw [← List.take_append_drop i (cs.take j), List.take_take, Nat.min_eq_left hij]
     have hne : 0 < ((cs.take j).drop i).length := by simp; omega
     have hpos := bdy_pos ((cs.take j).drop i) hne
     have := congrArg List.length e
     rw [zG, HTE.out, HFE.out] at this
     omega
    ·right
     have := bdy_pos ns (by rw [HLEN.out]; omega)
     omega
   have HRB : Hid (Calls Tryz.prog 114 #[.slice po bl pc, .int .i64 (F : Int), .int .i64 (T : Int), .slice bo bn bc] wr (RB.To wr B (.slice po bl pc) (F + bn + (bl - T)) ((By (bdy cs)).take F ++ By (bdy ns) ++ (By (bdy cs)).drop T))) := zaa (by
    have h1 := HPr.out.body
    have h2 := HOB.out
    unfold OwnB at h1 h2
    rw [hbl] at h1
    rw [hbnE] at h2
    refine RB.rep_any wr B B0 bl bn F T _ _ _ _ h1 h2 (zby _) (zby _) ?_ hFT hTbl (by omega) (zN HBB.out hbw.size) hFTlt
    cases e : (Value.slice bo bn bc).ownBlock with
    | none => exact .inl rfl
    | some z =>
     right
     intro e2
     have a1 := (h2.lt z e).1
     have h3 := HP.out.body
     unfold OwnB at h3
     have a2 := (h3.lt z e2.symm).2
     have := HB.out
     omega)
   obtain ⟨c0, c1, c2, c3⟩ := HPr.out.row.cells
   have HWB : Hid (Below w.heap.size w wr) := zaa hbw
   clear htk hbw hzc
   have HQ := zaa hqsn
   clear hqsn
   go_wp2_with (go_at_call 114; refine HRB.out.mono ?_; rintro e w2 ⟨b2o, b2c, rfl, HO2, HG2⟩; refine Hid.out ?_)
   apply zaa
   obtain ⟨L2, hL2⟩ : ∃ L2, F + bn + (bl - T) = L2 := ⟨_, rfl⟩
   rw [hL2] at HO2 HG2 ⊢
   have HBD : Hid (bdy (cs.take i ++ ns ++ cs.drop j) = (bdy cs).take F ++ bdy ns ++ (bdy cs).drop T) := zaa (by
    rw [zbl, zbl, ← HFE.out, ← HTE.out, bdy_take, bdy_drop])
   have HOB2 : Hid (OwnB w2 B (.slice b2o L2 b2c) (bdy (cs.take i ++ ns ++ cs.drop j))) := zaa (by
    have hl : (bdy (cs.take i ++ ns ++ cs.drop j)).length = L2 := by
     rw [HBD.out]
     simp only [zG, zJ, zK, hbl, hbnE]
     omega
    have := HO2.out
    rw [By_take, By_drop, ← zdn, ← zdn, ← HBD.out] at this
    unfold OwnB
    rw [hl]
    exact this)
   have hpr := HPr.out.row
   unfold PR at hpr
   have hnb : ∀ z, (Value.slice po bl pc).ownBlock = some z → ∃ cs fz, wr.heap[z]? = some (.cells cs 5 fz) := fun z hz => by
    have h1 := HPr.out.body
    unfold OwnB at h1
    rcases h1.2 with ⟨e, _⟩ | ⟨g, cap, cur, e, _, hh, _⟩
    ·rw [e] at hz; cases hz
    ·rw [e] at hz
     injection hz with hz
     have hz' : g = z := hz
     subst hz'
     exact ⟨_, _, hh⟩
   have HR2 : Hid (PR w2 a k n (.slice po bl pc) (.slice ta sl tc)) := zaa ((HG2.out.grow.block a (zaf hpr) (fun e => by
    obtain ⟨x, y, h⟩ := hnb a e.symm
    rw [hpr] at h
    simp at h)).trans hpr)
   have hNk : ∀ {D : Nat} {v : Value} {l : List Nat}, OwnN wr D v l → OwnN w2 D v l := fun {D v l} h => by
    refine World.ownsRow.kept h HG2.out.grow ?_
    cases e : v.ownBlock with
    | none => exact .inl rfl
    | some z =>
     right
     intro e2
     obtain ⟨x, y, hh⟩ := hnb z e2.symm
     exact h.apart hh (by decide) e
   have HS2 := zaa (hNk HPr.out.starts)
   have HN2 := zaa (hNk HON.out)
   clear c0 c1 c2 c3 HRB hpr hnb hNk HPr HO2 HON HOB
   obtain ⟨c0, c1, c2, c3⟩ := HR2.out.cells
   have f2 := HR2.out.free 2
   obtain ⟨u3, hu3⟩ : ∃ u3, w2.setCell ⟨a, 2, none⟩ (.slice b2o L2 b2c) = u3 := ⟨_, rfl⟩
   have hset : ∀ x, Cf (· = a) w2 (w2.setCell ⟨a, 2, none⟩ x) := fun x => Cf.set w2 a 2 x
   have hrow2 := HR2.out
   unfold PR at hrow2
   have HR3 : Hid (PR u3 a k n (.slice b2o L2 b2c) (.slice ta sl tc)) := zaa (by rw [← hu3]; exact HR2.out.set2 _)
   have HS3 : Hid (OwnN u3 B (.slice ta sl tc) (sts 0 cs)) := zaa (by rw [← hu3]; exact HS2.out.cf (hset _) (HS2.out.apart hrow2 (by decide)))
   have HN3 : Hid (OwnN u3 B0 (.slice so sn sc) (sts F ns)) := zaa (by rw [← hu3]; exact HN2.out.cf (hset _) (HN2.out.apart hrow2 (by decide)))
   have HB3 : Hid (OwnB u3 B (.slice b2o L2 b2c) (bdy (cs.take i ++ ns ++ cs.drop j))) := zaa (by
    rw [← hu3]
    refine World.ownsRow.kept (row := some a) HOB2.out ⟨rfl, rfl, rfl, by simp [World.setCell], fun z _ hz => Below.heap_setCell _ _ _ _ (fun e => hz (by rw [e]))⟩ (.inr fun e => ?_)
    have h1 := HOB2.out
    unfold OwnB at h1
    rcases h1.2 with ⟨e1, _⟩ | ⟨g, cap, cur, e1, _, hh, _⟩
    ·rw [e1] at e; cases e
    ·rw [e1] at e
     injection e with e
     have e' : g = a := e
     subst e'
     rw [hrow2] at hh
     simp at hh)
   have HC3 : Hid (Cf (PZ a (.slice po bl pc) (.slice ta sl tc)) w u3) := zaa (by
    rw [← hu3]
    refine (Cf.of_below HWB.out).trans (G := PZ a (.slice po bl pc) (.slice ta sl tc)) ?_ (fun _ _ h => h)
    refine (show Cf (PZ a (.slice po bl pc) (.slice ta sl tc)) wr w2 from ⟨HG2.out.grow.os, HG2.out.grow.tape, HG2.out.grow.output, HG2.out.grow.size, fun z hz hn => HG2.out.grow.block z hz (fun e => hn (.inr (.inl e.symm)))⟩).trans (hset _) (fun z _ h => .inl h))
   have HW3 : Hid (w.heap.size ≤ u3.heap.size) := zaa HC3.out.size
   have HRN : Hid (Calls Tryz.prog 115 #[.slice ta sl tc, .int .i64 (i : Int), .int .i64 (j : Int), .slice so sn sc] u3 (RN.To u3 B (.slice ta sl tc) (i + sn + (sl - j)) ((NI (sts 0 cs)).take i ++ NI (sts F ns) ++ (NI (sts 0 cs)).drop j))) := zaa (by
    have h1 := HS3.out
    have h2 := HN3.out
    unfold OwnN at h1 h2
    rw [zak] at h1 h2
    rw [hsl] at h1
    rw [hsnE] at h2
    refine RN.rep_any u3 B B0 sl sn i j _ _ _ _ h1 h2 (NI_one _) (NI_one _) ?_ hij (by omega) (by have := HQ.out; omega) (zN HBB.out HW3.out) (by rw [← HQ.out]; exact hm)
    cases e : (Value.slice so sn sc).ownBlock with
    | none => exact .inl rfl
    | some z =>
     right
     intro e2
     have a1 := (h2.lt z e).1
     have h3 := HP.out.starts
     unfold OwnN at h3
     have a2 := (h3.lt z e2.symm).2
     have := HB.out
     omega)
   have HV2 : Hid ((Value.slice b2o L2 b2c).ownBlock = (Value.slice po bl pc).ownBlock ∨ ∃ g, (Value.slice b2o L2 b2c).ownBlock = some g ∧ w.heap.size ≤ g) := zaa (HG2.out.own.imp id fun ⟨g, h1, h2⟩ => ⟨g, h1, zN HWB.out.size h2⟩)
   clear hset hrow2 HR2 HS2 HN2 HOB2 HG2
   obtain ⟨d0, d1, d2, d3⟩ := HR3.out.cells
   go_wp2_with (go_at_call 115; refine HRN.out.mono ?_; rintro e w4 ⟨s4o, s4c, rfl, HO4, HG4⟩; refine Hid.out ?_)
   apply zaa
   obtain ⟨N4, hN4⟩ : ∃ N4, i + sn + (sl - j) = N4 := ⟨_, rfl⟩
   rw [hN4] at HO4 HG4 ⊢
   have hN4b : N4 ≤ 131072 := by have := HQ.out; omega
   obtain ⟨S0, hS0⟩ : ∃ S0, (sts 0 cs).take i ++ sts F ns ++ (sts 0 cs).drop j = S0 := ⟨_, rfl⟩
   obtain ⟨S1, hS1⟩ : ∃ S1, sts 0 (cs.take i ++ ns ++ cs.drop j) = S1 := ⟨_, rfl⟩
   have HL0 : Hid (S0.length = N4) := zaa (by rw [← hS0]; simp only [zG, zJ, zK, zak, hsl, hsnE]; omega)
   have HN4L : Hid (i + sn ≤ N4) := zaa (by omega)
   have HL1 : Hid (S1.length = N4) := zaa (by rw [← hS1, zak]; simp only [zG, zJ, zK, hsl, hsnE]; omega)
   have HPRE : Hid (S0.take (i + sn) = S1.take (i + sn)) := zaa (by rw [← hS0, ← hS1, ← hsnE]; exact sts_pre cs ns i j F hij hj HFE.out.symm)
   have HMID : Hid (∀ q, i + sn ≤ q → q < N4 → ((S0.getD q 0 : Nat) : Int) + ((bn : Int) - ((T : Int) - (F : Int))) = ((S1.getD q 0 : Nat) : Int)) := zaa (fun q h1 h2 => by
    rw [← hS0, ← hS1, ← hbnE, ← HTE.out]
    exact sts_mid cs ns i j F hij hj HFE.out.symm q (by rw [hsnE]; exact h1) (by rw [hsnE, hsl]; omega))
   have HS0B : Hid (∀ q, i + sn ≤ q → q < N4 → S1.getD q 0 ≤ 131072 ∧ S0.getD q 0 ≤ 131072) := zaa (fun q h1 h2 => by
    have hm1 := HMID.out q h1 h2
    have h3 : S1.getD q 0 ≤ 131072 := by
     rw [← hS1, zch 0 q _ (by rw [← zak 0, hS1, HL1.out]; exact h2), Nat.zero_add]
     have h4 := zcj (cs.take i ++ ns ++ cs.drop j) q
     have h5 : (bdy (cs.take i ++ ns ++ cs.drop j)).length = L2 := by
      rw [HBD.out]
      simp only [zG, zJ, zK, hbl, hbnE]
      omega
     omega
    refine ⟨h3, ?_⟩
    have : S0.getD q 0 ≤ bl := by
     rw [← hS0, ← hbl]
     obtain ⟨t, rfl⟩ : ∃ t, q = i + sn + t := ⟨q - (i + sn), by omega⟩
     have hti : ((sts 0 cs).take i).length = i := by rw [zJ, zak]; omega
     have := zch 0 (j + t) cs (by omega)
     rw [Nat.zero_add] at this
     simp only [List.getD] at this ⊢
     rw [List.getElem?_append_right (by rw [zG, hti, zak, hsnE]; omega), zG, hti, zak, hsnE, List.getElem?_drop, show j + (i + sn + t - (i + sn)) = j + t by omega, this]
     exact zcj cs (j + t)
    omega)
   have HN4 : Hid (OwnN w4 B (.slice s4o N4 s4c) S0) := zaa (by
    have := HO4.out
    rw [NI_take, NI_drop, ← NI_append, ← NI_append, hS0] at this
    unfold OwnN
    rw [HL0.out]
    exact this)
   have HS1E := zaa hS1
   have hpr := HR3.out
   unfold PR at hpr
   have hnb : ∀ z, (Value.slice ta sl tc).ownBlock = some z → ∃ cs fz, u3.heap[z]? = some (.cells cs 3 fz) := fun z hz => by
    have h1 := HS3.out
    unfold OwnN at h1
    rcases h1.2 with ⟨e, _⟩ | ⟨g, cap, cur, e, _, hh, _⟩
    ·rw [e] at hz; cases hz
    ·rw [e] at hz
     injection hz with hz
     have hz' : g = z := hz
     subst hz'
     exact ⟨_, _, hh⟩
   have HR4 : Hid (PR w4 a k n (.slice b2o L2 b2c) (.slice ta sl tc)) := zaa ((HG4.out.grow.block a (zaf hpr) (fun e => by
    obtain ⟨x, y, h⟩ := hnb a e.symm
    rw [hpr] at h
    simp at h)).trans hpr)
   have HB4 : Hid (OwnB w4 B (.slice b2o L2 b2c) (bdy (cs.take i ++ ns ++ cs.drop j))) := zaa (by
    refine World.ownsRow.kept HB3.out HG4.out.grow ?_
    exact own_bn HB3.out HS3.out)
   have HV4 : Hid ((Value.slice s4o N4 s4c).ownBlock = (Value.slice ta sl tc).ownBlock ∨ ∃ g, (Value.slice s4o N4 s4c).ownBlock = some g ∧ w.heap.size ≤ g) := zaa (HG4.out.own.imp id fun ⟨g, h1, h2⟩ => ⟨g, h1, zN HW3.out h2⟩)
   have HC4 : Hid (Cf (PZ a (.slice po bl pc) (.slice ta sl tc)) w w4) := zaa (HC3.out.trans (G := PZ a (.slice po bl pc) (.slice ta sl tc)) ⟨HG4.out.grow.os, HG4.out.grow.tape, HG4.out.grow.output, HG4.out.grow.size, fun z hz hn => HG4.out.grow.block z hz (fun e => hn (.inr (.inr e.symm)))⟩ (fun _ _ h => h))
   have hrow4 := HR4.out
   unfold PR at hrow4
   obtain ⟨u5, hu5⟩ : ∃ u5, w4.setCell ⟨a, 3, none⟩ (.slice s4o N4 s4c) = u5 := ⟨_, rfl⟩
   have HR5 : Hid (PR u5 a k n (.slice b2o L2 b2c) (.slice s4o N4 s4c)) := zaa (by rw [← hu5]; exact HR4.out.set3 _)
   have HN5 : Hid (OwnN u5 B (.slice s4o N4 s4c) S0) := zaa (by rw [← hu5]; exact HN4.out.cf (Cf.set w4 a 3 _) (HN4.out.apart hrow4 (by decide)))
   have HB5 : Hid (OwnB u5 B (.slice b2o L2 b2c) (bdy (cs.take i ++ ns ++ cs.drop j))) := zaa (by
    rw [← hu5]
    refine World.ownsRow.kept (row := some a) HB4.out ⟨rfl, rfl, rfl, by simp [World.setCell], fun z _ hz => Below.heap_setCell _ _ _ _ (fun e => hz (by rw [e]))⟩ (.inr fun e => ?_)
    have h1 := HB4.out
    unfold OwnB at h1
    rcases h1.2 with ⟨e1, _⟩ | ⟨g, cap, cur, e1, _, hh, _⟩
    ·rw [e1] at e; cases e
    ·rw [e1] at e
     injection e with e
     have e' : g = a := e
     subst e'
     rw [hrow4] at hh
     simp at hh)
   have HC5 : Hid (Cf (PZ a (.slice po bl pc) (.slice ta sl tc)) w u5) := zaa (by rw [← hu5]; exact HC4.out.trans (Cf.set w4 a 3 _) (fun z _ h => .inl h))
   obtain ⟨x0, x1, x2, x3⟩ := HR4.out.cells
   have f3 := HR4.out.free 3
   obtain ⟨Gi, hGi⟩ : ∃ Gi : Int, (bn : Int) - ((T : Int) - (F : Int)) = Gi := ⟨_, rfl⟩
   rw [hGi] at HMID
   have hGib : -131072 ≤ Gi ∧ Gi ≤ 131072 := by omega
   have hbnI : (bn : Int) ≤ 65536 := by omega
   have hsnI : (sn : Int) ≤ 65536 := by have := HQ.out; omega
   have hsnN : q = sn := HQ.out
   subst hsnN
   clear hS0 hS1 hN4 hL2 hpr hnb hrow4 d0 d1 d2 d3 c0 c1 c2 c3 f2 HRN HO4 HG4 HR3 HS3 HN3 HB3 HC3 HW3 HR4 HB4 HN4 HC4 hbnE hsnE hbl hsl
   have HIN : Hid (i + q ≤ N4) := zaa (by have := HL0.out; have := HN4L.out; omega)
   go_wp2_with fail
   clear x0 x1 x2 x3 f3
   obtain ⟨wo, hwo⟩ : ∃ wo, wo = wr := ⟨_, rfl⟩
   subst hwo
   go_loopw [15] (fun kx wq => ∃ t : Nat, i + q ≤ t ∧ t ≤ N4 ∧ kx = .int .i64 (t : Int) ∧ Hid (OwnN wq B (.slice s4o N4 s4c) (S1.take t ++ S0.drop t)) ∧ Hid (PR wq a k n (.slice b2o L2 b2c) (.slice s4o N4 s4c)) ∧ Hid (OwnB wq B (.slice b2o L2 b2c) (bdy (cs.take i ++ ns ++ cs.drop j))) ∧ Hid (Cf (PZ a (.slice po bl pc) (.slice ta sl tc)) w wq)) (fun kx _ => N4 - (intOf kx).toNat)
   case atStart =>
    refine ⟨i + q, Lr, HIN.out, by go_num, ?_, ?_, ?_, ?_⟩
    all_goals (try rw [hu5])
    ·exact zaa (by rw [← HPRE.out, List.take_append_drop]; exact HN5.out)
    ·exact HR5
    ·exact HB5
    ·exact HC5
   case round =>
    obtain ⟨t, ht1, ht2, rfl, HNt, HRt, HBt, HCt⟩ := hrel
    clear HN5 HR5 HB5 HC5 hu5
    have htI : (t : Int) ≤ 131072 := by omega
    obtain ⟨x0, x1, x2, x3⟩ := HRt.out.cells
    by_cases hlt : t < N4
    ·have hltI : (t : Int) < (N4 : Int) := by omega
     have hNt := HNt.out
     unfold OwnN at hNt
     have hll : (S1.take t ++ S0.drop t).length = N4 := by
      rw [zG, zJ, zK, HL0.out, HL1.out]
      omega
     rw [hll] at hNt
     obtain ⟨g, rfl, hBg, hgn⟩ : ∃ g, s4o = some ⟨g, 0, none⟩ ∧ B ≤ g ∧ g ≠ a := by
      rcases hNt.2 with ⟨_, h0⟩ | ⟨g, cap, cur, e, h1, hh, _⟩
      ·omega
      ·injection e with e1 _ _
       refine ⟨g, e1, h1, fun e2 => ?_⟩
       have hr := HRt.out
       unfold PR at hr
       rw [← e2, hh] at hr
       simp at hr
     have hgx : (S1.take t ++ S0.drop t)[t]? = some (S0.getD t 0) := by
      rw [List.getElem?_append_right (by rw [zJ]; omega), zJ, List.getElem?_drop, HL1.out, show t + (t - min t N4) = t by omega]
      simp [List.getD, zI (show t < S0.length by rw [HL0.out]; exact hlt)]
     have hcell : wr.cell? ⟨g, t, none⟩ = some (.int .i64 ((S0.getD t 0 : Nat) : Int)) := by
      rw [hNt.cellAt t (by omega)]
      unfold NI
      rw [List.getElem?_map, hgx]
      rfl
     have hfr : wr.frozen? ⟨g, t, none⟩ = false := hNt.frozenAt t
     have hadd := HMID.out t ht1 hlt
     have hbd := HS0B.out t ht1 hlt
     obtain ⟨hst, hgr⟩ := hNt.stored t (.int .i64 ((S1.getD t 0 : Nat) : Int))
     have HN' : Hid (OwnN (wr.setCell ⟨g, t, none⟩ (.int .i64 ((S1.getD t 0 : Nat) : Int))) B (.slice (some ⟨g, 0, none⟩) N4 s4c) (S1.take (t + 1) ++ S0.drop (t + 1))) := zaa (by
      have e : (S1.take t ++ S0.drop t).set t (S1.getD t 0) = S1.take (t + 1) ++ S0.drop (t + 1) := by
       have h1 : t < S1.length := by rw [HL1.out]; exact hlt
       have h0 : t < S0.length := by rw [HL0.out]; exact hlt
       rw [List.set_append_right _ _ (by rw [zJ]; omega), zJ, show t - min t S1.length = 0 by omega, List.drop_eq_getElem_cons h0, zE, List.take_add_one, zI h1, zM]
       simp [List.getD, zI h1]
      unfold OwnN
      rw [← e, List.length_set, hll]
      have e2 : NI ((S1.take t ++ S0.drop t).set t (S1.getD t 0)) = (NI (S1.take t ++ S0.drop t)).set t (.int .i64 ((S1.getD t 0 : Nat) : Int)) := by
       unfold NI
       rw [List.map_set]
      rw [e2]
      exact hst)
     have hC1 : Cf (· = g) wr (wr.setCell ⟨g, t, none⟩ (.int .i64 ((S1.getD t 0 : Nat) : Int))) := Cf.set wr g t _
     have HR' : Hid (PR (wr.setCell ⟨g, t, none⟩ (.int .i64 ((S1.getD t 0 : Nat) : Int))) a k n (.slice b2o L2 b2c) (.slice (some ⟨g, 0, none⟩) N4 s4c)) := zaa (HRt.out.cf hC1 (fun e => hgn e.symm))
     have HB' : Hid (OwnB (wr.setCell ⟨g, t, none⟩ (.int .i64 ((S1.getD t 0 : Nat) : Int))) B (.slice b2o L2 b2c) (bdy (cs.take i ++ ns ++ cs.drop j))) := zaa (World.ownsRow.kept HBt.out hgr (by
      have := own_bn HBt.out HNt.out
      exact this))
     have HC' : Hid (Cf (PZ a (.slice po bl pc) (.slice ta sl tc)) w (wr.setCell ⟨g, t, none⟩ (.int .i64 ((S1.getD t 0 : Nat) : Int)))) := zaa (HCt.out.trans hC1 (fun z hz e => by
      subst e
      rcases HV4.out with e | ⟨g', e1, h2⟩
      ·exact .inr (.inr e.symm)
      ·injection e1 with e1
       have : z = g' := e1
       omega))
     obtain ⟨x, hx⟩ : ∃ x : Nat, S0.getD t 0 = x := ⟨_, rfl⟩
     obtain ⟨y, hy⟩ : ∃ y : Nat, S1.getD t 0 = y := ⟨_, rfl⟩
     rw [hx] at hcell hadd hbd
     rw [hy] at HN' HR' HB' HC' hadd hbd
     have hxb : (x : Int) ≤ 131072 := by omega
     have hyb : (y : Int) ≤ 131072 := by omega
     clear hNt hll hgx hst hgr hC1 HNt HRt HBt HCt hx hy hbd
     go_wp2
     go_roundw
     case rel => exact ⟨t + 1, by omega, by omega, by go_num, HN', HR', HB', HC'⟩
     case measure => simp [intOf]; omega
    ·obtain rfl : t = N4 := by omega
     have hltI : ¬ (t : Int) < (t : Int) := by omega
     have HE : Hid (S1.take t ++ S0.drop t = S1) := zaa (by rw [List.take_of_length_le (by rw [HL1.out]; exact Lr), List.drop_eq_nil_of_le (by rw [HL0.out]; exact Lr), List.append_nil])
     go_wp2
     go_returns
     have hPo : Po wr B a k n (.slice b2o L2 b2c) (.slice s4o t s4c) (cs.take i ++ ns ++ cs.drop j) := ⟨HRt.out, HBt.out, by
      have := HNt.out
      rw [HE.out, ← HS1E.out] at this
      exact this⟩
     rw [zM] at hPo
     exact ⟨rfl, zaa ⟨_, _, hPo, HV2.out, HV4.out⟩, HCt⟩
def hasP (x : Int) (n : Nat) : Prop := 0 ≤ x ∧ x < (n : Int)
theorem has_any (w : World) (a : Nat) (k : Int) (n : Nat) (vb : Value) (so : Option Addr) (sn sc : Nat) (h : PR w a k n vb (.slice so sn sc)) (x : Int) (b : Bool) (hb : b = true ↔ hasP x sn) :
  Calls Tryz.prog 223 #[.pointer (some ⟨a, 0, none⟩), .int .i64 x] w fun e w' => e = .returned (.bool b) ∧ w' = w := by
 have HL := zaa (lenR_any w a k n vb so sn sc h)
 clear h
 by_cases h0 : 0 ≤ x
 ·by_cases h1 : x < (sn : Int)
  ·have hbt : b = true := hb.2 ⟨h0, h1⟩
   subst hbt
   clear hb
   go_enter Tryz.func223, Tryz.ntmps223
   go_wp2_with (go_at_call 75; refine zac HL.out ?_)
   go_ret
   exact ⟨ret_bool (by simp), rfl⟩
  ·have hbt : b = false := by
    cases b with
    | false => rfl
    | true => exact absurd (hb.1 rfl).2 h1
   subst hbt
   clear hb
   go_enter Tryz.func223, Tryz.ntmps223
   go_wp2_with (go_at_call 75; refine zac HL.out ?_)
   go_ret
   exact ⟨ret_bool (by simp; omega), rfl⟩
 ·have hbt : b = false := by
   cases b with
   | false => rfl
   | true => exact absurd (hb.1 rfl).1 h0
  subst hbt
  have h0' : x < 0 := by omega
  clear hb
  go_enter Tryz.func223, Tryz.ntmps223
  go_wp2_with (go_at_call 75; refine zac HL.out ?_)
  go_ret
  exact ⟨ret_bool (by simp), rfl⟩
def remE (cs : List Cl) (x : Int) : Int := if 0 ≤ x ∧ x < (cs.length : Int) then 0 else 64
theorem made_run (N : Nat) (hN : N ≤ 281474976710656) (u : World) : (Instr.makeSlice 22 (.int .i64 0) (.int .i64 (N : Int))).run Tryz.prog u = .ok (.slice (some ⟨u.heap.size, 0, none⟩) 0 N) (u.alloc (.cells (madeCells #[.int .u8 0] N) 5)) := by
 obtain ⟨i0, hi, hz0, hz1, hz2⟩ := info_parts zbj
 have hr := run_make (P := Tryz.prog) u 22 5 i0 (.int .u8 0) Tryz.underlying22 hi hz0 .i64 .i64 0 N (Int.le_refl _) (by omega) (by rw [hz2]; omega) (by omega)
 simp only [Int.toNat_zero, Int.toNat_natCast, hz1, Nat.mul_one] at hr
 exact hr
theorem own_made (N B : Nat) (hN : N ≤ 281474976710656) (u : World) (hB : B ≤ u.heap.size) : OwnB (u.alloc (.cells (madeCells #[.int .u8 0] N) 5)) B (.slice (some ⟨u.heap.size, 0, none⟩) 0 N) [] :=
 World.ownsRow_made u _ N hB (by unfold maxLen; omega) (by rw [Nat.mul_one]; exact size_madeCells _ _)
theorem keyq_any (ho : Option Addr) (hn hc : Nat) (ko : Option Addr) (kn kc : Nat) (kd : Int) (vo : Option Addr) (vn vc : Nat) (pg ct : Int) (h key : List Int) (w : World)
  (hh : Sl w ho hn hc h) (hk : Sl w ko kn kc key) (hl : hn + kn ≤ 140737488355328) :
  Calls Tryz.prog 130 #[.agg (eV ho hn hc ko kn kc kd vo vn vc pg ct)] w fun e w' => ∃ v', e = .returned v' ∧ Hid (OwnB w' w.heap.size v' (h ++ key)) ∧ Hid (Below w.heap.size w w') := by
 unfold eV
 obtain ⟨x, hx⟩ : ∃ x, w.alloc (.cells #[.slice ho hn hc, .slice ko kn kc, .int .i64 kd, .slice vo vn vc, .int .i64 pg, .int .i64 ct] 123) = x := ⟨_, rfl⟩
 have hbx : Below w.heap.size w x := by rw [← hx]; exact zad Br Lr _
 have hb6 : E6 x w.heap.size (.slice ho hn hc) (.slice ko kn kc) (.int .i64 kd) (.slice vo vn vc) (.int .i64 pg) (.int .i64 ct) := by rw [← hx]; exact E6.box w _ _ _ _ _ _
 obtain ⟨s, hs⟩ : ∃ s, w.heap.size = s := ⟨_, rfl⟩
 have hsx : s < x.heap.size := by rw [← hs]; exact zaf hb6
 rw [hs] at hb6
 obtain ⟨b0, b1, b2, b3, b4, b5⟩ := hb6.cells
 obtain ⟨N, hN⟩ : ∃ N, hn + kn = N := ⟨_, rfl⟩
 have hNI : (hn : Int) + (kn : Int) = (N : Int) := by omega
 have hNb : N ≤ 140737488355328 := by omega
 have i1 : (hn : Int) ≤ 140737488355328 := by omega
 have i2 : (kn : Int) ≤ 140737488355328 := by omega
 have hwN : IntKind.i64.wrap (N : Int) = (N : Int) := by rw [IntKind.wrap_i64]; omega
 have hmk := made_run N (by omega)
 have HW : Hid (∀ u g, Below x.heap.size x u → OwnB u x.heap.size (.slice (some ⟨g, 0, none⟩) 0 N) [] → Calls Tryz.prog 167 #[.agg #[.slice ho hn hc, .slice ko kn kc, .int .i64 kd, .slice vo vn vc, .int .i64 pg, .int .i64 ct], .slice (some ⟨g, 0, none⟩) 0 N] u fun e w' => ∃ v', e = .returned v' ∧ Hid (OwnB w' w.heap.size v' (h ++ key)) ∧ Hid (Below w.heap.size w w')) := by
  refine zaa fun u g hu hown => ?_
  have hg : x.heap.size ≤ g := (World.ownsRow.lt hown g rfl).1
  have far : ∀ (ao : Option Addr) (n cap : Nat) (l : List Int), Sl x ao n cap l → Far ao n (.slice (some ⟨g, 0, none⟩) 0 N) := by
   intro ao n cap l hsl
   rcases hsl.hat with h0 | ⟨b, off, e, hlt, _⟩
   ·exact .inl h0
   ·refine .inr fun p hp e2 => ?_
    rw [e] at hp
    injection hp with hp
    subst hp
    injection e2 with e2
    have e3 : g = b := e2
    omega
  have hhx := hh.on Lr hbx
  have hkx := hk.on Lr hbx
  refine (withKey_any _ x.heap.size [] ho hn hc ko kn kc kd vo vn vc pg ct h key u hown hu.size (hhx.on Lr hu) (hkx.on Lr hu) (far _ _ _ _ hhx) (far _ _ _ _ hkx) (by simp; omega)).mono ?_
  rintro e w' ⟨v', rfl, HO, HG⟩
  refine ⟨v', rfl, zaa ?_, zaa (hbx.trans ((hu.trans (HG.out.below hown hu.size)).mono hbx.size))⟩
  have := HO.out.low (B := w.heap.size) hbx.size
  simpa using this
 clear hh hk hbx hb6 hN
 go_enter Tryz.func130, Tryz.ntmps130
 go_wp2_with fail
 go_region_with (first | (go_at_call 167; refine (HW.out _ _ ?_ ?_).mono ?_; (repeat (first | exact Br | apply Below.drew | apply below_drewN | refine zad ?_ Lr _)); (first | exact own_made N _ (by omega) _ (by simp) | exact (own_made N _ (by omega) _ (by simp)).on Lr Br.drew | exact (own_made N _ (by omega) _ (by simp)).on Lr (zab Br _)); rintro e w1 ⟨v1, rfl, HO1, HB1⟩))
 all_goals
  go_wp2
  go_ret
  exact ⟨v1, rfl, HO1, HB1⟩
end Go.Proofs.YtbkhjeacmmbabaaGreatDoor
