import Derived.Handy
import Derived.Laws.EntriesVeiled
import Derived.WideLaws
import Derived.Test.YtofafbmpbkjhnaaGreatDoorJ17
import Derived.Test.YtofafbmpbkjhnaaGreatDoorJ18
namespace Go.Proofs.YtofafbmpbkjhnaaGreatDoor
set_option maxRecDepth 100000
set_option maxHeartbeats 8000000
open Go.RowKit
theorem zdj {P : Program} {fn : Func} {p u : Tmp} {ty : TypeId} (h : fn.results = #[.cell p ty, .tmp u]) (tmps : Array Value) (w : World) (g : Nat) (t : TypeId) (cs : Array Value) (fr : Nat × Nat) (d : TypeDesc) (v : Value)
  (hp : tmps.getD p undef = .pointer (some ⟨g, 0, none⟩)) (hv : tmps.getD u undef = v) (hg : w.heap[g]? = some (.cells cs t fr))
  (hu : P.underlying ty = some d) (hd : (match d with | .struct _ | .array _ _ => true | _ => false) = true) (hi : (P.info? ty).map (·.size) = some cs.size) :
  (results fn tmps).run P w = .ok (.tuple #[.agg cs, v]) w := by
 subst hv
 rw [results_cell_tmp h, hp]
 simp [asAddr, run_loadVar_row w g t ty cs fr d hg hu hd hi, Result.andThen]
abbrev fV (f : Nat) : Value := .func (.func f) #[] #[]
abbrev ly1 : Array Value := #[fV 80, fV 81, fV 82, fV 83, fV 86]
abbrev ly2 : Array Value := #[fV 88, fV 89, fV 90, fV 91, fV 94]
abbrev ly0 : Array Value := #[.nilFunc, .nilFunc, .nilFunc, .nilFunc, .nilFunc]
theorem sizeLy : (Tryz.prog.info? 81).map (·.size) = some 5 := by kernel_rfl
theorem layout_1 (w : World) : Calls Tryz.prog 38 #[.int .i64 1] w fun e w' => e = .returned (.tuple #[.agg ly1, .bool true]) ∧ Hid (Below w.heap.size w w') := by
 go_enter Tryz.func38, Tryz.ntmps38
 go_wp2
 refine bodyPost_ret (zdj rfl _ _ w.heap.size 81 ly1 (0, 0) _ (.bool true) (by rfl) (by rfl) (heap_alloc_last w _) Tryz.underlying81 rfl sizeLy) rfl ?_
 exact ⟨rfl, zaa (zac Br Lr _)⟩
theorem layout_2 (w : World) : Calls Tryz.prog 38 #[.int .i64 2] w fun e w' => e = .returned (.tuple #[.agg ly2, .bool true]) ∧ Hid (Below w.heap.size w w') := by
 go_enter Tryz.func38, Tryz.ntmps38
 go_wp2
 refine bodyPost_ret (zdj rfl _ _ w.heap.size 81 ly2 (0, 0) _ (.bool true) (by rfl) (by rfl) (heap_alloc_last w _) Tryz.underlying81 rfl sizeLy) rfl ?_
 exact ⟨rfl, zaa (zac Br Lr _)⟩
theorem layout_0 (w : World) (x : Int) (h1 : ¬ x = 1) (h2 : ¬ x = 2) : Calls Tryz.prog 38 #[.int .i64 x] w fun e w' => e = .returned (.tuple #[.agg ly0, .bool false]) ∧ Hid (Below w.heap.size w w') := by
 go_enter Tryz.func38, Tryz.ntmps38
 go_wp2
 refine bodyPost_ret (zdj rfl _ _ w.heap.size 81 ly0 (0, 0) _ (.bool false) (by rfl) (by rfl) (heap_alloc_last w _) Tryz.underlying81 rfl sizeLy) rfl ?_
 exact ⟨rfl, zaa (zac Br Lr _)⟩
abbrev iP (a : Nat) : Value := .iface 110 (.pointer (some ⟨a, 0, none⟩))
abbrev iQ (a : Nat) : Value := .iface 115 (.pointer (some ⟨a, 0, none⟩))
theorem asP_yes (a : Nat) (w : World) : Calls Tryz.prog 84 #[.pointer (some ⟨a, 0, none⟩), .int .i64 0] w fun e w' => e = .returned (.tuple #[iP a, .int .i64 0]) ∧ w' = w := by
 go_enter Tryz.func84, Tryz.ntmps84
 go_wp2
 go_ret2
 exact ⟨rfl, rfl⟩
theorem asP_no (p : Option Addr) (c : Int) (hc : ¬ c = 0) (w : World) : Calls Tryz.prog 84 #[.pointer p, .int .i64 c] w fun e w' => e = .returned (.tuple #[.nilIface, .int .i64 c]) ∧ w' = w := by
 go_enter Tryz.func84, Tryz.ntmps84
 go_wp2
 go_ret2
 exact ⟨rfl, rfl⟩
theorem asQ_yes (a : Nat) (w : World) : Calls Tryz.prog 92 #[.pointer (some ⟨a, 0, none⟩), .int .i64 0] w fun e w' => e = .returned (.tuple #[iQ a, .int .i64 0]) ∧ w' = w := by
 go_enter Tryz.func92, Tryz.ntmps92
 go_wp2
 go_ret2
 exact ⟨rfl, rfl⟩
theorem asQ_no (p : Option Addr) (c : Int) (hc : ¬ c = 0) (w : World) : Calls Tryz.prog 92 #[.pointer p, .int .i64 c] w fun e w' => e = .returned (.tuple #[.nilIface, .int .i64 c]) ∧ w' = w := by
 go_enter Tryz.func92, Tryz.ntmps92
 go_wp2
 go_ret2
 exact ⟨rfl, rfl⟩
structure Po (w : World) (B a : Nat) (k : Int) (n : Nat) (vb vs : Value) (cs : List Cl) : Prop where
 row : PR w a k n vb vs
 body : OwnB w B vb (bdy cs)
 starts : OwnN w B vs (sts 0 cs)
def PZ (a : Nat) (vb vs : Value) (b : Nat) : Prop := b = a ∨ vb.ownBlock = some b ∨ vs.ownBlock = some b
theorem OwnN.shape {w : World} {B : Nat} {v : Value} {l : List Nat} (h : OwnN w B v l) : ∃ ao cap, v = .slice ao l.length cap := by
 unfold OwnN at h
 rcases h.2 with ⟨rfl, h0⟩ | ⟨g, cap, cur, rfl, _⟩
 ·exact ⟨none, 0, by rw [h0]⟩
 ·exact ⟨_, cap, rfl⟩
theorem OwnN.sl2 {w : World} {B : Nat} {ao : Option Addr} {n c : Nat} {l : List Nat} (h : OwnN w B (.slice ao n c) l) (hn : l.length ≤ 140737488355328) : SlN w ao n c l ∧ l.length = n := by
 obtain ⟨x, y, hxy, hsl⟩ := h.sln hn
 injection hxy with e1 e2 e3
 subst e1
 subst e3
 rw [e2]
 exact ⟨hsl, rfl⟩
theorem Po.on {w w' : World} {B a : Nat} {k : Int} {n : Nat} {vb vs : Value} {cs : List Cl} (h : Po w B a k n vb vs cs) (hb : Below w.heap.size w w') : Po w' B a k n vb vs cs := ⟨zaf h.row hb, h.body.on Lr hb, h.starts.below hb⟩
theorem Po.pg {w : World} {B a : Nat} {k : Int} {n : Nat} {bo : Option Addr} {bn bc : Nat} {so : Option Addr} {sn sc : Nat} {cs : List Cl} (h : Po w B a k n (.slice bo bn bc) (.slice so sn sc) cs) (hw : ∀ c ∈ cs, c.Wf) (hl : szN cs ≤ 65536) : PgAt w a k n bo bn bc so sn sc cs := by
 have hz := zaq cs
 refine ⟨h.row, ?_, (h.starts.sl2 (by rw [zai]; omega)).1⟩
 obtain ⟨x, y, hxy, hsl, _⟩ := h.body.sl (bdy_wf hw) (by omega)
 injection hxy with e1 e2 e3
 subst e1
 subst e3
 rw [e2]
 exact hsl
theorem By_take (l : List Int) (n : Nat) : (By l).take n = By (l.take n) := by simp [By, List.map_take]
theorem By_drop (l : List Int) (n : Nat) : (By l).drop n = By (l.drop n) := by simp [By, List.map_drop]
theorem NI_take (l : List Nat) (n : Nat) : (NI l).take n = NI (l.take n) := by simp [NI, List.map_take]
theorem NI_drop (l : List Nat) (n : Nat) : (NI l).drop n = NI (l.drop n) := by simp [NI, List.map_drop]
theorem NI_append (a b : List Nat) : NI (a ++ b) = NI a ++ NI b := by simp [NI]
theorem bdy_take (cs : List Cl) (i : Nat) : (bdy cs).take (bdy (cs.take i)).length = bdy (cs.take i) := by
 conv => lhs; arg 2; rw [← List.take_append_drop i cs, zbe]
 exact List.take_left
theorem cB_pos (c : Cl) : 0 < (cB c).length := by
 unfold cB
 split <;> simp
theorem bdy_pos : ∀ (cs : List Cl), 0 < cs.length → 0 < (bdy cs).length
 | [], h => by simp at h
 | c :: r, _ => by
  rw [zbu, zG]
  have := cB_pos c
  omega
theorem start_any (w : World) (B a : Nat) (k : Int) (n : Nat) (vb vs : Value) (cs : List Cl) (h : Po w B a k n vb vs cs) (hl : szN cs ≤ 65536) (i : Nat) (hi : i ≤ cs.length) :
  Calls Tryz.prog 184 #[.pointer (some ⟨a, 0, none⟩), .int .i64 (i : Int)] w fun e w' => e = .returned (.int .i64 ((bdy (cs.take i)).length : Int)) ∧ w' = w := by
 have hz := zaq cs
 obtain ⟨bo, bc, rfl⟩ := h.body.slice
 obtain ⟨so, sc, rfl⟩ := h.starts.shape
 obtain ⟨c0, c1, c2, c3⟩ := h.row.cells
 have hst := h.starts
 rw [zai] at c3 hst
 have hsl := (hst.sl2 (by rw [zai]; omega)).1
 by_cases hin : i = cs.length
 ·have e : (bdy (cs.take i)).length = (bdy cs).length := by rw [List.take_of_length_le (by omega)]
  rw [e]
  subst hin
  generalize (bdy cs).length = bn at *
  generalize cs.length = sn at *
  clear h hst hsl
  go_enter Tryz.func184, Tryz.ntmps184
  go_wp2
  go_ret
  exact ⟨rfl, rfl⟩
 ·have hg := zcd 0 i cs (by omega)
  rw [Nat.zero_add] at hg
  obtain ⟨g, off, rfl, cI⟩ : ∃ g off, so = some ⟨g, off, none⟩ ∧ w.cell? ⟨g, off + i, none⟩ = some (.int .i64 (((bdy (cs.take i)).length : Nat) : Int)) := by
   rcases hsl.hat with h0 | ⟨g, off, e, _, hc⟩
   ·omega
   ·refine ⟨g, off, e, ?_⟩
    rw [← hg]
    exact hc i (by omega)
  have hiI : ¬ (i : Int) = (cs.length : Int) := by omega
  have hlI : (i : Int) < (cs.length : Int) := by omega
  have hlN : i < cs.length := by omega
  generalize (bdy (cs.take i)).length = r at *
  generalize (bdy cs).length = bn at *
  generalize cs.length = sn at *
  clear h hst hsl hg
  go_enter Tryz.func184, Tryz.ntmps184
  go_wp2
  go_ret
  exact ⟨rfl, rfl⟩
theorem sts_mid (cs ns : List Cl) (i j F : Nat) (hij : i ≤ j) (hj : j ≤ cs.length) (hF : F = (bdy (cs.take i)).length) (q : Nat) (h1 : i + ns.length ≤ q) (h2 : q < i + ns.length + (cs.length - j)) :
  (((sts 0 cs).take i ++ sts F ns ++ (sts 0 cs).drop j).getD q 0 : Int) + (((bdy ns).length : Int) - (((bdy (cs.take j)).length : Int) - (F : Int))) = ((sts 0 (cs.take i ++ ns ++ cs.drop j)).getD q 0 : Int) := by
 have hti : ((sts 0 cs).take i).length = i := by rw [zJ, zai]; omega
 obtain ⟨t, rfl⟩ : ∃ t, q = i + ns.length + t := ⟨q - i - ns.length, by omega⟩
 have e1 : ((sts 0 cs).take i ++ sts F ns ++ (sts 0 cs).drop j).getD (i + ns.length + t) 0 = (bdy (cs.take (j + t))).length := by
  have := zcd 0 (j + t) cs (by omega)
  rw [Nat.zero_add] at this
  rw [← this]
  simp only [List.getD]
  rw [List.getElem?_append_right (by rw [zG, hti, zai]; omega), zG, hti, zai, List.getElem?_drop, show j + (i + ns.length + t - (i + ns.length)) = j + t by omega]
 have hil : (cs.take i).length = i := by rw [zJ]; omega
 have e2 : (sts 0 (cs.take i ++ ns ++ cs.drop j)).getD (i + ns.length + t) 0 = (bdy (cs.take i)).length + (bdy ns).length + (bdy ((cs.drop j).take t)).length := by
  have := zcd 0 (i + ns.length + t) (cs.take i ++ ns ++ cs.drop j) (by simp only [zG, zK, hil]; omega)
  rw [Nat.zero_add] at this
  rw [this, List.take_append, List.take_of_length_le (by simp only [zG, hil]; omega), zbe, zbe, zG, zG]
  simp only [zG, hil]
  rw [show i + ns.length + t - (i + ns.length) = t by omega]
 have e3 : (bdy (cs.take (j + t))).length = (bdy (cs.take j)).length + (bdy ((cs.drop j).take t)).length := by
  rw [List.take_add, zbe, zG]
 rw [e1, e2, e3, hF]
 omega
theorem sts_pre (cs ns : List Cl) (i j F : Nat) (hij : i ≤ j) (hj : j ≤ cs.length) (hF : F = (bdy (cs.take i)).length) : ((sts 0 cs).take i ++ sts F ns ++ (sts 0 cs).drop j).take (i + ns.length) = (sts 0 (cs.take i ++ ns ++ cs.drop j)).take (i + ns.length) := by
 have hti : ((sts 0 cs).take i).length = i := by rw [zJ, zai]; omega
 have hil : (cs.take i).length = i := by rw [zJ]; omega
 have e0 : (sts 0 cs).take i = sts 0 (cs.take i) := by
  conv => lhs; arg 2; rw [← List.take_append_drop i cs, zcs]
  rw [List.take_left' (by rw [zai, hil])]
 rw [List.take_left' (by rw [zG, hti, zai]), zcs, zcs, List.take_left' (by rw [zG, zai, zai, hil]), e0, Nat.zero_add, hF]
theorem replace_any (w : World) (B a : Nat) (k : Int) (n : Nat) (vb vs : Value) (cs : List Cl) (i j : Nat) (co : Option Addr) (cn cc : Nat) (ns : List Cl) (hp : Po w B a k n vb vs cs) (hij : i ≤ j) (hj : j ≤ cs.length) (hs : SlC w co cn cc ns) (hf : ∀ c ∈ ns, c.fit) (hz : szN cs ≤ 65536) (hz2 : szN ns ≤ 65536) (hm : i < j ∨ 0 < cn) (hB : B ≤ w.heap.size) :
  Calls Tryz.prog 145 #[.pointer (some ⟨a, 0, none⟩), .int .i64 (i : Int), .int .i64 (j : Int), .slice co cn cc] w fun e w' => e = .returned (.tuple #[]) ∧ Hid (∃ vb' vs', Po w' B a k n vb' vs' (cs.take i ++ ns ++ cs.drop j) ∧ (vb'.ownBlock = vb.ownBlock ∨ ∃ g, vb'.ownBlock = some g ∧ w.heap.size ≤ g) ∧ (vs'.ownBlock = vs.ownBlock ∨ ∃ g, vs'.ownBlock = some g ∧ w.heap.size ≤ g)) ∧ Hid (Cf (PZ a vb vs) w w') := by
 have hzc := zaq cs
 have hzn := zaq ns
 have hlen := hs.hlen
 have hcn : cn ≤ 65536 := by omega
 have hcl : cs.length ≤ 65536 := by omega
 have hiI : (i : Int) ≤ 65536 := by omega
 have hjI : (j : Int) ≤ 65536 := by omega
 have HST1 := zaa (start_any w B a k n vb vs cs hp hz i (by omega))
 have HST2 := zaa (start_any w B a k n vb vs cs hp hz j hj)
 obtain ⟨F, hF⟩ : ∃ F, (bdy (cs.take i)).length = F := ⟨_, rfl⟩
 obtain ⟨T, hT⟩ : ∃ T, (bdy (cs.take j)).length = T := ⟨_, rfl⟩
 rw [hF] at HST1
 rw [hT] at HST2
 have hFle : F ≤ 65536 := by rw [← hF]; have := zbw cs i; omega
 have hTle : T ≤ 65536 := by rw [← hT]; have := zbw cs j; omega
 have hFT : F ≤ T := by
  rw [← hF, ← hT]
  have := zbw (cs.take j) i
  rwa [List.take_take, Nat.min_eq_left hij] at this
 have hFI : (F : Int) ≤ 65536 := by omega
 have hTI : (T : Int) ≤ 65536 := by omega
 have HST : Hid (∀ x y : Nat, (x = i ∧ y = F) ∨ (x = j ∧ y = T) → Calls Tryz.prog 184 #[.pointer (some ⟨a, 0, none⟩), .int .i64 (x : Int)] w fun e w' => e = .returned (.int .i64 (y : Int)) ∧ w' = w) := zaa (by
  rintro x y (⟨rfl, rfl⟩ | ⟨rfl, rfl⟩)
  ·exact HST1.out
  ·exact HST2.out)
 clear HST1 HST2
 have HFE := zaa hF
 have HTE := zaa hT
 have HP := zaa hp
 have HS := zaa hs
 have HFIT := zaa hf
 have HBL : Hid ((bdy ns).length ≤ 65536) := zaa (by omega)
 have HLEN := zaa hlen
 obtain ⟨B0, hB0⟩ : ∃ B0, w.heap.size = B0 := ⟨_, rfl⟩
 have HB := zaa hB0
 have HBB := zaa hB
 clear hp hs hf hlen hF hT hB0 hB hzc hzn
 go_enter Tryz.func145, Tryz.ntmps145
 go_wp2_with (go_at_call 184; refine zae (HST.out _ _ (by first | exact .inl ⟨rfl, rfl⟩ | exact .inr ⟨rfl, rfl⟩)) ?_)
 go_loopw [10, 11, 24] (fun vb vs ix wr => ∃ (q : Nat) (bo : Option Addr) (bn bc : Nat) (so : Option Addr) (sn sc : Nat), q ≤ cn ∧ ix = .int .i64 q ∧ vb = .slice bo bn bc ∧ vs = .slice so sn sc ∧ Hid (OwnB wr B0 (.slice bo bn bc) (bdy (ns.take q))) ∧ Hid (OwnN wr B0 (.slice so sn sc) (sts F (ns.take q))) ∧ Hid (Below B0 w wr)) (fun _ _ ix _ => cn - (intOf ix).toNat)
 case atStart => exact ⟨0, none, 0, 0, none, 0, 0, by omega, rfl, rfl, rfl, zaa (by simpa [bdy] using OwnB.nil w B0), zaa (by simpa [sts] using OwnN.nil w B0), zaa Br⟩
 case round =>
  obtain ⟨q, bo, bn, bc, so, sn, sc, hq, rfl, rfl, rfl, HOB, HON, HBE⟩ := hrel
  clear HST
  have bj : (q : Int) ≤ 65536 := by omega
  by_cases hlt : q < cn
  ·have hltI : (q : Int) < (cn : Int) := by omega
   obtain ⟨b, off, c, ka, kc, va, vc, rfl, hb, hci, c0, c1, c2, c3, c4, hk, hv⟩ := HS.out.item q hlt
   have hbw := HBE.out
   rw [← HB.out] at hbw
   have d0 := (hbw.cell (p := ⟨b, off + q * 5, none⟩) hb).trans c0
   have d1 := (hbw.cell (p := ⟨b, off + q * 5 + 1, none⟩) hb).trans c1
   have d2 := (hbw.cell (p := ⟨b, off + q * 5 + 2, none⟩) hb).trans c2
   have d3 := (hbw.cell (p := ⟨b, off + q * 5 + 3, none⟩) hb).trans c3
   have d4 := (hbw.cell (p := ⟨b, off + q * 5 + 4, none⟩) hb).trans c4
   have HK := zaa hk
   have HV := zaa hv
   have hcf := HFIT.out c (List.mem_of_getElem? hci)
   have HCF := zaa hcf
   have HTK : Hid (bdy (ns.take (q + 1)) = bdy (ns.take q) ++ cB c ∧ sts F (ns.take (q + 1)) = sts F (ns.take q) ++ [F + bn]) := by
    have e : ns.take (q + 1) = ns.take q ++ [c] := by rw [List.take_add_one, hci]; rfl
    have hbn : bn = (bdy (ns.take q)).length := by
     obtain ⟨x, y, hxy⟩ := HOB.out.slice
     injection hxy
    refine zaa ⟨by rw [e, zbe]; simp [bdy], ?_⟩
    rw [e, zcs, hbn]
    rfl
   have hbl2 := zbw ns q
   have hbn2 : bn ≤ 65536 := by
    obtain ⟨x, y, hxy⟩ := HOB.out.slice
    injection hxy with _ h2
    have := HBL.out
    omega
   have bbn : (bn : Int) ≤ 65536 := by omega
   have hFb : (F : Int) ≤ 65536 := by omega
   have HBNL : Hid ((bdy (ns.take q)).length ≤ 65536) := zaa (zN hbl2 HBL.out)
   have HSTL : Hid ((sts F (ns.take q)).length + 1 ≤ 1000000) := zaa (by rw [zai, zJ]; omega)
   obtain ⟨x, hx⟩ : ∃ x, (wr.alloc (.cells #[.slice ka c.key.length kc, .int .i64 c.kd, .slice va c.val.length vc, .int .i64 c.pg, .int .i64 c.ct] 43)).alloc (.cells #[.int .i64 ((F : Int) + (bn : Int))] 3) = x := ⟨_, rfl⟩
   have hbx : Below wr.heap.size wr x := by rw [← hx]; exact zac (zac Br Lr _) Lr _
   obtain ⟨s, hss⟩ : ∃ s, wr.heap.size = s := ⟨_, rfl⟩
   have HBOX : Hid (C5 x s (.slice ka c.key.length kc) (.int .i64 c.kd) (.slice va c.val.length vc) (.int .i64 c.pg) (.int .i64 c.ct)) := by
    rw [← hx, ← hss]
    exact zaa ((Below.heap_alloc _ _ _ (by simp)).trans (heap_alloc_last wr _))
   have H1 : Hid (∀ i, i < 1 → x.cell? ⟨s + 1, 0 + i, none⟩ = some (.int .i64 (([F + bn].getD i 0 : Nat) : Int))) := by
    rw [← hx, ← hss]
    refine zaa fun i hi => ?_
    obtain rfl : i = 0 := by omega
    simp
   have HON1 := zaa (HON.out.below hbx)
   have HOB1 : Hid (OwnB x B0 (.slice bo bn bc) (bdy (ns.take q))) := zaa (HOB.out.on Lr hbx)
   have hBx : B0 ≤ x.heap.size := zN (by rw [← HB.out]; exact hbw.size) hbx.size
   have HBX : Hid (Below B0 w x) := zaa (HBE.out.trans (hbx.mono (by rw [← HB.out]; exact hbw.size)))
   clear hb hci c0 c1 c2 c3 c4 hk hv hcf hbl2 hbx hbw HOB HON HBE
   go_wp2_with (at_builtin; refine app_slN _ rfl _ _ rfl B0 (sts F (ns.take q)) [F + bn] (.slice so sn sc) (s + 1) 0 1 1 rfl rfl HON1.out rfl H1.out HSTL.out hBx ?_; refine Hid.out ?_)
   apply zaa
   intro v2 w2 ho2 g2
   obtain ⟨so2, sc2, rfl, _⟩ := ho2.sln (by rw [zG]; have := HSTL.out; simp; omega)
   obtain ⟨sn2, hsn2⟩ : ∃ sn2, (sts F (ns.take q) ++ [F + bn]).length = sn2 := ⟨_, rfl⟩
   rw [hsn2] at ho2 g2 ⊢
   have HON2 := zaa ho2
   have HB2 : Hid (Below B0 w w2) := zaa (HBX.out.trans (HON1.out.be g2 hBx))
   have HOB2 : Hid (OwnB w2 B0 (.slice bo bn bc) (bdy (ns.take q))) := zaa (World.ownsRow.kept HOB1.out g2.grow (own_bn HOB1.out HON1.out))
   have HBOX2 : Hid (C5 w2 s (.slice ka c.key.length kc) (.int .i64 c.kd) (.slice va c.val.length vc) (.int .i64 c.pg) (.int .i64 c.ct)) := zaa (HBOX.out.gr g2 (HON1.out.apart HBOX.out (by decide)))
   have hB2 : B0 ≤ w2.heap.size := by have := HB2.out.size; have := HB.out; omega
   have hbw2 : Below w.heap.size w w2 := by rw [HB.out]; exact HB2.out
   have HK2 : Hid (Sl w2 ka c.key.length kc c.key) := zaa (HK.out.on Lr hbw2)
   have HV2 : Hid (Sl w2 va c.val.length vc c.val) := zaa (HV.out.on Lr hbw2)
   have hob : OwnB w2 w.heap.size (.slice bo bn bc) (bdy (ns.take q)) := by rw [HB.out]; exact HOB2.out
   have HT := zaa (appended_any (.slice bo bn bc) B0 (bdy (ns.take q)) ka c.key.length kc c.kd va c.val.length vc c.pg c.ct c.key c.val w2 HOB2.out hB2 HK2.out HV2.out (HK.out.far hob) (HV.out.far hob) HCF.out.pg HCF.out.ct (by have := HBNL.out; have := HCF.out.key; have := HCF.out.val; omega))
   obtain ⟨c0, c1, c2, c3, c4⟩ := HBOX2.out.cells
   clear ho2 g2 hsn2 hbw2 hob hx hss H1 HON1 HOB1 HBOX d0 d1 d2 d3 d4 hBx HBX
   go_wp2_with (go_at_call 185; refine HT.out.mono ?_; rintro e w3 ⟨v3, rfl, HO3, HG3⟩; refine Hid.out ?_)
   apply zaa
   obtain ⟨bo3, bc3, rfl⟩ := HO3.out.slice
   obtain ⟨bn3, hbn3⟩ : ∃ bn3, (bdy (ns.take q) ++ cB ⟨c.key, c.kd, c.val, c.pg, c.ct⟩).length = bn3 := ⟨_, rfl⟩
   rw [hbn3] at HO3 HG3 ⊢
   have HON3 : Hid (OwnN w3 B0 (.slice so2 sn2 sc2) (sts F (ns.take q) ++ [F + bn])) := zaa (World.ownsRow.kept HON2.out HG3.out.grow (by
    rcases own_bn HOB2.out HON2.out with h | h
    ·cases hv : (Value.slice so2 sn2 sc2).ownBlock with
     | none => exact .inl rfl
     | some q => right; rw [h]; simp
    ·exact .inr (fun e => h e.symm)))
   have HB3 : Hid (Below B0 w w3) := zaa (HB2.out.trans (HG3.out.below HOB2.out hB2))
   have HOB3 : Hid (OwnB w3 B0 (.slice bo3 bn3 bc3) (bdy (ns.take (q + 1)))) := zaa (by rw [HTK.out.1]; exact HO3.out)
   have HON4 : Hid (OwnN w3 B0 (.slice so2 sn2 sc2) (sts F (ns.take (q + 1)))) := zaa (by rw [HTK.out.2]; exact HON3.out)
   clear HT HO3 HG3 hbn3 c0 c1 c2 c3 c4 HBOX2 HK2 HV2 HOB2 HON2 HON3
   go_wp2
   go_roundw
   case rel => exact ⟨q + 1, bo3, bn3, bc3, so2, sn2, sc2, by omega, by go_num, rfl, rfl, HOB3, HON4, HB3⟩
   case measure => simp [intOf]; omega
  ·obtain rfl : q = cn := by omega
   have hlI : ¬ (q : Int) < (q : Int) := by omega
   have htk : ns.take q = ns := List.take_of_length_le (by rw [HLEN.out]; exact Lr)
   rw [htk] at HOB HON
   have hbw : Below w.heap.size w wr := by rw [HB.out]; exact HBE.out
   have HPr := zaa (HP.out.on hbw)
   obtain ⟨po, pc, hvb⟩ := HP.out.body.slice
   obtain ⟨ta, tc, hvs⟩ := HP.out.starts.shape
   rw [zai] at hvs
   obtain ⟨bl, hbl⟩ : ∃ bl, (bdy cs).length = bl := ⟨_, rfl⟩
   obtain ⟨sl, hsl⟩ : ∃ sl, cs.length = sl := ⟨_, rfl⟩
   rw [hbl] at hvb
   rw [hsl] at hvs
   subst hvb
   subst hvs
   have hzc := zaq cs
   have hblb : bl ≤ 65536 := by omega
   have hslb : sl ≤ 65536 := by omega
   have hTbl : T ≤ bl := by rw [← hbl, ← HTE.out]; exact zbw cs j
   have hbnE : (bdy ns).length = bn := by
    obtain ⟨x, y, hxy⟩ := HOB.out.slice
    injection hxy with _ h2 _
    exact h2.symm
   have hsnE : ns.length = sn := by
    obtain ⟨x, y, hxy⟩ := HON.out.shape
    injection hxy with _ h2 _
    rw [h2, zai]
   have hqsn : q = sn := by rw [← hsnE, HLEN.out]
   have hbnb : bn ≤ 65536 := by have := HBL.out; omega
   have hFTlt : F < T ∨ 0 < bn := by
    rcases hm with h | h
    ·left
     have e : bdy (cs.take j) = bdy (cs.take i) ++ bdy ((cs.take j).drop i) := by
      rw [← zbe]
      conv => lhs; rw [← List.take_append_drop i (cs.take j), List.take_take, Nat.min_eq_left hij]
     have hne : 0 < ((cs.take j).drop i).length := by simp; omega
     have hpos := bdy_pos ((cs.take j).drop i) hne
     have := congrArg List.length e
     rw [zG, HTE.out, HFE.out] at this
     omega
    ·right
     have := bdy_pos ns (by rw [HLEN.out]; omega)
     omega
   have HRB : Hid (Calls Tryz.prog 186 #[.slice po bl pc, .int .i64 (F : Int), .int .i64 (T : Int), .slice bo bn bc] wr (RB.To wr B (.slice po bl pc) (F + bn + (bl - T)) ((By (bdy cs)).take F ++ By (bdy ns) ++ (By (bdy cs)).drop T))) := zaa (by
    have h1 := HPr.out.body
    have h2 := HOB.out
    unfold OwnB at h1 h2
    rw [hbl] at h1
    rw [hbnE] at h2
    refine RB.rep_any wr B B0 bl bn F T _ _ _ _ h1 h2 (zbt _) (zbt _) ?_ hFT hTbl (by omega) (zN HBB.out hbw.size) hFTlt
    cases e : (Value.slice bo bn bc).ownBlock with
    | none => exact .inl rfl
    | some z =>
     right
     intro e2
     have a1 := (h2.lt z e).1
     have h3 := HP.out.body
     unfold OwnB at h3
     have a2 := (h3.lt z e2.symm).2
     have := HB.out
     omega)
   obtain ⟨c0, c1, c2, c3⟩ := HPr.out.row.cells
   have HWB : Hid (Below w.heap.size w wr) := zaa hbw
   clear htk hbw hzc
   have HQ := zaa hqsn
   clear hqsn
   go_wp2_with (go_at_call 186; refine HRB.out.mono ?_; rintro e w2 ⟨b2o, b2c, rfl, HO2, HG2⟩; refine Hid.out ?_)
   apply zaa
   obtain ⟨L2, hL2⟩ : ∃ L2, F + bn + (bl - T) = L2 := ⟨_, rfl⟩
   rw [hL2] at HO2 HG2 ⊢
   have HBD : Hid (bdy (cs.take i ++ ns ++ cs.drop j) = (bdy cs).take F ++ bdy ns ++ (bdy cs).drop T) := zaa (by
    rw [zbe, zbe, ← HFE.out, ← HTE.out, bdy_take, bdy_drop])
   have HOB2 : Hid (OwnB w2 B (.slice b2o L2 b2c) (bdy (cs.take i ++ ns ++ cs.drop j))) := zaa (by
    have hl : (bdy (cs.take i ++ ns ++ cs.drop j)).length = L2 := by
     rw [HBD.out]
     simp only [zG, zJ, zK, hbl, hbnE]
     omega
    have := HO2.out
    rw [By_take, By_drop, ← zda, ← zda, ← HBD.out] at this
    unfold OwnB
    rw [hl]
    exact this)
   have hpr := HPr.out.row
   unfold PR at hpr
   have hnb : ∀ z, (Value.slice po bl pc).ownBlock = some z → ∃ cs fz, wr.heap[z]? = some (.cells cs 5 fz) := fun z hz => by
    have h1 := HPr.out.body
    unfold OwnB at h1
    rcases h1.2 with ⟨e, _⟩ | ⟨g, cap, cur, e, _, hh, _⟩
    ·rw [e] at hz; cases hz
    ·rw [e] at hz
     injection hz with hz
     have hz' : g = z := hz
     subst hz'
     exact ⟨_, _, hh⟩
   have HR2 : Hid (PR w2 a k n (.slice po bl pc) (.slice ta sl tc)) := zaa ((HG2.out.grow.block a (zah hpr) (fun e => by
    obtain ⟨x, y, h⟩ := hnb a e.symm
    rw [hpr] at h
    simp at h)).trans hpr)
   have hNk : ∀ {D : Nat} {v : Value} {l : List Nat}, OwnN wr D v l → OwnN w2 D v l := fun {D v l} h => by
    refine World.ownsRow.kept h HG2.out.grow ?_
    cases e : v.ownBlock with
    | none => exact .inl rfl
    | some z =>
     right
     intro e2
     obtain ⟨x, y, hh⟩ := hnb z e2.symm
     exact h.apart hh (by decide) e
   have HS2 := zaa (hNk HPr.out.starts)
   have HN2 := zaa (hNk HON.out)
   clear c0 c1 c2 c3 HRB hpr hnb hNk HPr HO2 HON HOB
   obtain ⟨c0, c1, c2, c3⟩ := HR2.out.cells
   have f2 := HR2.out.free 2
   obtain ⟨u3, hu3⟩ : ∃ u3, w2.setCell ⟨a, 2, none⟩ (.slice b2o L2 b2c) = u3 := ⟨_, rfl⟩
   have hset : ∀ x, Cf (· = a) w2 (w2.setCell ⟨a, 2, none⟩ x) := fun x => Cf.set w2 a 2 x
   have hrow2 := HR2.out
   unfold PR at hrow2
   have HR3 : Hid (PR u3 a k n (.slice b2o L2 b2c) (.slice ta sl tc)) := zaa (by rw [← hu3]; exact HR2.out.set2 _)
   have HS3 : Hid (OwnN u3 B (.slice ta sl tc) (sts 0 cs)) := zaa (by rw [← hu3]; exact HS2.out.cf (hset _) (HS2.out.apart hrow2 (by decide)))
   have HN3 : Hid (OwnN u3 B0 (.slice so sn sc) (sts F ns)) := zaa (by rw [← hu3]; exact HN2.out.cf (hset _) (HN2.out.apart hrow2 (by decide)))
   have HB3 : Hid (OwnB u3 B (.slice b2o L2 b2c) (bdy (cs.take i ++ ns ++ cs.drop j))) := zaa (by
    rw [← hu3]
    refine World.ownsRow.kept (row := some a) HOB2.out ⟨rfl, rfl, rfl, by simp [World.setCell], fun z _ hz => Below.heap_setCell _ _ _ _ (fun e => hz (by rw [e]))⟩ (.inr fun e => ?_)
    have h1 := HOB2.out
    unfold OwnB at h1
    rcases h1.2 with ⟨e1, _⟩ | ⟨g, cap, cur, e1, _, hh, _⟩
    ·rw [e1] at e; cases e
    ·rw [e1] at e
     injection e with e
     have e' : g = a := e
     subst e'
     rw [hrow2] at hh
     simp at hh)
   have HC3 : Hid (Cf (PZ a (.slice po bl pc) (.slice ta sl tc)) w u3) := zaa (by
    rw [← hu3]
    refine (Cf.of_below HWB.out).trans (G := PZ a (.slice po bl pc) (.slice ta sl tc)) ?_ (fun _ _ h => h)
    refine (show Cf (PZ a (.slice po bl pc) (.slice ta sl tc)) wr w2 from ⟨HG2.out.grow.os, HG2.out.grow.tape, HG2.out.grow.output, HG2.out.grow.size, fun z hz hn => HG2.out.grow.block z hz (fun e => hn (.inr (.inl e.symm)))⟩).trans (hset _) (fun z _ h => .inl h))
   have HW3 : Hid (w.heap.size ≤ u3.heap.size) := zaa HC3.out.size
   have HRN : Hid (Calls Tryz.prog 187 #[.slice ta sl tc, .int .i64 (i : Int), .int .i64 (j : Int), .slice so sn sc] u3 (RN.To u3 B (.slice ta sl tc) (i + sn + (sl - j)) ((NI (sts 0 cs)).take i ++ NI (sts F ns) ++ (NI (sts 0 cs)).drop j))) := zaa (by
    have h1 := HS3.out
    have h2 := HN3.out
    unfold OwnN at h1 h2
    rw [zai] at h1 h2
    rw [hsl] at h1
    rw [hsnE] at h2
    refine RN.rep_any u3 B B0 sl sn i j _ _ _ _ h1 h2 (NI_one _) (NI_one _) ?_ hij (by omega) (by have := HQ.out; omega) (zN HBB.out HW3.out) (by rw [← HQ.out]; exact hm)
    cases e : (Value.slice so sn sc).ownBlock with
    | none => exact .inl rfl
    | some z =>
     right
     intro e2
     have a1 := (h2.lt z e).1
     have h3 := HP.out.starts
     unfold OwnN at h3
     have a2 := (h3.lt z e2.symm).2
     have := HB.out
     omega)
   have HV2 : Hid ((Value.slice b2o L2 b2c).ownBlock = (Value.slice po bl pc).ownBlock ∨ ∃ g, (Value.slice b2o L2 b2c).ownBlock = some g ∧ w.heap.size ≤ g) := zaa (HG2.out.own.imp id fun ⟨g, h1, h2⟩ => ⟨g, h1, zN HWB.out.size h2⟩)
   clear hset hrow2 HR2 HS2 HN2 HOB2 HG2
   obtain ⟨d0, d1, d2, d3⟩ := HR3.out.cells
   go_wp2_with (go_at_call 187; refine HRN.out.mono ?_; rintro e w4 ⟨s4o, s4c, rfl, HO4, HG4⟩; refine Hid.out ?_)
   apply zaa
   obtain ⟨N4, hN4⟩ : ∃ N4, i + sn + (sl - j) = N4 := ⟨_, rfl⟩
   rw [hN4] at HO4 HG4 ⊢
   have hN4b : N4 ≤ 131072 := by have := HQ.out; omega
   obtain ⟨S0, hS0⟩ : ∃ S0, (sts 0 cs).take i ++ sts F ns ++ (sts 0 cs).drop j = S0 := ⟨_, rfl⟩
   obtain ⟨S1, hS1⟩ : ∃ S1, sts 0 (cs.take i ++ ns ++ cs.drop j) = S1 := ⟨_, rfl⟩
   have HL0 : Hid (S0.length = N4) := zaa (by rw [← hS0]; simp only [zG, zJ, zK, zai, hsl, hsnE]; omega)
   have HN4L : Hid (i + sn ≤ N4) := zaa (by omega)
   have HL1 : Hid (S1.length = N4) := zaa (by rw [← hS1, zai]; simp only [zG, zJ, zK, hsl, hsnE]; omega)
   have HPRE : Hid (S0.take (i + sn) = S1.take (i + sn)) := zaa (by rw [← hS0, ← hS1, ← hsnE]; exact sts_pre cs ns i j F hij hj HFE.out.symm)
   have HMID : Hid (∀ q, i + sn ≤ q → q < N4 → ((S0.getD q 0 : Nat) : Int) + ((bn : Int) - ((T : Int) - (F : Int))) = ((S1.getD q 0 : Nat) : Int)) := zaa (fun q h1 h2 => by
    rw [← hS0, ← hS1, ← hbnE, ← HTE.out]
    exact sts_mid cs ns i j F hij hj HFE.out.symm q (by rw [hsnE]; exact h1) (by rw [hsnE, hsl]; omega))
   have HS0B : Hid (∀ q, i + sn ≤ q → q < N4 → S1.getD q 0 ≤ 131072 ∧ S0.getD q 0 ≤ 131072) := zaa (fun q h1 h2 => by
    have hm1 := HMID.out q h1 h2
    have h3 : S1.getD q 0 ≤ 131072 := by
     rw [← hS1, zcd 0 q _ (by rw [← zai 0, hS1, HL1.out]; exact h2), Nat.zero_add]
     have h4 := zbw (cs.take i ++ ns ++ cs.drop j) q
     have h5 : (bdy (cs.take i ++ ns ++ cs.drop j)).length = L2 := by
      rw [HBD.out]
      simp only [zG, zJ, zK, hbl, hbnE]
      omega
     omega
    refine ⟨h3, ?_⟩
    have : S0.getD q 0 ≤ bl := by
     rw [← hS0, ← hbl]
     obtain ⟨t, rfl⟩ : ∃ t, q = i + sn + t := ⟨q - (i + sn), by omega⟩
     have hti : ((sts 0 cs).take i).length = i := by rw [zJ, zai]; omega
     have := zcd 0 (j + t) cs (by omega)
     rw [Nat.zero_add] at this
     simp only [List.getD] at this ⊢
     rw [List.getElem?_append_right (by rw [zG, hti, zai, hsnE]; omega), zG, hti, zai, hsnE, List.getElem?_drop, show j + (i + sn + t - (i + sn)) = j + t by omega, this]
     exact zbw cs (j + t)
    omega)
   have HN4 : Hid (OwnN w4 B (.slice s4o N4 s4c) S0) := zaa (by
    have := HO4.out
    rw [NI_take, NI_drop, ← NI_append, ← NI_append, hS0] at this
    unfold OwnN
    rw [HL0.out]
    exact this)
   have HS1E := zaa hS1
   have hpr := HR3.out
   unfold PR at hpr
   have hnb : ∀ z, (Value.slice ta sl tc).ownBlock = some z → ∃ cs fz, u3.heap[z]? = some (.cells cs 3 fz) := fun z hz => by
    have h1 := HS3.out
    unfold OwnN at h1
    rcases h1.2 with ⟨e, _⟩ | ⟨g, cap, cur, e, _, hh, _⟩
    ·rw [e] at hz; cases hz
    ·rw [e] at hz
     injection hz with hz
     have hz' : g = z := hz
     subst hz'
     exact ⟨_, _, hh⟩
   have HR4 : Hid (PR w4 a k n (.slice b2o L2 b2c) (.slice ta sl tc)) := zaa ((HG4.out.grow.block a (zah hpr) (fun e => by
    obtain ⟨x, y, h⟩ := hnb a e.symm
    rw [hpr] at h
    simp at h)).trans hpr)
   have HB4 : Hid (OwnB w4 B (.slice b2o L2 b2c) (bdy (cs.take i ++ ns ++ cs.drop j))) := zaa (by
    refine World.ownsRow.kept HB3.out HG4.out.grow ?_
    exact own_bn HB3.out HS3.out)
   have HV4 : Hid ((Value.slice s4o N4 s4c).ownBlock = (Value.slice ta sl tc).ownBlock ∨ ∃ g, (Value.slice s4o N4 s4c).ownBlock = some g ∧ w.heap.size ≤ g) := zaa (HG4.out.own.imp id fun ⟨g, h1, h2⟩ => ⟨g, h1, zN HW3.out h2⟩)
   have HC4 : Hid (Cf (PZ a (.slice po bl pc) (.slice ta sl tc)) w w4) := zaa (HC3.out.trans (G := PZ a (.slice po bl pc) (.slice ta sl tc)) ⟨HG4.out.grow.os, HG4.out.grow.tape, HG4.out.grow.output, HG4.out.grow.size, fun z hz hn => HG4.out.grow.block z hz (fun e => hn (.inr (.inr e.symm)))⟩ (fun _ _ h => h))
   have hrow4 := HR4.out
   unfold PR at hrow4
   obtain ⟨u5, hu5⟩ : ∃ u5, w4.setCell ⟨a, 3, none⟩ (.slice s4o N4 s4c) = u5 := ⟨_, rfl⟩
   have HR5 : Hid (PR u5 a k n (.slice b2o L2 b2c) (.slice s4o N4 s4c)) := zaa (by rw [← hu5]; exact HR4.out.set3 _)
   have HN5 : Hid (OwnN u5 B (.slice s4o N4 s4c) S0) := zaa (by rw [← hu5]; exact HN4.out.cf (Cf.set w4 a 3 _) (HN4.out.apart hrow4 (by decide)))
   have HB5 : Hid (OwnB u5 B (.slice b2o L2 b2c) (bdy (cs.take i ++ ns ++ cs.drop j))) := zaa (by
    rw [← hu5]
    refine World.ownsRow.kept (row := some a) HB4.out ⟨rfl, rfl, rfl, by simp [World.setCell], fun z _ hz => Below.heap_setCell _ _ _ _ (fun e => hz (by rw [e]))⟩ (.inr fun e => ?_)
    have h1 := HB4.out
    unfold OwnB at h1
    rcases h1.2 with ⟨e1, _⟩ | ⟨g, cap, cur, e1, _, hh, _⟩
    ·rw [e1] at e; cases e
    ·rw [e1] at e
     injection e with e
     have e' : g = a := e
     subst e'
     rw [hrow4] at hh
     simp at hh)
   have HC5 : Hid (Cf (PZ a (.slice po bl pc) (.slice ta sl tc)) w u5) := zaa (by rw [← hu5]; exact HC4.out.trans (Cf.set w4 a 3 _) (fun z _ h => .inl h))
   obtain ⟨x0, x1, x2, x3⟩ := HR4.out.cells
   have f3 := HR4.out.free 3
   obtain ⟨Gi, hGi⟩ : ∃ Gi : Int, (bn : Int) - ((T : Int) - (F : Int)) = Gi := ⟨_, rfl⟩
   rw [hGi] at HMID
   have hGib : -131072 ≤ Gi ∧ Gi ≤ 131072 := by omega
   have hbnI : (bn : Int) ≤ 65536 := by omega
   have hsnI : (sn : Int) ≤ 65536 := by have := HQ.out; omega
   have hsnN : q = sn := HQ.out
   subst hsnN
   clear hS0 hS1 hN4 hL2 hpr hnb hrow4 d0 d1 d2 d3 c0 c1 c2 c3 f2 HRN HO4 HG4 HR3 HS3 HN3 HB3 HC3 HW3 HR4 HB4 HN4 HC4 hbnE hsnE hbl hsl
   have HIN : Hid (i + q ≤ N4) := zaa (by have := HL0.out; have := HN4L.out; omega)
   go_wp2_with fail
   clear x0 x1 x2 x3 f3
   obtain ⟨wo, hwo⟩ : ∃ wo, wo = wr := ⟨_, rfl⟩
   subst hwo
   go_loopw [15] (fun kx wq => ∃ t : Nat, i + q ≤ t ∧ t ≤ N4 ∧ kx = .int .i64 (t : Int) ∧ Hid (OwnN wq B (.slice s4o N4 s4c) (S1.take t ++ S0.drop t)) ∧ Hid (PR wq a k n (.slice b2o L2 b2c) (.slice s4o N4 s4c)) ∧ Hid (OwnB wq B (.slice b2o L2 b2c) (bdy (cs.take i ++ ns ++ cs.drop j))) ∧ Hid (Cf (PZ a (.slice po bl pc) (.slice ta sl tc)) w wq)) (fun kx _ => N4 - (intOf kx).toNat)
   case atStart =>
    refine ⟨i + q, Lr, HIN.out, by go_num, ?_, ?_, ?_, ?_⟩
    all_goals (try rw [hu5])
    ·exact zaa (by rw [← HPRE.out, List.take_append_drop]; exact HN5.out)
    ·exact HR5
    ·exact HB5
    ·exact HC5
   case round =>
    obtain ⟨t, ht1, ht2, rfl, HNt, HRt, HBt, HCt⟩ := hrel
    clear HN5 HR5 HB5 HC5 hu5
    have htI : (t : Int) ≤ 131072 := by omega
    obtain ⟨x0, x1, x2, x3⟩ := HRt.out.cells
    by_cases hlt : t < N4
    ·have hltI : (t : Int) < (N4 : Int) := by omega
     have hNt := HNt.out
     unfold OwnN at hNt
     have hll : (S1.take t ++ S0.drop t).length = N4 := by
      rw [zG, zJ, zK, HL0.out, HL1.out]
      omega
     rw [hll] at hNt
     obtain ⟨g, rfl, hBg, hgn⟩ : ∃ g, s4o = some ⟨g, 0, none⟩ ∧ B ≤ g ∧ g ≠ a := by
      rcases hNt.2 with ⟨_, h0⟩ | ⟨g, cap, cur, e, h1, hh, _⟩
      ·omega
      ·injection e with e1 _ _
       refine ⟨g, e1, h1, fun e2 => ?_⟩
       have hr := HRt.out
       unfold PR at hr
       rw [← e2, hh] at hr
       simp at hr
     have hgx : (S1.take t ++ S0.drop t)[t]? = some (S0.getD t 0) := by
      rw [List.getElem?_append_right (by rw [zJ]; omega), zJ, List.getElem?_drop, HL1.out, show t + (t - min t N4) = t by omega]
      simp [List.getD, zI (show t < S0.length by rw [HL0.out]; exact hlt)]
     have hcell : wr.cell? ⟨g, t, none⟩ = some (.int .i64 ((S0.getD t 0 : Nat) : Int)) := by
      rw [hNt.cellAt t (by omega)]
      unfold NI
      rw [List.getElem?_map, hgx]
      rfl
     have hfr : wr.frozen? ⟨g, t, none⟩ = false := hNt.frozenAt t
     have hadd := HMID.out t ht1 hlt
     have hbd := HS0B.out t ht1 hlt
     obtain ⟨hst, hgr⟩ := hNt.stored t (.int .i64 ((S1.getD t 0 : Nat) : Int))
     have HN' : Hid (OwnN (wr.setCell ⟨g, t, none⟩ (.int .i64 ((S1.getD t 0 : Nat) : Int))) B (.slice (some ⟨g, 0, none⟩) N4 s4c) (S1.take (t + 1) ++ S0.drop (t + 1))) := zaa (by
      have e : (S1.take t ++ S0.drop t).set t (S1.getD t 0) = S1.take (t + 1) ++ S0.drop (t + 1) := by
       have h1 : t < S1.length := by rw [HL1.out]; exact hlt
       have h0 : t < S0.length := by rw [HL0.out]; exact hlt
       rw [List.set_append_right _ _ (by rw [zJ]; omega), zJ, show t - min t S1.length = 0 by omega, List.drop_eq_getElem_cons h0, zE, List.take_add_one, zI h1, zM]
       simp [List.getD, zI h1]
      unfold OwnN
      rw [← e, List.length_set, hll]
      have e2 : NI ((S1.take t ++ S0.drop t).set t (S1.getD t 0)) = (NI (S1.take t ++ S0.drop t)).set t (.int .i64 ((S1.getD t 0 : Nat) : Int)) := by
       unfold NI
       rw [List.map_set]
      rw [e2]
      exact hst)
     have hC1 : Cf (· = g) wr (wr.setCell ⟨g, t, none⟩ (.int .i64 ((S1.getD t 0 : Nat) : Int))) := Cf.set wr g t _
     have HR' : Hid (PR (wr.setCell ⟨g, t, none⟩ (.int .i64 ((S1.getD t 0 : Nat) : Int))) a k n (.slice b2o L2 b2c) (.slice (some ⟨g, 0, none⟩) N4 s4c)) := zaa (HRt.out.cf hC1 (fun e => hgn e.symm))
     have HB' : Hid (OwnB (wr.setCell ⟨g, t, none⟩ (.int .i64 ((S1.getD t 0 : Nat) : Int))) B (.slice b2o L2 b2c) (bdy (cs.take i ++ ns ++ cs.drop j))) := zaa (World.ownsRow.kept HBt.out hgr (by
      have := own_bn HBt.out HNt.out
      exact this))
     have HC' : Hid (Cf (PZ a (.slice po bl pc) (.slice ta sl tc)) w (wr.setCell ⟨g, t, none⟩ (.int .i64 ((S1.getD t 0 : Nat) : Int)))) := zaa (HCt.out.trans hC1 (fun z hz e => by
      subst e
      rcases HV4.out with e | ⟨g', e1, h2⟩
      ·exact .inr (.inr e.symm)
      ·injection e1 with e1
       have : z = g' := e1
       omega))
     obtain ⟨x, hx⟩ : ∃ x : Nat, S0.getD t 0 = x := ⟨_, rfl⟩
     obtain ⟨y, hy⟩ : ∃ y : Nat, S1.getD t 0 = y := ⟨_, rfl⟩
     rw [hx] at hcell hadd hbd
     rw [hy] at HN' HR' HB' HC' hadd hbd
     have hxb : (x : Int) ≤ 131072 := by omega
     have hyb : (y : Int) ≤ 131072 := by omega
     clear hNt hll hgx hst hgr hC1 HNt HRt HBt HCt hx hy hbd
     go_wp2
     go_roundw
     case rel => exact ⟨t + 1, by omega, by omega, by go_num, HN', HR', HB', HC'⟩
     case measure => simp [intOf]; omega
    ·obtain rfl : t = N4 := by omega
     have hltI : ¬ (t : Int) < (t : Int) := by omega
     have HE : Hid (S1.take t ++ S0.drop t = S1) := zaa (by rw [List.take_of_length_le (by rw [HL1.out]; exact Lr), List.drop_eq_nil_of_le (by rw [HL0.out]; exact Lr), List.append_nil])
     go_wp2
     go_returns
     have hPo : Po wr B a k n (.slice b2o L2 b2c) (.slice s4o t s4c) (cs.take i ++ ns ++ cs.drop j) := ⟨HRt.out, HBt.out, by
      have := HNt.out
      rw [HE.out, ← HS1E.out] at this
      exact this⟩
     rw [zM] at hPo
     exact ⟨rfl, zaa ⟨_, _, hPo, HV2.out, HV4.out⟩, HCt⟩
def hasP (x : Int) (n : Nat) : Prop := 0 ≤ x ∧ x < (n : Int)
theorem zck (w : World) (a : Nat) (k : Int) (n : Nat) (vb : Value) (so : Option Addr) (sn sc : Nat) (h : PR w a k n vb (.slice so sn sc)) (x : Int) (b : Bool) (hb : b = true ↔ hasP x sn) :
  Calls Tryz.prog 264 #[.pointer (some ⟨a, 0, none⟩), .int .i64 x] w fun e w' => e = .returned (.bool b) ∧ w' = w := by
 have HL := zaa (zcv w a k n vb so sn sc h)
 clear h
 by_cases h0 : 0 ≤ x
 ·by_cases h1 : x < (sn : Int)
  ·have hbt : b = true := hb.2 ⟨h0, h1⟩
   subst hbt
   clear hb
   go_enter Tryz.func264, Tryz.ntmps264
   go_wp2_with (go_at_call 147; refine zae HL.out ?_)
   go_ret
   exact ⟨ret_bool (by simp), rfl⟩
  ·have hbt : b = false := by
    cases b with
    | false => rfl
    | true => exact absurd (hb.1 rfl).2 h1
   subst hbt
   clear hb
   go_enter Tryz.func264, Tryz.ntmps264
   go_wp2_with (go_at_call 147; refine zae HL.out ?_)
   go_ret
   exact ⟨ret_bool (by simp; omega), rfl⟩
 ·have hbt : b = false := by
   cases b with
   | false => rfl
   | true => exact absurd (hb.1 rfl).1 h0
  subst hbt
  have h0' : x < 0 := by omega
  clear hb
  go_enter Tryz.func264, Tryz.ntmps264
  go_wp2_with (go_at_call 147; refine zae HL.out ?_)
  go_ret
  exact ⟨ret_bool (by simp), rfl⟩
def remE (cs : List Cl) (x : Int) : Int := if 0 ≤ x ∧ x < (cs.length : Int) then 0 else 64
theorem OwnN.lowN {w : World} {B C : Nat} {v : Value} {l : List Nat} (h : OwnN w C v l) (hB : B ≤ C) : OwnN w B v l := by
 unfold OwnN at *
 refine ⟨h.1, ?_⟩
 rcases h.2 with h2 | ⟨g, c, cur, e, hg, h4⟩
 ·exact .inl h2
 ·exact .inr ⟨g, c, cur, e, zN hB hg, h4⟩
def ReadPo (l : List Int) (w : World) (e : Ending) (w' : World) : Prop :=
 ∃ po, e = .returned (.pointer po) ∧ Hid (Below w.heap.size w w') ∧ Hid ((po = none ∧ zay l = none) ∨ ∃ a bo bn bc so sn sc cs, po = some ⟨a, 0, none⟩ ∧ w.heap.size ≤ a ∧ zay l = some cs ∧ (∃ gb, bo = some ⟨gb, 0, none⟩ ∧ w.heap.size ≤ gb) ∧ (PgAt w' a (l.getD 0 0) l.length bo bn bc so sn sc cs ∧ Po w' w.heap.size a (l.getD 0 0) l.length (.slice bo bn bc) (.slice so sn sc) cs))
theorem ReadPo.no {l : List Int} {w w' : World} (hb : Below w.heap.size w w') (h : zay l = none) : ReadPo l w (.returned (.pointer none)) w' := ⟨none, rfl, zaa hb, zaa (.inl ⟨rfl, h⟩)⟩
theorem read_tailP (ao : Option Addr) (n cap : Nat) (l : List Int) (w : World) (hs : Sl w ao n cap l) (hn : pw n) (hk : isKd (l.getD 0 0)) :
  Calls Tryz.prog 150 #[.slice ao n cap] w fun e w' => ReadPo l w e w' := by
 have hn2 := zak hn
 have hn3 := hn2.1
 have hn4 := hn2.2
 have hlen := hs.hlen
 have hcap := hs.hcap
 obtain ⟨b, off, rfl, hbl, hc⟩ : ∃ b off, ao = some ⟨b, off, none⟩ ∧ b < w.heap.size ∧ ∀ i, i < n → w.cell? ⟨b, off + i, none⟩ = some (.int .u8 (l.getD i 0)) := by
  rcases hs.hat with h | h
  ·omega
  ·exact h
 have c0 := hc 0 (by omega)
 rw [Nat.add_zero] at c0
 have hk0 := hs.wf.getD 0
 have HE : Hid (zay l = (if frst l < 4 + rdN l 2 2 * 2 ∨ (n : Int) - 4 < frst l then none else part (l.getD 0 0) n (rdN l 2 2).toNat none ((l.drop (frst l).toNat).take (n - 4 - (frst l).toNat)))) := by
  refine zaa ?_
  unfold zay
  rw [hlen, if_pos ⟨hn, hk⟩]
 have hN := rdN_bound l hs.wf 2 2
 have hF4 := rdN_bound l hs.wf 4 2
 obtain ⟨N, hNe⟩ := Int.eq_ofNat_of_zero_le hN.1
 obtain ⟨G, hGe⟩ := Int.eq_ofNat_of_zero_le hF4.1
 obtain ⟨E, hEe⟩ : ∃ E, n - 4 = E := ⟨_, rfl⟩
 have hEI : (n : Int) - 4 = (E : Int) := by omega
 obtain ⟨F, hFe⟩ : ∃ F : Nat, frst l = (F : Int) := by
  unfold frst
  rw [hlen]
  split
  ·exact ⟨G, hGe⟩
  ·exact ⟨E, hEI⟩
 have HFD : Hid (frst l = if 0 < N then (G : Int) else (E : Int)) := by
  refine zaa ?_
  unfold frst
  rw [hNe, hGe, hlen, hEI]
  simp
 rw [hNe, hFe, hEI, Int.toNat_natCast, Int.toNat_natCast] at HE
 rw [hFe] at HFD
 have hNb : N < 65536 := by omega
 have hGb : G < 65536 := by omega
 obtain ⟨k0, hk0e⟩ : ∃ k0, l.getD 0 0 = k0 := ⟨_, rfl⟩
 rw [hk0e] at c0 hk0 hk HE
 obtain ⟨a, ha⟩ : ∃ a, w.heap.size = a := ⟨_, rfl⟩
 have HS2 : Hid (∀ u, Rq w u a k0 n b off cap l → Calls Tryz.prog 193 #[.slice (some ⟨b, off, none⟩) n cap, .int .i64 2] u fun e u' => e = .returned (.int .i64 (N : Int)) ∧ Hid (Rq w u' a k0 n b off cap l)) := by
  refine zaa fun u hu => ?_
  have := shortAt_any u (some ⟨b, off, none⟩) n cap 2 l hu.sl (by omega)
  rw [hNe] at this
  refine (show Calls Tryz.prog 193 #[.slice (some ⟨b, off, none⟩) n cap, .int .i64 2] u _ from this).mono ?_
  rintro e u' ⟨rfl, q, rfl⟩
  exact ⟨rfl, zaa (hu.on (zad Br _))⟩
 have HS4 : Hid (∀ u, Rq w u a k0 n b off cap l → Calls Tryz.prog 193 #[.slice (some ⟨b, off, none⟩) n cap, .int .i64 4] u fun e u' => e = .returned (.int .i64 (G : Int)) ∧ Hid (Rq w u' a k0 n b off cap l)) := by
  refine zaa fun u hu => ?_
  have := shortAt_any u (some ⟨b, off, none⟩) n cap 4 l hu.sl (by omega)
  rw [hGe] at this
  refine (show Calls Tryz.prog 193 #[.slice (some ⟨b, off, none⟩) n cap, .int .i64 4] u _ from this).mono ?_
  rintro e u' ⟨rfl, q, rfl⟩
  exact ⟨rfl, zaa (hu.on (zad Br _))⟩
 have HR0 : Hid (Rq w (w.alloc (.cells #[.int .i64 k0, .int .i64 (n : Int), .slice none 0 0, .slice none 0 0] 154)) a k0 n b off cap l) := by
  refine zaa ⟨?_, hs.on Lr (zac Br Lr _), zac Br Lr _⟩
  rw [← ha]
  exact heap_alloc_last w _
 have d1 : decide (pw (n : Int)) = true := decide_eq_true hn
 have d2 : decide (isKd k0) = true := decide_eq_true hk
 have hw0 : IntKind.i64.wrap k0 = k0 := by rw [IntKind.wrap_i64]; omega
 have HKD := zaa hk
 have HPW := zaa hn
 have HWFL := zaa hs.wf
 have HKE := zaa hk0e
 have HLEN := zaa hlen
 have HEE := zaa hEe
 have bN : (N : Int) < 65536 := by omega
 have bE : (E : Int) ≤ 65536 := by omega
 have k01 := hk0.1
 have k02 := hk0.2
 have hn0 : (0 : Int) < (n : Int) := by omega
 clear hs hc hk hn hNe hGe hN hF4 hFe hk0e hlen hEe hk0 hn2
 go_enter Tryz.func150, Tryz.ntmps150
 go_wp2_with (first | (go_at_call 62; refine zae (zbg _ _) ?_; rw [d1]) | (go_at_call 63; refine zae (zbj _ _) ?_; rw [d2]) | (go_at_call 193; refine (HS2.out _ HR0.out).mono ?_; rintro e u1 ⟨rfl, HR1⟩; refine Hid.out ?_))
 apply zaa
 clear HS2 HR0 c0 hbl
 go_upto_if 36 with fail
 go_cut [5] (fun v u => v = .int .i64 (F : Int) ∧ Hid (Rq w u a k0 n b off cap l))
 case first =>
  by_cases h0 : 0 < N
  ·have h0I : 0 < (N : Int) := by omega
   have HFG : Hid ((F : Int) = (G : Int)) := zaa (by rw [HFD.out, if_pos h0])
   have C4 := zaa (HS4.out _ HR1.out)
   clear h0I HS4 HR1 HE HFD ha d1 d2 hEI bN bE hNb hn0
   obtain ⟨M, rfl⟩ : ∃ M, N = M + 1 := ⟨N - 1, by omega⟩
   clear h0
   go_wp2_with (go_at_call 193; refine C4.out.mono ?_; rintro e u2 ⟨rfl, HR2⟩; refine Hid.out ?_)
   apply zaa
   go_wp2
   go_meet
   exact ⟨by rw [HFG.out], HR2⟩
  ·obtain rfl : N = 0 := by omega
   have HFG : Hid ((F : Int) = (E : Int)) := zaa (by rw [HFD.out]; simp)
   go_wp2
   go_meet
   exact ⟨by rw [HFG.out], HR1⟩
 obtain ⟨rfl, HR2⟩ := hcut
 obtain ⟨u2, hu2⟩ : ∃ u2, u2 = wc := ⟨_, rfl⟩
 subst hu2
 have bF : (F : Int) ≤ 65536 := by
  have := HFD.out
  split at this <;> omega
 clear HR1 HS4 HFD
 by_cases h1 : (F : Int) < 4 + (N : Int) * 2
 ·have HNO : Hid (zay l = none) := zaa (by rw [HE.out, if_pos (.inl h1)])
  go_wp2
  go_ret
  exact ReadPo.no HR2.out.be HNO.out
 ·by_cases h2 : (E : Int) < (F : Int)
  ·have HNO : Hid (zay l = none) := zaa (by rw [HE.out, if_pos (.inr h2)])
   go_wp2
   go_ret
   exact ReadPo.no HR2.out.be HNO.out
  ·have HRM : Hid (zay l = part k0 n N none ((l.drop F).take (E - F))) := zaa (by rw [HE.out, if_neg (by omega), HEE.out])
   clear HE
   have e1 : F ≤ E := by omega
   have e2 : (F : Int) ≤ (E : Int) := by omega
   have e3 : E ≤ cap := by omega
   have e4 : (E : Int) ≤ (cap : Int) := by omega
   have e5 : ¬ cap = F := by omega
   have HCB := zaa (zdr (some ⟨b, off + F, none⟩) (E - F) (cap - F) _ u2 (HR2.out.sl.piece F (E - F) (cap - F) (by omega) (by omega)))
   obtain ⟨bn, hbn⟩ : ∃ bn, E - F = bn := ⟨_, rfl⟩
   obtain ⟨BD, hBD⟩ : ∃ BD, (l.drop F).take (E - F) = BD := ⟨_, rfl⟩
   rw [hBD] at HCB HRM
   have HBL : Hid (BD.length = bn) := zaa (by rw [← hBD, zJ, zK, HLEN.out]; omega)
   have HBW : Hid (Wf BD) := zaa (by rw [← hBD]; exact (HWFL.out.drop _).take _)
   rw [hbn] at HCB
   have hbn2 : bn ≤ 65536 := by omega
   obtain ⟨x0, x1, x2, x3⟩ := HR2.out.row.cells
   clear hBD
   go_wp2_with (go_at_call 191; refine HCB.out.mono ?_; rintro e u3 ⟨rfl, HBK, HB3⟩; refine Hid.out ?_)
   apply zaa
   clear HCB x0 x1 x2 x3
   have HRW3 : Hid (PR u3 a k0 n (.slice none 0 0) (.slice none 0 0)) := zaa (zaf HR2.out.row HB3.out)
   obtain ⟨x0, x1, x2, x3⟩ := HRW3.out.cells
   have x4 := HRW3.out.free 2
   obtain ⟨gb, hgb⟩ : ∃ gb, u2.heap.size = gb := ⟨_, rfl⟩
   have HGW : Hid (w.heap.size ≤ gb) := zaa (by rw [← hgb]; exact HR2.out.be.size)
   rw [hgb] at HBK ⊢
   have hga : ¬ gb = a := by
    have := zah HR2.out.row
    omega
   have HRW4 : Hid (PR (u3.setCell ⟨a, 2, none⟩ (.slice (some ⟨gb, 0, none⟩) bn bn)) a k0 n (.slice (some ⟨gb, 0, none⟩) bn bn) (.slice none 0 0)) := zaa (HRW3.out.set2 _)
   have HBK4 : Hid (Bk (u3.setCell ⟨a, 2, none⟩ (.slice (some ⟨gb, 0, none⟩) bn bn)) gb BD) := zaa (HBK.out.cf (Cf.set _ _ _ _) hga)
   have HBE4 : Hid (Below w.heap.size w (u3.setCell ⟨a, 2, none⟩ (.slice (some ⟨gb, 0, none⟩) bn bn))) := zaa ((zab HR2.out.be Lr HB3.out).setCell (p := ⟨a, 2, none⟩) (by simp only; omega) _)
   have HPT := zaa (parted_any N _ a k0 n gb bn BD _ HRW4.out HBK4.out HBL.out HBW.out HPW.out hbn2 (by omega))
   clear HRW3 HBK HB3 HR2 hgb hbn
   go_wp2_with (go_at_call 194; refine HPT.out.mono ?_; rintro e u5 ⟨bb, rfl, HC5, HP5⟩; refine Hid.out ?_)
   apply zaa
   have HBE5 : Hid (Below w.heap.size w u5) := zaa (HBE4.out.trans (HC5.out.below HBE4.out.size (by intro i hi e; omega)))
   have hws : w.heap.size ≤ (u3.setCell ⟨a, 2, none⟩ (.slice (some ⟨gb, 0, none⟩) bn bn)).heap.size := HBE4.out.size
   cases bb with
   | true =>
    go_wp2
    go_ret
    rcases HP5.out with ⟨_, cs, vs, h3, h4, h5, h6⟩ | ⟨h3, _⟩
    ·have hcl := (part_inv _ _ _ _ HBW.out h3).1
     have hb2 := (part_inv _ _ _ _ HBW.out h3).2.1
     obtain ⟨so, sc, rfl, hsn⟩ := h5.sln (by rw [zai, hcl]; omega)
     have hbl0 := HBL.out
     have hlen0 := HLEN.out
     refine ⟨some ⟨a, 0, none⟩, rfl, HBE5, zaa (.inr ⟨a, some ⟨gb, 0, none⟩, bn, bn, so, (sts 0 cs).length, sc, cs, rfl, by omega, HRM.out.trans h3, ⟨gb, rfl, HGW.out⟩, ?_⟩)⟩
     rw [HKE.out, HLEN.out]
     refine ⟨⟨h4, by rw [← hb2]; exact h6.sl HBL.out HBW.out (by omega), hsn⟩, ⟨h4, ?_, h5.lowN (by omega)⟩⟩
     rw [← hb2]
     have h7 := zdn h6 HGW.out (by rw [HBL.out]; unfold maxLen; omega)
     rw [HBL.out] at h7
     exact h7
    ·cases h3
   | false =>
    go_wp2
    go_ret
    rcases HP5.out with ⟨h3, _⟩ | ⟨_, h3⟩
    ·cases h3
    ·exact ReadPo.no HBE5.out (HRM.out.trans h3)
theorem read_po (ao : Option Addr) (n cap : Nat) (l : List Int) (w : World) (hs : Sl w ao n cap l) :
  Calls Tryz.prog 150 #[.slice ao n cap] w fun e w' => ReadPo l w e w' := by
 by_cases hn : pw n
 ·by_cases hk : isKd (l.getD 0 0)
  ·exact read_tailP ao n cap l w hs hn hk
  ·have hn2 := zak hn
   have hlen := hs.hlen
   obtain ⟨b, off, rfl, hbl, hc⟩ : ∃ b off, ao = some ⟨b, off, none⟩ ∧ b < w.heap.size ∧ ∀ i, i < n → w.cell? ⟨b, off + i, none⟩ = some (.int .u8 (l.getD i 0)) := by
    rcases hs.hat with h | h
    ·omega
    ·exact h
   have c0 := hc 0 (by omega)
   rw [Nat.add_zero] at c0
   have hk0 := hs.wf.getD 0
   have HNO : Hid (zay l = none) := zaa (by unfold zay; rw [if_neg (fun h => hk h.2)])
   have d1 : decide (pw (n : Int)) = true := decide_eq_true hn
   have d2 : decide (isKd (l.getD 0 0)) = false := decide_eq_false hk
   generalize l.getD 0 0 = k0 at *
   have hw0 : IntKind.i64.wrap k0 = k0 := by rw [IntKind.wrap_i64]; omega
   have hn0 : (0 : Int) < (n : Int) := by omega
   have k01 := hk0.1
   have k02 := hk0.2
   clear hs hc hk hn
   go_enter Tryz.func150, Tryz.ntmps150
   go_wp2_with (first | (go_at_call 62; refine zae (zbg _ _) ?_; rw [d1]) | (go_at_call 63; refine zae (zbj _ _) ?_; rw [d2]))
   go_ret
   exact ReadPo.no Br HNO.out
 ·have hlen := hs.hlen
  have HNO : Hid (zay l = none) := zaa (by unfold zay; rw [hlen, if_neg (fun h => hn h.1)])
  have d1 : decide (pw (n : Int)) = false := decide_eq_false hn
  clear hs hn
  go_enter Tryz.func150, Tryz.ntmps150
  go_wp2_with (go_at_call 62; refine zae (zbg _ _) ?_; rw [d1])
  go_ret
  exact ReadPo.no Br HNO.out
def OpenPo (l : List Int) (w : World) (e : Ending) (w' : World) : Prop :=
 ∃ po k, e = .returned (.tuple #[.pointer po, .int .i64 k]) ∧ Hid (Below w.heap.size w w') ∧ Hid ((po = none ∧ k = 60 ∧ ¬ ∃ cs, Is (l.getD 0 0) l.length cs l) ∨ ∃ a bo bn bc so sn sc cs, po = some ⟨a, 0, none⟩ ∧ k = 0 ∧ w.heap.size ≤ a ∧ Is (l.getD 0 0) l.length cs l ∧ (∀ c ∈ cs, c.Wf) ∧ (∃ gb, bo = some ⟨gb, 0, none⟩ ∧ w.heap.size ≤ gb) ∧ (PgAt w' a (l.getD 0 0) l.length bo bn bc so sn sc cs ∧ Po w' w.heap.size a (l.getD 0 0) l.length (.slice bo bn bc) (.slice so sn sc) cs))
theorem open_po (ao : Option Addr) (n cap : Nat) (l : List Int) (w : World) (hs : Sl w ao n cap l) (ht : Tab w) (h0 : 1 < w.heap.size) :
  Calls Tryz.prog 87 #[.slice ao n cap] w fun e w' => OpenPo l w e w' := by
 have HR := zaa (read_po ao n cap l w hs)
 have HS := zaa hs
 have HT := zaa ht
 clear hs ht
 go_enter Tryz.func87, Tryz.ntmps87
 go_wp2_with (go_at_call 150; refine HR.out.mono ?_; rintro e w1 ⟨po, rfl, HB1, HQ⟩; refine Hid.out ?_)
 apply zaa
 clear HR
 rcases HQ.out with ⟨rfl, hno⟩ | ⟨a, bo, bn, bc, so, sn, sc, cs, rfl, hal, hrm, hbo, hpg⟩
 ·have HNO : Hid (¬ ∃ cs, Is (l.getD 0 0) l.length cs l) := zaa (by
   rintro ⟨cs, h⟩
   have := (readM_of h).1
   rw [hno] at this
   cases this)
  clear HQ hno
  go_wp2
  go_ret2
  exact ⟨none, 60, rfl, HB1, zaa (.inl ⟨rfl, rfl, HNO.out⟩)⟩
 ·have HRM := zaa hrm
  have HPG := zaa hpg
  have HBO := zaa hbo
  have HAL := zaa hal
  obtain ⟨i1, i2, i3, i4, i5, _⟩ := readM_inv HS.out.wf hrm
  have HI := zaa (And.intro i1 (And.intro i2 (And.intro i3 (And.intro i4 i5))))
  have HBY := zaa (bytes_any w1 a _ _ bo bn bc so sn sc cs hpg.1 i1 i2 i4 (HT.out.on HB1.out h0) (zO h0 HB1.out.size) i5)
  clear hrm hpg hal hbo HQ i1 i2 i3 i4 i5
  have hlen := HS.out.hlen
  have HLEN := zaa hlen
  rw [hlen] at HBY
  clear hlen
  have HPL : Hid ((pgB (l.getD 0 0) n cs).length = n) := zaa (by have := HI.out.2.2.2.1; rw [HLEN.out] at this; exact pgB_length _ _ _ this)
  have HPWF : Hid (Wf (pgB (l.getD 0 0) n cs)) := zaa (pgB_wf (by have := HI.out.1; unfold isKd at this; omega) HI.out.2.2.2.2)
  have hnr := HS.out.hroom
  obtain ⟨PB, hPB⟩ : ∃ PB, pgB (l.getD 0 0) n cs = PB := ⟨_, rfl⟩
  rw [hPB] at HBY HPL HPWF
  have HPB := zaa hPB
  clear hPB
  cases hd : decide (PB = l) with
  | true =>
   have hpl : PB = l := by simpa using hd
   go_wp2_with (first | (go_at_call 146; refine HBY.out.mono ?_; rintro e w2 ⟨g, rfl, hg, HBK, HB2⟩) | (go_at_call 151; refine zae (equal6 _ _ _ _ _ _ PB l _ (HBK.out.sl HPL.out HPWF.out hnr) (HS.out.on Lr (zab HB1.out Lr HB2.out))) ?_; rw [hd]))
   go_ret2
   refine ⟨some ⟨a, 0, none⟩, 0, rfl, zaa (zab HB1.out Lr HB2.out), zaa (.inr ⟨a, bo, bn, bc, so, sn, sc, cs, rfl, rfl, HAL.out, ?_, HI.out.2.2.2.2, HBO.out, HPG.out.1.on HB2.out, HPG.out.2.on HB2.out⟩)⟩
   refine (is_iff HS.out.wf cs).2 ⟨HRM.out, ?_⟩
   rw [HLEN.out, HPB.out]
   exact hpl
  | false =>
   have hpl : ¬ PB = l := by simpa using hd
   have HNO : Hid (¬ ∃ cs, Is (l.getD 0 0) l.length cs l) := zaa (by
    rintro ⟨ds, h⟩
    obtain ⟨h1, h2⟩ := (is_iff HS.out.wf ds).1 h
    rw [HRM.out] at h1
    injection h1 with h1
    subst h1
    rw [HLEN.out, HPB.out] at h2
    exact hpl h2)
   go_wp2_with (first | (go_at_call 146; refine HBY.out.mono ?_; rintro e w2 ⟨g, rfl, hg, HBK, HB2⟩) | (go_at_call 151; refine zae (equal6 _ _ _ _ _ _ PB l _ (HBK.out.sl HPL.out HPWF.out hnr) (HS.out.on Lr (zab HB1.out Lr HB2.out))) ?_; rw [hd]))
   go_ret2
   exact ⟨none, 60, rfl, zaa (zab HB1.out Lr HB2.out), zaa (.inl ⟨rfl, rfl, HNO.out⟩)⟩
def NNewP (k n : Int) (w : World) (e : Ending) (w' : World) : Prop :=
 ∃ v c, e = .returned (.tuple #[v, .int .i64 c]) ∧ Hid (Below w.heap.size w w') ∧ Hid ((v = .nilIface ∧ c = 1 ∧ ¬ (isKd k ∧ pw n)) ∨ ∃ a, v = iP a ∧ c = 0 ∧ isKd k ∧ pw n ∧ w.heap.size ≤ a ∧ PR w' a k n.toNat (.slice none 0 0) (.slice none 0 0))
theorem NNewP.from {k n : Int} {w u w' : World} {e : Ending} (h : NNewP k n u e w') (hb : Below w.heap.size w u) : NNewP k n w e w' := by
 obtain ⟨v, c, rfl, HB, HQ⟩ := h
 refine ⟨v, c, rfl, zaa (zab hb Lr HB.out), zaa ?_⟩
 rcases HQ.out with h | ⟨a, h1, h2, h3, h4, h5, h6⟩
 ·exact .inl h
 ·exact .inr ⟨a, h1, h2, h3, h4, zN hb.size h5, h6⟩
theorem makeP_any (k n : Int) (w : World) : Calls Tryz.prog 83 #[.int .i64 k, .int .i64 n] w (NNewP k n w) := by
 have HN := zaa (new_any k n w)
 go_enter Tryz.func83, Tryz.ntmps83
 go_wp2_with (go_at_call 85; refine HN.out.mono ?_; rintro e w1 ⟨po, c, rfl, HB, HQ⟩; refine Hid.out ?_)
 apply zaa
 clear HN
 rcases HQ.out with ⟨rfl, rfl, hn⟩ | ⟨rfl, rfl, hk, hn, hh⟩
 ·have H1 := zaa hn
  clear HQ hn
  go_wp2_with (go_at_call 84; refine zae (asP_no _ _ (by decide) _) ?_)
  go_ret2
  exact ⟨_, _, rfl, HB, zaa (.inl ⟨rfl, rfl, H1.out⟩)⟩
 ·have H1 := zaa (And.intro hk (And.intro hn hh))
  clear HQ hk hn hh
  go_wp2_with (go_at_call 84; refine zae (asP_yes _ _) ?_)
  go_ret2
  obtain ⟨h1, h2, h3⟩ := H1.out
  have e : n = ((n.toNat : Nat) : Int) := by have := pw_le h2; omega
  refine ⟨_, _, rfl, HB, zaa (.inr ⟨_, rfl, rfl, h1, h2, Lr, ?_⟩)⟩
  unfold PR
  rw [← e]
  exact h3
theorem nnew_1 (k n : Int) (w : World) : Calls Tryz.prog 8 #[.int .i64 1, .int .i64 k, .int .i64 n] w (NNewP k n w) := by
 have HL := zaa (layout_1 w)
 have HM := zaa (fun u => makeP_any k n u)
 go_enter Tryz.func8, Tryz.ntmps8
 go_wp2_with (first | (go_at_call 38; refine HL.out.mono ?_; rintro e w1 ⟨rfl, HB1⟩) | (go_at_call 83; refine (HM.out _).mono ?_; rintro e w2 ⟨v, c, rfl, HB2, HQ2⟩; refine Hid.out ?_))
 apply zaa
 go_wp2
 go_ret2
 exact NNewP.from ⟨v, c, rfl, HB2, HQ2⟩ (zac HB1.out Lr _)
theorem nnew_0 (x k n : Int) (h1 : ¬ x = 1) (h2 : ¬ x = 2) (w : World) : Calls Tryz.prog 8 #[.int .i64 x, .int .i64 k, .int .i64 n] w fun e w' => e = .returned (.tuple #[.nilIface, .int .i64 80]) ∧ Hid (Below w.heap.size w w') := by
 have HL := zaa (layout_0 w x h1 h2)
 clear h1 h2
 go_enter Tryz.func8, Tryz.ntmps8
 go_wp2_with (go_at_call 38; refine HL.out.mono ?_; rintro e w1 ⟨rfl, HB1⟩)
 go_ret2
 exact ⟨rfl, zaa (zac HB1.out Lr _)⟩
def egO (l : List Int) : Int := if l.length < 2 then 0 else l.getD 1 0
theorem engineOf_any (ao : Option Addr) (n cap : Nat) (l : List Int) (w : World) (hs : Sl w ao n cap l) :
  Calls Tryz.prog 43 #[.slice ao n cap] w fun e w' => e = .returned (.int .i64 (egO l)) ∧ w' = w := by
 have hlen := hs.hlen
 have hnr := hs.hroom
 unfold egO
 rw [hlen]
 by_cases h : n < 2
 ·rw [if_pos h]
  have hI : (n : Int) < 2 := by omega
  clear hs hlen
  go_enter Tryz.func43, Tryz.ntmps43
  go_wp2
  go_ret
  exact ⟨rfl, rfl⟩
 ·rw [if_neg h]
  have hI : ¬ (n : Int) < 2 := by omega
  have h1 : 1 < n := by omega
  obtain ⟨g, off, rfl, hc⟩ : ∃ g off, ao = some ⟨g, off, none⟩ ∧ w.cell? ⟨g, off + 1, none⟩ = some (.int .u8 (l.getD 1 0)) := by
   rcases hs.hat with h0 | ⟨g, off, e, _, hc⟩
   ·omega
   ·exact ⟨g, off, e, hc 1 h1⟩
  have hb := hs.wf.getD 1
  generalize l.getD 1 0 = x at *
  clear hs hlen
  go_enter Tryz.func43, Tryz.ntmps43
  go_wp2
  go_ret
  exact ⟨rfl, rfl⟩
def cellE (cs : List Cl) (x : Int) : Cl := if 0 ≤ x ∧ x < (cs.length : Int) then (cs[x.toNat]?).getD ⟨[], 0, [], 0, 0⟩ else ⟨[], 0, [], 0, 0⟩
def CelO (c : Cl) (E : Int) (w : World) (e : Ending) (w' : World) : Prop :=
 ∃ ao a2 bo b2, e = .returned (.tuple #[.agg #[.slice ao c.key.length a2, .int .i64 c.kd, .slice bo c.val.length b2, .int .i64 c.pg, .int .i64 c.ct], .int .i64 E]) ∧ Hid (OwnB w' w.heap.size (.slice ao c.key.length a2) c.key ∧ OwnB w' w.heap.size (.slice bo c.val.length b2) c.val ∧ ∀ z, (Value.slice ao c.key.length a2).ownBlock = some z → ¬ (Value.slice bo c.val.length b2).ownBlock = some z) ∧ Hid (Below w.heap.size w w')
theorem cellO_any (w : World) (B a : Nat) (k : Int) (n : Nat) (vb vs : Value) (cs : List Cl) (x : Int) (hp : Po w B a k n vb vs cs) (hw : ∀ c ∈ cs, c.Wf) (hft : ∀ c ∈ cs, c.fit) (hz : szN cs ≤ n) (hn : n ≤ 65536) :
  Calls Tryz.prog 257 #[.pointer (some ⟨a, 0, none⟩), .int .i64 x] w (CelO (cellE cs x) (remE cs x) w) := by
 have hzc := zaq cs
 obtain ⟨s, hs⟩ : ∃ s, w.heap.size = s := ⟨_, rfl⟩
 obtain ⟨y, hy⟩ : ∃ y, w.alloc (.cells #[.slice none 0 0, .int .i64 0, .slice none 0 0, .int .i64 0, .int .i64 0] 43) = y := ⟨_, rfl⟩
 have hby : Below w.heap.size w y := by rw [← hy]; exact zac Br Lr _
 have HRES : Hid (C5 y s (.slice none 0 0) (.int .i64 0) (.slice none 0 0) (.int .i64 0) (.int .i64 0)) := by rw [← hy, ← hs]; exact zaa (C5.box _ _ _ _ _ _)
 have HBY := zaa hby
 have hpy := hp.on hby
 obtain ⟨bo, bc, rfl⟩ := hpy.body.slice
 obtain ⟨so, sc, rfl⟩ := hpy.starts.shape
 rw [zai] at hpy
 obtain ⟨sn, hsn⟩ : ∃ sn, cs.length = sn := ⟨_, rfl⟩
 have hys : s + 1 ≤ y.heap.size := by rw [← hy, ← hs]; simp
 have hpg := hpy.pg hw (by omega)
 have hrow := hpy.row
 unfold remE cellE
 rw [hsn] at hpg hrow ⊢
 by_cases hx : 0 ≤ x ∧ x < (sn : Int)
 ·rw [if_pos hx, if_pos hx]
  obtain ⟨i, rfl⟩ : ∃ i : Nat, x = (i : Int) := ⟨x.toNat, by omega⟩
  rw [Int.toNat_natCast]
  have hi : i < cs.length := by omega
  obtain ⟨c, hci⟩ : ∃ c, cs[i]? = some c := ⟨_, zI hi⟩
  rw [hci, Option.getD_some]
  have HH := zaa (zck y a k n _ so sn sc hrow (i : Int) true ⟨fun _ => hx, fun _ => rfl⟩)
  have HVW := zaa (view_any y a k n bo _ bc so sn sc cs hpg hft i hi c hci (by omega))
  obtain ⟨key, kd, val, pg, ct⟩ := c
  simp only at HVW ⊢
  have HYS := zaa hys
  have HSW := zaa hs
  have hiI : (i : Int) < (sn : Int) := hx.2
  clear hp hpy hpg hrow hci hw hft hby hsn hys hx hz hzc hi
  go_enter Tryz.func257, Tryz.ntmps257
  go_wp2_with (first
   | (go_at_call 264; refine zae HH.out ?_)
   | (go_at_call 149; refine HVW.out.mono ?_; rintro e u1 ⟨ko, kn, kc, vo, vn, vc, rfl, HK, HV, HU1⟩; refine Hid.out ?_))
  apply zaa
  have HC := zaa (copied_any ko kn kc kd vo vn vc pg ct key val u1 HK.out HV.out)
  have HKL := zaa HK.out.hlen
  have HVL := zaa HV.out.hlen
  have HKR := zaa HK.out.hroom
  have HVR := zaa HV.out.hroom
  clear HH HVW
  go_wp2_with (go_at_call 148; refine HC.out.mono ?_; rintro e u2 ⟨g1, g2, rfl, HG, HU2⟩; refine Hid.out ?_)
  apply zaa
  have hres1 : C5 u2 s (.slice none 0 0) (.int .i64 0) (.slice none 0 0) (.int .i64 0) (.int .i64 0) := zaf (zaf HRES.out HU1.out) HU2.out
  have HR2 := zaa hres1
  obtain ⟨b0, b1, b2', b3, b4⟩ := hres1.cells
  obtain ⟨h0, h1, h2, h3, h4⟩ := hres1.free
  clear hres1 HC
  go_wp2
  refine bodyPost_ret (zdj rfl _ _ s 43 #[.slice (some ⟨g1, 0, none⟩) kn kn, .int .i64 kd, .slice (some ⟨g2, 0, none⟩) vn vn, .int .i64 pg, .int .i64 ct] (0, 0) _ (.int .i64 0) (by rfl) (by rfl) (HR2.out.put _ _ _ _ _) Tryz.underlying43 rfl zbh) rfl ?_
  have hf := zbv u2 s (.slice (some ⟨g1, 0, none⟩) kn kn) (.int .i64 kd) (.slice (some ⟨g2, 0, none⟩) vn vn) (.int .i64 pg) (.int .i64 ct)
  have hys := HYS.out
  have hsw := HSW.out
  have hkl := HKL.out
  have hvl := HVL.out
  have hkr := HKR.out
  have hvr := HVR.out
  have hu1 := HU1.out.size
  obtain ⟨hg1, hg2, hg3, hg4, hg5⟩ := HG.out
  have hbu := zab (zab HBY.out Lr HU1.out) Lr HU2.out
  subst hkl
  subst hvl
  refine ⟨some ⟨g1, 0, none⟩, key.length, some ⟨g2, 0, none⟩, val.length, rfl, zaa ⟨?_, ?_, ?_⟩, zaa (hbu.trans (hf.below hbu.size (by intro i hi e; omega)))⟩
  ·exact zdn (l := key) (hg1.cf hf (hg1.apart5 HR2.out)) (by omega) (zN hkr (by unfold maxLen; decide))
  ·exact zdn (l := val) (hg2.cf hf (hg2.apart5 HR2.out)) (by omega) (zN hvr (by unfold maxLen; decide))
  ·intro z h1 h2
   have e1 : g1 = z := by simpa [Value.ownBlock] using h1
   have e2 : g2 = z := by simpa [Value.ownBlock] using h2
   exact hg5 (e1.trans e2.symm)
 ·rw [if_neg hx, if_neg hx]
  have HH := zaa (zck y a k n _ so sn sc hrow x false ⟨fun h => (by cases h), fun h => absurd h hx⟩)
  obtain ⟨b0, b1, b2', b3, b4⟩ := HRES.out.cells
  obtain ⟨h0, h1, h2, h3, h4⟩ := HRES.out.free
  have hf := zbv y s (.slice none 0 0) (.int .i64 0) (.slice none 0 0) (.int .i64 0) (.int .i64 0)
  have HF := zaa hf
  have HS := zaa hs
  clear hp hpy hpg hrow hw hft hby hsn hys hf hx hz hzc
  go_enter Tryz.func257, Tryz.ntmps257
  go_wp2_with (go_at_call 264; refine zae HH.out ?_)
  refine bodyPost_ret (zdj rfl _ _ s 43 #[.slice none 0 0, .int .i64 0, .slice none 0 0, .int .i64 0, .int .i64 0] (0, 0) _ (.int .i64 64) (by rfl) (by rfl) (HRES.out.put _ _ _ _ _) Tryz.underlying43 rfl zbh) rfl ?_
  exact ⟨none, 0, none, 0, rfl, zaa ⟨OwnB.nil _ _, OwnB.nil _ _, fun z h1 => (by simp [Value.ownBlock] at h1)⟩, zaa (HBY.out.trans (HF.out.below HBY.out.size (by intro i hi e; have := HS.out; omega)))⟩
def OAt (w : World) (B b off : Nat) (c : Cl) : Prop :=
 ∃ ko kc vo vc, w.cell? ⟨b, off, none⟩ = some (.slice ko c.key.length kc) ∧ w.cell? ⟨b, off + 1, none⟩ = some (.int .i64 c.kd) ∧ w.cell? ⟨b, off + 2, none⟩ = some (.slice vo c.val.length vc) ∧ w.cell? ⟨b, off + 3, none⟩ = some (.int .i64 c.pg) ∧ w.cell? ⟨b, off + 4, none⟩ = some (.int .i64 c.ct) ∧ OwnB w B (.slice ko c.key.length kc) c.key ∧ OwnB w B (.slice vo c.val.length vc) c.val
theorem OAt.on {w w' : World} {B b off : Nat} {c : Cl} (h : OAt w B b off c) (hb : b < w.heap.size) (hB : Below w.heap.size w w') : OAt w' B b off c := by
 obtain ⟨ko, kc, vo, vc, h0, h1, h2, h3, h4, h5, h6⟩ := h
 exact ⟨ko, kc, vo, vc, (hB.cell (p := ⟨b, off, none⟩) hb).trans h0, (hB.cell (p := ⟨b, off + 1, none⟩) hb).trans h1, (hB.cell (p := ⟨b, off + 2, none⟩) hb).trans h2, (hB.cell (p := ⟨b, off + 3, none⟩) hb).trans h3, (hB.cell (p := ⟨b, off + 4, none⟩) hb).trans h4, h5.on Lr hB, h6.on Lr hB⟩
theorem zdu (g : Nat) : ∀ (vs : List Value) (o : Nat) (w : World), w.grownBy (w.setCells g o vs) (some g)
 | [], _, w => World.grownBy.refl w _
 | v :: vs, o, w => by
  have h1 : w.grownBy (w.setCell ⟨g, o, none⟩ v) (some g) := ⟨rfl, rfl, rfl, by simp [World.setCell], fun k _ hk => Below.heap_setCell _ _ _ _ (fun e => hk (by simp [e]))⟩
  have h2 := zdu g vs (o + 1) (w.setCell ⟨g, o, none⟩ v)
  exact ⟨h2.os.trans h1.os, h2.tape.trans h1.tape, h2.output.trans h1.output, zN h1.size h2.size, fun i hi hne => (h2.block i (zO hi h1.size) hne).trans (h1.block i hi hne)⟩
theorem OwnB.sets8 {w : World} {B b N j : Nat} {v : Value} {l : List Int} {vs : List Value} (h : OwnB w B v l) (hr : RowC w b N) : OwnB (w.setCells b j vs) B v l := by
 refine World.ownsRow.kept (row := some b) h (zdu b vs j w) ?_
 cases e : v.ownBlock with
 | none => exact .inl rfl
 | some z =>
  right
  intro e2
  injection e2 with e2
  subst e2
  obtain ⟨cur, h1, _⟩ := hr
  unfold OwnB at h
  rcases h.2 with ⟨rfl, _⟩ | ⟨q, c, cu, rfl, _, h2, _⟩
  ·simp [Value.ownBlock] at e
  ·simp [Value.ownBlock] at e
   subst e
   rw [h1] at h2
   injection h2 with h2
   injection h2 with _ h3
   exact absurd h3 (by decide)
theorem OAt.put {w : World} {B b N i j : Nat} {c : Cl} {vs : List Value} (h : OAt w B b (i * 5) c) (hr : RowC w b N) (hij : i < j) : OAt (w.setCells b (j * 5) vs) B b (i * 5) c := by
 obtain ⟨ko, kc, vo, vc, h0, h1, h2, h3, h4, h5, h6⟩ := h
 have ho : ∀ d, d < 5 → (w.setCells b (j * 5) vs).cell? ⟨b, i * 5 + d, none⟩ = w.cell? ⟨b, i * 5 + d, none⟩ := fun d hd => World.cell?_setCells_out b _ _ w _ (fun _ _ => .inl (by simp only; omega))
 exact ⟨ko, kc, vo, vc, (ho 0 (by omega)).trans h0, (ho 1 (by omega)).trans h1, (ho 2 (by omega)).trans h2, (ho 3 (by omega)).trans h3, (ho 4 (by omega)).trans h4, h5.sets8 hr, h6.sets8 hr⟩
theorem OAt.new {w : World} {B b N j : Nat} {c : Cl} {ko vo : Option Addr} {kc vc : Nat} (hr : RowC w b N) (hj : j * 5 + 5 ≤ 5 * N) (h1 : OwnB w B (.slice ko c.key.length kc) c.key) (h2 : OwnB w B (.slice vo c.val.length vc) c.val) :
  OAt (w.setCells b (j * 5) [.slice ko c.key.length kc, .int .i64 c.kd, .slice vo c.val.length vc, .int .i64 c.pg, .int .i64 c.ct]) B b (j * 5) c := by
 have h := World.rangeAt_setCells_same w b (j * 5) [.slice ko c.key.length kc, .int .i64 c.kd, .slice vo c.val.length vc, .int .i64 c.pg, .int .i64 c.ct] (hr.there hj)
 exact ⟨ko, kc, vo, vc, h 0 _ rfl, h 1 _ rfl, h 2 _ rfl, h 3 _ rfl, h 4 _ rfl, h1.sets8 hr, h2.sets8 hr⟩
def CelsTo (cs : List Cl) (w : World) (e : Ending) (w' : World) : Prop :=
 ∃ g, e = .returned (.slice (some ⟨g, 0, none⟩) cs.length cs.length) ∧ Hid (w.heap.size ≤ g ∧ RowC w' g cs.length ∧ ∀ i d, cs[i]? = some d → OAt w' w.heap.size g (i * 5) d) ∧ Hid (Below w.heap.size w w')
theorem ncells_P (w : World) (B a : Nat) (k : Int) (n : Nat) (vb vs : Value) (cs : List Cl) (hp : Po w B a k n vb vs cs) (hw : ∀ c ∈ cs, c.Wf) (hft : ∀ c ∈ cs, c.fit) (hz : szN cs ≤ n) (hn : n ≤ 65536) :
  Calls Tryz.prog 10 #[iP a] w (CelsTo cs w) := by
 obtain ⟨ic, hic, hz0, hz1, hz2⟩ := info_parts infoC
 have hzc := zaq cs
 obtain ⟨sn, hsn⟩ : ∃ sn, cs.length = sn := ⟨_, rfl⟩
 have HPO := zaa hp
 have HW := zaa hw
 have HFT := zaa hft
 have HZ := zaa hz
 have HSN := zaa hsn
 have hs1 : sn ≤ 65536 := by omega
 have HLN : Hid (Calls Tryz.prog 147 #[.pointer (some ⟨a, 0, none⟩)] w fun e w' => e = .returned (.int .i64 (sn : Int)) ∧ w' = w) := zaa (by
  obtain ⟨bo, bc, rfl⟩ := hp.body.slice
  obtain ⟨so, sc, rfl⟩ := hp.starts.shape
  rw [zai, hsn] at hp
  exact zcv w a k n _ so sn sc hp.row)
 unfold CelsTo
 rw [hsn]
 clear hp hw hft hz hzc hsn
 go_enter Tryz.func10, Tryz.ntmps10
 go_wp2_with (first
  | (go_at_call 147; refine zae HLN.out ?_)
  | (at_make; refine wpList_make_full _ rfl _ _ 32 rfl w.heap.size 43 ic _ 5 Tryz.underlying32 hic hz0 hz1 .i64 .i64 sn sn sn rfl rfl rfl rfl (by rw [hz2]; omega) (by unfold maxLen; omega) Lr ?_; refine Hid.out ?_))
 apply zaa
 intro w2 ho2 hg2
 have hb2 : Below w.heap.size w w2 := Br.grown hg2 Lr (fun k hk => by cases hk)
 obtain ⟨g, hg⟩ : ∃ g, w.heap.size = g := ⟨_, rfl⟩
 have HRW : Hid (RowC w2 g sn) := by
  rcases ho2.2 with ⟨h, _⟩ | ⟨q, c, cur, h, _, hh, _, _, hss, _⟩
  ·cases h
  ·cases h
   rw [← hg]
   exact zaa ⟨cur, hh, by rw [hss]; omega⟩
 have hgs : Below g w w2 := by rw [← hg]; exact hb2
 have HGS := zaa hgs
 have HGW := zaa hg
 rw [hg]
 clear ho2 hg2 hb2 HLN hgs
 go_wp2_with fail
 go_loopw [4, 12, 15, 20] (fun s4 i s15 s20 wr => ∃ j : Nat, j ≤ sn ∧ i = .int .i64 j ∧ Hid (RowC wr g sn) ∧ Hid (Below g w wr) ∧ Hid (∀ i d, i < j → cs[i]? = some d → OAt wr g g (i * 5) d)) (fun _ i _ _ _ => sn - (intOf i).toNat)
 case atStart => exact ⟨0, by omega, rfl, HRW, HGS, zaa fun i d hi => by omega⟩
 case round =>
  obtain ⟨j, hj, rfl, HR, HG, HD⟩ := hrel
  have HBE : Hid (Below w.heap.size w wr) := zaa (by rw [HGW.out]; exact HG.out)
  have bj : (j : Int) ≤ 65536 := by omega
  clear HRW HGS
  by_cases hlt : j < sn
  ·have hltI : (j : Int) < (sn : Int) := by omega
   obtain ⟨d, hd⟩ : ∃ d, cs[j]? = some d := ⟨_, zI (by rw [HSN.out]; exact hlt)⟩
   have HDJ := zaa hd
   have HCL : Hid (Calls Tryz.prog 257 #[.pointer (some ⟨a, 0, none⟩), .int .i64 (j : Int)] wr (CelO d 0 wr)) := zaa (by
    have h := cellO_any wr B a k n vb vs cs (j : Int) (HPO.out.on HBE.out) HW.out HFT.out HZ.out hn
    have e1 : cellE cs (j : Int) = d := by unfold cellE; rw [if_pos ⟨by omega, by rw [HSN.out]; omega⟩, Int.toNat_natCast, hd]; rfl
    have e2 : remE cs (j : Int) = 0 := by unfold remE; rw [if_pos ⟨by omega, by rw [HSN.out]; omega⟩]
    rw [e1, e2] at h
    exact h)
   clear hd
   go_wp2_with (go_at_call 257; refine HCL.out.mono ?_; rintro e u2 ⟨ko, kc, vo, vc, rfl, HOO, HBU⟩; refine Hid.out ?_)
   apply zaa
   have HR2 : Hid (RowC u2 g sn) := zaa (HR.out.on HBU.out)
   have HG2 : Hid (Below g w u2) := zaa (HG.out.trans (HBU.out.mono (Nat.le_of_lt HR.out.lt)))
   have hwg : g ≤ wr.heap.size := by have := HBE.out.size; have := HGW.out; omega
   have HWG := zaa hwg
   clear HCL hwg
   go_wp2_with (refine put_cell (by rfl) _ _ (by rfl) g (j * 5) sn ko vo d.key.length kc d.val.length vc d.kd d.pg d.ct HR2.out (by rfl) (by rfl) (by omega) ?_; intro u3 HU3; refine Hid.out ?_)
   apply zaa
   have HR3 : Hid (RowC u3 g sn) := zaa (by rw [HU3.out]; exact RowC.sets _ _ _ HR2.out)
   have HG3 : Hid (Below g w u3) := zaa (by
    rw [HU3.out]
    simp only [World.setCells]
    refine ((((HG2.out.setCell ?_ _).setCell ?_ _).setCell ?_ _).setCell ?_ _).setCell ?_ _ <;> simp)
   have HD3 : Hid (∀ i d, i < j + 1 → cs[i]? = some d → OAt u3 g g (i * 5) d) := by
    refine zaa fun i d' hi hd' => ?_
    rw [HU3.out]
    by_cases e : i = j
    ·subst e
     rw [HDJ.out] at hd'
     injection hd' with hd'
     subst hd'
     exact OAt.new HR2.out (by omega) (HOO.out.1.low HWG.out) (HOO.out.2.1.low HWG.out)
    ·exact ((HD.out i d' (by omega) hd').on HR.out.lt HBU.out).put HR2.out (by omega)
   clear HU3 HR2 HG2 HR HG HD HOO HBU
   go_wp2
   go_roundw
   case rel => exact ⟨j + 1, by omega, by go_num, HR3, HG3, HD3⟩
   case measure => simp [intOf]; omega
  ·obtain rfl : j = sn := by omega
   have hlI : ¬ (j : Int) < (j : Int) := by omega
   go_wp2
   go_ret
   exact ⟨g, rfl, zaa ⟨by first | exact Lr | (rw [HGW.out]; exact Lr), HR.out, fun i d hd => by have := (zH.1 hd).1; first | exact HD.out i d (by rw [HSN.out] at this; exact this) hd | (rw [HGW.out]; exact HD.out i d (by rw [HSN.out] at this; exact this) hd)⟩, by first | exact HBE | exact HG⟩
theorem Po.low {w : World} {B C a : Nat} {k : Int} {n : Nat} {vb vs : Value} {cs : List Cl} (h : Po w C a k n vb vs cs) (hB : B ≤ C) : Po w B a k n vb vs cs := ⟨h.row, h.body.low hB, h.starts.lowN hB⟩
def NOpenP (l : List Int) (w : World) (e : Ending) (w' : World) : Prop :=
 ∃ v c, e = .returned (.tuple #[v, .int .i64 c]) ∧ Hid (Below w.heap.size w w') ∧ Hid ((v = .nilIface ∧ c = 60 ∧ ¬ ∃ cs, Is (l.getD 0 0) l.length cs l) ∨ ∃ a bo bn bc so sn sc cs, v = iP a ∧ c = 0 ∧ w.heap.size ≤ a ∧ Is (l.getD 0 0) l.length cs l ∧ (∀ c ∈ cs, c.Wf) ∧ Po w' w.heap.size a (l.getD 0 0) l.length (.slice bo bn bc) (.slice so sn sc) cs)
theorem NOpenP.from {l : List Int} {w u w' : World} {e : Ending} (h : NOpenP l u e w') (hb : Below w.heap.size w u) : NOpenP l w e w' := by
 obtain ⟨v, c, rfl, HB, HQ⟩ := h
 refine ⟨v, c, rfl, zaa (zab hb Lr HB.out), zaa ?_⟩
 rcases HQ.out with h | ⟨a, bo, bn, bc, so, sn, sc, cs, h1, h2, h3, h4, h5, h6⟩
 ·exact .inl h
 ·exact .inr ⟨a, bo, bn, bc, so, sn, sc, cs, h1, h2, zN hb.size h3, h4, h5, h6.low hb.size⟩
theorem openP_any (ao : Option Addr) (n cap : Nat) (l : List Int) (w : World) (hs : Sl w ao n cap l) (ht : Tab w) (h0 : 1 < w.heap.size) : Calls Tryz.prog 86 #[.slice ao n cap] w (NOpenP l w) := by
 have HN := zaa (open_po ao n cap l w hs ht h0)
 clear hs ht h0
 go_enter Tryz.func86, Tryz.ntmps86
 go_wp2_with (go_at_call 87; refine HN.out.mono ?_; rintro e w1 ⟨po, c, rfl, HB, HQ⟩; refine Hid.out ?_)
 apply zaa
 clear HN
 rcases HQ.out with ⟨rfl, rfl, hn⟩ | ⟨a, bo, bn, bc, so, sn, sc, cs, rfl, rfl, h1, h2, h3, h4, h5⟩
 ·have H1 := zaa hn
  clear HQ hn
  go_wp2_with (go_at_call 84; refine zae (asP_no _ _ (by decide) _) ?_)
  go_ret2
  exact ⟨_, _, rfl, HB, zaa (.inl ⟨rfl, rfl, H1.out⟩)⟩
 ·have H1 := zaa (And.intro h1 (And.intro h2 (And.intro h3 h5.2)))
  clear HQ h1 h2 h3 h4 h5
  go_wp2_with (go_at_call 84; refine zae (asP_yes _ _) ?_)
  go_ret2
  obtain ⟨h1, h2, h3, h4⟩ := H1.out
  exact ⟨_, _, rfl, HB, zaa (.inr ⟨a, bo, bn, bc, so, sn, sc, cs, rfl, rfl, h1, h2, h3, h4⟩)⟩
theorem nopen_1 (ao : Option Addr) (n cap : Nat) (l : List Int) (w : World) (hs : Sl w ao n cap l) (ht : Tab w) (h0 : 1 < w.heap.size) (he : egO l = 1) : Calls Tryz.prog 12 #[.slice ao n cap] w (NOpenP l w) := by
 have HE := zaa (engineOf_any ao n cap l w hs)
 rw [he] at HE
 have HL := zaa (layout_1 w)
 have HM : Hid (∀ u, Below w.heap.size w u → Calls Tryz.prog 86 #[.slice ao n cap] u (NOpenP l u)) := zaa fun u hu => openP_any ao n cap l u (hs.on Lr hu) (ht.on hu h0) (zO h0 hu.size)
 clear hs ht h0 he
 go_enter Tryz.func12, Tryz.ntmps12
 go_wp2_with (first | (go_at_call 43; refine zae HE.out ?_) | (go_at_call 38; refine HL.out.mono ?_; rintro e w1 ⟨rfl, HB1⟩) | (go_at_call 86; refine (HM.out _ (zac HB1.out Lr _)).mono ?_; rintro e w2 ⟨v, c, rfl, HB2, HQ2⟩; refine Hid.out ?_))
 apply zaa
 go_wp2
 go_ret2
 exact NOpenP.from ⟨v, c, rfl, HB2, HQ2⟩ (zac HB1.out Lr _)
end Go.Proofs.YtofafbmpbkjhnaaGreatDoor
