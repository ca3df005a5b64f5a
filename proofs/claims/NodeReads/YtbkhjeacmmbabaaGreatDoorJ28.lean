import Derived.Test.YtbkhjeacmmbabaaGreatDoorJ27
import Derived.Deep.DeepCutAuto
import Derived.Deep.CutRange
import Derived.Deep.RegionHeld
import Derived.Lib.LazyBuf
namespace Go.Proofs.YtbkhjeacmmbabaaGreatDoor
set_option maxRecDepth 100000
set_option maxHeartbeats 4000000
open Go.RowKit
theorem OwnB.shape {w : World} {B : Nat} {v : Value} {l : List Int} (h : OwnB w B v l) : ∃ ao c, v = .slice ao l.length c := by
 unfold OwnB at h
 rcases h.2 with ⟨rfl, hn⟩ | ⟨g, cap, cur, rfl, _⟩
 ·exact ⟨none, 0, by rw [hn]⟩
 ·exact ⟨_, cap, rfl⟩
theorem OwnB.len {w : World} {B : Nat} {ao : Option Addr} {n c : Nat} {l : List Int} (h : OwnB w B (.slice ao n c) l) : n = l.length := by
 obtain ⟨a, c', e⟩ := h.shape
 injection e
theorem OwnN.len {w : World} {B : Nat} {ao : Option Addr} {n c : Nat} {l : List Nat} (h : OwnN w B (.slice ao n c) l) : n = l.length := by
 obtain ⟨a, c', e⟩ := h.shape
 injection e
theorem Lo.far {w : World} {B G : Nat} {v : Value} {l : List Int} {ao : Option Addr} {n : Nat} (h : Lo G ao n) (ho : OwnB w B v l) (hG : G ≤ B) : Far ao n v := by
 rcases h with h | h
 ·exact .inl h
 ·exact ho.far fun p hp => zO (h p hp) hG
theorem head_row (k : Int) (j : Nat) (po : Option Addr) (pn pc : Nat) : ∃ (qo : Option Addr) (qn qc : Nat), ((qo = none ∧ qn = 0 ∧ qc = 0 ∧ (k = 3 ∧ j = 0)) ∨ (qo = po ∧ qn = pn ∧ qc = pc ∧ ¬ (k = 3 ∧ j = 0))) ∧
  ∀ (w : World) (a : Nat) (n : Int) (vb vs : Value) (ws : Int), QR w a k n (.slice po pn pc) vb vs ws → Calls Tryz.prog 127 #[.pointer (some ⟨a, 0, none⟩), .int .i64 (j : Int)] w fun e w' => e = .returned (.slice qo qn qc) ∧ w' = w := by
 by_cases hc : k = 3 ∧ j = 0
 ·refine ⟨none, 0, 0, .inl ⟨rfl, rfl, rfl, hc⟩, fun w a n vb vs ws h => ?_⟩
  obtain ⟨c0, c1, c2, c3, c4, c5⟩ := h.cells
  have A : Hid (Calls Tryz.prog 82 #[.int .i64 k, .int .i64 (j : Int)] w fun e w' => e = .returned (.bool true) ∧ w' = w) := zaa (by
   have := zda k (j : Int) w
   rwa [decide_eq_true (show k = 3 ∧ (j : Int) = 0 by omega)] at this)
  clear h hc
  go_enter Tryz.func127, Tryz.ntmps127
  go_wp2_with (go_at_call 82; refine zad A.out ?_)
  go_ret
  exact ⟨rfl, rfl⟩
 ·refine ⟨po, pn, pc, .inr ⟨rfl, rfl, rfl, hc⟩, fun w a n vb vs ws h => ?_⟩
  obtain ⟨c0, c1, c2, c3, c4, c5⟩ := h.cells
  have A : Hid (Calls Tryz.prog 82 #[.int .i64 k, .int .i64 (j : Int)] w fun e w' => e = .returned (.bool false) ∧ w' = w) := zaa (by
   have := zda k (j : Int) w
   rwa [decide_eq_false (show ¬ (k = 3 ∧ (j : Int) = 0) by omega)] at this)
  clear h hc
  go_enter Tryz.func127, Tryz.ntmps127
  go_wp2_with (go_at_call 82; refine zad A.out ?_)
  go_ret
  exact ⟨rfl, rfl⟩
def LaidTo (k : Int) (n : Nat) (cs : List Cl) (w : World) (e : Ending) (w' : World) : Prop :=
 ∃ (w1 : World) (a : Nat) (po : Option Addr) (pn pc : Nat) (vb vs : Value), e = .returned (.pointer (some ⟨a, 0, none⟩)) ∧ Hid (Lq w1 w' w1.heap.size a k n (.slice po pn pc) vb vs 0 (qbd (shP k cs).length (whl k) cs) (qst (shP k cs).length (whl k) 0 cs)) ∧ Hid (Sl w1 po pn pc (shP k cs)) ∧ Hid (Below w.heap.size w w1) ∧ Hid (Nw w.heap.size po pn)
theorem laid_any (k : Int) (n : Nat) (G : Nat) (ao : Option Addr) (m cap : Nat) (cs : List Cl) (w : World) (hs : SlE w G ao m cap cs) (hG : G ≤ w.heap.size) (hr : Rs cs) (hf : ∀ c ∈ cs, c.fit) (hm : m ≤ 65536) (hz : (qbd (shP k cs).length (whl k) cs).length ≤ 1099511627776) :
  Calls Tryz.prog 86 #[.int .i64 k, .int .i64 (n : Int), .slice ao m cap] w fun e w' => LaidTo k n cs w e w' := by
 have HS := zaa hs
 have HF := zaa hf
 have Y := zaa hs.hlen
 have A0 := zaa (shared_any k G ao m cap cs w hs hr hf)
 have A7 := zaa (zby k cs)
 have HZ := zaa hz
 clear hs hr hf hz
 go_enter Tryz.func86, Tryz.ntmps86
 go_wp2_with (go_at_call 125; refine A0.out.mono ?_; rintro e w1 ⟨po, pn, pc, rfl, HP, E, A8⟩; refine Hid.out ?_)
 apply zaa
 obtain ⟨B, hB⟩ : ∃ B, w1.heap.size = B := ⟨_, rfl⟩
 have J := zaa hB
 have Z : Hid (Lq w1 (w1.alloc (.cells #[.int .i64 k, .int .i64 (n : Int), .slice po pn pc, .slice none 0 0, .slice none 0 0, .int .i64 0] 128)) B B k n (.slice po pn pc) (.slice none 0 0) (.slice none 0 0) 0 [] []) := by
  refine zaa ⟨?_, OwnB.nil _ _, OwnN.nil _ _, ?_, Nat.le_of_eq hB.symm, Lr⟩
  ·rw [← hB]; exact heap_alloc_last w1 _
  ·rw [← hB]; exact zab Br Lr _
 have A9 := zaa HP.out.hlen
 have K : Hid (G ≤ B) := zaa (by have := E.out.size; omega)
 clear A0
 go_wp2_with fail
 try rw [hB]
 clear hB
 go_loopw [19] (fun i wr => ∃ (j : Nat) (bo : Option Addr) (bn bc : Nat) (so : Option Addr) (sn sc : Nat), j ≤ m ∧ i = .int .i64 j ∧ Hid (Lq w1 wr B B k n (.slice po pn pc) (.slice bo bn bc) (.slice so sn sc) 0 (qbd (shP k cs).length (whl k) (cs.take j)) (qst (shP k cs).length (whl k) 0 (cs.take j)))) (fun i _ => m - (intOf i).toNat)
 case atStart => exact ⟨0, none, 0, 0, none, 0, 0, zq, rfl, by simpa [qbd, qst] using Z⟩
 case round =>
  clear Z
  obtain ⟨j, bo, bn, bc, so, sn, sc, hj, rfl, HQ⟩ := hrel
  have bj : (j : Int) ≤ 65536 := zq
  by_cases B0 : j < m
  ·have C3 : (j : Int) < (m : Int) := zq
   obtain ⟨b, off, c, rfl, F, L, hE⟩ := HS.out.item j B0
   have A1 := HF.out c (List.mem_of_getElem? L)
   obtain ⟨ho, hn, hc, ko, kn, kc, vo, vn, vc, h, key, e0, e1, e2, e3, e4, e5, s1, s2, s3, H, l1, l2, l3⟩ := hE
   have D : Hid (Below w.heap.size w wr) := zaa (E.out.trans (HQ.out.be.mono (by have := E.out.size; have := J.out; omega)))
   have d0 := (D.out.cell (p := ⟨b, off + j * 6, none⟩) F).trans e0
   have d1 := (D.out.cell (p := ⟨b, off + j * 6 + 1, none⟩) F).trans e1
   have d2 := (D.out.cell (p := ⟨b, off + j * 6 + 2, none⟩) F).trans e2
   have d3 := (D.out.cell (p := ⟨b, off + j * 6 + 3, none⟩) F).trans e3
   have d4 := (D.out.cell (p := ⟨b, off + j * 6 + 4, none⟩) F).trans e4
   have d5 := (D.out.cell (p := ⟨b, off + j * 6 + 5, none⟩) F).trans e5
   have B1 := zaa (And.intro s1 (And.intro s2 (And.intro s3 (And.intro H (And.intro l1 (And.intro l2 l3))))))
   have A2 := zaa L
   have A3 := zaa A1
   clear e0 e1 e2 e3 e4 e5 s1 s2 s3 H l1 l2 l3 L A1
   go_upto_region 5 with fail
   obtain ⟨x, hx⟩ : ∃ x, wr.alloc (.cells #[.slice ho hn hc, .slice ko kn kc, .int .i64 c.kd, .slice vo vn vc, .int .i64 c.pg, .int .i64 c.ct] 123) = x := ⟨_, rfl⟩
   have A4 : Below wr.heap.size wr x := by rw [← hx]; exact zab Br Lr _
   obtain ⟨g9, M⟩ : ∃ g9, wr.heap.size = g9 := ⟨_, rfl⟩
   have N : Hid (E6 x g9 (.slice ho hn hc) (.slice ko kn kc) (.int .i64 c.kd) (.slice vo vn vc) (.int .i64 c.pg) (.int .i64 c.ct)) := zaa (by rw [← hx, ← M]; exact E6.box _ _ _ _ _ _ _)
   have A := zaa (HQ.out.go A4)
   have B2 : Hid (¬ g9 = B) := zaa (by have := zaf HQ.out.row; omega)
   rw [hx, M]
   clear hx M A4 d0 d1 d2 d3 d4 d5 D HQ
   obtain ⟨c0, c1, c2, c3, c4, c5⟩ := A.out.row.cells
   have c4a := fun o => (A.out.go (zab (Below.refl _ x) Lr o)).row.cells.2.2.2.2.1
   have O := A.out.ob.len
   have B3 := A.out.on.len
   have C4 : bn ≤ 1099511627776 := by rw [O]; exact zN (qbd_pre _ _ _ _) HZ.out
   have P := zaa O
   have HL : Hid ((qst (shP k cs).length (whl k) 0 (cs.take j)).length + 1 ≤ 1000000) := zaa (by rw [zbi, zJ]; omega)
   have B4 : B ≤ x.heap.size := A.out.le
   have C6 : (bn : Int) ≤ 1099511627776 := zq
   clear O B3
   go_cut [] from 24 to 37 (fun u1 => ∃ (so1 : Option Addr) (sn1 sc1 : Nat), Hid (Lq w1 u1 B B k n (.slice po pn pc) (.slice bo bn bc) (.slice so1 sn1 sc1) 0 (qbd (shP k cs).length (whl k) (cs.take j)) (qst (shP k cs).length (whl k) 0 (cs.take j) ++ [bn])) ∧ Hid (E6 u1 g9 (.slice ho hn hc) (.slice ko kn kc) (.int .i64 c.kd) (.slice vo vn vc) (.int .i64 c.pg) (.int .i64 c.ct)))
   case first =>
    go_wp2_with fail
    go_region_law (first | (refine step_appN rfl (.tmp 28) (.tmp 34) rfl B (qst (shP k cs).length (whl k) 0 (cs.take j)) bn (.slice so sn sc) x.heap.size rfl rfl (A.out.on.below zW2) zv HL.out zso ?_; intro v1 w2 Q I; obtain ⟨so1, sc1, rfl⟩ := Q.shape; have B5 := zaa (A.out.put_st zW2 Q I); have R := A.out.row_st zW2 I; have T : Hid (E6 w2 g9 (.slice ho hn hc) (.slice ko kn kc) (.int .i64 c.kd) (.slice vo vn vc) (.int .i64 c.pg) (.int .i64 c.ct)) := zaa (by
      have hy := N.out
      unfold E6 at hy
      exact (show E6 _ g9 _ _ _ _ _ _ from zag N.out zW2).gr I (A.out.on.apart hy zd)); obtain ⟨x0, x1, x2, x3, x4, x5⟩ := R.cells; have x6 := R.free 4; clear Q I R))
    all_goals (try go_wp2_with fail)
    all_goals go_meet
    all_goals exact ⟨so1, _, sc1, by simpa using B5, zaa (T.out.cf (Cf.set _ _ _ _) B2.out)⟩
   obtain ⟨so1, sn1, sc1, U, T⟩ := hcut
   obtain ⟨u1, B6⟩ : ∃ u1, u1 = wc := ⟨_, rfl⟩
   subst B6
   clear c0 c1 c2 c3 c4 c5 c4a A N HL B4
   obtain ⟨qo, qn, qc, A5, A6⟩ := head_row k j po pn pc
   have B7 : Hid (∀ u, Below u1.heap.size u1 u → Calls Tryz.prog 127 #[.pointer (some ⟨B, 0, none⟩), .int .i64 (j : Int)] u fun e w' => e = .returned (.slice qo qn qc) ∧ w' = u) := zaa fun u hu => A6 u B n _ _ 0 (U.out.go hu).row
   have V : qn = if k = 3 ∧ j = 0 then 0 else (shP k cs).length := by
    rcases A5 with ⟨_, h2, _, h4⟩ | ⟨_, h2, _, h4⟩
    ·rw [if_pos h4, h2]
    ·rw [if_neg h4, h2, A9.out]
   have B8 : Hid (∀ u, Below u1.heap.size u1 u → Calls Tryz.prog 126 #[.agg #[.slice ho hn hc, .slice ko kn kc, .int .i64 c.kd, .slice vo vn vc, .int .i64 c.pg, .int .i64 c.ct], .slice bo bn bc, .int .i64 (qn : Int)] u fun e w' => ∃ bo' bn' bc', e = .returned (.slice bo' bn' bc') ∧ w'.cell? ⟨B, 3, none⟩ = some (.slice bo bn bc) ∧ w'.frozen? ⟨B, 3, none⟩ = false ∧ Hid (Lq w1 (w'.setCell ⟨B, 3, none⟩ (.slice bo' bn' bc')) B B k n (.slice po pn pc) (.slice bo' bn' bc') (.slice so1 sn1 sc1) 0 (qbd (shP k cs).length (whl k) (cs.take (j + 1))) (qst (shP k cs).length (whl k) 0 (cs.take (j + 1))))) := by
    refine zaa fun u hu => ?_
    obtain ⟨s1, s2, s3, H, l1, l2, l3⟩ := B1.out
    have C := U.out.go hu
    have W : Below w.heap.size w u := E.out.trans (C.be.mono (by have := E.out.size; have := J.out; omega))
    have B9 : hn + kn = c.key.length := by rw [← H, zG, s1.hlen, s2.hlen]
    have C7 := A3.out.key
    have C8 := A3.out.val
    have C9 := s3.hlen
    have C0 : cs.take (j + 1) = cs.take j ++ [c] := by rw [List.take_add_one, A2.out]; rfl
    have C1 : j ≤ cs.length := by rw [Y.out]; omega
    have hcut : cutn (shP k cs).length (whl k) (cs.take j) = qn := by rw [cutn_at k _ cs j C1, V]
    refine (eappended_any (.slice bo bn bc) B _ ho hn hc ko kn kc c.kd vo vn vc c.pg c.ct h key c.val qn u C.ob C.le (s1.on Lr W) (s2.on Lr W) (s3.on Lr W) (l1.far C.ob K.out) (l2.far C.ob K.out) (l3.far C.ob K.out) (by rw [V, B9]; exact A7.out.cut_le j c A2.out) (by rw [← P.out]; omega)).mono ?_
    rintro e w' ⟨v', rfl, HO, HG⟩
    have X := HO.out
    rw [H] at X
    obtain ⟨bo', bc', rfl⟩ := X.shape
    have hl := C.put_bd Br X HG.out
    have hr := C.row_bd Br HG.out
    refine ⟨bo', _, bc', rfl, hr.cells.2.2.2.1, hr.free 3, zaa ?_⟩
    rw [C0, qbd_snoc, qst_snoc, hcut, Nat.zero_add, ← P.out]
    exact hl
   obtain ⟨c0, c1, c2, c3, c4, c5⟩ := U.out.row.cells
   obtain ⟨y0, y1, y2, y3, y4, y5⟩ := T.out.cells
   clear A6 V A5 P
   go_wp2_with fail
   go_region_with (first
    | (go_at_call 127; refine zad (B7.out _ zW1) ?_)
    | (go_at_call 126; refine (B8.out _ zW1).mono ?_; rintro e w3 ⟨bo1, bn1, bc1, rfl, z3, z4, C2⟩))
   all_goals
    go_wp2
    go_roundw
    case rel => exact ⟨j + 1, bo1, bn1, bc1, so1, sn1, sc1, zq, by go_num, C2⟩
    case measure => simp [intOf]; omega
  ·obtain rfl : j = m := zq
   have D0 : ¬ (j : Int) < (j : Int) := zq
   go_wp2
   go_ret
   refine ⟨w1, B, po, pn, pc, .slice bo bn bc, .slice so sn sc, rfl, ?_, HP, E, A8⟩
   have h := HQ.out
   rw [List.take_of_length_le (by rw [Y.out]; exact Lr)] at h
   rw [J.out]
   exact zaa h
def CopQ (key val : List Int) (kn : Nat) (kd : Int) (vn : Nat) (pg ct : Int) (w : World) (e : Ending) (w' : World) : Prop :=
 ∃ a1 c1 g2, e = .returned (.agg #[.slice a1 kn c1, .int .i64 kd, .slice (some ⟨g2, 0, none⟩) vn vn, .int .i64 pg, .int .i64 ct]) ∧ Hid (OwnB w' w.heap.size (.slice a1 kn c1) key ∧ Bk w' g2 val ∧ w.heap.size ≤ g2 ∧ (Value.slice a1 kn c1).ownBlock ≠ some g2) ∧ Hid (Below w.heap.size w w')
theorem OwnB.same {w w' : World} {B : Nat} {v : Value} {l : List Int} (h : OwnB w B v l) (hb : ∀ k, v.ownBlock = some k → w'.heap[k]? = w.heap[k]?) : OwnB w' B v l := by
 unfold OwnB at *
 refine ⟨h.1, ?_⟩
 rcases h.2 with h2 | ⟨g, cap, cur, e, hg, hh, r⟩
 ·exact .inl h2
 ·exact .inr ⟨g, cap, cur, e, hg, (hb g (by rw [e]; rfl)).trans hh, r⟩
theorem ecopied_any (ho : Option Addr) (hn hc : Nat) (ko : Option Addr) (kn kc : Nat) (kd : Int) (vo : Option Addr) (vn vc : Nat) (pg ct : Int) (h key val : List Int) (K : Nat) (w : World) (hh : Sl w ho hn hc h) (hk : Sl w ko kn kc key) (hv : Sl w vo vn vc val) (hK : hn + kn = K) (hb : K ≤ 140737488355328) :
  Calls Tryz.prog 90 #[.agg #[.slice ho hn hc, .slice ko kn kc, .int .i64 kd, .slice vo vn vc, .int .i64 pg, .int .i64 ct]] w fun e w' => CopQ (h ++ key) val K kd vn pg ct w e w' := by
 obtain ⟨i0, hi, C1, A1, C2⟩ := info_parts info5
 have hsz : (Tryz.prog.info? 5).map (·.size) = some 1 := by rw [hi]; simp [A1]
 obtain ⟨s, hs⟩ : ∃ s, w.heap.size = s := ⟨_, rfl⟩
 have A2 := zaa hs
 obtain ⟨x, hx⟩ : ∃ x, ((w.alloc (.cells #[.slice ho hn hc, .slice ko kn kc, .int .i64 kd, .slice vo vn vc, .int .i64 pg, .int .i64 ct] 123)).alloc (.cells #[.slice none 0 0, .int .i64 0, .slice none 0 0, .int .i64 0, .int .i64 0] 50)).alloc (.cells #[.slice ko kn kc, .int .i64 kd, .slice vo vn vc, .int .i64 pg, .int .i64 ct] 50) = x := ⟨_, rfl⟩
 have H : Below w.heap.size w x := by rw [← hx]; exact zab (zab (zab Br Lr _) Lr _) Lr _
 have z1 : (w.alloc (.cells #[.slice ho hn hc, .slice ko kn kc, .int .i64 kd, .slice vo vn vc, .int .i64 pg, .int .i64 ct] 123)).heap.size = s + 1 := by rw [← hs]; simp
 have z2 : ((w.alloc (.cells #[.slice ho hn hc, .slice ko kn kc, .int .i64 kd, .slice vo vn vc, .int .i64 pg, .int .i64 ct] 123)).alloc (.cells #[.slice none 0 0, .int .i64 0, .slice none 0 0, .int .i64 0, .int .i64 0] 50)).heap.size = s + 2 := by rw [← hs]; simp
 have HE : Hid (E6 x s (.slice ho hn hc) (.slice ko kn kc) (.int .i64 kd) (.slice vo vn vc) (.int .i64 pg) (.int .i64 ct)) := by
  rw [← hx, ← hs]
  exact zaa (zag (zag (E6.box w _ _ _ _ _ _) (zab Br Lr _)) (zab Br Lr _))
 have HR : Hid (C5 x (s + 1) (.slice none 0 0) (.int .i64 0) (.slice none 0 0) (.int .i64 0) (.int .i64 0)) := by
  rw [← hx, ← z1]
  exact zaa (zag (C5.box _ _ _ _ _ _) (zab Br Lr _))
 have HC : Hid (C5 x (s + 2) (.slice ko kn kc) (.int .i64 kd) (.slice vo vn vc) (.int .i64 pg) (.int .i64 ct)) := by
  rw [← hx, ← z2]
  exact zaa (C5.box _ _ _ _ _ _)
 have C3 : Hid (x.heap.size = s + 3) := zaa (by rw [← hx, ← hs]; simp)
 have HV := zaa (hv.on Lr H)
 have Q := zaa H
 have HK := zaa (keyq_any ho hn hc ko kn kc kd vo vn vc pg ct h key x (hh.on Lr H) (hk.on Lr H) zq)
 unfold eV at HK
 have C4 : Hid ((h ++ key).length = K) := zaa (by rw [zG, hh.hlen, hk.hlen, hK])
 have C8 := hv.hroom
 obtain ⟨c0, c1, c2, c3, c4, c5⟩ := HE.out.cells
 clear hh hk hv H z1 z2
 go_enter Tryz.func90, Tryz.ntmps90
 go_wp2_with (go_at_call 130; refine HK.out.mono ?_; rintro e w1 ⟨v1, rfl, I, B⟩; refine Hid.out ?_)
 apply zaa
 have N := I.out
 obtain ⟨a1, k1, rfl⟩ := N.shape
 rw [C4.out] at N ⊢
 have I := zaa N
 clear N
 have D : Hid (C5 w1 (s + 2) (.slice ko kn kc) (.int .i64 kd) (.slice vo vn vc) (.int .i64 pg) (.int .i64 ct)) := zaa (zag HC.out B.out)
 have A3 : Hid (E6 w1 s (.slice ho hn hc) (.slice ko kn kc) (.int .i64 kd) (.slice vo vn vc) (.int .i64 pg) (.int .i64 ct)) := zaa (zag HE.out B.out)
 have A4 : Hid (C5 w1 (s + 1) (.slice none 0 0) (.int .i64 0) (.slice none 0 0) (.int .i64 0) (.int .i64 0)) := zaa (zag HR.out B.out)
 have R : Hid (Sl w1 vo vn vc val) := zaa (HV.out.on Lr B.out)
 have A5 := I.out.apart5 D.out
 obtain ⟨y, hy⟩ : ∃ y, w1.setCell ⟨s + 2, 0, none⟩ (.slice a1 K k1) = y := ⟨_, rfl⟩
 have E : Cf (· = s + 2) w1 y := by rw [← hy]; exact Cf.set _ _ _ _
 have T : Hid (C5 y (s + 2) (.slice a1 K k1) (.int .i64 kd) (.slice vo vn vc) (.int .i64 pg) (.int .i64 ct)) := zaa (by rw [← hy]; exact (D.out.set _).1)
 have U : Hid (E6 y s (.slice ho hn hc) (.slice ko kn kc) (.int .i64 kd) (.slice vo vn vc) (.int .i64 pg) (.int .i64 ct)) := zaa (A3.out.cf E zq)
 have A6 : Hid (C5 y (s + 1) (.slice none 0 0) (.int .i64 0) (.slice none 0 0) (.int .i64 0) (.int .i64 0)) := zaa (A4.out.cf E zq)
 have A7 : Hid (Sl y vo vn vc val) := zaa (R.out.cf E (R.out.apart5 D.out))
 have V : Hid (OwnB y (s + 3) (.slice a1 K k1) (h ++ key)) := zaa (by rw [← C3.out]; exact I.out.cf E A5)
 have O : Hid (Below w.heap.size w y) := zaa ((zae Q.out Lr B.out).trans (E.below (zN Q.out.size B.out.size) (by intro i hi e; omega)))
 obtain ⟨f0, f1, f2, f3, f4⟩ := D.out.free
 obtain ⟨d0, d1, d2, d3, d4⟩ := D.out.cells
 clear c0 c1 c2 c3 c4 c5
 obtain ⟨c0, c1, c2, c3, c4, c5⟩ := U.out.cells
 clear A5 E HC HE HR HV D A3 A4 R I B HK Q
 go_wp2_with (at_make; refine wpList_make_full _ rfl _ _ 22 rfl y.heap.size 5 i0 (.int .u8 0) 1 Tryz.underlying22 hi C1 A1 .i64 .i64 vn vn vn rfl rfl rfl rfl (by rw [C2]; omega) zml Lr ?_; refine Hid.out ?_)
 apply zaa
 intro w3 P A8
 have A : Below y.heap.size y w3 := Br.grown A8 Lr (fun k hk => by cases hk)
 obtain ⟨g, hg⟩ : ∃ g, y.heap.size = g := ⟨_, rfl⟩
 obtain ⟨cur, G, C6⟩ : ∃ cur : List Value, w3.heap[y.heap.size]? = some (.cells cur.toArray 5 (0, 0)) ∧ cur.length = vn := by
  rcases P.2 with ⟨h, _⟩ | ⟨g, c, cur, h, _, hh, _, _, hs, _⟩
  ·cases h
  ·cases h
   exact ⟨cur.toList, by simpa using hh, by simpa using hs⟩
 have A9 : Hid (s + 3 ≤ g) := zaa (by
  have h1 := O.out.size
  have h2 := zaf T.out
  omega)
 have B0 : Hid (∀ i, (Value.slice a1 K k1).ownBlock = some i → s + 3 ≤ i ∧ i < g) := zaa fun i e => by
  have := V.out
  unfold OwnB at this
  have h2 := this.lt i e
  omega
 rw [hg] at G ⊢
 have F : Hid (C5 w3 (s + 2) (.slice a1 K k1) (.int .i64 kd) (.slice vo vn vc) (.int .i64 pg) (.int .i64 ct)) := zaa (zag T.out A)
 have B1 : Hid (E6 w3 s (.slice ho hn hc) (.slice ko kn kc) (.int .i64 kd) (.slice vo vn vc) (.int .i64 pg) (.int .i64 ct)) := zaa (zag U.out A)
 have B2 : Hid (C5 w3 (s + 1) (.slice none 0 0) (.int .i64 0) (.slice none 0 0) (.int .i64 0) (.int .i64 0)) := zaa (zag A6.out A)
 have W : Sl w3 vo vn vc val := A7.out.on Lr A
 have X : OwnB w3 (s + 3) (.slice a1 K k1) (h ++ key) := V.out.on Lr A
 obtain ⟨t, ht⟩ : ∃ t, w3.setCell ⟨s + 2, 2, none⟩ (.slice (some ⟨g, 0, none⟩) vn vn) = t := ⟨_, rfl⟩
 have C : Cf (· = s + 2) w3 t := by rw [← ht]; exact Cf.set _ _ _ _
 have Y : Hid (C5 t (s + 2) (.slice a1 K k1) (.int .i64 kd) (.slice (some ⟨g, 0, none⟩) vn vn) (.int .i64 pg) (.int .i64 ct)) := zaa (by rw [← ht]; exact (F.out.set _).2.2.1)
 have B3 : Hid (E6 t s (.slice ho hn hc) (.slice ko kn kc) (.int .i64 kd) (.slice vo vn vc) (.int .i64 pg) (.int .i64 ct)) := zaa (B1.out.cf C zq)
 have B4 : Hid (C5 t (s + 1) (.slice none 0 0) (.int .i64 0) (.slice none 0 0) (.int .i64 0) (.int .i64 0)) := zaa (B2.out.cf C zq)
 have J : Sl t vo vn vc val := W.cf C (W.apart5 F.out)
 have B5 : Hid (OwnB t (s + 3) (.slice a1 K k1) (h ++ key)) := zaa (X.cf C (X.apart5 F.out))
 have B6 : Hid (Below w.heap.size w t) := zaa ((zae O.out Lr A).trans (C.below (zN O.out.size A.size) (by intro i hi e; omega)))
 have Z : Hid (t.heap[g]? = some (.cells cur.toArray 5 (0, 0))) := zaa ((C.block g (zaf G) (by have := A9.out; omega)).trans G)
 have HP : Hid (0 < (By val).length → some (⟨g, 0, none⟩ : Addr) = some ⟨g, 0, none⟩ ∧ ∃ ad, vo = some ad ∧ ∀ j v, (By val)[j]? = some v → t.cell? (ad.add j) = some v) := zaa (by
  intro hp
  rw [zbd, J.hlen] at hp
  rcases J.hat with h0 | ⟨b, off, rfl, C9, hc⟩
  ·omega
  ·refine ⟨rfl, _, rfl, fun j v hj => ?_⟩
   obtain ⟨h1, rfl⟩ := getElem?_By val j v hj
   rw [Addr.add_lit]
   exact hc j (by rw [← J.hlen]; exact h1))
 have A0 := zaa J.hlen
 obtain ⟨e0, e1, e2, e3, e4⟩ := F.out.cells
 obtain ⟨h0, h1, h2, h3, h4⟩ := F.out.free
 clear c0 c1 c2 c3 c4 c5 d0 d1 d2 d3 d4 f0 f1 f2 f3 f4 hy
 obtain ⟨c0, c1, c2, c3, c4, c5⟩ := B3.out.cells
 obtain ⟨d0, d1, d2, d3, d4⟩ := Y.out.cells
 have D0 : Below t.heap.size t t := Br
 have D3 : g < t.heap.size := zaf Z.out
 clear P A8 A G W X C J T U A6 A7 V O F B1 B2
 go_wp2_with (refine wpList_copy_splice rfl _ _ 22 22 rfl 5 Tryz.underlying22 hsz _ _ vn vn vn vc rfl rfl g 0 cur 5 Z.out (By val) (by rw [zbd, A0.out]; exact (Nat.min_self vn).symm) HP.out (by rw [zbd, A0.out]; omega) (zbt val) g t Br Lr ?_; refine Hid.out ?_)
 apply zaa
 intro w5 B7 L
 have B8 : Hid (Bk w5 g val) := by
  have h' := B7.out
  rw [show splice cur 0 (By val) = By val from by simp [splice, zbd, A0.out, C6]] at h'
  exact zaa h'
 have D4 := A9.out
 have C7 : Hid (C5 w5 (s + 2) (.slice a1 K k1) (.int .i64 kd) (.slice (some ⟨g, 0, none⟩) vn vn) (.int .i64 pg) (.int .i64 ct)) := zaa ((L.block _ zq).trans Y.out)
 have M : Hid (C5 w5 (s + 1) (.slice none 0 0) (.int .i64 0) (.slice none 0 0) (.int .i64 0) (.int .i64 0)) := zaa ((L.block _ zq).trans B4.out)
 have B9 : Hid (Below w.heap.size w w5) := zaa (B6.out.trans (L.mono (by have := A2.out; omega)))
 have C0 : Hid (OwnB w5 (s + 3) (.slice a1 K k1) (h ++ key)) := zaa (B5.out.same fun i e => L.block i (B0.out i e).2)
 clear c0 c1 c2 c3 c4 c5 d0 d1 d2 d3 d4 e0 e1 e2 e3 e4 h0 h1 h2 h3 h4 ht Y B4 B3 B6 B5 Z HP B7 L
 obtain ⟨d0, d1, d2, d3, d4⟩ := C7.out.cells
 obtain ⟨b0, b1, b2, b3, b4⟩ := M.out.cells
 obtain ⟨f0, f1, f2, f3, f4⟩ := M.out.free
 go_wp2
 refine bodyPost_ret (results_cell_row rfl _ _ (s + 1) 50 #[.slice a1 K k1, .int .i64 kd, .slice (some ⟨g, 0, none⟩) vn vn, .int .i64 pg, .int .i64 ct] (0, 0) _ zr (M.out.put _ _ _ _ _) Tryz.underlying50 rfl zal) rfl ?_
 have hf := zaq w5 (s + 1) (.slice a1 K k1) (.int .i64 kd) (.slice (some ⟨g, 0, none⟩) vn vn) (.int .i64 pg) (.int .i64 ct)
 have D5 := A2.out
 exact ⟨a1, k1, g, rfl, zaa ⟨(C0.out.low zq).cf hf (C0.out.apart5 M.out), B8.out.cf hf (B8.out.apart5 M.out), zq, fun e => by have := B0.out g e; omega⟩, zaa (B9.out.trans (hf.below B9.out.size (by intro i hi e; omega)))⟩
theorem shortAtq_any (w : World) (ao : Option Addr) (n cap p : Nat) (l : List Int) (hs : Sl w ao n cap l) (hp : p + 2 ≤ n) :
  Calls Tryz.prog 131 #[.slice ao n cap, .int .i64 (p : Int)] w fun e w' => e = .returned (.int .i64 (rdN l p 2)) ∧ ∃ q, w' = w.drewN q := by
 have A := hs.hlen
 have hr := hs.hroom
 rw [rdN2 l p zq]
 rcases hs.hat with h | ⟨b, off, rfl, hb, hc⟩
 ·omega
 obtain ⟨p', hp'⟩ : ∃ p', p + 1 = p' := ⟨_, rfl⟩
 have B : (p : Int) + 1 = (p' : Int) := zq
 have c0 := hc p zq
 have c1 := hc p' zq
 have y0 := hs.wf.getD p
 have y1 := hs.wf.getD p'
 have p0 : (p : Int) < (n : Int) := zq
 have p1 : (p' : Int) < (n : Int) := zq
 have p2 : p < n := zq
 have p3 : p' < n := zq
 clear hc hs
 rw [hp']
 clear hp'
 generalize l.getD p 0 = a at *
 generalize l.getD p' 0 = c at *
 have ho := or_short a c y0 y1
 have C : IntKind.i64.wrap a = a := by rw [IntKind.wrap_i64]; omega
 have D : IntKind.i64.wrap c = c := by rw [IntKind.wrap_i64]; omega
 have hw : IntKind.i64.wrap (a * 256) = a * 256 := by rw [IntKind.wrap_i64]; omega
 go_enter Tryz.func131, Tryz.ntmps131
 go_wp2_with fail
 go_quiet (fail)
 go_wp2
 go_ret
 exact ⟨rfl, _, rfl⟩
theorem clone_any (a : Addr) (n cap : Nat) (l : List Int) (w : World) (hs : Sl w (some a) n cap l) :
  Calls Tryz.prog 132 #[.slice (some a) n cap] w fun e w' => ∃ g c, e = .returned (.slice (some ⟨g, 0, none⟩) n c) ∧ Hid (OwnB w' w.heap.size (.slice (some ⟨g, 0, none⟩) n c) l ∧ w.heap.size ≤ g ∧ g < w'.heap.size) ∧ Hid (Below w.heap.size w w') := by
 obtain ⟨x, hx⟩ : ∃ x, w.alloc (.cells #[] 5) = x := ⟨_, rfl⟩
 have B : Below w.heap.size w x := by rw [← hx]; exact zab Br Lr _
 have HS := zaa (hs.on Lr B)
 have H := hs.hroom
 have D := zaa hs.hlen
 have HO : Hid (OwnB x w.heap.size (.slice (some ⟨w.heap.size, 0, none⟩) 0 0) []) := zaa (by
  refine ⟨rfl, .inr ⟨w.heap.size, 0, #[], rfl, Lr, ?_, Lr, Nat.zero_le _, rfl, rfl⟩⟩
  rw [← hx]
  exact heap_alloc_last w _)
 have E := zaa B
 have C : w.heap.size ≤ x.heap.size := B.size
 have he : (binOp .eql 22 (.slice (some a) n cap) (.slice none 0 0)).run Tryz.prog w = .ok (.bool false) w := run_eql_slice_nil (P := Tryz.prog) w 22 5 (some a) n cap Tryz.underlying22
 clear hs B
 go_enter Tryz.func132, Tryz.ntmps132
 go_wp2_with (at_builtin; refine zat _ rfl _ _ rfl w.heap.size [] l _ (some a) n cap rfl rfl HO.out HS.out zso C ?_; refine Hid.out ?_)
 apply zaa
 intro v1 w1 A g1
 replace A : OwnB w1 w.heap.size v1 l := by simpa using A
 have HB : Hid (Below w.heap.size w w1) := zaa (E.out.trans (g1.below HO.out C))
 obtain ⟨g, c, rfl, hg, F⟩ : ∃ g c, v1 = .slice (some ⟨g, 0, none⟩) n c ∧ w.heap.size ≤ g ∧ g < w1.heap.size := by
  have hb := A
  unfold OwnB at hb
  rcases hb.2 with ⟨e, _⟩ | ⟨g, c, cur, e, hg, hh, _⟩
  ·have := g1.own
   rw [e] at this
   simp [Value.ownBlock] at this
  ·exact ⟨g, c, by rw [e, D.out], hg, zaf hh⟩
 have G := zaa A
 clear A g1
 go_wp2
 go_ret
 exact ⟨g, c, rfl, zaa ⟨G.out, hg, F⟩, HB⟩
theorem riseQ_any (ao bo : Option Addr) (n m c d : Nat) (la lb : List Int) (w : World) (ha : Sl w ao n c la) (hb : Sl w bo m d lb) :
  Calls Tryz.prog 85 #[.slice ao n c, .slice bo m d] w fun e w' => e = .returned (.bool (decide (kl la lb))) ∧ w' = w := by
 have hr := compare_any ao bo n m c d la lb w ha hb
 have hq : decide (kl la lb) = decide (ordL la lb < 0) := by
  have := ordL_three la lb
  refine decide_eq_decide.2 ?_
  unfold kl
  omega
 rw [hq]
 clear ha hb hq
 generalize ordL la lb = x at *
 go_enter Tryz.func85, Tryz.ntmps85
 go_wp2_with (go_at_call 111; refine zad hr ?_)
 go_ret
 exact ⟨rfl, rfl⟩
def hdP (k : Int) (P : List Int) (j : Nat) : List Int := if k = 3 ∧ j = 0 then [] else P
theorem hdP_len (k : Int) (P : List Int) (j : Nat) : (hdP k P j).length = if k = 3 ∧ j = 0 then 0 else P.length := by
 unfold hdP
 split <;> rfl
theorem hdP_le (k : Int) (P : List Int) (j : Nat) : (hdP k P j).length ≤ P.length := by
 rw [hdP_len]
 split <;> omega
theorem hdP_wf {k : Int} {P : List Int} (h : Wf P) (j : Nat) : Wf (hdP k P j) := by
 unfold hdP
 split
 ·exact Wf.nil
 ·exact h
structure PwQ (k : Int) (n m : Nat) (P body : List Int) (cs : List Cl) (j p : Nat) : Prop where
 len : cs.length = j
 at_ : p = (qbd P.length (whl k) cs).length
 eq : zay k n P m (whl k) none body = (zay k n P (m - j) (whl k && decide (j = 0)) (prv cs) (body.drop p)).map fun x => (cs ++ x.1, x.2)
theorem PwQ.start (k : Int) (n m : Nat) (P body : List Int) : PwQ k n m P body [] 0 0 := ⟨rfl, rfl, by simp [prv]⟩
theorem whl_hd (k : Int) (P : List Int) (j : Nat) : (if (whl k && decide (j = 0)) = true then [] else P) = hdP k P j := by
 unfold hdP whl
 simp
theorem PwQ.fail {k : Int} {n m : Nat} {P body : List Int} {cs : List Cl} {j p : Nat} (h : PwQ k n m P body cs j p) (hj : j < m) (hp : pC (body.drop p) = none) : zay k n P m (whl k) none body = none := by
 rw [h.eq, show m - j = (m - j - 1) + 1 by omega, zay, hp]
 rfl
theorem PwQ.bad {k : Int} {n m : Nat} {P body : List Int} {cs : List Cl} {j p q : Nat} {d : Cl} (h : PwQ k n m P body cs j p) (hj : j < m) (hp : pC (body.drop p) = some (d, body.drop q)) (hc : ¬ (mayP k n (d.pre (hdP k P j)) ∧ zap (prv cs) (d.pre (hdP k P j)).key)) : zay k n P m (whl k) none body = none := by
 rw [h.eq, show m - j = (m - j - 1) + 1 by omega, zay, hp]
 simp only [whl_hd]
 rw [if_neg hc]
 rfl
theorem PwQ.next {k : Int} {n m : Nat} {P body : List Int} {cs : List Cl} {j p q : Nat} {d : Cl} (h : PwQ k n m P body cs j p) (hw : Wf body) (hj : j < m) (hq : q ≤ body.length) (A : p ≤ body.length) (hp : pC (body.drop p) = some (d, body.drop q)) (hc : mayP k n (d.pre (hdP k P j)) ∧ zap (prv cs) (d.pre (hdP k P j)).key) :
  PwQ k n m P body (cs ++ [d.pre (hdP k P j)]) (j + 1) q ∧ qst P.length (whl k) 0 (cs ++ [d.pre (hdP k P j)]) = qst P.length (whl k) 0 cs ++ [p] := by
 have hi := (pC_inv (hw.drop p) hp).1
 have hl := congrArg List.length hi
 rw [zG, zK, zK] at hl
 have ha := h.at_
 have hb : qB (cutn P.length (whl k) cs) (d.pre (hdP k P j)) = qB 0 d := by
  have hn : cs = [] ↔ j = 0 := by rw [← h.len]; exact List.length_eq_zero_iff.symm
  unfold cutn hdP whl
  by_cases e : k = 3 ∧ j = 0
  ·rw [if_pos (by simp [hn, e]), if_pos e]
   obtain ⟨key, kd, val, pg, ct⟩ := d
   simp [Cl.pre]
  ·rw [if_neg (by simpa [hn] using e), if_neg e]
   exact qB_pre P d
 refine ⟨⟨by simp [h.len], ?_, ?_⟩, ?_⟩
 ·rw [qbd_snoc, zG, ← ha, hb]
  omega
 ·rw [h.eq, show m - j = (m - (j + 1)) + 1 by omega, zay, hp]
  simp only [whl_hd]
  rw [if_pos hc, show prv (cs ++ [d.pre (hdP k P j)]) = some (d.pre (hdP k P j)).key from by simp [prv]]
  simp only [Nat.add_one_ne_zero, decide_false, Bool.and_false]
  cases zay k (n : Int) P (m - (j + 1)) false (some (d.pre (hdP k P j)).key) (body.drop q) <;> simp
 ·rw [qst_snoc, Nat.zero_add, ← ha]
theorem PwQ.done {k : Int} {n m : Nat} {P body : List Int} {cs : List Cl} {p : Nat} (h : PwQ k n m P body cs m p) : zay k n P m (whl k) none body = some (cs, body.drop p) := by
 have he := h.eq
 rw [Nat.sub_self, zay] at he
 simpa using he
theorem OwnB.take {w : World} {B : Nat} {ao : Option Addr} {n cap : Nat} {l : List Int} (h : OwnB w B (.slice ao n cap) l) (k : Nat) (hk : k ≤ n) : OwnB w B (.slice ao k cap) (l.take k) := by
 unfold OwnB at *
 obtain ⟨h1, h2⟩ := h
 refine ⟨by simp [By], ?_⟩
 rcases h2 with ⟨e, hl⟩ | ⟨g, c, cur, e, hg, hh, C, hm, hs, ht⟩
 ·injection e with e1 e2 e3
  subst e1 e2 e3
  obtain rfl : k = 0 := zq
  exact .inl ⟨rfl, zv⟩
 ·injection e with e1 e2 e3
  subst e1 e2 e3
  have A : (l.take k).length = k := by rw [zJ]; omega
  refine .inr ⟨g, cap, cur, by rw [A], hg, hh, by rw [A]; omega, hm, hs, ?_⟩
  have := congrArg (List.take k) ht
  rw [A]
  simpa [By, List.take_take, List.map_take, Nat.min_eq_left hk] using this
end Go.Proofs.YtbkhjeacmmbabaaGreatDoor
