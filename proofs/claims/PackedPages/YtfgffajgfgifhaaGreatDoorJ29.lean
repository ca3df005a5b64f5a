import Derived.Test.YtfgffajgfgifhaaGreatDoorJ28
namespace Go.Proofs.YtfgffajgfgifhaaGreatDoor
set_option maxRecDepth 100000
set_option maxHeartbeats 8000000
open Go.RowKit
theorem own_at7 {w : World} {B : Nat} {e : TypeId} {ao : Option Addr} {m cap : Nat} {xs : List Value} (h : w.ownsRow B e 1 (.slice ao m cap) m xs) {t : Nat} {u : Value} (hu : xs[t]? = some u) : ∃ g, ao = some ⟨g, 0, none⟩ ∧ m ≤ cap ∧ w.cell? ⟨g, t, none⟩ = some u := by
 have hlen : xs.length = m := by have := h.1; omega
 have hlt := (zH.1 hu).1
 rcases h.2 with ⟨e1, h0⟩ | ⟨g, c2, cur, e1, hg, hh, hnc, hmx, hs, ht⟩
 ·omega
 ·injection e1 with e1 e2 e3
  subst e1
  subst e3
  have := World.ownsRow.cellAt h t (by omega)
  exact ⟨g, rfl, hnc, by rw [this]; exact hu⟩
theorem row_shape {w : World} {B : Nat} {e : TypeId} {v : Value} {m : Nat} {xs : List Value} (h : w.ownsRow B e 1 v m xs) : ∃ ao cap, v = .slice ao m cap := by
 rcases h.2 with ⟨rfl, h0⟩ | ⟨g, cap, cur, rfl, _⟩
 ·exact ⟨none, 0, by rw [h0]⟩
 ·exact ⟨_, cap, rfl⟩
theorem wsL_get {n t : Nat} {D : Nat → List Int} (h : t < n) : (wsL n D)[t]? = some (.string (strOfNums (D t))) := by
 simp [wsL, h]
theorem stands_any (w : World) (X : Nat → Prop) (kb N : Nat) (v1 v2 : Value) (V : List Value) (D : Nat → List Int) (h : Kq w kb N v1 v2 V (wsL V.length D) D) (hX : ∀ (t : Nat) (u : Value) (g : Nat), V[t]? = some u → u.ownBlock = some g → X g) (M : Nat) (hM : V.length = M) (hV : M ≤ 1300000000000) :
  Calls Tryz.prog 9 #[.pointer (some ⟨kb, 0, none⟩)] w fun e w' => e = .returned (.bool true) ∧ Hid (Cf X w w') := by
 obtain ⟨x, hx⟩ : ∃ x, w.alloc (.cells #[.slice none 0 0] 71) = x := ⟨_, rfl⟩
 have hbx : Below w.heap.size w x := by rw [← hx]; exact zac Br Lr _
 obtain ⟨bk, hbk⟩ : ∃ bk, w.heap.size = bk := ⟨_, rfl⟩
 have hb0 : Bo9 x 0 bk (.slice none 0 0) [] (fun _ => []) := box9 (by rw [← hx, ← hbk]; exact heap_alloc_last w _)
 rw [hM] at h
 have h1 := h.l1
 have h2 := h.l2
 rw [hM] at h1
 rw [wsL_length] at h2
 obtain ⟨o1, p1, rfl⟩ := row_shape h1
 obtain ⟨o2, p2, rfl⟩ := row_shape h2
 have HK := zaa h
 have HB0 := zaa hb0
 have HX := zaa hX
 have HBX := zaa hbx
 have HBK := zaa hbk
 have HM := zaa hM
 have hMI : (M : Int) ≤ 1300000000000 := by omega
 have HV := zaa hV
 clear h hX hbx hb0 h1 h2 hV
 go_enter Tryz.func9, Tryz.ntmps9
 go_wp2_with fail
 go_loopw [4] (fun i wr => ∃ (j : Nat) (v : Value) (E : Nat → List Int), j ≤ M ∧ i = .int .i64 (j : Int) ∧ Hid (Bo9 wr 0 bk v (V.take j) E) ∧ Hid (∀ g, v.ownBlock = some g → w.heap.size ≤ g) ∧ Hid (Below w.heap.size w wr)) (fun i _ => M - (intOf i).toNat)
 case atStart => exact ⟨0, _, _, by omega, rfl, by simpa using HB0, zaa (fun g e => by cases e), HBX⟩
 case round =>
  obtain ⟨j, v, E, hj, rfl, HB, HG, HW⟩ := hrel
  have hk := HK.out.on HW.out
  obtain ⟨k0, k1, k2, _⟩ := hk.cells
  by_cases hlt : j < M
  ·obtain ⟨u, hu⟩ : ∃ u, V[j]? = some u := ⟨_, zI (by rw [HM.out]; exact hlt)⟩
   obtain ⟨ho, hwf, hl6⟩ := hk.own j u hu
   obtain ⟨ao, c, rfl, _⟩ := zcu ho
   have hr1 := hk.l1
   have hr2 := hk.l2
   rw [HM.out] at hr1
   rw [wsL_length] at hr2
   obtain ⟨g1, rfl, hc1, a1⟩ := own_at7 hr1 hu
   obtain ⟨g2, rfl, hc2, a2⟩ := own_at7 hr2 (wsL_get hlt)
   obtain ⟨n, hn⟩ : ∃ n, (D j).length = n := ⟨_, rfl⟩
   obtain ⟨S, hS⟩ : ∃ S, strOfNums (D j) = S := ⟨_, rfl⟩
   have kc : ∀ q, (convert 37 9 (.slice ao n c)).run Tryz.prog (wr.drewN q) = .ok (.string S) (wr.drewN q) := fun q => by
    rw [← hS, ← hn]
    exact zav ((ho.on Lr (show Below wr.heap.size wr (wr.drewN q) from zad Br q)).sl2 hwf (by omega))
   have eS : (S.toList == S.toList) = true := by simp
   have HT : Hid (∀ y, Below wr.heap.size wr y → Calls Tryz.prog 40 #[.pointer (some ⟨bk, 0, none⟩), .slice ao n c] y fun e w' => e = .returned (.tuple #[]) ∧ Hid (∃ v' E', Bo9 w' 0 bk v' (V.take (j + 1)) E' ∧ (∀ g, v'.ownBlock = some g → w.heap.size ≤ g) ∧ Below w.heap.size w w')) := zaa fun y hy => by
    rw [← hn]
    refine (take9G y 0 bk v (V.take j) E ao _ c (D j) (HB.out.on hy) (by have := HV.out; simp; omega) (Nat.zero_le _) (ho.on Lr hy) hwf hl6 (fun t z hz => ?_)).mono ?_
    ·have ht : t < j := by
      have := (zH.1 hz).1
      simp at this
      omega
     rw [List.getElem?_take_of_lt ht] at hz
     exact hk.dif t j z _ hz hu (by omega)
    ·rintro e w' ⟨rfl, hq⟩
     obtain ⟨v', q1, q2, q3⟩ := hq.out
     have e1 : V.take (j + 1) = V.take j ++ [.slice ao (D j).length c] := by rw [List.take_add_one, hu]; rfl
     refine ⟨rfl, zaa ⟨v', _, by rw [e1]; exact q1, fun g e => ?_, ?_⟩⟩
     ·rcases q3 g e with e | e
      ·exact HG.out g e
      ·exact zN HW.out.size (zN hy.size e)
     ·have hwy := zab HW.out Lr hy
      refine hwy.trans (q2.below hwy.size (by
       rintro i hi (e | e)
       ·have := HBK.out
        omega
       ·have := HG.out i e
        omega))
   have hjI : (j : Int) < (M : Int) := by omega
   clear hk ho hwf hl6 hr1 hr2 hu
   rw [hn] at a1
   rw [hS] at a2
   go_wp2_with fail
   go_quiet (fail)
   go_wp2_with (go_at_call 40; refine (HT.out _ (by first | exact Br | exact zad Br _)).mono ?_; rintro e y ⟨rfl, HY⟩; refine Hid.out ?_)
   apply zaa
   obtain ⟨v', E', y1, y2, y3⟩ := HY.out
   have Y1 := zaa y1
   have Y2 := zaa y2
   have Y3 := zaa y3
   clear y1 y2 y3 HY HT
   go_wp2
   go_roundw
   case rel => exact ⟨j + 1, v', E', by omega, by go_num, Y1, Y2, Y3⟩
   case measure => simp [intOf]; omega
  ·obtain rfl : j = M := by omega
   have HOW := zaa (owned9F X wr 0 bk j v V E (by have := HB.out; rwa [← HM.out, List.take_length] at this) (fun t u ht z hz => .inl (HX.out t u z ht hz)) HM.out HV.out (Nat.zero_le _))
   clear hk
   go_wp2_with (go_at_call 41; refine HOW.out.mono ?_; rintro e y ⟨rfl, HY⟩; refine Hid.out ?_)
   apply zaa
   go_wp2
   go_ret
   exact ⟨rfl, zaa ((Cf.of_below HW.out).go HY.out)⟩
structure Kv (w : World) (kb : Nat) (N : Nat) (v1 v2 : Value) (V W : List Value) : Prop where
 box : w.heap[kb]? = some (.cells #[.int .i64 (N : Int), v1, v2] 35 (0, 0))
 l1 : w.ownsRow 0 37 1 v1 V.length V
 l2 : w.ownsRow 0 9 1 v2 W.length W
theorem Kv.on {w u : World} {kb N : Nat} {v1 v2 : Value} {V W : List Value} (h : Kv w kb N v1 v2 V W) (hb : Below w.heap.size w u) : Kv u kb N v1 v2 V W :=
 ⟨(hb.block kb (zag h.box)).trans h.box, row_on h.l1 hb, row_on h.l2 hb⟩
theorem Kv.cells {w : World} {kb N : Nat} {v1 v2 : Value} {V W : List Value} (h : Kv w kb N v1 v2 V W) : w.cell? ⟨kb, 0, none⟩ = some (.int .i64 (N : Int)) ∧ w.cell? ⟨kb, 1, none⟩ = some v1 ∧ w.cell? ⟨kb, 2, none⟩ = some v2 ∧ ∀ i, w.frozen? ⟨kb, i, none⟩ = false := by
 have hb := h.box
 refine ⟨?_, ?_, ?_, fun i => by simp [World.frozen?, hb]⟩
 ·rw [cell_of_row _ _ 0 _ _ _ hb]; rfl
 ·rw [cell_of_row _ _ 1 _ _ _ hb]; rfl
 ·rw [cell_of_row _ _ 2 _ _ _ hb]; rfl
theorem Kv.no1 {w : World} {kb N : Nat} {v1 v2 : Value} {V W : List Value} (h : Kv w kb N v1 v2 V W) : v1.ownBlock ≠ some kb := zbg h.l1 h.box kp_neX
theorem Kv.no2 {w : World} {kb N : Nat} {v1 v2 : Value} {V W : List Value} (h : Kv w kb N v1 v2 V W) : v2.ownBlock ≠ some kb := zbg h.l2 h.box kp_neT
theorem Kv.setN {w : World} {kb N : Nat} {v1 v2 : Value} {V W : List Value} (h : Kv w kb N v1 v2 V W) (M : Nat) : Kv (w.setCell ⟨kb, 0, none⟩ (.int .i64 (M : Int))) kb M v1 v2 V W :=
 ⟨by rw [heap_setCell_same _ _ _ _ _ _ h.box]; rfl, zck h.l1 h.no1 _ _, zck h.l2 h.no2 _ _⟩
theorem Kv.keptB {w w' : World} {kb N : Nat} {v1 v2 u : Value} {V W : List Value} {l : List Int} (h : Kv w kb N v1 v2 V W) (ho : OwnB w 0 u l) (hg : w.grownBy w' u.ownBlock) : Kv w' kb N v1 v2 V W :=
 ⟨(hg.block kb (zag h.box) (fun e => zbg ho h.box kp_ne8 e.symm)).trans h.box, World.ownsRow.kept h.l1 hg (zcj h.l1 ho u8_neX), World.ownsRow.kept h.l2 hg (zcj h.l2 ho (fun e => tx_ne8 e.symm))⟩
theorem Kv.more {w w2 : World} {kb N : Nat} {v1 v2 v' : Value} {V W : List Value} (h : Kv w kb N v1 v2 V W) {u : Value} {l : List Int} (ho : OwnB w 0 u l)
  (hr : w2.ownsRow 0 37 1 v' (V.length + 1) (V ++ [u])) (hg : Gr w v1 w2 v') : Kv (w2.setCell ⟨kb, 1, none⟩ v') kb N v' v2 (V ++ [u]) W ∧ OwnB (w2.setCell ⟨kb, 1, none⟩ v') 0 u l := by
 have hbox : w2.heap[kb]? = some (.cells #[.int .i64 (N : Int), v1, v2] 35 (0, 0)) := (hg.grow.block kb (zag h.box) (fun e => h.no1 e.symm)).trans h.box
 have kept : ∀ {B : Nat} {e : TypeId} {s m : Nat} {x : Value} {xs : List Value}, w.ownsRow B e s x m xs → e ≠ 37 → 35 ≠ e → (w2.setCell ⟨kb, 1, none⟩ v').ownsRow B e s x m xs := fun {B e s m x xs} hx h1 h2 =>
  have h3 := World.ownsRow.kept hx hg.grow (zcj hx h.l1 (fun e => h1 e.symm))
  zck h3 (zbg h3 hbox h2) _ _
 have no' : v'.ownBlock ≠ some kb := zbg hr hbox kp_neX
 have hlen : (V ++ [u]).length = V.length + 1 := by simp
 exact ⟨⟨by rw [heap_setCell_same _ _ _ _ _ _ hbox]; rfl, by rw [hlen]; exact zck hr no' _ _, kept h.l2 tx_neX kp_neT⟩, kept ho u8_neX kp_ne8⟩
theorem Kv.said {w w2 : World} {kb N : Nat} {v1 v2 v' : Value} {V W : List Value} (h : Kv w kb N v1 v2 V W) {u : Value} 
  (hr : w2.ownsRow 0 9 1 v' (W.length + 1) (W ++ [u])) (hg : Gr w v2 w2 v') : Kv (w2.setCell ⟨kb, 2, none⟩ v') kb N v1 v' V (W ++ [u]) := by
 have hbox : w2.heap[kb]? = some (.cells #[.int .i64 (N : Int), v1, v2] 35 (0, 0)) := (hg.grow.block kb (zag h.box) (fun e => h.no2 e.symm)).trans h.box
 have kept : ∀ {B : Nat} {e : TypeId} {s m : Nat} {x : Value} {xs : List Value}, w.ownsRow B e s x m xs → e ≠ 9 → 35 ≠ e → (w2.setCell ⟨kb, 2, none⟩ v').ownsRow B e s x m xs := fun {B e s m x xs} hx h1 h2 =>
  have h3 := World.ownsRow.kept hx hg.grow (zcj hx h.l2 (fun e => h1 e.symm))
  zck h3 (zbg h3 hbox h2) _ _
 have no' : v'.ownBlock ≠ some kb := zbg hr hbox kp_neT
 have hlen : (W ++ [u]).length = W.length + 1 := by simp
 exact ⟨by rw [heap_setCell_same _ _ _ _ _ _ hbox]; rfl, kept h.l1 (fun e => tx_neX e.symm) kp_neX, by rw [hlen]; exact zck hr no' _ _⟩
theorem takeV_even (w : World) (kb N : Nat) (v1 v2 : Value) (V W : List Value) (h : Kv w kb N v1 v2 V W) (ao : Option Addr) (n c : Nat) (l : List Int) (ho : OwnB w 0 (.slice ao n c) l) (hl : Wf l ∧ l.length ≤ 65536) (hN : N ≤ 9000000000000) (hp : N % 2 = 0) :
  Calls Tryz.prog 38 #[.pointer (some ⟨kb, 0, none⟩), .slice ao n c] w fun e w' => e = .returned (.tuple #[]) ∧ Hid (Kv w' kb (N + 1) v1 v2 V W) ∧ Hid (Cf (fun b => b = kb ∨ (Value.slice ao n c).ownBlock = some b) w w') := by
 obtain ⟨c0, c1, c2, hfz⟩ := h.cells
 have f0 := hfz 0
 have hr := rem2_even hp
 obtain ⟨x, hx⟩ : ∃ x, w.setCell ⟨kb, 0, none⟩ (.int .i64 ((N : Int) + 1)) = x := ⟨_, rfl⟩
 have hq : Kv x kb (N + 1) v1 v2 V W := by rw [← hx]; exact h.setN (N + 1)
 have hcx : Cf (· = kb) w x := by rw [← hx]; exact Cf.setCell (F := (· = kb)) w (p := ⟨kb, 0, none⟩) rfl _
 have hox : OwnB x 0 (.slice ao n c) l := by rw [← hx]; exact zck ho (zbg ho h.box kp_ne8) _ _
 have x0 : x.cell? ⟨kb, 0, none⟩ = some (.int .i64 ((N : Int) + 1)) := hq.cells.1
 have HOW := zaa (own_call (.slice ao n c) 0 l x hox (Nat.zero_le _) (by have := hl.2; omega))
 have HQ := zaa hq
 have HCX := zaa hcx
 have HOX := zaa hox
 have hNI : (N : Int) ≤ 9000000000000 := by omega
 clear h ho hl hq hcx hox hfz hp hN
 go_enter Tryz.func38, Tryz.ntmps38
 go_wp2_with (go_at_call 78; refine HOW.out.mono ?_; rintro e u ⟨rfl, hg⟩; have HG := zaa hg; clear hg; refine Hid.out ?_)
 apply zaa
 go_wp2
 first | refine bodyPost_end (results_none rfl _ _ _) rfl ?_ | refine bodyPost_ret (results_none rfl _ _ _) rfl ?_
 exact ⟨rfl, zaa (HQ.out.keptB HOX.out HG.out), zaa ((HCX.out.wideQ fun b e => .inl e).go ((Cf.grownBy HG.out).wideQ fun b e => .inr e))⟩
theorem Gr.cfV {w w' : World} {v v' : Value} {F : Nat → Prop} (h : Gr w v w' v') (hf : ∀ b, v.ownBlock = some b → F b) : Cf F w w' := ⟨h.grow.os, h.grow.tape, h.grow.output, h.grow.size, fun k hk hn => h.grow.block k hk (fun e => hn (hf k e.symm))⟩
theorem takeV_odd (w : World) (kb N : Nat) (v1 v2 : Value) (V W : List Value) (h : Kv w kb N v1 v2 V W) (hW : W.length = V.length) (ao : Option Addr) (n c : Nat) (l : List Int) (ho : OwnB w 0 (.slice ao n c) l) (hl : Wf l ∧ l.length ≤ 65536) (hN : N ≤ 9000000000000) (hV : V.length ≤ 1300000000000) (hp : N % 2 = 1) :
  Calls Tryz.prog 38 #[.pointer (some ⟨kb, 0, none⟩), .slice ao n c] w fun e w' => e = .returned (.tuple #[]) ∧ Hid (∃ v1' v2', Kv w' kb (N + 1) v1' v2' (V ++ [.slice ao n c]) (W ++ [.string (strOfNums l)]) ∧ (∀ g, v1'.ownBlock = some g → v1.ownBlock = some g ∨ w.heap.size ≤ g) ∧ (∀ g, v2'.ownBlock = some g → v2.ownBlock = some g ∨ w.heap.size ≤ g)) ∧ Hid (Cf (fun b => b = kb ∨ v1.ownBlock = some b ∨ v2.ownBlock = some b) w w') := by
 obtain ⟨c0, c1, c2, hfz⟩ := h.cells
 have f0 := hfz 0
 have hr := rem2_odd hp
 obtain ⟨x, hx⟩ : ∃ x, w.setCell ⟨kb, 0, none⟩ (.int .i64 ((N : Int) + 1)) = x := ⟨_, rfl⟩
 have hq : Kv x kb (N + 1) v1 v2 V W := by rw [← hx]; exact h.setN (N + 1)
 have hcx : Cf (· = kb) w x := by rw [← hx]; exact Cf.setCell (F := (· = kb)) w (p := ⟨kb, 0, none⟩) rfl _
 have hox : OwnB x 0 (.slice ao n c) l := by rw [← hx]; exact zck ho (zbg ho h.box kp_ne8) _ _
 have x0 : x.cell? ⟨kb, 0, none⟩ = some (.int .i64 ((N : Int) + 1)) := hq.cells.1
 have x1 := hq.cells.2.1
 obtain ⟨s2, hsz⟩ : ∃ s2, x.heap.size = s2 := ⟨_, rfl⟩
 obtain ⟨u3, hu3⟩ : ∃ u3, x.alloc (.cells #[.slice ao n c] 37) = u3 := ⟨_, rfl⟩
 have hb3 : Below x.heap.size x u3 := by rw [← hu3]; exact zac Br Lr _
 have hq3 := hq.on hb3
 have ho3 : OwnB u3 0 (.slice ao n c) l := hox.on Lr hb3
 have hc3 : u3.cell? ⟨s2, 0, none⟩ = some (.slice ao n c) := by rw [← hu3, ← hsz]; simp
 have z1 := hq3.cells.2.1
 obtain ⟨g4, c4, u4, hr4, hrow4, hgr4⟩ := run_b1 u3 32 0 v1 V.length V (.slice ao n c) s2 hq3.l1 rfl hc3 (by omega) (Nat.zero_le _)
 obtain ⟨hq5, ho5⟩ := hq3.more ho3 hrow4 hgr4
 have hbox4 : u4.heap[kb]? = some (.cells #[.int .i64 ((N + 1 : Nat) : Int), v1, v2] 35 (0, 0)) := (hgr4.grow.block kb (zag hq3.box) (fun e => hq3.no1 e.symm)).trans hq3.box
 have y1 : u4.cell? ⟨kb, 1, none⟩ = some v1 := by rw [cell_of_row _ _ 1 _ _ _ hbox4]; rfl
 have f4 : u4.frozen? ⟨kb, 1, none⟩ = false := by simp [World.frozen?, hbox4]
 have hown4 : ∀ g, (Value.slice (some ⟨g4, 0, none⟩) (V.length + 1) c4).ownBlock = some g → v1.ownBlock = some g ∨ w.heap.size ≤ g := fun g e => by
  rcases hgr4.own with e1 | ⟨k, e1, hk⟩
  ·exact .inl (e1.symm.trans e)
  ·rw [e1] at e
   injection e with e
   subst e
   exact .inr (zN hcx.size (zN hb3.size hk))
 have hcf5 : Cf (fun b => b = kb ∨ v1.ownBlock = some b ∨ v2.ownBlock = some b) w (u4.setCell ⟨kb, 1, none⟩ (.slice (some ⟨g4, 0, none⟩) (V.length + 1) c4)) :=
  (((hcx.wideQ fun b e => .inl e).go (Cf.of_below hb3)).go (hgr4.cfV fun b e => .inr (.inl e))).go ((Cf.setCell (F := (· = kb)) u4 (p := ⟨kb, 1, none⟩) rfl _).wideQ fun b e => .inl e)
 obtain ⟨N1, hN1⟩ : ∃ N1, V.length + 1 = N1 := ⟨_, rfl⟩
 rw [hN1] at hr4 hq5 ho5 hown4 hcf5
 have HQ5 := zaa hq5
 have HO5 := zaa ho5
 have HW4 := zaa hown4
 have HC5 := zaa hcf5
 have HL := zaa hl
 have HV := zaa hV
 have HN1 := zaa hN1
 have HW0 := zaa hW
 have hNI : (N : Int) ≤ 9000000000000 := by omega
 clear h ho hl hq hcx hW hox hfz hp hN hV hb3 hq3 ho3 hc3 hrow4 hgr4 hq5 hbox4 ho5 hown4 hcf5 hN1
 go_enter Tryz.func38, Tryz.ntmps38
 go_wp2_with (at_builtin; refine append_run rfl _ _ _ _ rfl _ _ rfl rfl hr4 ?_; refine Hid.out ?_)
 apply zaa
 clear hr4 hu3 hsz x0 x1 z1 c0 c1 c2 f0 hr hx
 obtain ⟨u5, hu5⟩ : ∃ u5, u4.setCell ⟨kb, 1, none⟩ (.slice (some ⟨g4, 0, none⟩) N1 c4) = u5 := ⟨_, rfl⟩
 rw [hu5] at HQ5 HO5 HC5
 go_wp2_with fail
 clear y1 f4 hu5
 obtain ⟨q0, q1, q2, hq5f⟩ := HQ5.out.cells
 obtain ⟨S, hS⟩ : ∃ S, strOfNums l = S := ⟨_, rfl⟩
 have kb1 : (convert 37 9 (.slice ao n c)).run Tryz.prog u5.drew = .ok (.string S) u5.drew := by rw [← hS]; exact zav ((HO5.out.on Lr (show Below u5.heap.size u5 u5.drew from Br.drew)).sl2 HL.out.1 (by have := HL.out.2; omega))
 obtain ⟨s5, hs5⟩ : ∃ s5, u5.heap.size = s5 := ⟨_, rfl⟩
 have hxn2 : ¬ kb = s5 := by have := zag HQ5.out.box; omega
 obtain ⟨o5, ho5⟩ : ∃ o5 : Obj, Obj.cells #[.string S] 9 (0, 0) = o5 := ⟨_, rfl⟩
 have hb6 : Below u5.heap.size u5 (u5.alloc o5).drew := (Br.alloc Lr _).drew
 have hq6 := HQ5.out.on hb6
 have r5 := (HQ5.out.on (show Below u5.heap.size u5 (u5.alloc o5) from Br.alloc Lr _)).cells.2.2.1
 have r6 := hq6.cells.2.2.1
 have hc6 : (u5.alloc o5).drew.cell? ⟨s5, 0, none⟩ = some (.string S) := by rw [← ho5, ← hs5]; simp
 obtain ⟨g7, c7, u7, hr7, hrow7, hgr7⟩ := run_t1 (u5.alloc o5).drew 33 0 v2 V.length W (.string S) s5 (by have := hq6.l2; rwa [HW0.out] at this) rfl hc6 HV.out (Nat.zero_le _)
 have hq8 := hq6.said (u := .string S) (v' := .slice (some ⟨g7, 0, none⟩) (V.length + 1) c7) (by rw [HW0.out]; exact hrow7) hgr7
 have hbox7 : u7.heap[kb]? = some (.cells #[.int .i64 ((N + 1 : Nat) : Int), .slice (some ⟨g4, 0, none⟩) N1 c4, v2] 35 (0, 0)) := (hgr7.grow.block kb (zag hq6.box) (fun e => hq6.no2 e.symm)).trans hq6.box
 have y2 : u7.cell? ⟨kb, 2, none⟩ = some v2 := by rw [cell_of_row _ _ 2 _ _ _ hbox7]; rfl
 have f7 : u7.frozen? ⟨kb, 2, none⟩ = false := by simp [World.frozen?, hbox7]
 have hcf8 : Cf (fun b => b = kb ∨ v1.ownBlock = some b ∨ v2.ownBlock = some b) w (u7.setCell ⟨kb, 2, none⟩ (.slice (some ⟨g7, 0, none⟩) (V.length + 1) c7)) :=
  ((HC5.out.go (Cf.of_below hb6)).go (hgr7.cfV fun b e => .inr (.inr e))).go ((Cf.setCell (F := (· = kb)) u7 (p := ⟨kb, 2, none⟩) rfl _).wideQ fun b e => .inl e)
 have hown7 : ∀ g, (Value.slice (some ⟨g7, 0, none⟩) (V.length + 1) c7).ownBlock = some g → v2.ownBlock = some g ∨ w.heap.size ≤ g := fun g e => by
  rcases hgr7.own with e1 | ⟨k, e1, hk⟩
  ·exact .inl (e1.symm.trans e)
  ·rw [e1] at e
   injection e with e
   subst e
   exact .inr (zN HC5.out.size (zN hb6.size hk))
 rw [← hS] at hq8
 have HF : Hid (Hid (∃ v1' v2', Kv (u7.setCell ⟨kb, 2, none⟩ (.slice (some ⟨g7, 0, none⟩) (V.length + 1) c7)) kb (N + 1) v1' v2' (V ++ [.slice ao n c]) (W ++ [.string (strOfNums l)]) ∧ (∀ g, v1'.ownBlock = some g → v1.ownBlock = some g ∨ w.heap.size ≤ g) ∧ (∀ g, v2'.ownBlock = some g → v2.ownBlock = some g ∨ w.heap.size ≤ g)) ∧ Hid (Cf (fun b => b = kb ∨ v1.ownBlock = some b ∨ v2.ownBlock = some b) w (u7.setCell ⟨kb, 2, none⟩ (.slice (some ⟨g7, 0, none⟩) (V.length + 1) c7)))) := zaa ⟨zaa ⟨_, _, hq8, HW4.out, hown7⟩, zaa hcf8⟩
 rw [HN1.out] at HF hr7
 have HR7 := zaa hr7
 clear hb6 hq6 hc6 hrow7 hgr7 hq8 hbox7 hcf8 hown7 hr7 hS HQ5 HO5 HC5 HW4 hq5f
 go_region_law (refine step_app rfl (.tmp 34) (.tmp 37) _ _ rfl _ _ rfl rfl HR7.out ?_)
 all_goals
  go_wp2
  first | refine bodyPost_end (results_none rfl _ _ _) rfl ?_ | refine bodyPost_ret (results_none rfl _ _ _) rfl ?_
  exact ⟨rfl, HF.out⟩
theorem row_cf {w w' : World} {B : Nat} {e : TypeId} {s m : Nat} {v : Value} {xs : List Value} (h : w.ownsRow B e s v m xs) (ha : ∀ g, v.ownBlock = some g → w'.heap[g]? = w.heap[g]?) : w'.ownsRow B e s v m xs := by
 refine ⟨h.1, ?_⟩
 rcases h.2 with h0 | ⟨g, cap, cur, rfl, hb, hh, r⟩
 ·exact .inl h0
 ·exact .inr ⟨g, cap, cur, rfl, hb, (ha g rfl).trans hh, r⟩
def Ksay (w : World) (V W : List Value) : Prop := ∃ D, W = wsL V.length D ∧ (∀ (t : Nat) (u : Value), V[t]? = some u → OwnB w 0 u (D t) ∧ Wf (D t) ∧ (D t).length ≤ 65536) ∧ ∀ (t t' : Nat) (u u' : Value), V[t]? = some u → V[t']? = some u' → t ≠ t' → u.ownBlock = none ∨ u.ownBlock ≠ u'.ownBlock
def Kz (st : Prop) (w : World) (X : Nat → Prop) (kb N P : Nat) : Prop := ∃ v1 v2 V W, Kv w kb N v1 v2 V W ∧ W.length = V.length ∧ (st → Ksay w V W) ∧ V.length + N % 2 = P ∧ X kb ∧ (∀ g, v1.ownBlock = some g → X g) ∧ (∀ g, v2.ownBlock = some g → X g) ∧ (∀ (t : Nat) (u : Value) (g : Nat), V[t]? = some u → u.ownBlock = some g → X g) ∧ ∀ b, X b → b < w.heap.size
variable {st : Prop}
theorem Kz.lt {w : World} {X : Nat → Prop} {kb N P : Nat} (h : Kz st w X kb N P) : ∀ b, X b → b < w.heap.size := by
 obtain ⟨v1, v2, V, W, h1, hw, hs, h2, h3, h4, h5, h6, h7⟩ := h
 exact h7
theorem Ksay.cf {w w' : World} {V W : List Value} (h : Ksay w V W) (hb : ∀ (t : Nat) (u : Value) (g : Nat), V[t]? = some u → u.ownBlock = some g → w'.heap[g]? = w.heap[g]?) : Ksay w' V W := by
 obtain ⟨D, h1, h2, h3⟩ := h
 exact ⟨D, h1, fun t u ht => ⟨row_cf (h2 t u ht).1 fun g e => hb t u g ht e, (h2 t u ht).2⟩, h3⟩
theorem Kz.keep {w w' : World} {X F : Nat → Prop} {kb N P : Nat} (h : Kz st w X kb N P) (hc : Cf F w w') (hf : ∀ b, F b → ¬ X b) : Kz st w' X kb N P := by
 obtain ⟨v1, v2, V, W, h1, hw, hs, h2, h3, h4, h5, h6, h7⟩ := h
 have hs' : ∀ g, X g → w'.heap[g]? = w.heap[g]? := fun g hg => hc.block g (h7 g hg) (fun e => hf g e hg)
 exact ⟨v1, v2, V, W, ⟨(hs' kb h3).trans h1.box, row_cf h1.l1 fun g e => hs' g (h4 g e), row_cf h1.l2 fun g e => hs' g (h5 g e)⟩, hw, fun e => (hs e).cf fun t u g ht f => hs' g (h6 t u g ht f), h2, h3, h4, h5, h6, fun b e => zO (h7 b e) hc.size⟩
theorem Kz.go {w w' : World} {X : Nat → Prop} {kb N P : Nat} (h : Kz st w X kb N P) (hb : Below w.heap.size w w') : Kz st w' X kb N P := h.keep (Cf.of_below (F := fun _ => False) hb) (fun _ e => e.elim)
theorem Kz.take {w : World} {X : Nat → Prop} {kb N P : Nat} (h : Kz st w X kb N P) (B : Nat) (ao : Option Addr) (n c : Nat) (l : List Int) (ho : OwnB w B (.slice ao n c) l) (hl : Wf l ∧ l.length ≤ 65536) (hX : ∀ g, (Value.slice ao n c).ownBlock = some g → ¬ X g) (hN : N ≤ 9000000000000) (hP : P ≤ 1300000000000) :
  Calls Tryz.prog 38 #[.pointer (some ⟨kb, 0, none⟩), .slice ao n c] w fun e w' => e = .returned (.tuple #[]) ∧ Hid (∃ X', Kz st w' X' kb (N + 1) (if N % 2 = 0 then P + 1 else P) ∧ ∀ b, X' b → X b ∨ (Value.slice ao n c).ownBlock = some b ∨ (w.heap.size ≤ b ∧ b < w'.heap.size)) ∧ Hid (Cf (fun b => X b ∨ (Value.slice ao n c).ownBlock = some b) w w') := by
 obtain ⟨v1, v2, V, W, h1, hw, hs, h2, h3, h4, h5, h6, h7⟩ := h
 have ho0 : OwnB w 0 (.slice ao n c) l := ho.low (Nat.zero_le _)
 have hlt : ∀ g, (Value.slice ao n c).ownBlock = some g → g < w.heap.size := fun g e => row_lt ho e
 by_cases hp : N % 2 = 0
 ·refine (takeV_even w kb N v1 v2 V W h1 ao n c l ho0 hl hN hp).mono ?_
  rintro e w' ⟨rfl, HK, HC⟩
  have hc := HC.out
  refine ⟨rfl, zaa ⟨X, ⟨v1, v2, V, W, HK.out, hw, fun e => (hs e).cf fun t u g ht f => ?_, by rw [if_pos hp]; omega, h3, h4, h5, h6, fun b e => zO (h7 b e) hc.size⟩, fun b e => .inl e⟩, zaa (hc.wideQ fun b e => ?_)⟩
  ·have hg := h6 t u g ht f
   refine hc.block g (h7 g hg) fun k => ?_
   rcases k with k | k
   ·obtain ⟨D, _, q2, _⟩ := hs e
    subst k
    exact zbg (q2 t u ht).1 h1.box kp_ne8 f
   ·exact hX g k hg
  ·rcases e with rfl | e
   ·exact .inl h3
   ·exact .inr e
 ·refine (takeV_odd w kb N v1 v2 V W h1 hw ao n c l ho0 hl hN (by omega) (by omega)).mono ?_
  rintro e w' ⟨rfl, HK, HC⟩
  have hc := HC.out
  obtain ⟨v1', v2', hk, g1, g2⟩ := HK.out
  have hsz := hc.size
  -- what was there: no block of bytes is written
  have hby : ∀ {u : Value} {d : List Int}, OwnB w 0 u d → OwnB w' 0 u d := fun {u d} hu => row_cf hu fun g e => hc.block g (row_lt hu e) fun k => by
   rcases k with k | k | k
   ·subst k
    exact zbg hu h1.box kp_ne8 e
   ·rcases zcj hu h1.l1 (fun e => u8_neX e.symm) with q | q
    ·rw [q] at e; cases e
    ·exact q (e.trans k.symm)
   ·rcases zcj hu h1.l2 tx_ne8 with q | q
    ·rw [q] at e; cases e
    ·exact q (e.trans k.symm)
  refine ⟨rfl, zaa ⟨fun b => (X b ∨ (Value.slice ao n c).ownBlock = some b ∨ w.heap.size ≤ b) ∧ b < w'.heap.size, ⟨v1', v2', V ++ [.slice ao n c], W ++ [.string (strOfNums l)], hk, by simp [hw], fun e => ?_, by rw [if_neg (by omega)]; simp; omega, ⟨.inl h3, zag hk.box⟩, fun g e => ⟨?_, row_lt hk.l1 e⟩, fun g e => ⟨?_, row_lt hk.l2 e⟩, fun t u g ht e => ?_, fun b e => e.2⟩, fun b e => ?_⟩, zaa (hc.wideQ fun b e => ?_)⟩
  ·obtain ⟨D, q1, q2, q3⟩ := hs e
   have hc' : ∀ {t : Nat} {x : Value}, (V ++ [Value.slice ao n c])[t]? = some x → (t < V.length ∧ V[t]? = some x) ∨ (t = V.length ∧ x = .slice ao n c) := fun {t x} hx => by
    by_cases ht : t < V.length
    ·rw [zL ht] at hx
     exact .inl ⟨ht, hx⟩
    ·have : t = V.length := by
      have := (zH.1 hx).1
      simp at this
      omega
     subst this
     simp at hx
     exact .inr ⟨rfl, hx.symm⟩
   have hne : ∀ {t : Nat} {x : Value}, V[t]? = some x → x.ownBlock = none ∨ x.ownBlock ≠ (Value.slice ao n c).ownBlock := fun {t x} hx => by
    cases hb : x.ownBlock with
    | none => exact .inl rfl
    | some g => exact .inr fun f => hX g f.symm (h6 t x g hx hb)
   refine ⟨fun t => if t < V.length then D t else l, ?_, fun t u ht => ?_, fun t t' x x' hx hx' hn => ?_⟩
   ·rw [q1, zG, List.length_singleton, wsL_more]
   ·rcases hc' ht with ⟨k1, k2⟩ | ⟨rfl, rfl⟩
    ·simp only [k1, if_true]
     exact ⟨hby (q2 t u k2).1, (q2 t u k2).2⟩
    ·simp only [Nat.lt_irrefl, if_false]
     exact ⟨hby ho0, hl⟩
   ·rcases hc' hx with ⟨k1, k2⟩ | ⟨k1, rfl⟩ <;> rcases hc' hx' with ⟨k3, k4⟩ | ⟨k3, rfl⟩
    ·exact q3 t t' x x' k2 k4 hn
    ·exact hne k2
    ·rcases hne k4 with f | f
     ·cases e2 : (Value.slice ao n c).ownBlock with
      | none => exact .inl rfl
      | some g => exact .inr (by rw [f]; simp)
     ·exact .inr fun e2 => f e2.symm
    ·exact absurd (k1.trans k3.symm) hn
  ·rcases g1 g e with e | e
   ·exact .inl (h4 g e)
   ·exact .inr (.inr e)
  ·rcases g2 g e with e | e
   ·exact .inl (h5 g e)
   ·exact .inr (.inr e)
  ·by_cases htl : t < V.length
   ·rw [zL htl] at ht
    have := h6 t u g ht e
    exact ⟨.inl this, zO (h7 g this) hsz⟩
   ·have : t = V.length := by
     have := (zH.1 ht).1
     simp at this
     omega
    subst this
    simp at ht
    subst ht
    exact ⟨.inr (.inl e), zO (hlt g e) hsz⟩
  ·rcases e.1 with f | f | f
   ·exact .inl f
   ·exact .inr (.inl f)
   ·exact .inr (.inr ⟨f, e.2⟩)
  ·rcases e with rfl | e | e
   ·exact .inl h3
   ·exact .inl (h4 b e)
   ·exact .inl (h5 b e)
theorem Kz.stands {w : World} {X : Nat → Prop} {kb N P : Nat} (h : Kz True w X kb N P) (hP : P ≤ 1300000000000) :
  Calls Tryz.prog 9 #[.pointer (some ⟨kb, 0, none⟩)] w fun e w' => e = .returned (.bool true) ∧ Hid (Kz False w' X kb N P) ∧ Hid (Cf X w w') := by
 obtain ⟨v1, v2, V, W, h1, hw, hs, h2, h3, h4, h5, h6, h7⟩ := h
 obtain ⟨D, rfl, q2, q3⟩ := hs trivial
 refine (stands_any w (fun b => ∃ t u, V[t]? = some u ∧ u.ownBlock = some b) kb N v1 v2 V D ⟨h1.box, h1.l1, h1.l2, q2, q3⟩ (fun t u g ht e => ⟨t, u, ht, e⟩) V.length rfl (by omega)).mono ?_
 rintro e w' ⟨rfl, HC⟩
 have hc := HC.out
 refine ⟨rfl, zaa ⟨v1, v2, V, _, ⟨?_, row_cf h1.l1 fun g e => hc.block g (h7 g (h4 g e)) ?_, row_cf h1.l2 fun g e => hc.block g (h7 g (h5 g e)) ?_⟩, hw, fun e => e.elim, h2, h3, h4, h5, h6, fun b e => zO (h7 b e) hc.size⟩, zaa (hc.wideQ fun b e => ?_)⟩
 ·refine (hc.block kb (h7 kb h3) ?_).trans h1.box
  rintro ⟨t, u, ht, f⟩
  exact zbg (q2 t u ht).1 h1.box kp_ne8 f
 ·rintro ⟨t, u, ht, f⟩
  rcases zcj (q2 t u ht).1 h1.l1 (fun e => u8_neX e.symm) with q | q
  ·rw [q] at f; cases f
  ·exact q (f.trans e.symm)
 ·rintro ⟨t, u, ht, f⟩
  rcases zcj (q2 t u ht).1 h1.l2 tx_ne8 with q | q
  ·rw [q] at f; cases f
  ·exact q (f.trans e.symm)
 ·obtain ⟨t, u, ht, f⟩ := e
  exact h6 t u b ht f
theorem appE_run (w : World) (ty : TypeId) (g n c : Nat) (a : Addr) (sl sc : Nat) (cs : List Value) (hn : cs.length = sl * 6)
  (hsrc : ∀ j v, cs[j]? = some v → w.cell? (a.add j) = some v) (hroom : n + sl ≤ c) (hc : ∀ j, j < cs.length → (w.cell? ⟨g, n * 6 + j, none⟩).isSome = true) (hf : ∀ j, j < cs.length → w.frozen? ⟨g, n * 6 + j, none⟩ = false) (h1 : ∀ v ∈ cs, v.oneCell' = true) :
  (Builtin.append_ #[75, 75] ty #[.slice (some ⟨g, 0, none⟩) n c, .slice (some a) sl sc]).run Tryz.prog w = .ok (.slice (some ⟨g, 0, none⟩) (n + sl) c) (w.setCells g (n * 6) cs) := by
 obtain ⟨ic, hic, hz0, hz1, hz2⟩ := info_parts infoE
 have hl := run_firstCells_some (P := Tryz.prog) w ic.size sl a sl sc cs (by rw [hz1]; exact hn) hsrc
 rw [hz1] at hl
 have hst := run_storeCells_cells (P := Tryz.prog) g (n * 6) cs 0 w (by simpa using hc) (by simpa using hf) h1
 simp only [Nat.add_zero] at hst
 simp [Builtin.append_, run_underlying Tryz.underlying75, Builtin.lenOf, sizeOf, typeInfo, hic, hz1, hroom, hl, Addr.add_lit, hst]
theorem repE_end (u : World) (g sn i : Nat) (xs ys : List Value) (h : OwE u g sn xs) (hij : i + 1 = sn) (hsn : sn ≤ 65535) (b bc : Nat) (hy : ys.length = 6) (hyo : ∀ v ∈ ys, v.oneCell' = true) (hyc : ∀ j v, ys[j]? = some v → u.cell? ⟨b, j, none⟩ = some v) :
  Calls Tryz.prog 89 #[.slice (some ⟨g, 0, none⟩) sn sn, .int .i64 (i : Int), .int .i64 (sn : Int), .slice (some ⟨b, 0, none⟩) 1 bc] u fun e w' => e = .returned (.slice (some ⟨g, 0, none⟩) sn sn) ∧ Hid (OwE w' g sn (xs.take (i * 6) ++ ys ++ xs.drop (sn * 6))) ∧ Hid (Cf (· = g) u w') := by
 have h1 : (i : Int) < (sn : Int) := by omega
 have h3 : (sn : Int) ≤ 65535 := by omega
 have h5 : i ≤ sn := by omega
 have h8 : ¬ sn = i := by omega
 have h11 : ¬ (i : Int) = (sn : Int) := by omega
 obtain ⟨w1, hw1⟩ : ∃ w1, u.setCells g (i * 6) ys = w1 := ⟨_, rfl⟩
 have HE : Hid (OwE w1 g sn (xs.take (i * 6) ++ ys ++ xs.drop (sn * 6)) ∧ Cf (· = g) u w1) := zaa (by
  constructor
  ·have := h.sets (i * 6) ys (by omega) hyo
   rw [hw1, show i * 6 + ys.length = sn * 6 by omega] at this
   exact this
  ·rw [← hw1]
   exact Cf.sets _ _ _ _)
 have hr : ∀ ty, (Builtin.append_ #[75, 75] ty #[.slice (some ⟨g, 0, none⟩) i sn, .slice (some ⟨b, 0, none⟩) 1 bc]).run Tryz.prog u = .ok (.slice (some ⟨g, 0, none⟩) sn sn) w1 := fun ty => by
  have := appE_run u ty g i sn ⟨b, 0, none⟩ 1 bc ys (by omega) (fun q v hq => by
   rw [Addr.add_lit, Nat.zero_add]
   exact hyc q v hq) (by omega) (fun q hq => h.row.cell _ (by omega)) (fun q _ => h.row.free _) hyo
  rw [hw1, hij] at this
  exact this
 clear h hy hyo hyc hw1
 go_enter Tryz.func89, Tryz.ntmps89
 go_wp2_with (at_builtin; refine zdh rfl _ _ _ _ rfl _ _ rfl rfl (hr _) ?_)
 go_ret
 exact ⟨rfl, zaa HE.out.1, zaa HE.out.2⟩
theorem repE_one (u : World) (g sn i j : Nat) (xs ys : List Value) (h : OwE u g sn xs) (hij : i + 1 = j) (hj : j ≤ sn) (hsn : sn ≤ 65535) (b bc : Nat) (hy : ys.length = 6) (hyo : ∀ v ∈ ys, v.oneCell' = true) (hyc : ∀ j v, ys[j]? = some v → u.cell? ⟨b, j, none⟩ = some v) :
  Calls Tryz.prog 89 #[.slice (some ⟨g, 0, none⟩) sn sn, .int .i64 (i : Int), .int .i64 (j : Int), .slice (some ⟨b, 0, none⟩) 1 bc] u fun e w' => e = .returned (.slice (some ⟨g, 0, none⟩) sn sn) ∧ Hid (OwE w' g sn (xs.take (i * 6) ++ ys ++ xs.drop (j * 6))) ∧ Hid (Cf (· = g) u w') := by
 by_cases e : j = sn
 ·subst e
  exact repE_end u g j i xs ys h hij hsn b bc hy hyo hyc
 ·exact repE_mid u g sn i j (sn - j) xs ys h hij (by omega) (by omega) hsn b bc hy hyo hyc
end Go.Proofs.YtfgffajgfgifhaaGreatDoor
