import Derived.Test.YtoejadhlkamcjaaDoorJ28
import Derived.Test.YtoejadhlkamcjaaDoorJ32
namespace Go.Proofs.YtoejadhlkamcjaaDoor
set_option maxRecDepth 100000
open Go.RowKit Go.Maps
theorem row_slice {w : World} {B : Nat} {t : TypeId} {v : Value} {n : Nat} {xs : List Value} (h : w.ownsRow B t 1 v n xs) : ∃ vo vc, v = .slice vo n vc ∧ (n = 0 ∨ ∃ g, vo = some ⟨g, 0, none⟩ ∧ n ≤ vc ∧ ∀ (t : Nat) (u : Value), xs[t]? = some u → w.cell? ⟨g, t, none⟩ = some u) := by
 have hl := h.1
 rcases h.2 with ⟨rfl, h0⟩ | ⟨g, cap, cur, rfl, hg, hh, hnc, hm, hs, ht⟩
 ·exact ⟨none, 0, by rw [h0], .inl h0⟩
 ·refine ⟨_, cap, rfl, .inr ⟨g, rfl, hnc, fun t u hu => ?_⟩⟩
  have hlt := (List.getElem?_eq_some_iff.1 hu).1
  have := World.ownsRow.cellAt h t (by omega)
  rw [this]
  exact hu
variable {w u y w1 : World} {B x b m b2 m2 P T : Nat} {rd rd2 : Int} {M N : Int → Option Pf} {ct ct2 : Nat} {K : Nat → Prop} {rb : Nat → Value} {R : Nat → List Value}
theorem Sq9.put (h : Sq9 w B x b m b2 m2 P T rd rd2 M N ct ct2 K rb R) (hy : Below w.heap.size w y) (i : Nat) (hi : i < 5) (v' : Value) (xs : List Value) (ho : w1.ownsRow B (tyr i) 1 v' xs.length xs) (hg : Gr y (rb i) w1 v') :
  (w1.cell? ⟨x, 2 + i, none⟩ = some (rb i) ∧ w1.frozen? ⟨x, 2 + i, none⟩ = false) ∧ Sq9 (w1.setCell ⟨x, 2 + i, none⟩ v') B x b m b2 m2 P T rd rd2 M N ct ct2 K (upd9 rb i v') (upd9 R i xs) ∧ Cf (fun k => k = x ∨ (rb i).ownBlock = some k) w (w1.setCell ⟨x, 2 + i, none⟩ v') := by
 have hxl := lt_some h.row
 have hxn : (rb i).ownBlock ≠ some x := fun e => h.d2 i hi x e (.inl rfl)
 have hr1 : w1.heap[x]? = some (rowX b b2 rb) := (hg.cf.block x (Nat.lt_of_lt_of_le hxl hy.size) hxn).trans ((hy.block x hxl).trans h.row)
 have hvx : v'.ownBlock ≠ some x := by
  intro e
  rcases hg.own with e1 | ⟨k, e1, hk⟩
  ·exact hxn (e1.symm.trans e)
  ·rw [e1] at e
   injection e with e
   have := hy.size
   omega
 have hcell : w1.cell? ⟨x, 2 + i, none⟩ = some (rb i) ∧ w1.frozen? ⟨x, 2 + i, none⟩ = false := by
  refine ⟨?_, by simp [World.frozen?, hr1, rowX]⟩
  have : i = 0 ∨ i = 1 ∨ i = 2 ∨ i = 3 ∨ i = 4 := by omega
  rcases this with rfl | rfl | rfl | rfl | rfl <;> simp [World.cell?, hr1, rowX]
 have hset : (w1.setCell ⟨x, 2 + i, none⟩ v').heap[x]? = some (rowX b b2 (upd9 rb i v')) := by
  have h1 := set_row (w := w1) (a := x) (cs := [pB b, pB b2, rb 0, rb 1, rb 2, rb 3, rb 4]) (i := 2 + i) (u := v') hr1
  rw [h1]
  have : i = 0 ∨ i = 1 ∨ i = 2 ∨ i = 3 ∨ i = 4 := by omega
  rcases this with rfl | rfl | rfl | rfl | rfl <;> simp [rowX, upd9]
 have c1 : Cf (fun k => k = x ∨ (rb i).ownBlock = some k) w w1 := (Cf.of_below hy).go (hg.cf.wide fun k e => .inr e)
 have c2 : Cf (fun k => k = x ∨ (rb i).ownBlock = some k) w1 (w1.setCell ⟨x, 2 + i, none⟩ v') := Cf.setCell w1 (p := ⟨x, 2 + i, none⟩) (.inl rfl) v'
 have c3 : Cf (· = x) w1 (w1.setCell ⟨x, 2 + i, none⟩ v') := Cf.setCell (F := (· = x)) w1 (p := ⟨x, 2 + i, none⟩) rfl v'
 refine ⟨hcell, h.push i hi v' xs (rows_cf ho c3 fun k e q => hvx (by rw [e, q])) hset (c1.go c2) fun g e => ?_, c1.go c2⟩
 rcases hg.own with e1 | ⟨k, e1, hk⟩
 ·exact .inl (e1.symm.trans e)
 ·rw [e1] at e
  injection e with e
  have := hy.size
  exact .inr (by omega)
theorem infoT9 : (Tryd.prog.info? 9).map (fun i => (i.zero, i.size, i.bytes)) = some (some (.string ⟨#[]⟩), 1, 16) := by kernel_rfl
theorem infoQ9 : (Tryd.prog.info? 27).map (fun i => (i.zero, i.size, i.bytes)) = some (some (.slice none 0 0), 1, 24) := by kernel_rfl
theorem step_tx9 {ops : Array Oper} {o : Oper} {a : Act} {w : World} {K : Act → World → Prop} {Q : Exit → Act → World → Prop} {E : Prop}
  (hgd : o.guard = none) (s x : Operand) (ho : o.op = .call { callee := .builtin .append, args := #[s, x], argTypes := #[29, 29] }) (B : Nat) (v : Value) (xs : List Value) (hs : a.eval s = v)
  (hown : w.ownsRow B 9 1 v xs.length xs) (g : Nat) (u : Value) (hu1 : u.oneCell' = true) (hx : a.eval x = .slice (some ⟨g, 0, none⟩) 1 1) (hcell : w.cell? ⟨g, 0, none⟩ = some u) (hb : xs.length + 1 ≤ 4000000) (hbase : B ≤ w.heap.size)
  (h : ∀ vo vn vc w', w'.ownsRow B 9 1 (.slice vo vn vc) (xs ++ [u]).length (xs ++ [u]) → Gr w v w' (.slice vo vn vc) → K (a.put o.dst (.slice vo vn vc)) w') :
  if Region.wanted o (yielded ops a.tmps) = true then Oper.wp Tryd.prog o a w K Q else E := by
 have hw : Region.wanted o (yielded ops a.tmps) = true := by simp [Region.wanted, hgd]
 rw [if_pos hw]
 obtain ⟨i0, hi, hz0, hz1, hz2⟩ := info_parts infoT9
 obtain ⟨v', w', hr, h2, h3, h4, h5⟩ := run_append_own_at (P := Tryd.prog) w B 29 o.type 9 i0 _ 1 16 Tryd.underlying29 hi hz0 hz1 hz2 rfl (by decide) v xs.length xs hown ⟨g, 0, none⟩ 1 1 [u] rfl
  (fun j y hy => by
   have hj : j = 0 := by
    have := (List.getElem?_eq_some_iff.1 hy).1
    simpa using this
   subst hj
   simp at hy
   subst hy
   simpa [Addr.add] using hcell) (fun y hy => by simp at hy; subst hy; exact hu1) (by unfold maxLen; omega) (by omega) hbase
 unfold Oper.wp execOp
 simp only [ho, resolve, invoke, builtin, Sem.run_bind, Sem.run_pure, Result.andThen_ok, List.map_toArray, List.map_cons, List.map_nil, hs, hx, hr]
 obtain ⟨vo, vc, rfl, _⟩ := row_slice h2
 exact h vo _ vc w' (by rw [List.length_append]; exact h2) ⟨h3, h5.imp id fun e => ⟨_, e, Nat.le_refl _⟩⟩
theorem app_q9 {ops : Array Oper} {rest : List Oper} {o : Oper} {a : Act} {Q : Exit → Act → World → Prop} (w : World) (hgd : o.guard = none) (s x : Operand)
  (ho : o.op = .call { callee := .builtin .append, args := #[s, x], argTypes := #[30, 30] }) (B : Nat) (xs : List Value) (v y : Value) (hs : a.eval s = v) (h1 : y.oneCell' = true)
  (hown : w.ownsRow B 27 1 v xs.length xs) (g : Nat) (hx : a.eval x = .slice (some ⟨g, 0, none⟩) 1 1) (hc : w.cell? ⟨g, 0, none⟩ = some y) (hb : xs.length + 1 ≤ 4000000) (hbase : B ≤ w.heap.size)
  (h : ∀ vo vn vc w', w'.ownsRow B 27 1 (.slice vo vn vc) (xs ++ [y]).length (xs ++ [y]) → Gr w v w' (.slice vo vn vc) → wpList Tryd.prog ops Q rest (a.put o.dst (.slice vo vn vc)) w') : wpList Tryd.prog ops Q (o :: rest) a w := by
 obtain ⟨i0, hi, hz0, hz1, hz2⟩ := info_parts infoQ9
 refine wpList_append_own_at w hgd s x 30 ho B 27 i0 (.slice none 0 0) 1 24 Tryd.underlying30 hi hz0 hz1 hz2 rfl (by decide) v xs.length xs hs hown ⟨g, 0, none⟩ 1 1 [y] hx rfl
  (fun j u hu => by
   have hj : j = 0 := by
    have := (List.getElem?_eq_some_iff.1 hu).1
    simpa using this
   subst hj
   simp at hu
   rw [← hu]
   simpa [Addr.add] using hc) (fun u hu => by simp at hu; subst hu; exact h1) (by unfold maxLen; omega) (by omega) hbase ?_
 intro v' w' h2 h3 _ h5
 obtain ⟨vo, vc, rfl, _⟩ := row_slice h2
 exact h vo _ vc w' (by rw [List.length_append]; exact h2) ⟨h3, h5.imp id fun e => ⟨_, e, Nat.le_refl _⟩⟩
theorem Mu_row {i : Nat} (hi : i < 5) {k : Nat} (e : (rb i).ownBlock = some k) : Mu x b m b2 m2 rb k := .inr ⟨i, hi, e⟩
theorem Sl.cfM {ao : Option Addr} {n c : Nat} {l : List Int} {F : Nat → Prop} (h : Sl w ao n c l) (hd : ∀ p, ao = some p → ¬ Mu x b m b2 m2 rb p.block) (hc : Cf F w u) (hF : ∀ k, F k → Mu x b m b2 m2 rb k) : Sl u ao n c l := h.cf hc (.inr fun p e q => hd p e (hF _ q))
def ToldTo (w : World) (B x b m b2 m2 P T : Nat) (rd rd2 : Int) (M N : Int → Option Pf) (ct ct2 : Nat) (K : Nat → Prop) (rb : Nat → Value) (R : Nat → List Value) (a : Value) (l : List Int) (u : World) : Prop :=
 ∃ v1 v2, Sq9 u B x b m b2 m2 P T rd rd2 M N ct ct2 K (upd9 (upd9 rb 1 v1) 2 v2) (upd9 (upd9 R 1 (R 1 ++ [a])) 2 (R 2 ++ [.string (strOfNums l)])) ∧ Cf (Mu x b m b2 m2 rb) w u
set_option maxHeartbeats 4000000 in
theorem told9 (h : Sq9 w B x b m b2 m2 P T rd rd2 M N ct ct2 K rb R) (ao bo : Option Addr) (n c c2 : Nat) (l : List Int) (ha : Sl w ao n c l) (hb : Sl w bo n c2 l) (hda : ∀ p, ao = some p → ¬ Mu x b m b2 m2 rb p.block) (hdb : ∀ p, bo = some p → ¬ Mu x b m b2 m2 rb p.block)
  (hn1 : (R 1).length + 1 ≤ 4000000) (hn2 : (R 2).length + 1 ≤ 4000000) :
  Calls Tryd.prog 22 #[.pointer (some ⟨x, 0, none⟩), .slice ao n c, .slice bo n c2] w fun e u => e = .returned (.bool true) ∧ Hid (ToldTo w B x b m b2 m2 P T rd rd2 M N ct ct2 K rb R (.slice ao n c) l u) := by
 have hxl := lt_some h.row
 have hBw : B ≤ w.heap.size := Nat.le_trans h.hB.1 (Nat.le_of_lt hxl)
 have c3 : w.cell? ⟨x, 3, none⟩ = some (rb 1) := by simp [World.cell?, h.row, rowX]
 obtain ⟨y, hy⟩ : ∃ y, w.alloc (.cells #[.slice ao n c] 33) = y := ⟨_, rfl⟩
 have hby : Below w.heap.size w y := by rw [← hy]; exact bl_al (Below.refl _ _) (Nat.le_refl _) _
 have hcy : y.cell? ⟨w.heap.size, 0, none⟩ = some (.slice ao n c) := by rw [← hy]; simp
 have HY := hidden hby
 have H := hidden h
 have HO : Hid (OwnX y B (rb 1) (R 1)) := hidden ((h.on hby).oo 1 (by omega))
 have hys : B ≤ y.heap.size := Nat.le_trans hBw hby.size
 have HSA := hidden ha
 have HSB := hidden hb
 have HDA := hidden hda
 have HDB := hidden hdb
 obtain ⟨r1, hr1⟩ : ∃ r1, rb 1 = r1 := ⟨_, rfl⟩
 have HR1 := hidden hr1
 rw [hr1] at c3 HO
 obtain ⟨vo0, vc0, e0, _⟩ := row_slice HO.out
 subst e0
 clear h ha hb hda hdb hby hr1
 go_enter Tryd.func22, Tryd.ntmps22
 go_wp2_with (at_builtin; refine app_x _ rfl _ _ rfl B (R 1) _ (.slice ao n c) rfl rfl HO.out w.heap.size rfl hcy (by omega) hys ?_; refine Hid.out ?_)
 apply hidden
 intro v' w1 ho1 hg1
 obtain ⟨vo, vn, vc, rfl⟩ : ∃ vo vn vc, v' = .slice vo vn vc := by
  obtain ⟨vo, vc, e, _⟩ := row_slice ho1
  exact ⟨vo, _, vc, e⟩
 have HP := hidden (H.out.put HY.out 1 (by omega) _ _ ho1 (by rw [HR1.out]; exact hg1))
 obtain ⟨⟨d3, f3⟩, _, _⟩ := HP.out
 rw [HR1.out] at d3
 clear ho1 hg1 hy hcy HO HY c3
 go_wp2_with fail
 obtain ⟨_, hs2, hc2⟩ := HP.out
 clear HP d3 f3
 change Sq9 (w1.setCell ⟨x, 3, none⟩ (.slice vo vn vc)) _ _ _ _ _ _ _ _ _ _ _ _ _ _ _ _ _ at hs2
 change Cf _ w (w1.setCell ⟨x, 3, none⟩ (.slice vo vn vc)) at hc2
 generalize w1.setCell ⟨x, 3, none⟩ (.slice vo vn vc) = w2 at *
 have HS2 := hidden hs2
 have HC2 := hidden hc2
 have hx2 := lt_some hs2.row
 have e2 : upd9 rb 1 (.slice vo vn vc) 2 = rb 2 := rfl
 have d4 : w2.cell? ⟨x, 4, none⟩ = some (rb 2) := by simp [World.cell?, hs2.row, rowX, e2]
 have hF2 : ∀ k, (k = x ∨ (rb 1).ownBlock = some k) → Mu x b m b2 m2 rb k := fun k e => e.elim (fun e => .inl (.inl e)) (fun e => Mu_row (by omega) e)
 have HSA2 : Hid (Sl w2 ao n c l) := hidden (HSA.out.cfM HDA.out hc2 hF2)
 have HSB2 : Hid (Sl w2 bo n c2 l) := hidden (HSB.out.cfM HDB.out hc2 hF2)
 have HCM2 : Hid (Cf (Mu x b m b2 m2 rb) w w2) := hidden (hc2.wide hF2)
 have kb : (convert 33 9 (.slice bo n c2)).run Tryd.prog w2.drew = .ok (.string (strOfNums l)) w2.drew := conv_sl (HSB2.out.on (Nat.le_refl _) (Below.refl _ _).drew)
 obtain ⟨S, hS⟩ : ∃ S, strOfNums l = S := ⟨_, rfl⟩
 have HSS := hidden hS
 rw [hS] at kb
 obtain ⟨y3, hy3⟩ : ∃ y3, (w2.alloc (.cells #[.string S] 9)).drew = y3 := ⟨_, rfl⟩
 have hb3 : Below w2.heap.size w2 y3 := by rw [← hy3]; exact (bl_al (Below.refl _ _) (Nat.le_refl _) _).drew
 have HB3 := hidden hb3
 have HO3 : Hid (World.ownsRow y3 B 9 1 (rb 2) (R 2).length (R 2)) := hidden ((hs2.on hb3).oo 2 (by omega))
 have HC3 : Hid (y3.cell? ⟨w2.heap.size, 0, none⟩ = some (.string S)) := hidden (by rw [← hy3]; simp)
 have HBY3 : Hid (B ≤ y3.heap.size) := hidden (Nat.le_trans HS2.out.hB.1 (Nat.le_trans (Nat.le_of_lt hx2) hb3.size))
 obtain ⟨r2, hr2⟩ : ∃ r2, rb 2 = r2 := ⟨_, rfl⟩
 have HR2 := hidden hr2
 rw [hr2] at d4 HO3
 have d4y : y3.cell? ⟨x, 4, none⟩ = some r2 := (hb3.cell (p := ⟨x, 4, none⟩) hx2).trans d4
 have HPT : Hid (∀ ho' hn' hc' w', World.ownsRow w' B 9 1 (.slice ho' hn' hc') (R 2 ++ [Value.string S]).length (R 2 ++ [Value.string S]) → Gr y3 r2 w' (.slice ho' hn' hc') → (w'.cell? ⟨x, 4, none⟩ = some r2 ∧ w'.frozen? ⟨x, 4, none⟩ = false) ∧ Hid (ToldTo w B x b m b2 m2 P T rd rd2 M N ct ct2 K rb R (.slice ao n c) l (w'.setCell ⟨x, 4, none⟩ (.slice ho' hn' hc')))) := hidden (by
  intro ho' hn' hc' w' g1 g2
  obtain ⟨p1, p2, p3⟩ := HS2.out.put HB3.out 2 (by omega) _ _ g1 (by show Gr y3 (rb 2) w' _; rw [HR2.out]; exact g2)
  refine ⟨by rw [← HR2.out]; exact p1, hidden ⟨_, _, by rw [HSS.out]; exact p2, HCM2.out.go (p3.wide fun k e => ?_)⟩⟩
  rcases e with e | e
  ·exact .inl (.inl e)
  ·exact Mu_row (i := 2) (by omega) e)
 clear hs2 hc2 hb3 hr2 hS hF2 e2 hx2
 go_wp2_with fail
 go_region_law (refine step_tx9 rfl (.tmp 21) (.tmp 24) rfl B r2 (R 2) rfl (by first | exact HO3.out | (rw [hy3]; exact HO3.out)) w2.heap.size (.string S) rfl rfl (by first | exact HC3.out | (rw [hy3]; exact HC3.out)) (by omega) (by first | exact HBY3.out | (rw [hy3]; exact HBY3.out)) ?_; intro qo qn qc w4 g1 g2; obtain ⟨⟨e1, e2⟩, HX⟩ := HPT.out qo qn qc w4 g1 (by first | exact g2 | (rw [← hy3]; exact g2)); clear g1 g2)
 all_goals
  clear HPT HO3 HC3 HB3 HBY3 hy3 kb d4 d4y HS2
  obtain ⟨v1, v2, p1, p2⟩ := HX.out
  have k1 : (convert 33 9 (.slice ao n c)).run Tryd.prog (w4.setCell ⟨x, 4, none⟩ (.slice qo qn qc)) = .ok (.string S) (w4.setCell ⟨x, 4, none⟩ (.slice qo qn qc)) := by rw [← HSS.out]; exact conv_sl (HSA.out.cfM HDA.out p2 (fun _ e => e))
  have k2 : (convert 33 9 (.slice bo n c2)).run Tryd.prog (w4.setCell ⟨x, 4, none⟩ (.slice qo qn qc)) = .ok (.string S) (w4.setCell ⟨x, 4, none⟩ (.slice qo qn qc)) := by rw [← HSS.out]; exact conv_sl (HSB.out.cfM HDB.out p2 (fun _ e => e))
  have eS : (S.toList == S.toList) = true := by simp
  clear p1 p2
  generalize w4.setCell ⟨x, 4, none⟩ (.slice qo qn qc) = w5 at *
  go_wp2
  go_ret
  exact ⟨rfl, HX⟩
end Go.Proofs.YtoejadhlkamcjaaDoor
