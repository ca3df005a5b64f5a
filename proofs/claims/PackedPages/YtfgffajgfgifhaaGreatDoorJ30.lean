import Derived.Test.YtfgffajgfgifhaaGreatDoorJ29
namespace Go.Proofs.YtfgffajgfgifhaaGreatDoor
set_option maxRecDepth 100000
set_option maxHeartbeats 4000000
open Go.RowKit
theorem zdq {ops : Array Oper} {o : Oper} {a : Act} {w : World} {K : Act → World → Prop} {Q : Exit → Act → World → Prop} {E : Prop}
  (hg : o.guard = none) (d x : Operand) (dT sT : TypeId) (hop : o.op = Op.call { callee := Callee.builtin Builtin.append, args := #[d, x], argTypes := #[dT, sT] })
  (v u : Value) (hd : a.eval d = v) (hx : a.eval x = u) {v' : Value} {w' : World} (hr : (Builtin.append_ #[dT, sT] o.type #[v, u]).run Tryz.prog w = .ok v' w') (hK : K (a.put o.dst v') w') :
  if Region.wanted o (yielded ops a.tmps) = true then Oper.wp Tryz.prog o a w K Q else E := by
 have hw : Region.wanted o (yielded ops a.tmps) = true := by simp [Region.wanted, hg]
 rw [if_pos hw]
 unfold Oper.wp
 simp [execOp, hop, resolve, invoke, builtin, hd, hx, hr, Result.andThen]
 exact hK
def zsE : List Value := [.slice none 0 0, .slice none 0 0, .int .i64 0, .slice none 0 0, .int .i64 0, .int .i64 0]
theorem clearE_run (w : World) (ty : TypeId) (g o c : Nat) (hc : ∀ j, j < 6 → (w.cell? ⟨g, o + j, none⟩).isSome = true) (hf : ∀ j, j < 6 → w.frozen? ⟨g, o + j, none⟩ = false) :
  (Builtin.clear_ #[75] ty #[.slice (some ⟨g, o, none⟩) 1 c]).run Tryz.prog w = .ok (.tuple #[]) (w.setCells g o zsE) := by
 obtain ⟨ic, hic, hz0, hz1, hz2⟩ := info_parts infoE
 have hv : (zeroValue 78).run Tryz.prog w = .ok (.agg #[.slice none 0 0, .slice none 0 0, .int .i64 0, .slice none 0 0, .int .i64 0, .int .i64 0]) w := by simp [zeroValue, typeInfo, hic, hz0]
 have hzc : (Builtin.zeroCells (Value.agg #[.slice none 0 0, .slice none 0 0, .int .i64 0, .slice none 0 0, .int .i64 0, .int .i64 0]).cells 1).toList = zsE := by
  first
  | kernel_rfl
  | decide
  | (apply List.ext_getElem
     ·simp [Builtin.zeroCells, zsE, Value.cells]
     ·intro i h1 h2
      simp [Builtin.zeroCells, zsE, Value.cells])
 have hst := run_storeCells_cells (P := Tryz.prog) g o zsE 0 w (by simpa [zsE] using hc) (by simpa [zsE] using hf) (by decide)
 simp only [Nat.add_zero] at hst
 simp [Builtin.clear_, run_underlying Tryz.underlying75, hv, hzc, hst]
theorem delE_mid (u : World) (g sn i j r d : Nat) (xs : List Value) (h : OwE u g sn xs) (hij : i + 1 = j) (hjr : j + r = sn) (hr0 : 0 < r) (hd : i + r = d) (hsn : sn ≤ 65535) :
  Calls Tryz.prog 46 #[.slice (some ⟨g, 0, none⟩) sn sn, .int .i64 (i : Int), .int .i64 (j : Int)] u fun e w' => e = .returned (.slice (some ⟨g, 0, none⟩) d sn) ∧ Hid (zah w' g sn ∧ ∀ q v, (xs.take (i * 6) ++ xs.drop (j * 6))[q]? = some v → w'.cell? ⟨g, q, none⟩ = some v) ∧ Hid (Cf (· = g) u w') := by
 have h1 : (i : Int) < (j : Int) := by omega
 have h2 : (j : Int) < (sn : Int) := by omega
 have h3 : (sn : Int) ≤ 65535 := by omega
 have h4 : sn - j = r := by omega
 have h5 : i ≤ sn := by omega
 have h6 : j ≤ sn := by omega
 have h7 : i ≤ j := by omega
 have h8 : ¬ sn = i := by omega
 have h9 : ¬ sn = j := by omega
 have h11 : ¬ (i : Int) = (j : Int) := by omega
 have h14 : sn - d = 1 := by omega
 have h15 : d ≤ sn := by omega
 have h16 : ¬ sn = d := by omega
 have h17 : (d : Int) < (sn : Int) := by omega
 have hl := h.len
 obtain ⟨w1, hw1⟩ : ∃ w1, u.drew.setCells g (i * 6) (xs.drop (j * 6)) = w1 := ⟨_, rfl⟩
 obtain ⟨w2, hw2⟩ : ∃ w2, w1.setCells g (d * 6) zsE = w2 := ⟨_, rfl⟩
 have hdl : (xs.drop (j * 6)).length = r * 6 := by rw [zK]; omega
 have ho1 : OwE w1 g sn (xs.take (i * 6) ++ xs.drop (j * 6) ++ xs.drop (d * 6)) := by
  have := h.drew.sets (i * 6) (xs.drop (j * 6)) (by omega) (fun v hv => h.one v (List.mem_of_mem_drop hv))
  rw [hw1, show i * 6 + (xs.drop (j * 6)).length = d * 6 by omega] at this
  exact this
 have hr : ∀ ty, (Builtin.append_ #[75, 75] ty #[.slice (some ⟨g, 0, none⟩) i sn, .slice (some ⟨g, j * 6, none⟩) r r]).run Tryz.prog u.drew = .ok (.slice (some ⟨g, 0, none⟩) d sn) w1 := fun ty => by
  have := appE_run u.drew ty g i sn ⟨g, j * 6, none⟩ r r (xs.drop (j * 6)) hdl (fun q v hq => by
   rw [Addr.add_lit]
   exact h.drew.at_ _ v (by rw [List.getElem?_drop] at hq; exact hq)) (by omega) (fun q hq => h.drew.row.cell _ (by omega)) (fun q _ => h.drew.row.free _) (fun v hv => h.one v (List.mem_of_mem_drop hv))
  rw [hw1, hd] at this
  exact this
 have hcl : ∀ ty cc, (Builtin.clear_ #[75] ty #[.slice (some ⟨g, d * 6, none⟩) 1 cc]).run Tryz.prog w1 = .ok (.tuple #[]) w2 := fun ty cc => by
  rw [← hw2]
  exact clearE_run w1 ty g (d * 6) cc (fun q hq => ho1.row.cell _ (by omega)) (fun q _ => ho1.row.free _)
 have HE : Hid ((zah w2 g sn ∧ ∀ q v, (xs.take (i * 6) ++ xs.drop (j * 6))[q]? = some v → w2.cell? ⟨g, q, none⟩ = some v) ∧ Cf (· = g) u w2) := zaa (by
  refine ⟨⟨by rw [← hw2]; exact zah.sets _ _ _ ho1.row, fun q v hq => ?_⟩, ?_⟩
  ·have hql := (zH.1 hq).1
   have e : (xs.take (i * 6) ++ xs.drop (j * 6)).length = d * 6 := by rw [zG, hdl, zJ]; omega
   rw [← hw2, World.cell?_setCells_out g _ _ _ _ (fun _ _ => .inl (by simp only; omega))]
   exact ho1.at_ q v (by rw [zL hql]; exact hq)
  ·rw [← hw2]
   refine Cf.go ?_ (Cf.sets _ _ _ _)
   rw [← hw1]
   exact Cf.go (Cf.of_below Br.drew) (Cf.sets _ _ _ _))
 clear h ho1 hw1 hw2 hl hdl
 go_enter Tryz.func46, Tryz.ntmps46
 go_upto_region 5 with fail
 go_wp2_with fail
 refine wp_region_held_drew (S := fun _ => True ∧ True) (by kernel_rfl) ⟨trivial, trivial⟩ (fun hHeld => ?_)
 refine zT (i := 0) (v := ?_) rfl ?_ (fun _ _ _ h => h) ?_
 rotate_left
 ·(rintro w ⟨_, _⟩; go_simp; try with_reducible rfl)
 try simp only [Act.put, zA, zC, zD, zE, zF]
 refine zT (i := 1) (v := ?_) rfl ?_ (fun _ _ _ h => h) ?_
 rotate_left
 ·(rintro w ⟨_, _⟩; go_simp; try with_reducible rfl)
 try simp only [Act.put, zA, zB, zC, zD, zE, zF]
 refine zT (i := 2) (v := ?_) rfl ?_ (fun _ _ _ h => h) ?_
 rotate_left
 ·(rintro w ⟨_, _⟩; go_simp; try with_reducible rfl)
 try simp only [Act.put, zA, zB, zC, zD, zE, zF]
 refine zT (i := 3) (v := ?_) rfl ?_ (fun _ _ _ h => h) ?_
 rotate_left
 ·(rintro w ⟨_, _⟩; go_simp; try with_reducible rfl)
 try simp only [Act.put, zA, zB, zC, zD, zE, zF]
 refine zT (i := 4) (v := ?_) rfl ?_ (fun _ _ _ h => h) ?_
 rotate_left
 ·(rintro w ⟨_, _⟩; go_simp; try with_reducible rfl)
 try simp only [Act.put, zA, zB, zC, zD, zE, zF]
 refine wpAnyH_take (i := 5) (v := .slice (some ⟨g, j * 6, none⟩) r r) rfl (by kernel_rfl) (by kernel_rfl) (by kernel_rfl) (fun _ _ _ h => h) (Or.inl ⟨by rfl, ?_⟩) (by assumption) ?_
 ·intro w hSw
  go_simp
 try simp only [Act.put, zA, zB, zC, zD, zE, zF]
 refine zY (i := 6) rfl fun K hK => ?_
 refine zdq rfl _ _ _ _ rfl _ _ (by rfl) (by rfl) (hr _) ?_
 refine hK.out _ _ ⟨trivial, trivial⟩ (fun hHeld => ?_)
 clear hK K
 try simp only [Act.put, zA, zB, zC, zD, zE, zF]
 refine zT (i := 7) (v := ?_) rfl ?_ (fun _ _ _ h => h) ?_
 rotate_left
 ·(rintro w ⟨_, _⟩; go_simp; try with_reducible rfl)
 try simp only [Act.put, zA, zB, zC, zD, zE]
 refine wpAnyH_done (by kernel_rfl) ?_ _
 clear hHeld hr
 go_wp2_with (at_builtin; refine zbz rfl _ _ rfl _ rfl (hcl _ _) ?_)
 go_ret
 exact ⟨rfl, zaa HE.out.1, zaa HE.out.2⟩
theorem delE_end (u : World) (g sn i j r d : Nat) (xs : List Value) (h : OwE u g sn xs) (hij : i + 1 = j) (hjr : j + r = sn) (hr0 : r = 0) (hd : i + r = d) (hsn : sn ≤ 65535) :
  Calls Tryz.prog 46 #[.slice (some ⟨g, 0, none⟩) sn sn, .int .i64 (i : Int), .int .i64 (j : Int)] u fun e w' => e = .returned (.slice (some ⟨g, 0, none⟩) d sn) ∧ Hid (zah w' g sn ∧ ∀ q v, (xs.take (i * 6) ++ xs.drop (j * 6))[q]? = some v → w'.cell? ⟨g, q, none⟩ = some v) ∧ Hid (Cf (· = g) u w') := by
 have h1 : (i : Int) < (j : Int) := by omega
 have h2 : (j : Int) ≤ (sn : Int) := by omega
 have h3 : (sn : Int) ≤ 65535 := by omega
 have h4 : sn - j = r := by omega
 have h5 : i ≤ sn := by omega
 have h6 : j ≤ sn := by omega
 have h7 : i ≤ j := by omega
 have h8 : ¬ sn = i := by omega
 have h9 : sn = j := by omega
 have h11 : ¬ (i : Int) = (j : Int) := by omega
 have h14 : sn - d = 1 := by omega
 have h15 : d ≤ sn := by omega
 have h16 : ¬ sn = d := by omega
 have h17 : (d : Int) < (sn : Int) := by omega
 have hl := h.len
 obtain ⟨w1, hw1⟩ : ∃ w1, u.drew.setCells g (i * 6) (xs.drop (j * 6)) = w1 := ⟨_, rfl⟩
 obtain ⟨w2, hw2⟩ : ∃ w2, w1.setCells g (d * 6) zsE = w2 := ⟨_, rfl⟩
 have hdl : (xs.drop (j * 6)).length = r * 6 := by rw [zK]; omega
 have ho1 : OwE w1 g sn (xs.take (i * 6) ++ xs.drop (j * 6) ++ xs.drop (d * 6)) := by
  have := h.drew.sets (i * 6) (xs.drop (j * 6)) (by omega) (fun v hv => h.one v (List.mem_of_mem_drop hv))
  rw [hw1, show i * 6 + (xs.drop (j * 6)).length = d * 6 by omega] at this
  exact this
 have hr : ∀ ty, (Builtin.append_ #[75, 75] ty #[.slice (some ⟨g, 0, none⟩) i sn, .slice (some ⟨g, 0, none⟩) r r]).run Tryz.prog u.drew = .ok (.slice (some ⟨g, 0, none⟩) d sn) w1 := fun ty => by
  have := appE_run u.drew ty g i sn ⟨g, 0, none⟩ r r (xs.drop (j * 6)) hdl (fun q v hq => by
   have := (zH.1 hq).1
   omega) (by omega) (fun q hq => h.drew.row.cell _ (by omega)) (fun q _ => h.drew.row.free _) (fun v hv => h.one v (List.mem_of_mem_drop hv))
  rw [hw1, hd] at this
  exact this
 have hcl : ∀ ty cc, (Builtin.clear_ #[75] ty #[.slice (some ⟨g, d * 6, none⟩) 1 cc]).run Tryz.prog w1 = .ok (.tuple #[]) w2 := fun ty cc => by
  rw [← hw2]
  exact clearE_run w1 ty g (d * 6) cc (fun q hq => ho1.row.cell _ (by omega)) (fun q _ => ho1.row.free _)
 have HE : Hid ((zah w2 g sn ∧ ∀ q v, (xs.take (i * 6) ++ xs.drop (j * 6))[q]? = some v → w2.cell? ⟨g, q, none⟩ = some v) ∧ Cf (· = g) u w2) := zaa (by
  refine ⟨⟨by rw [← hw2]; exact zah.sets _ _ _ ho1.row, fun q v hq => ?_⟩, ?_⟩
  ·have hql := (zH.1 hq).1
   have e : (xs.take (i * 6) ++ xs.drop (j * 6)).length = d * 6 := by rw [zG, hdl, zJ]; omega
   rw [← hw2, World.cell?_setCells_out g _ _ _ _ (fun _ _ => .inl (by simp only; omega))]
   exact ho1.at_ q v (by rw [zL hql]; exact hq)
  ·rw [← hw2]
   refine Cf.go ?_ (Cf.sets _ _ _ _)
   rw [← hw1]
   exact Cf.go (Cf.of_below Br.drew) (Cf.sets _ _ _ _))
 clear h ho1 hw1 hw2 hl hdl
 subst hr0
 subst h9
 go_enter Tryz.func46, Tryz.ntmps46
 go_upto_region 5 with fail
 go_wp2_with fail
 refine wp_region_held_drew (S := fun _ => True ∧ True) (by kernel_rfl) ⟨trivial, trivial⟩ (fun hHeld => ?_)
 refine zT (i := 0) (v := ?_) rfl ?_ (fun _ _ _ h => h) ?_
 rotate_left
 ·(rintro w ⟨_, _⟩; go_simp; try with_reducible rfl)
 try simp only [Act.put, zA, zC, zD, zE, zF]
 refine zT (i := 1) (v := ?_) rfl ?_ (fun _ _ _ h => h) ?_
 rotate_left
 ·(rintro w ⟨_, _⟩; go_simp; try with_reducible rfl)
 try simp only [Act.put, zA, zB, zC, zD, zE, zF]
 refine zT (i := 2) (v := ?_) rfl ?_ (fun _ _ _ h => h) ?_
 rotate_left
 ·(rintro w ⟨_, _⟩; go_simp; try with_reducible rfl)
 try simp only [Act.put, zA, zB, zC, zD, zE, zF]
 refine zT (i := 3) (v := ?_) rfl ?_ (fun _ _ _ h => h) ?_
 rotate_left
 ·(rintro w ⟨_, _⟩; go_simp; try with_reducible rfl)
 try simp only [Act.put, zA, zB, zC, zD, zE, zF]
 refine zT (i := 4) (v := ?_) rfl ?_ (fun _ _ _ h => h) ?_
 rotate_left
 ·(rintro w ⟨_, _⟩; go_simp; try with_reducible rfl)
 try simp only [Act.put, zA, zB, zC, zD, zE, zF]
 refine wpAnyH_take (i := 5) (v := .slice (some ⟨g, 0, none⟩) 0 0) rfl (by kernel_rfl) (by kernel_rfl) (by kernel_rfl) (fun _ _ _ h => h) (Or.inl ⟨by rfl, ?_⟩) (by assumption) ?_
 ·intro w hSw
  go_simp
 try simp only [Act.put, zA, zB, zC, zD, zE, zF]
 refine zY (i := 6) rfl fun K hK => ?_
 refine zdq rfl _ _ _ _ rfl _ _ (by rfl) (by rfl) (hr _) ?_
 refine hK.out _ _ ⟨trivial, trivial⟩ (fun hHeld => ?_)
 clear hK K
 try simp only [Act.put, zA, zB, zC, zD, zE, zF]
 refine zT (i := 7) (v := ?_) rfl ?_ (fun _ _ _ h => h) ?_
 rotate_left
 ·(rintro w ⟨_, _⟩; go_simp; try with_reducible rfl)
 try simp only [Act.put, zA, zB, zC, zD, zE]
 refine wpAnyH_done (by kernel_rfl) ?_ _
 clear hHeld hr
 go_wp2_with (at_builtin; refine zbz rfl _ _ rfl _ rfl (hcl _ _) ?_)
 go_ret
 exact ⟨rfl, zaa HE.out.1, zaa HE.out.2⟩
theorem appN_run (w : World) (ty : TypeId) (g n c : Nat) (a : Addr) (sl sc : Nat) (cs : List Value) (hn : cs.length = sl)
  (hsrc : ∀ j v, cs[j]? = some v → w.cell? (a.add j) = some v) (hroom : n + sl ≤ c) (hc : ∀ j, j < cs.length → (w.cell? ⟨g, n + j, none⟩).isSome = true) (hf : ∀ j, j < cs.length → w.frozen? ⟨g, n + j, none⟩ = false) (h1 : ∀ v ∈ cs, v.oneCell' = true) :
  (Builtin.append_ #[61, 61] ty #[.slice (some ⟨g, 0, none⟩) n c, .slice (some a) sl sc]).run Tryz.prog w = .ok (.slice (some ⟨g, 0, none⟩) (n + sl) c) (w.setCells g n cs) := by
 obtain ⟨ic, hic, hz0, hz1, hz2⟩ := info_parts infoI
 have hl := run_firstCells_some (P := Tryz.prog) w ic.size sl a sl sc cs (by rw [hz1]; omega) hsrc
 rw [hz1] at hl
 have hst := run_storeCells_cells (P := Tryz.prog) g n cs 0 w (by simpa using hc) (by simpa using hf) h1
 simp only [Nat.add_zero] at hst
 simp [Builtin.append_, run_underlying Tryz.underlying61, Builtin.lenOf, sizeOf, typeInfo, hic, hz1, hroom, hl, Addr.add_lit, hst]
theorem delN_mid (u : World) (B g sn c i j r d : Nat) (xs : List Value) (h : u.ownsRow B 3 1 (.slice (some ⟨g, 0, none⟩) sn c) sn xs) (hx1 : ∀ v ∈ xs, v.oneCell' = true) (hij : i + 1 = j) (hjr : j + r = sn) (hr0 : ¬ c = j) (hd : i + r = d) (hsn : sn ≤ 65535) :
  Calls Tryz.prog 49 #[.slice (some ⟨g, 0, none⟩) sn c, .int .i64 (i : Int), .int .i64 (j : Int)] u fun e w' => e = .returned (.slice (some ⟨g, 0, none⟩) d c) ∧ Hid (w'.ownsRow B 3 1 (.slice (some ⟨g, 0, none⟩) d c) d (xs.take i ++ xs.drop j)) ∧ Hid (u.grownBy w' (some g)) := by
 obtain ⟨hrow, hgB, hnc, hcm, hl, hxc⟩ := zat h
 have h1 : (i : Int) < (j : Int) := by omega
 have h2 : (j : Int) ≤ (sn : Int) := by omega
 have h3 : (sn : Int) ≤ 65535 := by omega
 have h4 : sn - j = r := by omega
 have h5 : i ≤ sn := by omega
 have h6 : j ≤ sn := by omega
 have h7 : i ≤ j := by omega
 have h8 : ¬ sn = i := by omega
 have h10 : (sn : Int) ≤ (c : Int) := by omega
 have h11 : ¬ (i : Int) = (j : Int) := by omega
 have h12 : ¬ c = i := by omega
 have h13 : i ≤ c := by omega
 have h14 : sn - d = 1 := by omega
 have h15 : d ≤ sn := by omega
 have h16 : ¬ c = d := by omega
 have h17 : (d : Int) < (sn : Int) := by omega
 have h18 : sn ≤ c := hnc
 obtain ⟨w1, hw1⟩ : ∃ w1, u.drew.setCells g i (xs.drop j) = w1 := ⟨_, rfl⟩
 obtain ⟨w2, hw2⟩ : ∃ w2, w1.setCells g d (List.replicate 1 (.int .i64 0)) = w2 := ⟨_, rfl⟩
 have hdl : (xs.drop j).length = r := by rw [zK]; omega
 have hrow0 := hrow.on (w' := u.drew) rfl
 have hrow1 := hrow0.sets (xs.drop j) i u.drew
 rw [hw1] at hrow1
 have hrow2 := hrow1.sets (List.replicate 1 (.int .i64 0)) d w1
 rw [hw2] at hrow2
 have hr : ∀ ty, (Builtin.append_ #[61, 61] ty #[.slice (some ⟨g, 0, none⟩) i c, .slice (some ⟨g, j, none⟩) r (c - j)]).run Tryz.prog u.drew = .ok (.slice (some ⟨g, 0, none⟩) d c) w1 := fun ty => by
  have := appN_run u.drew ty g i c ⟨g, j, none⟩ r (c - j) (xs.drop j) hdl (fun q v hq => by
   rw [Addr.add_lit]
   exact hxc _ v (by rw [List.getElem?_drop] at hq; exact hq)) (by omega) (fun q hq => hrow0.there (by omega)) (fun q _ => hrow0.free _) (fun v hv => hx1 v (List.mem_of_mem_drop hv))
  rw [hw1, hd] at this
  exact this
 have hcl : ∀ ty cc, (Builtin.clear_ #[61] ty #[.slice (some ⟨g, d, none⟩) 1 cc]).run Tryz.prog w1 = .ok (.tuple #[]) w2 := fun ty cc => by
  rw [← hw2]
  exact Lib.run_clear_slice w1 61 3 ty (.int .i64 0) Tryz.underlying61 RN.zero_run rfl rfl g d 1 cc (by omega) (fun t ht => hrow1.there (by omega)) (fun t _ => hrow1.free _)
 have HE : Hid (w2.ownsRow B 3 1 (.slice (some ⟨g, 0, none⟩) d c) d (xs.take i ++ xs.drop j) ∧ u.grownBy w2 (some g)) := zaa (by
  have e : (xs.take i ++ xs.drop j).length = d := by rw [zG, hdl, zJ]; omega
  refine ⟨hrow2.own hcm hgB (by omega) e (fun q v hq => ?_), ?_⟩
  ·have hql := (zH.1 hq).1
   rw [← hw2, hrow1.cell _ _ (by simp; omega), if_neg (by omega), ← hw1, hrow0.cell _ _ (by omega)]
   by_cases hqi : q < i
   ·rw [if_neg (by omega)]
    rw [zL (by rw [zJ]; omega), List.getElem?_take, if_pos hqi] at hq
    exact hxc q v hq
   ·rw [if_pos (by omega)]
    rw [List.getElem?_append_right (by rw [zJ]; omega), zJ, show min i xs.length = i by omega] at hq
    exact hq
  ·rw [← hw2, ← hw1]
   exact zbj (zbj (zcr (zcz _ _)) (zas g _ _ _)) (zas g _ _ _))
 clear h hx1 hrow hrow0 hrow1 hrow2 hxc hw1 hw2 hl hdl hcm hgB hnc
 go_enter Tryz.func49, Tryz.ntmps49
 go_upto_region 5 with fail
 go_wp2_with fail
 refine wp_region_held_drew (S := fun _ => True ∧ True) (by kernel_rfl) ⟨trivial, trivial⟩ (fun hHeld => ?_)
 refine zT (i := 0) (v := ?_) rfl ?_ (fun _ _ _ h => h) ?_
 rotate_left
 ·(rintro w ⟨_, _⟩; go_simp; try with_reducible rfl)
 try simp only [Act.put, zA, zC, zD, zE, zF]
 refine zT (i := 1) (v := ?_) rfl ?_ (fun _ _ _ h => h) ?_
 rotate_left
 ·(rintro w ⟨_, _⟩; go_simp; try with_reducible rfl)
 try simp only [Act.put, zA, zB, zC, zD, zE, zF]
 refine zT (i := 2) (v := ?_) rfl ?_ (fun _ _ _ h => h) ?_
 rotate_left
 ·(rintro w ⟨_, _⟩; go_simp; try with_reducible rfl)
 try simp only [Act.put, zA, zB, zC, zD, zE, zF]
 refine zT (i := 3) (v := ?_) rfl ?_ (fun _ _ _ h => h) ?_
 rotate_left
 ·(rintro w ⟨_, _⟩; go_simp; try with_reducible rfl)
 try simp only [Act.put, zA, zB, zC, zD, zE, zF]
 refine zT (i := 4) (v := ?_) rfl ?_ (fun _ _ _ h => h) ?_
 rotate_left
 ·(rintro w ⟨_, _⟩; go_simp; try with_reducible rfl)
 try simp only [Act.put, zA, zB, zC, zD, zE, zF]
 refine wpAnyH_take (i := 5) (v := .slice (some ⟨g, j, none⟩) r (c - j)) rfl (by kernel_rfl) (by kernel_rfl) (by kernel_rfl) (fun _ _ _ h => h) (Or.inl ⟨by rfl, ?_⟩) (by assumption) ?_
 ·intro w hSw
  go_simp
 try simp only [Act.put, zA, zB, zC, zD, zE, zF]
 refine zY (i := 6) rfl fun K hK => ?_
 refine zdq rfl _ _ _ _ rfl _ _ (by rfl) (by rfl) (hr _) ?_
 refine hK.out _ _ ⟨trivial, trivial⟩ (fun hHeld => ?_)
 clear hK K
 try simp only [Act.put, zA, zB, zC, zD, zE, zF]
 refine zT (i := 7) (v := ?_) rfl ?_ (fun _ _ _ h => h) ?_
 rotate_left
 ·(rintro w ⟨_, _⟩; go_simp; try with_reducible rfl)
 try simp only [Act.put, zA, zB, zC, zD, zE]
 refine wpAnyH_done (by kernel_rfl) ?_ _
 clear hHeld hr
 go_wp2_with (at_builtin; refine zbz rfl _ _ rfl _ rfl (hcl _ _) ?_)
 go_ret
 exact ⟨rfl, zaa HE.out.1, zaa HE.out.2⟩
theorem delN_end (u : World) (B g sn c i j r d : Nat) (xs : List Value) (h : u.ownsRow B 3 1 (.slice (some ⟨g, 0, none⟩) sn c) sn xs) (hx1 : ∀ v ∈ xs, v.oneCell' = true) (hij : i + 1 = j) (hjr : j + r = sn) (hr0 : c = j) (hd : i + r = d) (hsn : sn ≤ 65535) :
  Calls Tryz.prog 49 #[.slice (some ⟨g, 0, none⟩) sn c, .int .i64 (i : Int), .int .i64 (j : Int)] u fun e w' => e = .returned (.slice (some ⟨g, 0, none⟩) d c) ∧ Hid (w'.ownsRow B 3 1 (.slice (some ⟨g, 0, none⟩) d c) d (xs.take i ++ xs.drop j)) ∧ Hid (u.grownBy w' (some g)) := by
 obtain ⟨hrow, hgB, hnc, hcm, hl, hxc⟩ := zat h
 have h1 : (i : Int) < (j : Int) := by omega
 have h2 : (j : Int) ≤ (sn : Int) := by omega
 have h3 : (sn : Int) ≤ 65535 := by omega
 have h4 : sn - j = r := by omega
 have h5 : i ≤ sn := by omega
 have h6 : j ≤ sn := by omega
 have h7 : i ≤ j := by omega
 have h8 : ¬ sn = i := by omega
 have h10 : (sn : Int) ≤ (c : Int) := by omega
 have h11 : ¬ (i : Int) = (j : Int) := by omega
 have h12 : ¬ c = i := by omega
 have h13 : i ≤ c := by omega
 have h14 : sn - d = 1 := by omega
 have h15 : d ≤ sn := by omega
 have h16 : ¬ c = d := by omega
 have h17 : (d : Int) < (sn : Int) := by omega
 have h18 : sn ≤ c := hnc
 obtain ⟨w1, hw1⟩ : ∃ w1, u.drew.setCells g i (xs.drop j) = w1 := ⟨_, rfl⟩
 obtain ⟨w2, hw2⟩ : ∃ w2, w1.setCells g d (List.replicate 1 (.int .i64 0)) = w2 := ⟨_, rfl⟩
 have hdl : (xs.drop j).length = r := by rw [zK]; omega
 have hrow0 := hrow.on (w' := u.drew) rfl
 have hrow1 := hrow0.sets (xs.drop j) i u.drew
 rw [hw1] at hrow1
 have hrow2 := hrow1.sets (List.replicate 1 (.int .i64 0)) d w1
 rw [hw2] at hrow2
 have hr : ∀ ty, (Builtin.append_ #[61, 61] ty #[.slice (some ⟨g, 0, none⟩) i c, .slice (some ⟨g, 0, none⟩) r (c - j)]).run Tryz.prog u.drew = .ok (.slice (some ⟨g, 0, none⟩) d c) w1 := fun ty => by
  have := appN_run u.drew ty g i c ⟨g, 0, none⟩ r (c - j) (xs.drop j) hdl (fun q v hq => by
   have := (zH.1 hq).1
   omega) (by omega) (fun q hq => hrow0.there (by omega)) (fun q _ => hrow0.free _) (fun v hv => hx1 v (List.mem_of_mem_drop hv))
  rw [hw1, hd] at this
  exact this
 have hcl : ∀ ty cc, (Builtin.clear_ #[61] ty #[.slice (some ⟨g, d, none⟩) 1 cc]).run Tryz.prog w1 = .ok (.tuple #[]) w2 := fun ty cc => by
  rw [← hw2]
  exact Lib.run_clear_slice w1 61 3 ty (.int .i64 0) Tryz.underlying61 RN.zero_run rfl rfl g d 1 cc (by omega) (fun t ht => hrow1.there (by omega)) (fun t _ => hrow1.free _)
 have HE : Hid (w2.ownsRow B 3 1 (.slice (some ⟨g, 0, none⟩) d c) d (xs.take i ++ xs.drop j) ∧ u.grownBy w2 (some g)) := zaa (by
  have e : (xs.take i ++ xs.drop j).length = d := by rw [zG, hdl, zJ]; omega
  refine ⟨hrow2.own hcm hgB (by omega) e (fun q v hq => ?_), ?_⟩
  ·have hql := (zH.1 hq).1
   rw [← hw2, hrow1.cell _ _ (by simp; omega), if_neg (by omega), ← hw1, hrow0.cell _ _ (by omega)]
   by_cases hqi : q < i
   ·rw [if_neg (by omega)]
    rw [zL (by rw [zJ]; omega), List.getElem?_take, if_pos hqi] at hq
    exact hxc q v hq
   ·rw [if_pos (by omega)]
    rw [List.getElem?_append_right (by rw [zJ]; omega), zJ, show min i xs.length = i by omega] at hq
    exact hq
  ·rw [← hw2, ← hw1]
   exact zbj (zbj (zcr (zcz _ _)) (zas g _ _ _)) (zas g _ _ _))
 clear h hx1 hrow hrow0 hrow1 hrow2 hxc hw1 hw2 hl hdl hcm hgB hnc
 obtain rfl : r = 0 := by omega
 obtain rfl : sn = j := by omega
 subst hr0
 simp only [Nat.sub_self] at hr
 go_enter Tryz.func49, Tryz.ntmps49
 go_upto_region 5 with fail
 go_wp2_with fail
 refine wp_region_held_drew (S := fun _ => True ∧ True) (by kernel_rfl) ⟨trivial, trivial⟩ (fun hHeld => ?_)
 refine zT (i := 0) (v := ?_) rfl ?_ (fun _ _ _ h => h) ?_
 rotate_left
 ·(rintro w ⟨_, _⟩; go_simp; try with_reducible rfl)
 try simp only [Act.put, zA, zC, zD, zE, zF]
 refine zT (i := 1) (v := ?_) rfl ?_ (fun _ _ _ h => h) ?_
 rotate_left
 ·(rintro w ⟨_, _⟩; go_simp; try with_reducible rfl)
 try simp only [Act.put, zA, zB, zC, zD, zE, zF]
 refine zT (i := 2) (v := ?_) rfl ?_ (fun _ _ _ h => h) ?_
 rotate_left
 ·(rintro w ⟨_, _⟩; go_simp; try with_reducible rfl)
 try simp only [Act.put, zA, zB, zC, zD, zE, zF]
 refine zT (i := 3) (v := ?_) rfl ?_ (fun _ _ _ h => h) ?_
 rotate_left
 ·(rintro w ⟨_, _⟩; go_simp; try with_reducible rfl)
 try simp only [Act.put, zA, zB, zC, zD, zE, zF]
 refine zT (i := 4) (v := ?_) rfl ?_ (fun _ _ _ h => h) ?_
 rotate_left
 ·(rintro w ⟨_, _⟩; go_simp; try with_reducible rfl)
 try simp only [Act.put, zA, zB, zC, zD, zE, zF]
 refine wpAnyH_take (i := 5) (v := .slice (some ⟨g, 0, none⟩) 0 0) rfl (by kernel_rfl) (by kernel_rfl) (by kernel_rfl) (fun _ _ _ h => h) (Or.inl ⟨by rfl, ?_⟩) (by assumption) ?_
 ·intro w hSw
  go_simp
 try simp only [Act.put, zA, zB, zC, zD, zE, zF]
 refine zY (i := 6) rfl fun K hK => ?_
 refine zdq rfl _ _ _ _ rfl _ _ (by rfl) (by rfl) (hr _) ?_
 refine hK.out _ _ ⟨trivial, trivial⟩ (fun hHeld => ?_)
 clear hK K
 try simp only [Act.put, zA, zB, zC, zD, zE, zF]
 refine zT (i := 7) (v := ?_) rfl ?_ (fun _ _ _ h => h) ?_
 rotate_left
 ·(rintro w ⟨_, _⟩; go_simp; try with_reducible rfl)
 try simp only [Act.put, zA, zB, zC, zD, zE]
 refine wpAnyH_done (by kernel_rfl) ?_ _
 clear hHeld hr
 go_wp2_with (at_builtin; refine zbz rfl _ _ rfl _ rfl (hcl _ _) ?_)
 go_ret
 exact ⟨rfl, zaa HE.out.1, zaa HE.out.2⟩
end Go.Proofs.YtfgffajgfgifhaaGreatDoor
