import Derived.Test.YtofafbmpbkjhnaaGreatDoorJ16
namespace Go.Proofs.YtofafbmpbkjhnaaGreatDoor
set_option maxRecDepth 100000
set_option maxHeartbeats 4000000
open Go.RowKit
namespace RN
theorem hsz : (Tryz.prog.info? 3).map (·.size) = some 1 := by
 obtain ⟨i0, hi, hz0, hz1, hz2⟩ := info_parts infoI
 rw [hi]
 simp [hz1]
theorem zero_run (w : World) : (zeroValue 3).run Tryz.prog w = .ok (.int .i64 0) w := by
 obtain ⟨i0, hi, hz0, hz1, hz2⟩ := info_parts infoI
 simp [zeroValue, typeInfo, hi, hz0]
theorem size_run (w : World) : (Go.sizeOf 3).run Tryz.prog w = .ok 1 w := by
 obtain ⟨i0, hi, hz0, hz1, hz2⟩ := info_parts infoI
 simp [sizeOf, typeInfo, hi, hz1]
theorem over_no (w : World) (a b la ca lb cb oa ob kA kB : Nat) (hne : a ≠ b) (ha : RowE w a 3 kA) (hb : RowE w b 3 kB) (hkB : kB ≠ 0) :
  (callFunc 217 #[.slice (some ⟨a, oa, none⟩) la ca, .slice (some ⟨b, ob, none⟩) lb cb]).run Tryz.prog w = .ok (.value (.bool false)) w := by
 have sh : ∀ {g c : Nat}, RowE w g 3 c → w.shape? g = some (3, c) := by
  rintro g c ⟨cur, h1, h2⟩
  simp [World.shape?, h1, h2]
 rw [run_callFunc_extern Tryz.func217 (by kernel_rfl) (by kernel_rfl) (by kernel_rfl) (e := Extern.SlicesOverlaps.overlaps #[152, 152] #[4]) (by kernel_rfl),
  Lib.run_overlaps_apart w 152 4 3 Tryz.underlying152 1 size_run ⟨a, oa, none⟩ ⟨b, ob, none⟩ la ca lb cb hne 3 3 kA kB (sh ha) (sh hb) hkB (ha.free _) (ha.free _)]
 rfl
theorem copy_in (w : World) (ty : TypeId) (g c o dl dc so sl sc : Nat) (cs : List Value) (hr : RowE w g 3 c) (hl : cs.length = Nat.min sl dl) (ho : o + cs.length ≤ c) (hc : ∀ k v, cs[k]? = some v → w.cell? ⟨g, so + k, none⟩ = some v) (h1 : ∀ v ∈ cs, v.oneCell' = true) :
  (Builtin.copy_ #[152, 152] ty #[.slice (some ⟨g, o, none⟩) dl dc, .slice (some ⟨g, so, none⟩) sl sc]).run Tryz.prog w = .ok (goInt cs.length) (w.setCells g o cs) :=
 run_copy_cells w _ _ ty 3 g o dl dc ⟨g, so, none⟩ sl sc cs Tryz.underlying152 hsz hl (fun j v hj => by rw [Addr.add_lit]; exact hc j v hj) (fun j hj => hr.there (by omega)) (fun j _ => hr.free _) h1
theorem copy_of (w : World) (ty : TypeId) (g c o dl dc : Nat) (vv : Value) (m C : Nat) (ys : List Value) (hr : RowE w g 3 c) (hv : w.ownsRow C 3 1 vv m ys) (hml : m ≤ dl) (ho : o + m ≤ c) (h1 : ∀ v ∈ ys, v.oneCell' = true) :
  (Builtin.copy_ #[152, 152] ty #[.slice (some ⟨g, o, none⟩) dl dc, vv]).run Tryz.prog w = .ok (goInt (m : Int)) (w.setCells g o ys) := by
 have hyl := hv.1
 rcases hv.2 with ⟨rfl, h0⟩ | ⟨b, cap, cur, rfl, _⟩
 ·obtain rfl : ys = [] := List.eq_nil_of_length_eq_zero (by omega)
  subst h0
  exact run_copy_none w _ _ ty 3 _ _ dl dc 0 0 Tryz.underlying152 hsz (by simp)
 ·obtain ⟨_, _, _, _, hl, hc⟩ := zan hv
  have := run_copy_cells w 152 152 ty 3 g o dl dc ⟨b, 0, none⟩ m cap ys Tryz.underlying152 hsz (by rw [hl]; simp only [Nat.min_def]; split <;> omega) (fun j v hj => by rw [Addr.add_lit, Nat.zero_add]; exact hc j v hj) (fun j hj => hr.there (by omega)) (fun j _ => hr.free _) h1
  rwa [hl] at this
def To (w : World) (B : Nat) (v : Value) (n : Nat) (xs : List Value) (e : Ending) (w' : World) : Prop := ∃ ao c, e = .returned (.slice ao n c) ∧ Hid (w'.ownsRow B 3 1 (.slice ao n c) n xs) ∧ Hid (Gr w v w' (.slice ao n c))
theorem gr_in {w w' : World} {g n c n' c' : Nat} (h : w.grownBy w' (some g)) : Gr w (.slice (some ⟨g, 0, none⟩) n c) w' (.slice (some ⟨g, 0, none⟩) n' c') := ⟨h, .inl rfl⟩
theorem app_own {ops : Array Oper} {rest : List Oper} {o : Oper} {a : Act} {Q : Exit → Act → World → Prop} (w : World) (hgd : o.guard = none) (s x : Operand)
  (ho : o.op = .call { callee := .builtin .append, args := #[s, x], argTypes := #[152, 152] }) (B C n m : Nat) (xs ys : List Value) (v vv : Value) (hs : a.eval s = v) (hx : a.eval x = vv)
  (hown : w.ownsRow B 3 1 v n xs) (hv : w.ownsRow C 3 1 vv m ys) (h1 : ∀ u ∈ ys, u.oneCell' = true) (hb : n + m ≤ 1000000) (hbase : B ≤ w.heap.size)
  (h : ∀ ao c w', w'.ownsRow B 3 1 (.slice ao (n + m) c) (n + m) (xs ++ ys) → Gr w v w' (.slice ao (n + m) c) → wpList Tryz.prog ops Q rest (a.put o.dst (.slice ao (n + m) c)) w') : wpList Tryz.prog ops Q (o :: rest) a w := by
 obtain ⟨i0, hi, hz0, hz1, hz2⟩ := info_parts infoI
 have shp : ∀ {u : Value} {k : Nat} {zs : List Value} {w : World}, w.ownsRow B 3 1 u k zs → ∃ ao c, u = .slice ao k c := by
  intro u k zs w hu
  rcases hu.2 with ⟨rfl, h0⟩ | ⟨g, cap, cur, rfl, _⟩
  ·exact ⟨none, 0, by rw [h0]⟩
  ·exact ⟨_, _, rfl⟩
 have hyl := hv.1
 rcases hv.2 with ⟨rfl, h0⟩ | ⟨b, vcap, vcur, rfl, _⟩
 ·obtain rfl : ys = [] := List.eq_nil_of_length_eq_zero (by omega)
  subst h0
  obtain ⟨ao, c, rfl⟩ := shp hown
  exact wpList_append_own_none hgd s x 152 ho B 3 i0 1 Tryz.underlying152 hi _ n xs hs hown hx (h ao c w (by simpa using hown) (Gr.refl _ _))
 ·obtain ⟨_, _, _, _, hl, hc⟩ := zan hv
  refine wpList_append_own_at w hgd s x 152 ho B 3 i0 (.int .i64 0) 1 8 Tryz.underlying152 hi hz0 hz1 hz2 rfl (by decide) v n xs hs hown ⟨b, 0, none⟩ m vcap ys hx (by omega)
   (fun j u hu => by rw [Addr.add_lit, Nat.zero_add]; exact hc j u hu) h1 (by unfold maxLen; omega) (by omega) hbase ?_
  intro v' w' g1 g2 g3 g4
  obtain ⟨ao, c, rfl⟩ := shp g1
  exact h ao c w' g1 ⟨g2, g4.imp id fun e => ⟨_, e, Lr⟩⟩
theorem app_room (w : World) (ty : TypeId) (B C n m g cap : Nat) (xs ys : List Value) (vv : Value) (hown : w.ownsRow B 3 1 (.slice (some ⟨g, 0, none⟩) n cap) n xs) (hv : w.ownsRow C 3 1 vv m ys) (h1 : ∀ u ∈ ys, u.oneCell' = true) (hb : n + m ≤ 1000000) (hroom : n + m ≤ cap) (hbase : B ≤ w.heap.size) :
  ∃ w', (Builtin.append_ #[152, 152] ty #[.slice (some ⟨g, 0, none⟩) n cap, vv]).run Tryz.prog w = .ok (.slice (some ⟨g, 0, none⟩) (n + m) cap) w' ∧ w'.ownsRow B 3 1 (.slice (some ⟨g, 0, none⟩) (n + m) cap) (n + m) (xs ++ ys) ∧ w.grownBy w' (some g) := by
 obtain ⟨i0, hi, hz0, hz1, hz2⟩ := info_parts infoI
 have hyl := hv.1
 rcases hv.2 with ⟨rfl, h0⟩ | ⟨b, vcap, vcur, rfl, _⟩
 ·obtain rfl : ys = [] := List.eq_nil_of_length_eq_zero (by omega)
  subst h0
  refine ⟨w, ?_, by simpa using hown, zby _ _⟩
  have := run_append_owned_none (P := Tryz.prog) (w := w) B 152 ty 3 i0 1 Tryz.underlying152 hi (.slice (some ⟨g, 0, none⟩) n cap) n xs hown
  simpa using this
 ·obtain ⟨_, _, _, _, hl, hc⟩ := zan hv
  have hnews : ∀ j u, ys[j]? = some u → w.cell? ((⟨b, 0, none⟩ : Addr).add j) = some u := fun j u hu => by rw [Addr.add_lit, Nat.zero_add]; exact hc j u hu
  obtain ⟨v', w', hr, g1, g2, g3, g4⟩ := run_append_own_at (P := Tryz.prog) w B 152 ty 3 i0 (.int .i64 0) 1 8 Tryz.underlying152 hi hz0 hz1 hz2 rfl (by decide) (.slice (some ⟨g, 0, none⟩) n cap) n xs hown ⟨b, 0, none⟩ m vcap ys (by omega) hnews h1 (by unfold maxLen; omega) (by omega) hbase
  obtain ⟨⟨cur, hcur, hcs⟩, _⟩ := zan hown
  have hr' := run_append_room (P := Tryz.prog) w 152 ty 3 i0 Tryz.underlying152 hi g n cap cur hcur ⟨b, 0, none⟩ m vcap ys (by rw [hz1]; omega) hnews h1 hroom (by rw [hz1]; omega)
  rw [hr] at hr'
  injection hr' with e1 e2
  subst e1
  exact ⟨w', hr, g1, g2⟩
theorem app_zeros (w : World) (ty : TypeId) (B n i k g cap : Nat) (xs : List Value) (hown : w.ownsRow B 3 1 (.slice (some ⟨g, 0, none⟩) n cap) n xs) (hi : i ≤ n) (hk : cap < i + k) (hb : i + k ≤ 1000000) :
  ∃ c w', (Builtin.append_ #[152, 3] ty #[.slice (some ⟨g, 0, none⟩) i cap, .int .i64 (k : Int)]).run Tryz.prog w = .ok (.slice (some ⟨w.heap.size, 0, none⟩) (i + k) c) w' ∧ RowE w' w.heap.size 3 c ∧ i + k ≤ c ∧ c ≤ maxLen ∧ (∀ t v, (xs.take i)[t]? = some v → w'.cell? ⟨w.heap.size, t, none⟩ = some v) ∧ Below w.heap.size w w' := by
 obtain ⟨i0, hi0, hz0, hz1, hz2⟩ := info_parts infoI
 obtain ⟨_, _, hnc, _, hl, hc⟩ := zan hown
 have hti : (xs.take i).length = i := by simp; omega
 have hold : (Builtin.firstCells i0.size i (.slice (some ⟨g, 0, none⟩) i cap)).run Tryz.prog w.drew = .ok (xs.take i).toArray w.drew := by
  rw [hz1]
  refine run_firstCells_some w.drew 1 i ⟨g, 0, none⟩ i cap (xs.take i) (by omega) (fun j v hj => ?_)
  rw [Addr.add_lit, Nat.zero_add]
  have hlt := (zH.1 hj).1
  rw [List.getElem?_take_of_lt (by omega)] at hj
  exact hc j v hj
 have hge := grownCap_ge w (i + k) cap 3
 have hle := grownCap_le_maxLen w (i + k) cap 3 (by unfold maxLen; omega)
 have hr := Lib.run_append_grow_zeros (P := Tryz.prog) w 152 3 ty 3 i0 (.int .i64 0) .i64 .i64 Tryz.underlying152 Tryz.underlying3 hi0 hz0 (some ⟨g, 0, none⟩) i cap (xs.take i) hold k (by omega) (by rw [hz1]; decide) hk (by omega) (by rw [hz2]; omega) (by rw [hz2]; exact growslice_fits hk (by omega))
 refine ⟨_, _, hr, ⟨_, heap_alloc_last w.drew _, ?_⟩, hge, hle, fun t v ht => ?_, Br.drew.alloc Lr _⟩
 ·simp [Builtin.zeroCells, Value.cells]
  omega
 ·have hlt := (zH.1 ht).1
  have e : (w.drew.alloc (.cells ((xs.take i).toArray ++ Builtin.zeroCells (Value.int .i64 0).cells k ++ Builtin.zeroCells (Value.int .i64 0).cells (grownCap w (i + k) cap 3 - (i + k))) 3)).heap[w.heap.size]? = some (.cells ((xs.take i).toArray ++ Builtin.zeroCells (Value.int .i64 0).cells k ++ Builtin.zeroCells (Value.int .i64 0).cells (grownCap w (i + k) cap 3 - (i + k))) 3 (0, 0)) := heap_alloc_last w.drew _
  rw [cell_of_row _ _ _ _ _ _ e, Array.append_assoc, Array.getElem?_append_left (by simpa using hlt)]
  simpa using ht
theorem ins_end (w : World) (B C n m : Nat) (v vv : Value) (xs ys : List Value) (hs : w.ownsRow B 3 1 v n xs) (hv : w.ownsRow C 3 1 vv m ys) (hy1 : ∀ u ∈ ys, u.oneCell' = true) (hb : n + m ≤ 1000000) (hB : B ≤ w.heap.size) (hm : 0 < m) :
  Calls Tryz.prog 216 #[v, .int .i64 (n : Int), vv] w (To w B v (n + m) (xs ++ ys)) := by
 have hm1 : ¬ (m : Int) = 0 := by omega
 have HS := zaa hs
 have HV := zaa hv
 have HY := zaa hy1
 obtain ⟨b, vc, rfl⟩ : ∃ b vc, vv = .slice (some ⟨b, 0, none⟩) m vc := by
  rcases hv.2 with ⟨_, h0⟩ | ⟨b, cap, cur, e, _⟩
  ·omega
  ·exact ⟨b, cap, e⟩
 rcases hs.2 with ⟨rfl, rfl⟩ | ⟨g, c, cur, rfl, _, _, hnc, _⟩
 ·clear hs hv hy1
  rw [Nat.zero_add]
  go_enter Tryz.func216, Tryz.ntmps216
  go_wp2_with (at_builtin; refine app_own _ rfl _ _ rfl B C 0 m xs ys _ _ rfl rfl HS.out HV.out HY.out hb hB ?_; refine Hid.out ?_)
  apply zaa
  intro ao c w' h1 h2
  have H1 := zaa h1
  have H2 := zaa h2
  clear h1 h2
  go_wp2
  go_ret
  exact ⟨ao, c, rfl, H1, H2⟩
 ·clear hs hv hy1
  by_cases hc : c = n
  ·subst hc
   go_enter Tryz.func216, Tryz.ntmps216
   go_wp2_with (at_builtin; refine app_own _ rfl _ _ rfl B C _ m xs ys _ _ rfl rfl HS.out HV.out HY.out hb hB ?_; refine Hid.out ?_)
   apply zaa
   intro ao c w' h1 h2
   have H1 := zaa h1
   have H2 := zaa h2
   clear h1 h2
   go_wp2
   go_ret
   exact ⟨ao, c, rfl, H1, H2⟩
  ·go_enter Tryz.func216, Tryz.ntmps216
   go_wp2_with (at_builtin; refine app_own _ rfl _ _ rfl B C n m xs ys _ _ rfl rfl HS.out HV.out HY.out hb hB ?_; refine Hid.out ?_)
   apply zaa
   intro ao c w' h1 h2
   have H1 := zaa h1
   have H2 := zaa h2
   clear h1 h2
   go_wp2
   go_ret
   exact ⟨ao, c, rfl, H1, H2⟩
theorem ins_grow (w : World) (B C n m i g c b vc : Nat) (xs ys : List Value) (hs : w.ownsRow B 3 1 (.slice (some ⟨g, 0, none⟩) n c) n xs) (hv : w.ownsRow C 3 1 (.slice (some ⟨b, 0, none⟩) m vc) m ys) (hx1 : ∀ u ∈ xs, u.oneCell' = true) (hy1 : ∀ u ∈ ys, u.oneCell' = true) (hi : i < n) (hb : n + m ≤ 1000000) (hB : B ≤ w.heap.size) (hm : 0 < m) (hg : c < n + m) :
  Calls Tryz.prog 216 #[.slice (some ⟨g, 0, none⟩) n c, .int .i64 (i : Int), .slice (some ⟨b, 0, none⟩) m vc] w (To w B (.slice (some ⟨g, 0, none⟩) n c) (n + m) (xs.take i ++ ys ++ xs.drop i)) := by
 obtain ⟨hrow, hgB, hnc, hcm, hxl, hxc⟩ := zan hs
 obtain ⟨_, _, hmv, _, hyl, hyc⟩ := zan hv
 have hm1 : ¬ (m : Int) = 0 := by omega
 have hin : ¬ (i : Int) = (n : Int) := by omega
 have hci : ¬ c = i := by omega
 have hgI : (c : Int) < (n : Int) + (m : Int) := by omega
 obtain ⟨k, hk⟩ : ∃ k : Nat, n + m - i = k := ⟨_, rfl⟩
 have hkI : (n : Int) + (m : Int) - (i : Int) = (k : Int) := by omega
 obtain ⟨c2, w1, hr, hrow1, hkc, hcm1, hcell1, hb1⟩ := app_zeros w 152 B n i k g c xs hs (by omega) (by omega) (by omega)
 obtain ⟨G, hG⟩ : ∃ G, w.heap.size = G := ⟨_, rfl⟩
 have hgG : g ≠ G := by have := hrow.lt; omega
 have hrow1' : RowE w1 G 3 c2 := by rw [← hG]; exact hrow1
 have hv1 : w1.ownsRow C 3 1 (.slice (some ⟨b, 0, none⟩) m vc) m ys := World.ownsRow.kept (row := none) hv ⟨hb1.os, hb1.tape, hb1.output, hb1.size, fun z hz _ => hb1.block z hz⟩ (.inr (by simp [Value.ownBlock]))
 have hcp1 := copy_of w1 3 G c2 i k (c2 - i) (.slice (some ⟨b, 0, none⟩) m vc) m C ys hrow1' hv1 (by omega) (by omega) hy1
 obtain ⟨w2, hw2⟩ : ∃ w2, w1.setCells G i ys = w2 := ⟨_, rfl⟩
 rw [hw2] at hcp1
 have hrow2 : RowE w2 G 3 c2 := by rw [← hw2]; exact RowE.sets _ _ _ hrow1'
 have hdl : (xs.drop i).length = n - i := by simp; omega
 have hold : w2.heap[g]? = w.heap[g]? := by
  rw [← hw2, World.heap_setCells_other _ _ _ _ (zO hrow.lt hb1.size) hgG]
  exact hb1.block g hrow.lt
 have hcp2 : Hid (∀ q ty dl dc sl sc, Nat.min sl dl = n - i → (Builtin.copy_ #[152, 152] ty #[.slice (some ⟨G, i + m, none⟩) dl dc, .slice (some ⟨g, i, none⟩) sl sc]).run Tryz.prog (w2.drewN q) = .ok (goInt (xs.drop i).length) ((w2.drewN q).setCells G (i + m) (xs.drop i))) := zaa fun q ty dl dc sl sc hmin =>
  run_copy_cells (w2.drewN q) _ _ ty 3 G (i + m) dl dc ⟨g, i, none⟩ sl sc (xs.drop i) Tryz.underlying152 hsz (by rw [hdl, hmin])
   (fun j v hj => by
    rw [Addr.add_lit]
    have : (w2.drewN q).cell? ⟨g, i + j, none⟩ = w.cell? ⟨g, i + j, none⟩ := World.cell?_of_block (a := ⟨g, i + j, none⟩) hold
    rw [this]
    exact hxc (i + j) v (by rwa [List.getElem?_drop] at hj))
   (fun j hj => (hrow2.drewN q).there (by omega)) (fun j _ => (hrow2.drewN q).free _) (fun v hv => hx1 v (List.mem_of_mem_drop hv))
 have HEND : Hid (∀ q, ((w2.drewN q).setCells G (i + m) (xs.drop i)).ownsRow B 3 1 (.slice (some ⟨G, 0, none⟩) (i + k) c2) (i + k) (xs.take i ++ ys ++ xs.drop i) ∧ Below w.heap.size w ((w2.drewN q).setCells G (i + m) (xs.drop i))) := zaa fun q => by
  refine ⟨RowE.own (RowE.sets _ _ _ (hrow2.drewN q)) hcm1 (by omega) hkc (by rw [zde hxl hyl Lr (by omega)]; omega) (moved hxl hyl Lr (by omega) (fun t ht => ?_) (fun t ht => ?_) (fun t ht => ?_)), ?_⟩
  ·rw [(hrow2.drewN q).cell _ _ (by omega), if_neg (by omega)]
   show w2.cell? _ = _
   rw [← hw2, hrow1'.cell _ _ (by omega), if_neg (by omega)]
   have e1 : xs[t]? = some (xs[t]'(by omega)) := zI _
   rw [e1]
   have := hcell1 t _ (by rw [List.getElem?_take_of_lt ht, e1])
   rw [hG] at this
   exact this
  ·rw [(hrow2.drewN q).cell _ _ (by omega), if_neg (by omega)]
   show w2.cell? _ = _
   rw [← hw2, hrow1'.cell _ _ (by omega), if_pos (by omega), Nat.add_sub_cancel_left]
  ·rw [(hrow2.drewN q).cell _ _ (by omega), if_pos (by omega), Nat.add_sub_cancel_left, List.getElem?_drop]
  ·have h1 := zap G (xs.drop i) (i + m) (w2.drewN q)
   have h2 := zap G ys i w1
   rw [hw2] at h2
   refine ⟨h1.os.trans (h2.os.trans hb1.os), h1.tape.trans (h2.tape.trans hb1.tape), h1.output.trans (h2.output.trans hb1.output), zN hb1.size (zN h2.size h1.size), fun z hz => ?_⟩
   have hzG : some z ≠ some G := by intro e; injection e with e; omega
   exact (h1.block z (zO hz (zN hb1.size h2.size)) hzG).trans ((h2.block z (zO hz hb1.size) hzG).trans (hb1.block z hz))
 have hki : (i : Int) ≤ (k : Int) + (i : Int) := by omega
 have hc2i : ¬ c2 = i := by omega
 have hc2m : ¬ c2 = i + m := by omega
 have himI : (i : Int) + (m : Int) ≤ (i : Int) + (k : Int) := by omega
 have hEQ : i + k = n + m := by omega
 rw [hG] at hr
 rw [hEQ] at hr HEND
 have e1 : n + m - i = k := hk
 have e2 : n + m - (i + m) = k - m := by omega
 clear hs hv hx1 hy1 hrow hxc hyc hrow1 hrow1' hv1 hold hrow2 hcell1 hb1 hw2 hxl hyl hdl hk
 go_enter Tryz.func216, Tryz.ntmps216
 go_wp2_with (at_builtin; refine zcj rfl _ _ _ _ rfl _ _ rfl rfl hr ?_; refine Hid.out ?_)
 apply zaa
 clear hr
 go_wp2_with fail
 clear hcp1
 have hw1 : IntKind.i64.wrap ((i : Int) + (m : Int)) = (i : Int) + (m : Int) := by rw [IntKind.wrap_i64]; omega
 have hb1 : (0 : Int) ≤ (i : Int) + (m : Int) := by omega
 have htn : ((i : Int) + (m : Int)).toNat = i + m := by omega
 have hb3 : (i : Int) + (m : Int) ≤ (n : Int) + (m : Int) := by omega
 have hb4 : (i : Int) ≤ (n : Int) := by omega
 have hb5 : i ≤ n := by omega
 have hcpD : (Builtin.copy_ #[152, 152] 3 #[.slice (some ⟨G, i + m, none⟩) (k - m) (c2 - (i + m)), .slice (some ⟨g, i, none⟩) (n - i) (c - i)]).run Tryz.prog w2.drew = .ok (goInt (xs.drop i).length) (w2.drew.setCells G (i + m) (xs.drop i)) := hcp2.out 1 3 (k - m) (c2 - (i + m)) (n - i) (c - i) (by simp only [Nat.min_def]; split <;> omega)
 have HE1 := zaa (HEND.out 1)
 obtain ⟨w3, hw3⟩ : ∃ w3, w2.drew.setCells G (i + m) (xs.drop i) = w3 := ⟨_, rfl⟩
 have hw3' : (w2.drewN 1).setCells G (i + m) (xs.drop i) = w3 := hw3
 rw [hw3'] at HE1
 rw [hw3] at hcpD
 clear hw3 hw3' hcp2 HEND
 go_region
 go_wp2
 go_ret
 refine ⟨some ⟨G, 0, none⟩, c2, rfl, zaa HE1.out.1, zaa ⟨?_, .inr ⟨G, rfl, by omega⟩⟩⟩
 have hbe := HE1.out.2
 exact ⟨hbe.os, hbe.tape, hbe.output, hbe.size, fun z hz _ => hbe.block z hz⟩
theorem own_take {w : World} {B n i g c : Nat} {xs : List Value} (h : w.ownsRow B 3 1 (.slice (some ⟨g, 0, none⟩) n c) n xs) (hi : i ≤ n) : w.ownsRow B 3 1 (.slice (some ⟨g, 0, none⟩) i c) i (xs.take i) := by
 obtain ⟨hrow, hgB, hnc, hcm, hxl, hxc⟩ := zan h
 refine hrow.own hcm hgB (by omega) (by simp; omega) (fun t v hv => ?_)
 have hlt := (zH.1 hv).1
 have hti : t < i := by simp at hlt; omega
 rw [List.getElem?_take_of_lt hti] at hv
 exact hxc t v hv
theorem ins_shift (w : World) (B C n m i g c b vc : Nat) (xs ys : List Value) (hs : w.ownsRow B 3 1 (.slice (some ⟨g, 0, none⟩) n c) n xs) (hv : w.ownsRow C 3 1 (.slice (some ⟨b, 0, none⟩) m vc) m ys) (hx1 : ∀ u ∈ xs, u.oneCell' = true) (hy1 : ∀ u ∈ ys, u.oneCell' = true) (hne : b ≠ g) (hi : i < n) (hb : n + m ≤ 1000000) (hm : 0 < m) (hg : n + m ≤ c) :
  Calls Tryz.prog 216 #[.slice (some ⟨g, 0, none⟩) n c, .int .i64 (i : Int), .slice (some ⟨b, 0, none⟩) m vc] w (To w B (.slice (some ⟨g, 0, none⟩) n c) (n + m) (xs.take i ++ ys ++ xs.drop i)) := by
 obtain ⟨hrow, hgB, hnc, hcm, hxl, hxc⟩ := zan hs
 obtain ⟨hrowv, _, hmv, _, hyl, hyc⟩ := zan hv
 have hm1 : ¬ (m : Int) = 0 := by omega
 have hin : ¬ (i : Int) = (n : Int) := by omega
 have hci : ¬ c = i := by omega
 have hcim : ¬ c = i + m := by omega
 have hgI : ¬ (c : Int) < (n : Int) + (m : Int) := by omega
 have hgI2 : (n : Int) + (m : Int) ≤ (c : Int) := by omega
 have hdl : (xs.drop i).length = n - i := by simp; omega
 have hrowd : RowE w.drew g 3 c := hrow
 have hov : ∀ lb cb, (callFunc 217 #[.slice (some ⟨b, 0, none⟩) m vc, .slice (some ⟨g, i + m, none⟩) lb cb]).run Tryz.prog w = .ok (.value (.bool false)) w := fun lb cb => over_no w b g m vc lb cb 0 (i + m) vc c hne hrowv hrow (by omega)
 have hcpD : (Builtin.copy_ #[152, 152] 3 #[.slice (some ⟨g, i + m, none⟩) (n - i) (c - (i + m)), .slice (some ⟨g, i, none⟩) (n + m - i) (c - i)]).run Tryz.prog w.drew = .ok (goInt (xs.drop i).length) (w.drew.setCells g (i + m) (xs.drop i)) :=
  copy_in w.drew 3 g c (i + m) (n - i) (c - (i + m)) i (n + m - i) (c - i) (xs.drop i) (hrow.drewN 1) (by rw [hdl]; simp only [Nat.min_def]; split <;> omega) (by omega) (fun k v hk => hxc (i + k) v (by rwa [List.getElem?_drop] at hk)) (fun v hv => hx1 v (List.mem_of_mem_drop hv))
 obtain ⟨w1, hw1⟩ : ∃ w1, w.drew.setCells g (i + m) (xs.drop i) = w1 := ⟨_, rfl⟩
 rw [hw1] at hcpD
 have hg1 : w.grownBy w1 (some g) := by rw [← hw1]; exact zau (zbp (zby w _)) (zap g _ _ _)
 have hrow1 : RowE w1 g 3 c := by rw [← hw1]; exact RowE.sets _ _ _ (hrow.drewN 1)
 have hv1 : w1.ownsRow C 3 1 (.slice (some ⟨b, 0, none⟩) m vc) m ys := World.ownsRow.kept hv hg1 (.inr (by simp [Value.ownBlock]; exact hne))
 have hcp2 := copy_of w1 3 g c i (n + m - i) (c - i) (.slice (some ⟨b, 0, none⟩) m vc) m C ys hrow1 hv1 (by omega) (by omega) hy1
 obtain ⟨w2, hw2⟩ : ∃ w2, w1.setCells g i ys = w2 := ⟨_, rfl⟩
 rw [hw2] at hcp2
 have HE : Hid (w2.ownsRow B 3 1 (.slice (some ⟨g, 0, none⟩) (n + m) c) (n + m) (xs.take i ++ ys ++ xs.drop i) ∧ w.grownBy w2 (some g)) := zaa (by
  rw [← hw2]
  refine ⟨RowE.own (RowE.sets _ _ _ hrow1) hcm hgB hg (by rw [zde hxl hyl Lr (by omega)]; omega) (moved hxl hyl Lr (by omega) (fun t ht => ?_) (fun t ht => ?_) (fun t ht => ?_)), zau hg1 (zap g _ _ _)⟩
  ·rw [hrow1.cell _ _ (by omega), if_neg (by omega), ← hw1, hrowd.cell _ _ (by omega), if_neg (by omega)]
   have e1 : xs[t]? = some (xs[t]'(by omega)) := zI _
   rw [e1]
   exact hxc t _ e1
  ·rw [hrow1.cell _ _ (by omega), if_pos (by omega), Nat.add_sub_cancel_left]
  ·rw [hrow1.cell _ _ (by omega), if_neg (by omega), ← hw1, hrowd.cell _ _ (by omega), if_pos (by omega), Nat.add_sub_cancel_left, List.getElem?_drop])
 have hwi : IntKind.i64.wrap ((i : Int) + (m : Int)) = (i : Int) + (m : Int) := by rw [IntKind.wrap_i64]; omega
 have hb1 : (0 : Int) ≤ (i : Int) + (m : Int) := by omega
 have htn : ((i : Int) + (m : Int)).toNat = i + m := by omega
 have hb3 : (i : Int) + (m : Int) ≤ (n : Int) + (m : Int) := by omega
 have hb4 : (i : Int) ≤ (n : Int) + (m : Int) := by omega
 have hb5 : i ≤ n := by omega
 have hb6 : i ≤ n + m := by omega
 have e2 : n + m - (i + m) = n - i := by omega
 clear hs hv hx1 hy1 hrow hrowd hrowv hxc hyc hrow1 hv1 hw1 hw2 hxl hyl hdl hg1
 go_enter Tryz.func216, Tryz.ntmps216
 go_wp2_with (simp only [hov])
 go_region
 go_wp2
 go_ret
 exact ⟨some ⟨g, 0, none⟩, c, rfl, zaa HE.out.1, zaa (gr_in HE.out.2)⟩
theorem ins_any (w : World) (B C n m i : Nat) (v vv : Value) (xs ys : List Value) (hs : w.ownsRow B 3 1 v n xs) (hv : w.ownsRow C 3 1 vv m ys) (hx1 : ∀ u ∈ xs, u.oneCell' = true) (hy1 : ∀ u ∈ ys, u.oneCell' = true) (hne : vv.ownBlock = none ∨ vv.ownBlock ≠ v.ownBlock) (hi : i ≤ n) (hb : n + m ≤ 1000000) (hB : B ≤ w.heap.size) (hm : 0 < m) :
  Calls Tryz.prog 216 #[v, .int .i64 (i : Int), vv] w (To w B v (n + m) (xs.take i ++ ys ++ xs.drop i)) := by
 have hxl := hs.1
 by_cases hin : i = n
 ·subst hin
  have := ins_end w B C i m v vv xs ys hs hv hy1 hb hB hm
  rwa [List.take_of_length_le (by omega), List.drop_eq_nil_of_le (by omega), List.append_nil]
 ·rcases hs.2 with ⟨_, h0⟩ | ⟨g, c, cur, rfl, _⟩
  ·omega
  rcases hv.2 with ⟨_, h0⟩ | ⟨b, vc, vcur, rfl, _⟩
  ·omega
  by_cases hg : n + m ≤ c
  ·refine ins_shift w B C n m i g c b vc xs ys hs hv hx1 hy1 ?_ (by omega) hb hm hg
   rcases hne with e | e
   ·cases e
   ·exact fun e2 => e (by rw [e2]; rfl)
  ·exact ins_grow w B C n m i g c b vc xs ys hs hv hx1 hy1 (by omega) hb hB hm (by omega)
end RN
end Go.Proofs.YtofafbmpbkjhnaaGreatDoor
namespace Go.Proofs.YtofafbmpbkjhnaaGreatDoor
set_option maxRecDepth 100000
set_option maxHeartbeats 4000000
open Go.RowKit
namespace RN
theorem rep_in {w : World} {B n m i j g c : Nat} {xs ys : List Value} (hrow : RowE w g 3 c) (hcm : c ≤ maxLen) (hgB : B ≤ g) (hxl : xs.length = n) (hyl : ys.length = m) (hij : i ≤ j) (hjn : j ≤ n) (hc : i + m + (n - j) ≤ c)
  (h1 : ∀ k, k < i → w.cell? ⟨g, k, none⟩ = xs[k]?) (h2 : ∀ k, k < m → w.cell? ⟨g, i + k, none⟩ = ys[k]?) (h3 : ∀ k, k < n - j → w.cell? ⟨g, i + m + k, none⟩ = xs[j + k]?) : w.ownsRow B 3 1 (.slice (some ⟨g, 0, none⟩) (i + m + (n - j)) c) (i + m + (n - j)) (xs.take i ++ ys ++ xs.drop j) :=
 hrow.own hcm hgB hc (zde hxl hyl hij hjn) (moved hxl hyl hij hjn h1 h2 h3)
theorem cell_old {w : World} {g n : Nat} {xs : List Value} (hxl : xs.length = n) (hxc : ∀ i v, xs[i]? = some v → w.cell? ⟨g, i, none⟩ = some v) {t : Nat} (ht : t < n) : w.cell? ⟨g, t, none⟩ = xs[t]? := by
 have e1 : xs[t]? = some (xs[t]'(by omega)) := zI _
 rw [e1]
 exact hxc t _ e1
theorem rep_grow (w : World) (B C n m i j g c b vc : Nat) (xs ys : List Value) (hs : w.ownsRow B 3 1 (.slice (some ⟨g, 0, none⟩) n c) n xs) (hv : w.ownsRow C 3 1 (.slice (some ⟨b, 0, none⟩) m vc) m ys) (hx1 : ∀ u ∈ xs, u.oneCell' = true) (hy1 : ∀ u ∈ ys, u.oneCell' = true) (hij : i < j) (hj : j < n) (hb : n + m ≤ 1000000) (hB : B ≤ w.heap.size) (hm : 0 < m) (hg : c < i + m + (n - j)) :
  Calls Tryz.prog 187 #[.slice (some ⟨g, 0, none⟩) n c, .int .i64 (i : Int), .int .i64 (j : Int), .slice (some ⟨b, 0, none⟩) m vc] w (To w B (.slice (some ⟨g, 0, none⟩) n c) (i + m + (n - j)) (xs.take i ++ ys ++ xs.drop j)) := by
 obtain ⟨hrow, hgB, hnc, hcm, hxl, hxc⟩ := zan hs
 obtain ⟨_, _, hmv, _, hyl, hyc⟩ := zan hv
 have hijI : ¬ (i : Int) = (j : Int) := by omega
 have hjnI : ¬ (j : Int) = (n : Int) := by omega
 have hci : ¬ c = i := by omega
 have hcj : ¬ c = j := by omega
 obtain ⟨r, hr0⟩ : ∃ r : Nat, n - j = r := ⟨_, rfl⟩
 have hrI : (r : Int) ≤ 1000000 := by omega
 obtain ⟨k, hk⟩ : ∃ k : Nat, m + r = k := ⟨_, rfl⟩
 have hkI : (i : Int) + (m : Int) + (r : Int) - (i : Int) = (k : Int) := by omega
 have hgI : (c : Int) < (i : Int) + (m : Int) + (r : Int) := by omega
 rw [hr0] at hg ⊢
 have hsd : w.drew.ownsRow B 3 1 (.slice (some ⟨g, 0, none⟩) n c) n xs := hs
 obtain ⟨c2, w1, hr, hrow1, hkc, hcm1, hcell1, hbd⟩ := app_zeros w.drew 152 B n i k g c xs hsd (by omega) (by omega) (by omega)
 have hdz : w.drew.heap.size = w.heap.size := rfl
 rw [hdz] at hr hrow1 hcell1 hbd
 have hb1 : Below w.heap.size w w1 := Br.drew.trans hbd
 obtain ⟨G, hG⟩ : ∃ G, w.heap.size = G := ⟨_, rfl⟩
 have hgG : g ≠ G := by have := hrow.lt; omega
 have hrow1' : RowE w1 G 3 c2 := by rw [← hG]; exact hrow1
 have hv1 : w1.ownsRow C 3 1 (.slice (some ⟨b, 0, none⟩) m vc) m ys := World.ownsRow.kept (row := none) hv ⟨hb1.os, hb1.tape, hb1.output, hb1.size, fun z hz _ => hb1.block z hz⟩ (.inr (by simp [Value.ownBlock]))
 have hcp1 := copy_of w1 3 G c2 i k (c2 - i) (.slice (some ⟨b, 0, none⟩) m vc) m C ys hrow1' hv1 (by omega) (by omega) hy1
 obtain ⟨w2, hw2⟩ : ∃ w2, w1.setCells G i ys = w2 := ⟨_, rfl⟩
 rw [hw2] at hcp1
 have hrow2 : RowE w2.drew G 3 c2 := by rw [← hw2]; exact RowE.sets _ _ _ hrow1'
 have hdl : (xs.drop j).length = r := by simp; omega
 have hold : w2.heap[g]? = w.heap[g]? := by
  rw [← hw2, World.heap_setCells_other _ _ _ _ (zO hrow.lt hb1.size) hgG]
  exact hb1.block g hrow.lt
 have hcpD : (Builtin.copy_ #[152, 152] 3 #[.slice (some ⟨G, i + m, none⟩) r (c2 - (i + m)), .slice (some ⟨g, j, none⟩) r (c - j)]).run Tryz.prog w2.drew = .ok (goInt (xs.drop j).length) (w2.drew.setCells G (i + m) (xs.drop j)) :=
  run_copy_cells w2.drew _ _ 3 3 G (i + m) r (c2 - (i + m)) ⟨g, j, none⟩ r (c - j) (xs.drop j) Tryz.underlying152 hsz (by rw [hdl]; simp)
   (fun t v ht => by
    rw [Addr.add_lit]
    have : w2.drew.cell? ⟨g, j + t, none⟩ = w.cell? ⟨g, j + t, none⟩ := World.cell?_of_block (a := ⟨g, j + t, none⟩) hold
    rw [this]
    exact hxc (j + t) v (by rwa [List.getElem?_drop] at ht))
   (fun t ht => hrow2.there (by omega)) (fun t _ => hrow2.free _) (fun v hv => hx1 v (List.mem_of_mem_drop hv))
 obtain ⟨w3, hw3⟩ : ∃ w3, w2.drew.setCells G (i + m) (xs.drop j) = w3 := ⟨_, rfl⟩
 rw [hw3] at hcpD
 have HE : Hid (w3.ownsRow B 3 1 (.slice (some ⟨G, 0, none⟩) (i + m + r) c2) (i + m + r) (xs.take i ++ ys ++ xs.drop j) ∧ Below w.heap.size w w3) := zaa (by
  rw [← hw3, ← hr0]
  refine ⟨rep_in (RowE.sets _ _ _ hrow2) hcm1 (by omega) hxl hyl (by omega) (by omega) (by omega) (fun t ht => ?_) (fun t ht => ?_) (fun t ht => ?_), ?_⟩
  ·rw [hrow2.cell _ _ (by omega), if_neg (by omega)]
   show w2.cell? _ = _
   rw [← hw2, hrow1'.cell _ _ (by omega), if_neg (by omega)]
   have e1 : xs[t]? = some (xs[t]'(by omega)) := zI _
   rw [e1]
   have := hcell1 t _ (by rw [List.getElem?_take_of_lt ht, e1])
   rw [hG] at this
   exact this
  ·rw [hrow2.cell _ _ (by omega), if_neg (by omega)]
   show w2.cell? _ = _
   rw [← hw2, hrow1'.cell _ _ (by omega), if_pos (by omega), Nat.add_sub_cancel_left]
  ·rw [hrow2.cell _ _ (by omega), if_pos (by omega), Nat.add_sub_cancel_left, List.getElem?_drop]
  ·have h1 := zap G (xs.drop j) (i + m) w2.drew
   have h2 := zap G ys i w1
   rw [hw2] at h2
   refine ⟨h1.os.trans (h2.os.trans hb1.os), h1.tape.trans (h2.tape.trans hb1.tape), h1.output.trans (h2.output.trans hb1.output), zN hb1.size (zN h2.size h1.size), fun z hz => ?_⟩
   have hzG : some z ≠ some G := by intro e; injection e with e; omega
   exact (h1.block z (zO hz (zN hb1.size h2.size)) hzG).trans ((h2.block z (zO hz hb1.size) hzG).trans (hb1.block z hz)))
 have hki : (i : Int) ≤ (k : Int) + (i : Int) := by omega
 have hc2i : ¬ c2 = i := by omega
 have hc2m : ¬ c2 = i + m := by omega
 have hEQ : i + k = i + m + r := by omega
 rw [hG] at hr
 rw [hEQ] at hr
 have e1 : i + m + r - i = k := by omega
 have e2 : i + m + r - (i + m) = r := by omega
 have hwi : IntKind.i64.wrap ((i : Int) + (m : Int)) = (i : Int) + (m : Int) := by rw [IntKind.wrap_i64]; omega
 have hwt : IntKind.i64.wrap ((i : Int) + (m : Int) + (r : Int)) = (i : Int) + (m : Int) + (r : Int) := by rw [IntKind.wrap_i64]; omega
 have hbb1 : (0 : Int) ≤ (i : Int) + (m : Int) := by omega
 have htn : ((i : Int) + (m : Int)).toNat = i + m := by omega
 have hb3 : (i : Int) + (m : Int) ≤ (i : Int) + (m : Int) + (r : Int) := by omega
 have hb4 : (j : Int) ≤ (n : Int) := by omega
 have hb5 : (i : Int) ≤ (n : Int) := by omega
 have hb6 : (i : Int) ≤ (j : Int) := by omega
 have hb7 : i ≤ n := by omega
 have hb8 : j ≤ n := by omega
 have hb9 : (i : Int) ≤ (c : Int) := by omega
 have hb10 : i ≤ c := by omega
 have hb11 : j ≤ c := by omega
 have hb12 : (j : Int) ≤ (c : Int) := by omega
 clear hs hsd hdz hbd hv hx1 hy1 hrow hxc hyc hrow1 hrow1' hv1 hold hrow2 hcell1 hb1 hw2 hw3 hxl hyl hdl hk
 go_enter Tryz.func187, Tryz.ntmps187
 go_wp2_with fail
 go_region
 go_wp2_with (at_builtin; refine zcj rfl _ _ _ _ rfl _ _ rfl rfl hr ?_; refine Hid.out ?_)
 apply zaa
 clear hr
 go_wp2_with fail
 go_region
 go_wp2
 go_ret
 refine ⟨some ⟨G, 0, none⟩, c2, rfl, zaa HE.out.1, zaa ⟨?_, .inr ⟨G, rfl, by omega⟩⟩⟩
 have hbe := HE.out.2
 exact ⟨hbe.os, hbe.tape, hbe.output, hbe.size, fun z hz _ => hbe.block z hz⟩
theorem rep_exp (w : World) (B C n m i j g c b vc : Nat) (xs ys : List Value) (hs : w.ownsRow B 3 1 (.slice (some ⟨g, 0, none⟩) n c) n xs) (hv : w.ownsRow C 3 1 (.slice (some ⟨b, 0, none⟩) m vc) m ys) (hx1 : ∀ u ∈ xs, u.oneCell' = true) (hy1 : ∀ u ∈ ys, u.oneCell' = true) (hne : b ≠ g) (hij : i < j) (hj : j < n) (hb : n + m ≤ 1000000) (hm : j < i + m) (hg : i + m + (n - j) ≤ c) :
  Calls Tryz.prog 187 #[.slice (some ⟨g, 0, none⟩) n c, .int .i64 (i : Int), .int .i64 (j : Int), .slice (some ⟨b, 0, none⟩) m vc] w (To w B (.slice (some ⟨g, 0, none⟩) n c) (i + m + (n - j)) (xs.take i ++ ys ++ xs.drop j)) := by
 obtain ⟨hrow, hgB, hnc, hcm, hxl, hxc⟩ := zan hs
 obtain ⟨hrowv, _, hmv, _, hyl, hyc⟩ := zan hv
 have hijI : ¬ (i : Int) = (j : Int) := by omega
 have hjnI : ¬ (j : Int) = (n : Int) := by omega
 have hci : ¬ c = i := by omega
 have hcj : ¬ c = j := by omega
 have hcim : ¬ c = i + m := by omega
 obtain ⟨r, hr0⟩ : ∃ r : Nat, n - j = r := ⟨_, rfl⟩
 have hrI : (r : Int) ≤ 1000000 := by omega
 rw [hr0] at hg ⊢
 have hgI : ¬ (c : Int) < (i : Int) + (m : Int) + (r : Int) := by omega
 have hgI2 : (i : Int) + (m : Int) + (r : Int) ≤ (c : Int) := by omega
 have hjm : ¬ (i : Int) + (m : Int) ≤ (j : Int) := by omega
 have hdl : (xs.drop j).length = r := by simp; omega
 obtain ⟨w0, hw0⟩ : ∃ w0, w.drew = w0 := ⟨_, rfl⟩
 have hrowd : RowE w0 g 3 c := by rw [← hw0]; exact hrow
 have hrowvd : RowE w0 b 3 vc := by rw [← hw0]; exact hrowv
 have hcd : ∀ x, w0.cell? x = w.cell? x := fun x => by rw [← hw0]; rfl
 have hg0 : w.grownBy w0 (some g) := by rw [← hw0]; exact zbp (zby w _)
 have hov : ∀ lb cb, (callFunc 217 #[.slice (some ⟨g, i + m, none⟩) lb cb, .slice (some ⟨b, 0, none⟩) m vc]).run Tryz.prog w0 = .ok (.value (.bool false)) w0 := fun lb cb => over_no w0 g b lb cb m vc (i + m) 0 c vc (Ne.symm hne) hrowd hrowvd (by omega)
 have hrowd2 : RowE w0.drew g 3 c := hrowd
 have hcpD : (Builtin.copy_ #[152, 152] 3 #[.slice (some ⟨g, i + m, none⟩) r (c - (i + m)), .slice (some ⟨g, j, none⟩) r (c - j)]).run Tryz.prog w0.drew = .ok (goInt (xs.drop j).length) (w0.drew.setCells g (i + m) (xs.drop j)) :=
  copy_in w0.drew 3 g c (i + m) r (c - (i + m)) j r (c - j) (xs.drop j) hrowd2 (by rw [hdl]; simp) (by omega) (fun k v hk => (hcd _).trans (hxc (j + k) v (by rwa [List.getElem?_drop] at hk))) (fun v hv => hx1 v (List.mem_of_mem_drop hv))
 obtain ⟨w1, hw1⟩ : ∃ w1, w0.drew.setCells g (i + m) (xs.drop j) = w1 := ⟨_, rfl⟩
 rw [hw1] at hcpD
 have hg1 : w.grownBy w1 (some g) := by rw [← hw1]; exact zau (zbp hg0) (zap g _ _ _)
 have hrow1 : RowE w1 g 3 c := by rw [← hw1]; exact RowE.sets _ _ _ hrowd2
 have hv1 : w1.ownsRow C 3 1 (.slice (some ⟨b, 0, none⟩) m vc) m ys := World.ownsRow.kept hv hg1 (.inr (by simp [Value.ownBlock]; exact hne))
 obtain ⟨k, hk⟩ : ∃ k : Nat, m + r = k := ⟨_, rfl⟩
 have hcp2 := copy_of w1 3 g c i k (c - i) (.slice (some ⟨b, 0, none⟩) m vc) m C ys hrow1 hv1 (by omega) (by omega) hy1
 obtain ⟨w2, hw2⟩ : ∃ w2, w1.setCells g i ys = w2 := ⟨_, rfl⟩
 rw [hw2] at hcp2
 have HE : Hid (w2.ownsRow B 3 1 (.slice (some ⟨g, 0, none⟩) (i + m + r) c) (i + m + r) (xs.take i ++ ys ++ xs.drop j) ∧ w.grownBy w2 (some g)) := zaa (by
  rw [← hw2, ← hr0]
  refine ⟨rep_in (RowE.sets _ _ _ hrow1) hcm hgB hxl hyl (by omega) (by omega) (by omega) (fun t ht => ?_) (fun t ht => ?_) (fun t ht => ?_), zau hg1 (zap g _ _ _)⟩
  ·rw [hrow1.cell _ _ (by omega), if_neg (by omega), ← hw1, hrowd2.cell _ _ (by omega), if_neg (by omega)]
   exact (hcd _).trans (cell_old hxl hxc (by omega))
  ·rw [hrow1.cell _ _ (by omega), if_pos (by omega), Nat.add_sub_cancel_left]
  ·rw [hrow1.cell _ _ (by omega), if_neg (by omega), ← hw1, hrowd2.cell _ _ (by omega), if_pos (by omega), Nat.add_sub_cancel_left, List.getElem?_drop])
 have hwi : IntKind.i64.wrap ((i : Int) + (m : Int)) = (i : Int) + (m : Int) := by rw [IntKind.wrap_i64]; omega
 have hwt : IntKind.i64.wrap ((i : Int) + (m : Int) + (r : Int)) = (i : Int) + (m : Int) + (r : Int) := by rw [IntKind.wrap_i64]; omega
 have hb1 : (0 : Int) ≤ (i : Int) + (m : Int) := by omega
 have htn : ((i : Int) + (m : Int)).toNat = i + m := by omega
 have htn2 : ((i : Int) + (m : Int) + (r : Int)).toNat = i + m + r := by omega
 have hb2 : (0 : Int) ≤ (i : Int) + (m : Int) + (r : Int) := by omega
 have hb3 : (i : Int) + (m : Int) ≤ (i : Int) + (m : Int) + (r : Int) := by omega
 have hb4 : (j : Int) ≤ (n : Int) := by omega
 have hb5 : (i : Int) ≤ (n : Int) := by omega
 have hb6 : (i : Int) ≤ (j : Int) := by omega
 have hb7 : i ≤ n := by omega
 have hb8 : j ≤ n := by omega
 have hb9 : (i : Int) ≤ (c : Int) := by omega
 have hb10 : i ≤ c := by omega
 have hb11 : j ≤ c := by omega
 have hb12 : (j : Int) ≤ (c : Int) := by omega
 have hb13 : (i : Int) ≤ (i : Int) + (m : Int) + (r : Int) := by omega
 have e1 : i + m + r - i = k := by omega
 have e2 : i + m + r - (i + m) = r := by omega
 clear hs hv hx1 hy1 hrow hrowd hrowv hrowvd hrowd2 hxc hyc hrow1 hv1 hw1 hw2 hxl hyl hdl hg1 hg0 hcd hk
 go_enter Tryz.func187, Tryz.ntmps187
 go_wp2_with fail
 go_region
 rw [hw0]
 clear hw0
 go_wp2_with (simp only [hov])
 go_region
 go_wp2
 go_ret
 exact ⟨some ⟨g, 0, none⟩, c, rfl, zaa HE.out.1, zaa (gr_in HE.out.2)⟩
theorem shape {w : World} {B n : Nat} {v : Value} {xs : List Value} (h : w.ownsRow B 3 1 v n xs) : ∃ ao c, v = .slice ao n c := by
 rcases h.2 with ⟨rfl, h0⟩ | ⟨g, cap, cur, rfl, _⟩
 ·exact ⟨none, 0, by rw [h0]⟩
 ·exact ⟨_, _, rfl⟩
theorem rep_easy (w : World) (B C n m i j g c : Nat) (vo : Option Addr) (vc : Nat) (xs ys : List Value) (hs : w.ownsRow B 3 1 (.slice (some ⟨g, 0, none⟩) n c) n xs) (hv : w.ownsRow C 3 1 (.slice vo m vc) m ys) (hx1 : ∀ u ∈ xs, u.oneCell' = true) (hy1 : ∀ u ∈ ys, u.oneCell' = true) (hne : (Value.slice vo m vc).ownBlock = none ∨ (Value.slice vo m vc).ownBlock ≠ some g) (hij : i < j) (hj : j < n) (hb : n + m ≤ 1000000) (hm : i + m ≤ j) :
  Calls Tryz.prog 187 #[.slice (some ⟨g, 0, none⟩) n c, .int .i64 (i : Int), .int .i64 (j : Int), .slice vo m vc] w (To w B (.slice (some ⟨g, 0, none⟩) n c) (i + m + (n - j)) (xs.take i ++ ys ++ xs.drop j)) := by
 obtain ⟨hrow, hgB, hnc, hcm, hxl, hxc⟩ := zan hs
 have hyl : ys.length = m := by have := hv.1; omega
 have hijI : ¬ (i : Int) = (j : Int) := by omega
 have hjnI : ¬ (j : Int) = (n : Int) := by omega
 have hci : ¬ c = i := by omega
 have hcj : ¬ c = j := by omega
 have hcim : ¬ c = i + m := by omega
 obtain ⟨r, hr0⟩ : ∃ r : Nat, n - j = r := ⟨_, rfl⟩
 have hrI : (r : Int) ≤ 1000000 := by omega
 rw [hr0]
 have hgI : ¬ (c : Int) < (i : Int) + (m : Int) + (r : Int) := by omega
 have hgI2 : (i : Int) + (m : Int) + (r : Int) ≤ (c : Int) := by omega
 have hjm : (i : Int) + (m : Int) ≤ (j : Int) := by omega
 have hdl : (xs.drop j).length = r := by simp; omega
 obtain ⟨k, hk⟩ : ∃ k : Nat, m + r = k := ⟨_, rfl⟩
 obtain ⟨w0, hw0⟩ : ∃ w0, w.drew = w0 := ⟨_, rfl⟩
 have hrowd : RowE w0 g 3 c := by rw [← hw0]; exact hrow
 have hcd : ∀ x, w0.cell? x = w.cell? x := fun x => by rw [← hw0]; rfl
 have hg0 : w.grownBy w0 (some g) := by rw [← hw0]; exact zbp (zby w _)
 have hv0 : w0.ownsRow C 3 1 (.slice vo m vc) m ys := World.ownsRow.kept hv hg0 hne
 have hcp1 : ∀ dc, (Builtin.copy_ #[152, 152] 3 #[.slice (some ⟨g, i, none⟩) k dc, .slice vo m vc]).run Tryz.prog w0 = .ok (goInt (m : Int)) (w0.setCells g i ys) := fun dc => copy_of w0 3 g c i k dc (.slice vo m vc) m C ys hrowd hv0 (by omega) (by omega) hy1
 obtain ⟨w1, hw1⟩ : ∃ w1, w0.setCells g i ys = w1 := ⟨_, rfl⟩
 rw [hw1] at hcp1
 have hrow1 : RowE w1 g 3 c := by rw [← hw1]; exact RowE.sets _ _ _ hrowd
 have hrow1d : RowE w1.drew g 3 c := hrow1
 have hg1 : w.grownBy w1 (some g) := by rw [← hw1]; exact zau hg0 (zap g _ _ _)
 have hcpD : ∀ dc sc, (Builtin.copy_ #[152, 152] 3 #[.slice (some ⟨g, i + m, none⟩) r dc, .slice (some ⟨g, j, none⟩) r sc]).run Tryz.prog w1.drew = .ok (goInt (xs.drop j).length) (w1.drew.setCells g (i + m) (xs.drop j)) := fun dc sc =>
  copy_in w1.drew 3 g c (i + m) r dc j r sc (xs.drop j) hrow1d (by rw [hdl]; simp) (by omega) (fun t v ht => by
   show w1.cell? _ = _
   rw [← hw1, hrowd.cell _ _ (by omega), if_neg (by omega)]
   exact (hcd _).trans (hxc (j + t) v (by rwa [List.getElem?_drop] at ht))) (fun v hv => hx1 v (List.mem_of_mem_drop hv))
 obtain ⟨w2, hw2⟩ : ∃ w2, w1.drew.setCells g (i + m) (xs.drop j) = w2 := ⟨_, rfl⟩
 rw [hw2] at hcpD
 have hrow2 : RowE w2 g 3 c := by rw [← hw2]; exact RowE.sets _ _ _ hrow1d
 have hg2 : w.grownBy w2 (some g) := by rw [← hw2]; exact zau (zbp hg1) (zap g _ _ _)
 have hcells : ∀ t, t < i + m + r → w2.cell? ⟨g, t, none⟩ = if t < i then xs[t]? else if t < i + m then ys[t - i]? else xs[j + (t - i - m)]? := fun t ht => by
  rw [← hw2, hrow1d.cell _ _ (by omega)]
  by_cases h1 : t < i
  ·rw [if_neg (by omega), if_pos h1]
   show w1.cell? _ = _
   rw [← hw1, hrowd.cell _ _ (by omega), if_neg (by omega)]
   exact (hcd _).trans (cell_old hxl hxc (by omega))
  ·rw [if_neg h1]
   by_cases h2 : t < i + m
   ·rw [if_neg (by omega), if_pos h2]
    show w1.cell? _ = _
    rw [← hw1, hrowd.cell _ _ (by omega), if_pos (by omega)]
   ·rw [if_pos (by omega), if_neg h2, List.getElem?_drop, show t - (i + m) = t - i - m by omega]
 have hown : ∀ (w3 : World), RowE w3 g 3 c → (∀ t, t < i + m + r → w3.cell? ⟨g, t, none⟩ = w2.cell? ⟨g, t, none⟩) → w3.ownsRow B 3 1 (.slice (some ⟨g, 0, none⟩) (i + m + r) c) (i + m + r) (xs.take i ++ ys ++ xs.drop j) := fun w3 h3 hc3 => by
  rw [← hr0]
  refine rep_in h3 hcm hgB hxl hyl (by omega) (by omega) (by omega) (fun t ht => ?_) (fun t ht => ?_) (fun t ht => ?_)
  ·rw [hc3 t (by omega), hcells t (by omega), if_pos ht]
  ·rw [hc3 (i + t) (by omega), hcells (i + t) (by omega), if_neg (by omega), if_pos (by omega), Nat.add_sub_cancel_left]
  ·rw [hc3 (i + m + t) (by omega), hcells (i + m + t) (by omega), if_neg (by omega), if_neg (by omega), show i + m + t - i - m = t by omega]
 have hwi : IntKind.i64.wrap ((i : Int) + (m : Int)) = (i : Int) + (m : Int) := by rw [IntKind.wrap_i64]; omega
 have hwt : IntKind.i64.wrap ((i : Int) + (m : Int) + (r : Int)) = (i : Int) + (m : Int) + (r : Int) := by rw [IntKind.wrap_i64]; omega
 have hb1 : (0 : Int) ≤ (i : Int) + (m : Int) := by omega
 have htn : ((i : Int) + (m : Int)).toNat = i + m := by omega
 have htn2 : ((i : Int) + (m : Int) + (r : Int)).toNat = i + m + r := by omega
 have hb2 : (0 : Int) ≤ (i : Int) + (m : Int) + (r : Int) := by omega
 have hb3 : (i : Int) + (m : Int) ≤ (i : Int) + (m : Int) + (r : Int) := by omega
 have hb4 : (j : Int) ≤ (n : Int) := by omega
 have hb5 : (i : Int) ≤ (n : Int) := by omega
 have hb6 : (i : Int) ≤ (j : Int) := by omega
 have hb7 : i ≤ n := by omega
 have hb8 : j ≤ n := by omega
 have hb9 : (i : Int) ≤ (c : Int) := by omega
 have hb10 : i ≤ c := by omega
 have hb11 : j ≤ c := by omega
 have hb12 : (j : Int) ≤ (c : Int) := by omega
 have hb13 : (i : Int) ≤ (i : Int) + (m : Int) + (r : Int) := by omega
 have hb14 : (i : Int) + (m : Int) + (r : Int) ≤ (n : Int) := by omega
 have e1 : i + m + r - i = k := by omega
 have e2 : i + m + r - (i + m) = r := by omega
 by_cases htot : i + m + r = n
 ·have HE := zaa (hown w2 hrow2 (fun _ _ => rfl))
  have HG := zaa hg2
  have hcl : ∀ ty a cc, (Builtin.clear_ #[152] ty #[.slice a 0 cc]).run Tryz.prog w2 = .ok (.tuple #[]) w2 := fun ty a cc => clear_none w2 152 3 ty Tryz.underlying152 a cc
  have e3 : n - (i + m + r) = 0 := by omega
  have HTOT := zaa htot
  clear hs hv hx1 hy1 hrow hrowd hxc hrow1 hrow1d hw1 hw2 hxl hyl hdl hg1 hg0 hg2 hcd hk hv0 hrow2 hcells hown htot
  by_cases hct : c = i + m + r
  ·subst hct
   go_enter Tryz.func187, Tryz.ntmps187
   go_wp2_with fail
   go_region
   rw [hw0]
   clear hw0
   go_wp2_with fail
   go_region
   go_wp2_with (at_builtin; refine zbk rfl _ _ rfl _ rfl (hcl _ _ _) ?_)
   go_ret
   exact ⟨some ⟨g, 0, none⟩, _, rfl, zaa HE.out, zaa (gr_in HG.out)⟩
  ·go_enter Tryz.func187, Tryz.ntmps187
   go_wp2_with fail
   go_region
   rw [hw0]
   clear hw0
   go_wp2_with fail
   go_region
   go_wp2_with (at_builtin; refine zbk rfl _ _ rfl _ rfl (hcl _ _ _) ?_)
   go_ret
   exact ⟨some ⟨g, 0, none⟩, c, rfl, zaa HE.out, zaa (gr_in HG.out)⟩
 ·have hct : ¬ c = i + m + r := by omega
  have hcl : ∀ ty cc, (Builtin.clear_ #[152] ty #[.slice (some ⟨g, i + m + r, none⟩) (n - (i + m + r)) cc]).run Tryz.prog w2 = .ok (.tuple #[]) (w2.setCells g (i + m + r) (List.replicate (n - (i + m + r)) (.int .i64 0))) := fun ty cc =>
   Lib.run_clear_slice w2 152 3 ty (.int .i64 0) Tryz.underlying152 zero_run rfl rfl g (i + m + r) (n - (i + m + r)) cc (by omega) (fun t ht => hrow2.there (by omega)) (fun t _ => hrow2.free _)
  obtain ⟨w3, hw3⟩ : ∃ w3, w2.setCells g (i + m + r) (List.replicate (n - (i + m + r)) (.int .i64 0)) = w3 := ⟨_, rfl⟩
  rw [hw3] at hcl
  have HE := zaa (hown w3 (by rw [← hw3]; exact RowE.sets _ _ _ hrow2) (fun t ht => by rw [← hw3, hrow2.cell _ _ (by simp; omega), if_neg (by omega)]))
  have HG : Hid (w.grownBy w3 (some g)) := zaa (by rw [← hw3]; exact zau hg2 (zap g _ _ _))
  clear hs hv hx1 hy1 hrow hrowd hxc hrow1 hrow1d hw1 hw2 hw3 hxl hyl hdl hg1 hg0 hg2 hcd hk hv0 hrow2 hcells hown htot
  go_enter Tryz.func187, Tryz.ntmps187
  go_wp2_with fail
  go_region
  rw [hw0]
  clear hw0
  go_wp2_with fail
  go_region
  go_wp2_with (at_builtin; refine zbk rfl _ _ rfl _ rfl (hcl _ _) ?_)
  go_ret
  exact ⟨some ⟨g, 0, none⟩, c, rfl, zaa HE.out, zaa (gr_in HG.out)⟩
theorem rep_end (w : World) (B C n m i g c : Nat) (vo : Option Addr) (vc : Nat) (xs ys : List Value) (hs : w.ownsRow B 3 1 (.slice (some ⟨g, 0, none⟩) n c) n xs) (hv : w.ownsRow C 3 1 (.slice vo m vc) m ys) (hy1 : ∀ u ∈ ys, u.oneCell' = true) (hi : i < n) (hb : n + m ≤ 1000000) (hB : B ≤ w.heap.size) :
  Calls Tryz.prog 187 #[.slice (some ⟨g, 0, none⟩) n c, .int .i64 (i : Int), .int .i64 (n : Int), .slice vo m vc] w (To w B (.slice (some ⟨g, 0, none⟩) n c) (i + m) (xs.take i ++ ys)) := by
 obtain ⟨hrow, hgB, hnc, hcm, hxl, hxc⟩ := zan hs
 have hinI : ¬ (i : Int) = (n : Int) := by omega
 have hci : ¬ c = i := by omega
 have hb5 : (i : Int) ≤ (n : Int) := by omega
 have hb7 : i ≤ n := by omega
 have hb9 : (i : Int) ≤ (c : Int) := by omega
 have hb10 : i ≤ c := by omega
 have HO := zaa (own_take hs (show i ≤ n by omega))
 by_cases hlt : i + m < n
 ·obtain ⟨w1, hr, ho1, hg1⟩ := app_room w 152 B C i m g c (xs.take i) ys (.slice vo m vc) HO.out hv hy1 (by omega) (by omega) hB
  obtain ⟨hrow1, _, _, _, hl1, hc1⟩ := zan ho1
  have hcl : ∀ ty cc, (Builtin.clear_ #[152] ty #[.slice (some ⟨g, i + m, none⟩) (n - (i + m)) cc]).run Tryz.prog w1 = .ok (.tuple #[]) (w1.setCells g (i + m) (List.replicate (n - (i + m)) (.int .i64 0))) := fun ty cc =>
   Lib.run_clear_slice w1 152 3 ty (.int .i64 0) Tryz.underlying152 zero_run rfl rfl g (i + m) (n - (i + m)) cc (by omega) (fun t ht => hrow1.there (by omega)) (fun t _ => hrow1.free _)
  obtain ⟨w3, hw3⟩ : ∃ w3, w1.setCells g (i + m) (List.replicate (n - (i + m)) (.int .i64 0)) = w3 := ⟨_, rfl⟩
  rw [hw3] at hcl
  have HE : Hid (w3.ownsRow B 3 1 (.slice (some ⟨g, 0, none⟩) (i + m) c) (i + m) (xs.take i ++ ys)) := zaa (by
   rw [← hw3]
   refine RowE.own (RowE.sets _ _ _ hrow1) hcm hgB (by omega) hl1 (fun t v ht => ?_)
   have hlt2 := (zH.1 ht).1
   rw [hrow1.cell _ _ (by simp; omega), if_neg (by omega)]
   exact hc1 t v ht)
  have HG : Hid (w.grownBy w3 (some g)) := zaa (by rw [← hw3]; exact zau hg1 (zap g _ _ _))
  have hltI : (i : Int) + (m : Int) < (n : Int) := by omega
  have hcim : ¬ c = i + m := by omega
  clear hs hv hy1 hrow hxc hxl hw3 ho1 hg1 hrow1 hc1 hl1 HO
  go_enter Tryz.func187, Tryz.ntmps187
  go_wp2_with (at_builtin; first | (refine zcj rfl _ _ _ _ rfl _ _ rfl rfl hr ?_) | (refine zbk rfl _ _ rfl _ rfl (hcl _ _) ?_))
  go_ret
  exact ⟨some ⟨g, 0, none⟩, c, rfl, HE, zaa (gr_in HG.out)⟩
 ·have hltI : ¬ (i : Int) + (m : Int) < (n : Int) := by omega
  have HV := zaa hv
  have HY := zaa hy1
  have hmI : (m : Int) ≤ 1000000 := by omega
  clear hs hv hy1 hrow hxc hxl
  go_enter Tryz.func187, Tryz.ntmps187
  go_wp2_with (at_builtin; refine app_own _ rfl _ _ rfl B C i m (xs.take i) ys _ _ rfl rfl HO.out HV.out HY.out (by omega) hB ?_; refine Hid.out ?_)
  apply zaa
  intro ao c2 w1 h1 h2
  have H1 := zaa h1
  have H2 : Hid (Gr w (.slice (some ⟨g, 0, none⟩) n c) w1 (.slice ao (i + m) c2)) := zaa ⟨h2.grow, h2.own⟩
  clear h1 h2
  go_wp2
  go_ret
  exact ⟨ao, c2, rfl, H1, H2⟩
theorem rep_any (w : World) (B C n m i j : Nat) (v vv : Value) (xs ys : List Value) (hs : w.ownsRow B 3 1 v n xs) (hv : w.ownsRow C 3 1 vv m ys) (hx1 : ∀ u ∈ xs, u.oneCell' = true) (hy1 : ∀ u ∈ ys, u.oneCell' = true) (hne : vv.ownBlock = none ∨ vv.ownBlock ≠ v.ownBlock) (hij : i ≤ j) (hj : j ≤ n) (hb : n + m ≤ 1000000) (hB : B ≤ w.heap.size) (hm : i < j ∨ 0 < m) :
  Calls Tryz.prog 187 #[v, .int .i64 (i : Int), .int .i64 (j : Int), vv] w (To w B v (i + m + (n - j)) (xs.take i ++ ys ++ xs.drop j)) := by
 have hxl := hs.1
 by_cases h : i = j
 ·subst h
  have HI := zaa (ins_any w B C n m i v vv xs ys hs hv hx1 hy1 hne hj hb hB (by omega))
  rw [show i + m + (n - i) = n + m by omega]
  obtain ⟨ao, c, rfl⟩ := shape hs
  obtain ⟨bo, d, rfl⟩ := shape hv
  have hcc : n ≤ c := by
   rcases hs.2 with ⟨e, h0⟩ | ⟨g, cap, cur, e, _, _, h3, _⟩
   ·omega
   ·injection e with _ _ e3
    omega
  have hb5 : (i : Int) ≤ (n : Int) := by omega
  have hb9 : (i : Int) ≤ (c : Int) := by omega
  have hb10 : i ≤ c := by omega
  clear hs hv hx1 hy1 hne hxl
  by_cases hci : c = i
  ·subst hci
   go_enter Tryz.func187, Tryz.ntmps187
   go_wp2_with (go_at_call 216; refine HI.out.mono ?_; rintro e w1 ⟨a1, c1, rfl, H1, H2⟩)
   go_ret
   exact ⟨a1, c1, rfl, H1, H2⟩
  ·go_enter Tryz.func187, Tryz.ntmps187
   go_wp2_with (go_at_call 216; refine HI.out.mono ?_; rintro e w1 ⟨a1, c1, rfl, H1, H2⟩)
   go_ret
   exact ⟨a1, c1, rfl, H1, H2⟩
 ·rcases hs.2 with ⟨_, h0⟩ | ⟨g, c, cur, rfl, _⟩
  ·omega
  obtain ⟨vo, vc, rfl⟩ := shape hv
  by_cases hjn : j = n
  ·subst hjn
   have := rep_end w B C j m i g c vo vc xs ys hs hv hy1 (by omega) hb hB
   rwa [List.drop_eq_nil_of_le (by omega), List.append_nil, Nat.sub_self, Nat.add_zero]
  ·by_cases hem : i + m ≤ j
   ·exact rep_easy w B C n m i j g c vo vc xs ys hs hv hx1 hy1 hne (by omega) (by omega) hb hem
   ·rcases hv.2 with ⟨_, h0⟩ | ⟨b, vcap, vcur, e, _⟩
    ·omega
    injection e with e1 _ e3
    subst e1
    subst e3
    by_cases hg : i + m + (n - j) ≤ c
    ·refine rep_exp w B C n m i j g c b vc xs ys hs hv hx1 hy1 ?_ (by omega) (by omega) hb (by omega) hg
     rcases hne with e | e
     ·cases e
     ·exact fun e2 => e (by rw [e2]; rfl)
    ·exact rep_grow w B C n m i j g c b vc xs ys hs hv hx1 hy1 (by omega) (by omega) hb hB (by omega) (by omega)
end RN
end Go.Proofs.YtofafbmpbkjhnaaGreatDoor
